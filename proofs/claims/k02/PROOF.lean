import PyProof.Rows.All
import Wide.All
import OpenK.AllK
import Wide.FinOn
import HandS.ForMost
import HandS.IsInst
import HandS.OwnEq
import HandS.More
import HandS.Text
import HandS.Conv
import HandS.Evl
import HandS.MakeKwOnly
import PyProof.ListStr
import PyProof.ReprRoads
import PyProof.Rows.PlainNe
import PyProof.InstNe
import HandS.Walk
import HandS.Iter
import HandS.RaiseMore
import HandS.StrMore
import HandS.Flow
import PySem.Challenge.RW_farlayout_k02_rows_that_are_kept
set_option Elab.async false
set_option linter.all false
set_option maxRecDepth 100000
/-! Views: a part of the abstract heap of which facts are told; what is made is added to it, what is changed lies outside. -/
namespace VW
open PySem L2

structure Gr (S : Addr → Prop) (V H V' H' : Hp) : Prop where
  v : Same V V'
  s : Same V' H'
  k : ∀ b o, ¬ S b → H b = some o → H' b = some o
  n : ∀ b, H b ≠ none → H' b ≠ none ∧ V' b = V b

abbrev S0 : Addr → Prop := fun _ => False

theorem some_ne {x : Option HO} {o : HO} (h : x = some o) : x ≠ none := by rw [h]; exact fun z => nomatch z
section
variable {S S' : Addr → Prop} {V H V' H' V2 H2 : Hp} {p a : Addr} {o : HO}

theorem Gr.refl (h : Same V H) : Gr S V H V H := ⟨Same.refl _, h, fun _ _ _ e => e, fun _ e => ⟨e, rfl⟩⟩
theorem Gr.trans (a : Gr S V H V' H') (b : Gr S V' H' V2 H2) : Gr S V H V2 H2 :=
  ⟨a.v.trans b.v, b.s, fun x o hx e => b.k x o hx (a.k x o hx e), fun x e => ⟨(b.n x (a.n x e).1).1, ((b.n x (a.n x e).1).2).trans (a.n x e).2⟩⟩
theorem Gr.back (g : Gr S V H V' H') : Gr S V H V H' := ⟨Same.refl _, g.v.trans g.s, g.k, fun x e => ⟨(g.n x e).1, rfl⟩⟩
theorem Gr.weak (hS : ∀ b, S b → S' b) (g : Gr S V H V' H') : Gr S' V H V' H' := ⟨g.v, g.s, fun b o hb e => g.k b o (fun z => hb (hS b z)) e, g.n⟩
theorem Gr.of0 (g : Gr S0 V H V' H') : Gr S V H V' H' := g.weak fun _ z => z.elim
theorem Gr.same (g : Gr S0 V H V' H') : Same H H' := fun b o e => g.k b o (fun z => z) e
theorem Gr.free (g : Gr S V H V' H') (h : H' p = none) : H p = none := by
  cases e : H p with
  | none => rfl
  | some o => exact absurd h (g.n p (by rw [e]; exact fun z => nomatch z)).1
theorem vfree (s : Same V H) (h : H p = none) : V p = none := s.free h
/-- a new object, told of -/
theorem Gr.new (g : Gr S V H V' H') (h : H' p = none) : Gr S V H (upd V' p o) (upd H' p o) := by
  refine ⟨fun b u e => ?_, fun b u e => ?_, fun b u hb e => ?_, fun b e => ?_⟩
  · have q := g.v b u e
    rw [upd_ne (ne_of_none (g.s b u q) h)]
    exact q
  · by_cases hb : b = p
    · subst hb
      rw [upd_same] at e ⊢
      exact e
    · rw [upd_ne hb] at e ⊢
      exact g.s b u e
  · have q := g.k b u hb e
    rw [upd_ne (ne_of_none q h)]
    exact q
  · have hb : b ≠ p := fun z => by
      subst z
      exact e (g.free h)
    rw [upd_ne hb, upd_ne hb]
    exact g.n b e
/-- a new object, not told of -/
theorem Gr.newH (g : Gr S V H V' H') (h : H' p = none) : Gr S V H V' (upd H' p o) := by
  refine ⟨g.v, fun b u e => ?_, fun b u hb e => ?_, fun b e => ?_⟩
  · have q := g.s b u e
    rw [upd_ne (ne_of_none q h)]
    exact q
  · have q := g.k b u hb e
    rw [upd_ne (ne_of_none q h)]
    exact q
  · have hb : b ≠ p := fun z => by
      subst z
      exact e (g.free h)
    rw [upd_ne hb]
    exact g.n b e
/-- what is outside of the view is changed -/
theorem Gr.mut (g : Gr S V H V' H') (hS : S p ∨ H p = none) (hv : V' p = none) : Gr S V H V' (upd H' p o) := by
  refine ⟨g.v, fun b u e => ?_, fun b u hb e => ?_, fun b e => ⟨?_, (g.n b e).2⟩⟩
  · have hb : b ≠ p := fun z => by
      subst z
      rw [hv] at e
      cases e
    rw [upd_ne hb]
    exact g.s b u e
  · have hbp : b ≠ p := fun z => by
      subst z
      rcases hS with hS | hS
      · exact hb hS
      · rw [hS] at e
        cases e
    rw [upd_ne hbp]
    exact g.k b u hb e
  · by_cases hb : b = p
    · subst hb
      rw [upd_same]
      exact fun z => nomatch z
    · rw [upd_ne hb]
      exact (g.n b e).1
/-- what was outside is told of from now on: p is new since H -/
theorem Gr.tell (g : Gr S V H V' H') (h0 : H p = none) (h : H' p = some o) (hv : V' p = none) : Gr S V H (upd V' p o) H' := by
  refine ⟨fun b u e => ?_, fun b u e => ?_, g.k, fun b e => ⟨(g.n b e).1, ?_⟩⟩
  · have q := g.v b u e
    rw [upd_ne (ne_of_none q hv)]
    exact q
  · by_cases hb : b = p
    · subst hb
      rw [upd_same] at e
      rw [h]
      exact e
    · rw [upd_ne hb] at e
      exact g.s b u e
  · have hb : b ≠ p := fun z => by
      subst z
      exact e h0
    rw [upd_ne hb]
    exact (g.n b e).2
theorem Gr.grow (g : Gr S V H V' H') (e : Same H' H2) : Gr S V H V' H2 :=
  ⟨g.v, g.s.trans e, fun b o hb q => e b o (g.k b o hb q), fun b q => ⟨(by
    cases z : H' b with
    | none => exact absurd z (g.n b q).1
    | some o => exact some_ne (e b o z)), (g.n b q).2⟩⟩
/-- all that is new is told of, but for M -/
noncomputable def allU (M : Addr → Prop) (H H' V' : Hp) : Hp := by
  classical exact fun b => if H b = none ∧ ¬ M b then H' b else V' b
theorem allU_new {M : Addr → Prop} (h : H p = none) (hM : ¬ M p) : allU M H H' V' p = H' p := by
  unfold allU
  exact if_pos ⟨h, hM⟩
theorem allU_old {M : Addr → Prop} (h : H p ≠ none) : allU M H H' V' p = V' p := by
  unfold allU
  exact if_neg fun z => h z.1
theorem allU_M {M : Addr → Prop} (h : M p) : allU M H H' V' p = V' p := by
  unfold allU
  exact if_neg fun z => z.2 h
theorem Gr.all (M : Addr → Prop) (h0 : Same V H) (g : Gr S V H V' H') : Gr S V H (allU M H H' V') H' := by
  refine ⟨fun b o e => ?_, fun b o e => ?_, g.k, fun b e => ⟨(g.n b e).1, (allU_old e).trans (g.n b e).2⟩⟩
  · rw [allU_old (some_ne (h0 b o e))]
    exact g.v b o e
  · by_cases hb : H b = none
    · by_cases hM : M b
      · rw [allU_M hM] at e
        exact g.s b o e
      · rw [allU_new hb hM] at e
        exact e
    · rw [allU_old hb] at e
      exact g.s b o e
theorem Gr.allSame (M : Addr → Prop) (g : Gr S V H V' H') : Same V' (allU M H H' V') := fun b o e => by
  by_cases hb : H b = none
  · by_cases hM : M b
    · rw [allU_M hM]
      exact e
    · rw [allU_new hb hM]
      exact g.s b o e
  · rw [allU_old hb]
    exact e
/-- what was made first and changed afterwards is new -/
theorem Gr.under (hD : H p = none) (g : Gr (fun b => b = p) V (upd H p o) V' H') : Gr S V H V' H' := by
  refine ⟨g.v, g.s, fun b u _ e => ?_, fun b e => ?_⟩
  · have hb := ne_of_none e hD
    exact g.k b u hb (by rw [upd_ne hb]; exact e)
  · have hb : b ≠ p := fun z => e (by rw [z]; exact hD)
    exact g.n b (by rw [upd_ne hb]; exact e)
theorem Gr.out (g : Gr S V H V' H') (h : H p ≠ none) (hv : V p = none) : V' p = none := (g.n p h).2.trans hv
theorem Gr.there (g : Gr S V H V' H') (h : H p ≠ none) : H' p ≠ none := (g.n p h).1
end

section
variable {K : PySem.W.Frag} {H H' : Hp}
theorem rdS {a : Addr} {u : HO} (e : Same H H') (h : Rd H a u) : Rd H' a u := by
  rcases h with h | ⟨o, h⟩
  · exact Or.inl (e a _ h)
  · exact Or.inr ⟨o, e a _ h⟩
theorem sqlS {a : Addr} {xs : List V} (e : Same H H') (h : SqL K H a xs) : SqL K H' a xs := e.seq h
theorem sqtS {a : Addr} {xs : List V} (e : Same H H') (h : SqT K H a xs) : SqT K H' a xs := by
  rcases h with h | h
  · exact Or.inl (rdS e h)
  · exact Or.inr h
theorem sqlO {a : Addr} {xs : List V} (h : H a = some (.lst xs)) : SqL K H a xs := Or.inl (Or.inl h)
theorem sqtO {a : Addr} {xs : List V} (h : H a = some (.tup xs)) : SqT K H a xs := Or.inl (Or.inl h)
mutual
theorem dpS (e : Same H H') : ∀ {d : PyData} {v : V}, Dp K H v d → Dp K H' v d
  | .none, _, h => by cases h; exact .non
  | .bool _, _, h => by cases h; exact .bl _
  | .int _, _, h => by cases h; exact .int _
  | .str _, _, h => by cases h; exact .str _
  | .list _, _, h => by
    cases h with
    | lst hs ha => exact .lst (sqlS e hs) (dpsS e ha)
  | .tuple _, _, h => by
    cases h with
    | tup hs ha => exact .tup (sqtS e hs) (dpsS e ha)
  | .dict _, _, h => by cases h
theorem dpsS (e : Same H H') : ∀ {ds : List PyData} {vs : List V}, DpAll K H vs ds → DpAll K H' vs ds
  | [], _, h => by cases h; exact .nil
  | _ :: _, _, h => by
    cases h with
    | cons h1 h2 => exact .cons (dpS e h1) (dpsS e h2)
end
theorem dps_length : ∀ {ds : List PyData} {vs : List V}, DpAll K H vs ds → vs.length = ds.length
  | [], _, h => by cases h; rfl
  | _ :: _, _, h => by
    cases h with
    | cons h1 h2 => rw [List.length_cons, List.length_cons, dps_length h2]
theorem dps_get : ∀ {ds : List PyData} {vs : List V} {i : Nat} {v : V}, DpAll K H vs ds → vs[i]? = some v → ∃ d, ds[i]? = some d ∧ Dp K H v d
  | [], _, i, v, h, e => by cases h; simp at e
  | d :: ds, _, 0, v, h, e => by
    cases h with
    | cons h1 h2 =>
      simp at e
      subst e
      exact ⟨d, by simp, h1⟩
  | d :: ds, _, i + 1, v, h, e => by
    cases h with
    | cons h1 h2 =>
      simp at e
      obtain ⟨d', q1, q2⟩ := dps_get h2 e
      exact ⟨d', by simpa using q1, q2⟩
theorem dps_append {vs ws : List V} {ds es : List PyData} (h : DpAll K H vs ds) (h2 : DpAll K H ws es) : DpAll K H (vs ++ ws) (ds ++ es) := by
  induction vs generalizing ds with
  | nil => cases h; exact h2
  | cons v vs ih =>
    cases h with
    | cons h1 h3 => exact .cons h1 (ih h3)
theorem dps_take {vs : List V} {ds : List PyData} (n : Nat) (h : DpAll K H vs ds) : DpAll K H (vs.take n) (ds.take n) := by
  induction vs generalizing ds n with
  | nil => cases h; simp; exact .nil
  | cons v vs ih =>
    cases h with
    | cons h1 h3 =>
      cases n with
      | zero => exact .nil
      | succ n => exact .cons h1 (ih n h3)
theorem dps_drop {vs : List V} {ds : List PyData} (n : Nat) (h : DpAll K H vs ds) : DpAll K H (vs.drop n) (ds.drop n) := by
  induction vs generalizing ds n with
  | nil => cases h; simp; exact .nil
  | cons v vs ih =>
    cases h with
    | cons h1 h3 =>
      cases n with
      | zero => exact .cons h1 h3
      | succ n => exact ih n h3
theorem dps_ints (ns : List Int) : DpAll K H (ns.map V.int) (ns.map PyData.int) := by
  induction ns with
  | nil => exact .nil
  | cons n ns ih => exact .cons (.int n) ih
theorem dps_of_ints {vs : List V} {ns : List Int} (h : DpAll K H vs (ns.map PyData.int)) : vs = ns.map V.int := by
  induction ns generalizing vs with
  | nil => cases h; rfl
  | cons n ns ih =>
    cases h with
    | cons h1 h2 =>
      cases h1
      rw [ih h2]
      rfl
end
theorem same_new {H : Hp} {p : Addr} {o : HO} (h : H p = none) : Same H (upd H p o) := fun b u e => by rw [upd_ne (ne_of_none e h)]; exact e
/-- all but s -/
noncomputable def hide (s : Addr) (H : Hp) : Hp := by
  classical exact fun b => if b = s then none else H b
theorem hide_at {s : Addr} {H : Hp} : hide s H s = none := by
  unfold hide
  exact if_pos rfl
theorem hide_ne {s b : Addr} {H : Hp} (h : b ≠ s) : hide s H b = H b := by
  unfold hide
  exact if_neg h
theorem hide_same {s : Addr} {H : Hp} : Same (hide s H) H := fun b o e => by
  by_cases h : b = s
  · rw [h, hide_at] at e
    cases e
  · rw [hide_ne h] at e
    exact e
theorem hide_in {s : Addr} {U H : Hp} (h : Same U H) (hs : U s = none) : Same U (hide s H) := fun b o e => by
  have hb : b ≠ s := fun z => by
    rw [z, hs] at e
    cases e
  rw [hide_ne hb]
  exact h b o e
end VW

/-! More rules over the hand layer: a def by its name, list(text), repr(data), w.get(k) of a written dict, == and != by an own __eq__. -/
namespace L2
open PySem PySem.Spec PyProof.Rows

/-! ### a def of the text, by its name -/
structure DefOk (P : Program) (w : World) (K : PySem.W.Frag) (mg : Str → Option Value) (base : Heap) (x : Str) (st : Stmt) (ps : List Str) (k : Nat) (sp : Sp) : Prop where
  ex : ∃ f fd, mg x = some (.ref f) ∧ Fun K x x st f fd ∧ Binds K fd ps [] ∧ FnOk P w K mg base CX0 k f fd ps sp
structure TopDef (K : PySem.W.Frag) (mg : Str → Option Value) (x : Str) (st : Stmt) (ps : List Str) : Prop where
  ex : ∃ f fd, mg x = some (.ref f) ∧ Fun K x x st f fd ∧ Binds K fd ps []
section
variable {X : Cx}
theorem pe_callD {x : Str} {st : Stmt} {ps : List Str} {k : Nat} {sp : Sp} {e : Expr} {es : List Expr} {t : TA} {p pos : Pos} (D : DefOk X.prog X.w X.K X.mg X.base x st ps k sp) (hr : Room k X.A) (ha : PA X (e :: es) t) (hg : Gl X x := by rfl)
    (hdb : (x == ("__debug__" : Str)) = false := by decide) (he : starEach (e :: es) X.env = (false, eval e X.env) :: starEach es X.env := by rfl) (hpl : (backTo pos (starEach es X.env)).any (·.1) = false := by rfl) :
    PE X (.Call (.Name x p) (e :: es) [] pos) (tCall sp [] E0 t) := by
  obtain ⟨f, fd, hm, hk, hb, F⟩ := D.ex
  exact pe_call F hr hg hm hk.kp hb .nil pass0 ha hdb he hpl
theorem pe_callD0 {x : Str} {st : Stmt} {ps : List Str} {k : Nat} {sp : Sp} {p pos : Pos} (D : DefOk X.prog X.w X.K X.mg X.base x st ps k sp) (hr : Room k X.A) (hg : Gl X x := by rfl) (hdb : (x == ("__debug__" : Str)) = false := by decide) :
    PE X (.Call (.Name x p) [] [] pos) (tCall sp [] E0 tNil) := by
  obtain ⟨f, fd, hm, hk, hb, F⟩ := D.ex
  exact pe_call0 F hr hg hm hk.kp hb .nil pass0 hdb
theorem pe_globI {x : Str} {i : Int} {pos : Pos} (h : ∃ t, X.mg x = some (.int i t)) (hg : Gl X x := by rfl) (hd : (x == ("__debug__" : Str)) = false := by decide) : PE X (.Name x pos) (tC (.int i)) := by
  obtain ⟨t, h⟩ := h
  exact pe_glob hg h ⟨t, rfl⟩ hd
/-- the body of a def, as a rule for its promise -/
theorem TopDef.ok {P : Program} {w : World} {K : PySem.W.Frag} {mg : Str → Option Value} {base : Heap} {x : Str} {st : Stmt} {N ps : List Str} {k : Nat} {sp : Sp} (T : TopDef K mg x st ps) (S : FnScope N ps (defScope st)) (len : ∀ vs H Q E, sp vs H Q E → vs.length = ps.length)
    (hbody : ∀ (f : Addr) (cdv : Value) (A : Around) (outer : List Env) (s : Shared) (H : Hp) (vs : List V) (Q : VK) (E : XK), Room k (A.deeper (envOfC x (defScope st) s.heap.objs.size f cdv)) → sp vs H Q E →
      ∃ t, PSs (cxOf CX0 P w K mg base N x (defScope st) f cdv A outer s H E).nox (defBody st) t ∧ t { nx := fun _ H' => Q .non H', rt := Q } (start N vs) H) : DefOk P w K mg base x st ps (k + 1) sp := by
  obtain ⟨f, fd, hm, F, hb⟩ := T.ex
  exact ⟨f, fd, hm, F, hb, F.ok S len (hbody f)⟩
end
theorem topDef_mk {K : PySem.W.Frag} {mg : Str → Option Value} {h : Heap} {f : Addr} {x : Str} {st : Stmt} {ps : List Str} {oc : Value} {od an : Option Addr} {osl : Array (Option Value)} {kV doc pm cdv ct : Value} (X : K.In h) (G : h.Ns mainGlobals mg)
    (a : PySem.W.nsIn K mainGlobals x = some (some (.ref f)))
    (l : K.lookup f = some ⟨oc, od, .func (PySem.W.fnOf x x (defArgs st) (defBody st) (defScope st) .none kV doc pm an cdv ct), osl⟩)
    (c : PySem.W.codeIn K cdv x = true) (k : PySem.W.keepIn K (.ref f) = true)
    (hb : ∀ (kV doc pm : Value) (an : Option Addr) (cdv ct : Value) (us : List Value), us.length = ps.length → bindArgs (PySem.W.fnOf x x (defArgs st) (defBody st) (defScope st) .none kV doc pm an cdv ct) ⟨us, []⟩ = pure (ps.zip us)) : TopDef K mg x st ps :=
  have F := fun_mk (st := st) l c k
  ⟨f, _, PySem.W.mg_of X G a, F, F.binds hb⟩

/-! ### list(text) -/
theorem call_list_text {X : Cx} (hc : X.calm = true) : CallR X (.type "list") (fun xs H Q => ∃ z : Str, xs = [.str z] ∧ z.cps.size ≤ sizeLine ∧ ∀ l, H l = none → Q (.ref l) (upd H l (.lst (z.cps.toList.map fun c => V.str ⟨#[c]⟩)))) := by
  intro pins s σ H xs us Q I r h
  obtain ⟨z, rfl, hz, q⟩ := h
  obtain ⟨u, rfl, t, rfl⟩ := vals1 r
  refine PySem.call_list_str (I.ok.hd hc) z t (fun h' tk acc' c' hk hS hacc => ?_) hz
  refine ⟨.ref s.heap.objs.size, _, I.laid (t' := tk) hk (Nat.le_refl _) (show ObjOk X.prog X.w _ h' _ (.lst (z.cps.toList.map fun c => V.str ⟨#[c]⟩)) from ⟨?_, acc'.toList, c', ?_, ?_⟩), rfl, q _ (I.hok.fresh (Nat.le_refl _))⟩
  · rw [List.length_map, Array.length_toList]
    exact hz
  · refine vals_of_at (by rw [List.length_map, Array.length_toList, Array.length_toList]; exact hacc.1.symm) fun j x w h1 h2 => ?_
    have h3 := hacc.2 j w (by rw [← Array.getElem?_toList]; exact h2)
    obtain ⟨c, t', e1, e2⟩ := h3
    have e3 : z.cps.toList[j]? = some c := by rw [Array.getElem?_toList]; exact e1
    rw [List.getElem?_map, e3] at h1
    cases h1
    exact ⟨t', e2⟩
  · rw [Array.toArray_toList]
    exact hS

/-! ### repr of data -/
theorem call_reprD {X : Cx} (hu : X.A.units + 65 < cLine) (hg : X.A.guards = some []) : CallR X (.builtin "repr") (fun xs H Q => ∃ a d, xs = [.ref a] ∧ Dp X.K H (.ref a) d ∧ d.showable = true ∧ d.hasDict = false ∧ d.depth ≤ 64 ∧ d.shown.length ≤ sizeLine ∧ Q (.str d.shown) H) := by
  intro pins s σ H xs us Q I r h
  obtain ⟨a, d, rfl, hd, h1, h2, h3, h4, q⟩ := h
  obtain ⟨u, rfl, rx⟩ := vals1 r
  obtain ⟨as, hr⟩ := Dp.reads I d _ u hd rx
  cases rx
  refine PySem.repr_of_reads' (h₀ := s.heap) hr h1 (PyData.noDict_hsm h2) hg (by omega) (fun _ _ e => e) (fun h' u tk hk => ?_) h4
  exact ⟨.str d.shown, H, I.kept (t' := tk) hk, ⟨u, rfl⟩, q⟩

/-! ### w.get(k), w a dict of the module whose keys are texts -/
def tKGet (K : PySem.W.Frag) (w : World) (td ty : TE) : TE := fun σ H Q => td σ H fun x H1 => ∃ a es n, x = .ref a ∧ K.lookup a = some ⟨.type "dict", none, .dict es n, #[]⟩ ∧ PySem.W.KeysLit w.params es.toList ∧ (a == sysModules) = false ∧
  ty σ H1 fun y H2 => ∃ z r v, y = .str z ∧ PySem.W.nsIn K a z = some r ∧ RelV v (r.getD .none) ∧ Q v H2
theorem pe_dgetK {X : Cx} {o e : Expr} {apos cpos : Pos} {td ty : TE} (ho : PE X o td) (he : PE X e ty) (m : M1 X o "get" apos e cpos) : PE X (.Call (.Attribute o "get" apos) [e] [] cpos) (tKGet X.K X.w td ty) := by
  refine ⟨fun pins s σ H Q I h => ?_⟩
  refine wpAny_Call_method m.base m.few m.line PySem.F.plainAttrs_dict PySem.F.slot_dict_get PySem.F.type_dict_get (thn (ho.run pins s σ H _ I h) fun u s1 ⟨x, H1, I1, rx, a, es, n, ex, hl, hk, low, q1⟩ => ?_)
  subst ex
  obtain rfl : u = Value.ref a := rx
  have hm := PySem.W.mapOf_K (prog := X.prog) (w := X.w) I1.kIn hl hk
  refine ⟨hm.typeIs, hm.noDict, ?_⟩
  rw [m.trees]
  refine Calls.callWith_builtin rfl (Calls.evalArgs_plain (Calls.spliced_cons (thn (he.run pins s1 σ H1 _ I1 q1) fun iv s2 ⟨y, H2, I2, ry, z, r, v, ey, e, rv, q2⟩ => Calls.spliced_nil ?_)))
  subst ey
  obtain ⟨t, rfl⟩ := (show ∃ t, iv = Value.str z t from ry)
  have hm2 := PySem.W.mapOf_K (prog := X.prog) (w := X.w) I2.kIn hl hk
  refine call_meetsIn PySem.F.slot_dict_get hm2.typeIs PySem.F.entry_dict_get (PySem.F.args_dict_get_2 _ _) (meets_dict_get (strKind X.prog X.w) a (strKind_is X.prog X.w z t) low) ⟨_, hm2, ?_⟩
  rw [PySem.W.find_K hl e]
  exact ⟨v, H2, I2.tok _, rv, q2⟩

/-! ### == and != of an instance whose class has an own __eq__ (and no __ne__) -/
/-- what the right side is -/
inductive Rhs (K : PySem.W.Frag) (H : Hp) : V → Value → Prop where
  | int (i : Int) : Rhs K H (.int i) (.type "int")
  | non : Rhs K H .non (.type "NoneType")
  | lst {a : Addr} {xs : List V} (e : H a = some (.lst xs)) : Rhs K H (.ref a) (.type "list")
  | ins {a C dx : Addr} {fs : List (Str × V)} (e : H a = some (.ins C dx fs)) : Rhs K H (.ref a) (.ref C)
theorem Rhs.looks {X : Cx} {pins : List (Addr × Obj)} {σ : St} {H : Hp} {s : Shared} {y : V} {u t : Value} {M : Model} (I : Inv X pins σ H s) (r : RelV y u) (h : Rhs X.K H y t) : PySem.W.Looks M s.heap (typeOf u) t := by
  cases h with
  | int i =>
    obtain ⟨tk, rfl⟩ := r
    exact PySem.W.Looks.of_pure rfl
  | non =>
    cases r
    exact PySem.W.Looks.of_pure rfl
  | @lst a xs e =>
    cases r
    obtain ⟨_, its, n, _, h1⟩ := (show ObjOk X.prog X.w H s.heap a (.lst xs) from I.hok a _ e)
    exact (PySem.W.Looks.ld h1).andThen .now
  | @ins a C dx fs e =>
    cases r
    obtain ⟨mA, J, _⟩ := ins_get I.hok e
    obtain ⟨od, J, _⟩ := J.look
    exact J.type
/-- the class at C has the own __eq__ that keeps sp -/
structure EqOk (P : Program) (w : World) (K : PySem.W.Frag) (mg : Str → Option Value) (base : Heap) (C : Addr) (k : Nat) (sp : Sp) : Prop where
  ex : ∃ f fd, PySem.W.findIn K (.ref C) "__eq__" = some (some (.ref f)) ∧ PySem.W.isFn K (.ref f) = true ∧ Binds K fd ["self", "other"] [] ∧ FnOk P w K mg base CX0 k f fd ["self", "other"] sp
def rEqO (K : PySem.W.Frag) (C : Addr) (sp : Sp) : R2 := fun x y H Q => ∃ a dx fs t, x = .ref a ∧ H a = some (.ins C dx fs) ∧ Rhs K H y t ∧ PySem.W.notFirst K C t = true ∧ sp [x, y] H (fun v H' => ∃ b, v = .bl b ∧ Q (.bl b) H') E0
section
variable {X : Cx} {C : Addr} {k : Nat} {sp : Sp}
theorem run_eqO (D : EqOk X.prog X.w X.K X.mg X.base C k sp) {A : Around} {pins : List (Addr × Obj)} {σ : St} {H : Hp} {s : Shared} {a dx : Addr} {fs : List (Str × V)} {y : V} {v t : Value} {R : Bool → Shared → Prop} (hr : Room k A) (hf : A.frames = X.A.frames)
    (I : Inv X pins σ H s) (e : H a = some (.ins C dx fs)) (ry : RelV y v) (hR : Rhs X.K H y t) (hn : PySem.W.notFirst X.K C t = true)
    (hs : sp [.ref a, y] H (fun v H' => ∃ b, v = .bl b ∧ ∀ s', Inv X pins σ H' s' → R b s') E0) :
    wpAny (model X.prog X.w) A (richCompare .Eq (.ref a) v) (fun r s' => ∃ b, r = .bool b ∧ R b s') X.xe s := by
  obtain ⟨f, fd, h1, h2, hb, F⟩ := D.ex
  obtain ⟨mA, J, _⟩ := ins_get I.hok e
  obtain ⟨od, J, _⟩ := J.look
  obtain ⟨m, hF⟩ := I.fr
  refine PySem.W.cmp_K (op := .Eq) (tb := t) hr.units0 hF I.ok.mod.kin J (hR.looks I ry) hn h1 h2 ?_
  have e0 : Env0 X.prog X.w X.K X.mg X.base A X.stack s H := by
    have e := I.env0
    exact ⟨by rw [hf]; exact e.frames, e.mod, e.bs, e.bsz, e.funs, e.frf, e.hok, e.bare⟩
  have hl := F.len _ _ _ _ hs
  have r2 : Vals [V.ref a, y] [Value.ref a, v] := .cons rfl (.cons ry .nil)
  refine wpAny_call (codeAny_mono (F.run A X.stack s H ⟨[.ref a, v], []⟩ [.ref a, v] [.ref a, y] _ E0 hr e0 (by
    have := hb s [.ref a, v] I.kIn (by simpa using hl)
    simpa using this) r2 hs) fun r s' hq => ?_)
  cases r with
  | error e => exact False.elim hq
  | ok fl =>
    cases fl with
    | ret w =>
      obtain ⟨z, H', I', rz, b, ez, ex⟩ := I.after hq
      subst ez
      cases rz
      exact ⟨b, rfl, ex s' I'⟩
    | next => exact False.elim hq
    | brk => exact False.elim hq
    | cont => exact False.elim hq
theorem op_eqO (D : EqOk X.prog X.w X.K X.mg X.base C k sp) (hr : Room k X.A) (mono : ∀ vs H Q Q' E, (∀ v H', Q v H' → Q' v H') → sp vs H Q E → sp vs H Q' E) : OpR X (compareOp .Eq) (rEqO X.K C sp) := by
  intro pins s σ H x y v u Q I rx ry h
  obtain ⟨a, dx, fs, t, rfl, e, hR, hn, hs⟩ := h
  cases rx
  show wpAny (model X.prog X.w) X.A (richCompare .Eq (.ref a) u) (EP X pins σ Q) X.xe s
  refine wpAny_mono (run_eqO D (R := fun b s' => ∃ H', Inv X pins σ H' s' ∧ Q (.bl b) H') hr rfl I e ry hR hn (mono _ _ _ _ _ (fun v H' z => ?_) hs)) (fun r s' z => ?_) fun _ _ z => z
  · obtain ⟨b, ev, q⟩ := z
    exact ⟨b, ev, fun s' I' => ⟨H', I', q⟩⟩
  · obtain ⟨b, rfl, H', I', q⟩ := z
    exact ⟨.bl b, H', I', rfl, q⟩
end

/-! ### a method of a class, by its name -/
structure MethDef (K : PySem.W.Frag) (C : Addr) (m qual : Str) (st : Stmt) (ps : List Str) : Prop where
  ex : ∃ f fd, PySem.W.findIn K (.ref C) m = some (some (.ref f)) ∧ PySem.W.isFn K (.ref f) = true ∧ Fun K m qual st f fd ∧ Binds K fd ps []
theorem methDef_mk {K : PySem.W.Frag} {C f : Addr} {x q : Str} {st : Stmt} {ps : List Str} {oc : Value} {od an : Option Addr} {osl : Array (Option Value)} {kV doc pm cdv ct : Value}
    (a : PySem.W.findIn K (.ref C) x = some (some (.ref f))) (i : PySem.W.isFn K (.ref f) = true)
    (l : K.lookup f = some ⟨oc, od, .func (PySem.W.fnOf x q (defArgs st) (defBody st) (defScope st) .none kV doc pm an cdv ct), osl⟩)
    (c : PySem.W.codeIn K cdv q = true) (k : PySem.W.keepIn K (.ref f) = true)
    (hb : ∀ (kV doc pm : Value) (an : Option Addr) (cdv ct : Value) (us : List Value), us.length = ps.length → bindArgs (PySem.W.fnOf x q (defArgs st) (defBody st) (defScope st) .none kV doc pm an cdv ct) ⟨us, []⟩ = pure (ps.zip us)) : MethDef K C x q st ps :=
  have F := fun_mk (st := st) l c k
  ⟨f, _, a, i, F, F.binds hb⟩
/-- a method that keeps its promise -/
structure MethOk (P : Program) (w : World) (K : PySem.W.Frag) (mg : Str → Option Value) (base : Heap) (C : Addr) (m q : Str) (st : Stmt) (ps : List Str) (k : Nat) (sp : Sp) : Prop where
  ex : ∃ f fd, PySem.W.findIn K (.ref C) m = some (some (.ref f)) ∧ PySem.W.isFn K (.ref f) = true ∧ Fun K m q st f fd ∧ Binds K fd ps [] ∧ FnOk P w K mg base CX0 k f fd ps sp
theorem MethDef.ok {P : Program} {w : World} {K : PySem.W.Frag} {mg : Str → Option Value} {base : Heap} {C : Addr} {m q : Str} {st : Stmt} {N ps : List Str} {k : Nat} {sp : Sp} (T : MethDef K C m q st ps) (S : FnScope N ps (defScope st)) (len : ∀ vs H Q E, sp vs H Q E → vs.length = ps.length)
    (hbody : ∀ (f : Addr) (cdv : Value) (A : Around) (outer : List Env) (s : Shared) (H : Hp) (vs : List V) (Q : VK) (E : XK), Room k (A.deeper (envOfC q (defScope st) s.heap.objs.size f cdv)) → sp vs H Q E →
      ∃ t, PSs (cxOf CX0 P w K mg base N q (defScope st) f cdv A outer s H E).nox (defBody st) t ∧ t { nx := fun _ H' => Q .non H', rt := Q } (start N vs) H) : MethOk P w K mg base C m q st ps (k + 1) sp := by
  obtain ⟨f, fd, h1, h2, F, hb⟩ := T.ex
  exact ⟨f, fd, h1, h2, F, hb, F.ok S len (hbody f)⟩
section
variable {X : Cx} {C : Addr} {m q : Str} {st : Stmt} {ps : List Str} {k : Nat} {sp : Sp} {o e : Expr} {es : List Expr} {ta : TE} {t tk : TA} {apos pos p : Pos} {pl : Sem Bool} {x : Str}
theorem pe_methD (D : MethOk X.prog X.w X.K X.mg X.base C m q st ps k sp) (c : Cls X.K C) (hr : Room k X.A) (he : PE X o ta) (ha : PA X (e :: es) t)
    (hst : starEach (e :: es) X.env = (false, eval e X.env) :: starEach es X.env := by rfl) (hpl : (backTo pos (starEach es X.env)).any (·.1) = false := by rfl)
    (ht : eval (.Call (.Attribute o m apos) (e :: es) [] pos) X.env = (do
      let ov ← eval o X.env
      standAt apos.atName
      let (f, first) ← holding [ov] (getMethod ov m pl)
      callWith pos f first (backTo pos (starEach (e :: es) X.env)) (backToKw pos (keywordEach [] X.env))) := by rfl) :
    PE X (.Call (.Attribute o m apos) (e :: es) [] pos) (tMeth C m sp [] E0 ta t) := by
  obtain ⟨f, fd, h1, h2, h3, hb, F⟩ := D.ex
  exact pe_meth he c ⟨h1, h2, h3.kp⟩ F hr hb .nil pass0 ha hst hpl ht
theorem pe_methD0 (D : MethOk X.prog X.w X.K X.mg X.base C m q st ps k sp) (c : Cls X.K C) (hr : Room k X.A) (he : PE X o ta)
    (ht : eval (.Call (.Attribute o m apos) [] [] pos) X.env = (do
      let ov ← eval o X.env
      standAt apos.atName
      let (f, first) ← holding [ov] (getMethod ov m pl)
      callWith pos f first (backTo pos (starEach [] X.env)) (backToKw pos (keywordEach [] X.env))) := by rfl) :
    PE X (.Call (.Attribute o m apos) [] [] pos) (tMeth C m sp [] E0 ta tNil) := by
  obtain ⟨f, fd, h1, h2, h3, hb, F⟩ := D.ex
  exact pe_meth0 he c ⟨h1, h2, h3.kp⟩ F hr hb .nil pass0 ht
/-- C(e, ..) -/
theorem pe_makeD (D : MethOk X.prog X.w X.K X.mg X.base C "__init__" q st ps k sp) (hmk : PySem.W.makesIn X.K C = true ∧ PySem.W.keepIn X.K (.ref C) = true) (hm : X.mg x = some (.ref C)) (hr : Room (k + 1) X.A) (ha : PA X (e :: es) t) (hg : Gl X x := by rfl)
    (hdb : (x == ("__debug__" : Str)) = false := by decide) (he : starEach (e :: es) X.env = (false, eval e X.env) :: starEach es X.env := by rfl) (hpl : (backTo pos (starEach es X.env)).any (·.1) = false := by rfl) :
    PE X (.Call (.Name x p) (e :: es) [] pos) (tMake C sp [] E0 t) := by
  obtain ⟨f, fd, h1, h2, h3, hb, F⟩ := D.ex
  exact pe_make ⟨hmk.1, h1, h2, hmk.2⟩ F hr hg hm hb .nil pass0 ha hdb he hpl
/-- C(k = e, ..): all by keywords in their order -/
theorem Fun.kbn {K : PySem.W.Frag} {x q : Str} {st : Stmt} {f : Addr} {fd : FuncData} {ps ks : List Str} {n : Nat} (F : Fun K x q st f fd)
    (h : ∀ (kV doc pm : Value) (an : Option Addr) (cdv ct : Value) (us ws : List Value), us.length = n → ws.length = ks.length → bindArgs (PySem.W.fnOf x q (defArgs st) (defBody st) (defScope st) .none kV doc pm an cdv ct) ⟨us, ks.zip ws⟩ = pure (ps.zip (us ++ ws))) :
    KBn K fd ps n ks (fun us ws => us ++ ws) (fun vs zs => vs ++ zs) := by
  obtain ⟨oc, od, kV, doc, pm, an, cdv, ct, osl, rfl, lk, hcd⟩ := F.ex
  exact ⟨fun s us ws _ l1 l2 => .of_eq (h kV doc pm an cdv ct us ws l1 l2), fun a b => a.append b⟩
theorem pe_makeD_kw {kws : List Keyword} {ks : List Str} (D : MethOk X.prog X.w X.K X.mg X.base C "__init__" q st ps k sp) (hmk : PySem.W.makesIn X.K C = true ∧ PySem.W.keepIn X.K (.ref C) = true) (hm : X.mg x = some (.ref C)) (hr : Room (k + 1) X.A)
    (h : ∀ (kV doc pm : Value) (an : Option Addr) (cdv ct : Value) (us ws : List Value), us.length = 1 → ws.length = ks.length → bindArgs (PySem.W.fnOf "__init__" q (defArgs st) (defBody st) (defScope st) .none kV doc pm an cdv ct) ⟨us, ks.zip ws⟩ = pure (ps.zip (us ++ ws)))
    (hkw : PK X kws tk) (hg : Gl X x := by rfl)
    (hall : (backToKw pos (keywordEach kws X.env)).all (·.1.isSome) = true := by rfl) (hks : (backToKw pos (keywordEach kws X.env)).filterMap (·.1) = ks := by rfl) (hdb : (x == ("__debug__" : Str)) = false := by decide)
    (hpl : ((backTo pos (starEach [] X.env)).any (·.1) || (backToKw pos (keywordEach kws X.env)).any (·.1.isNone)) = false := by rfl) :
    PE X (.Call (.Name x p) [] kws pos) (tMakeK C 0 ks.length sp (fun vs zs => vs ++ zs) E0 tNil tk) := by
  obtain ⟨f, fd, h1, h2, h3, hb, F⟩ := D.ex
  exact pe_makeK0 ⟨hmk.1, h1, h2, hmk.2⟩ F hr hg hm (h3.kbn h) pass0 hkw hall hks hdb hpl
end
/-- what isinstance and == ask of a class of the text -/
structure ClsIsi (K : PySem.W.Frag) (C : Addr) : Prop where
  ha : PySem.W.findIn K (.ref C) "__class__" = some (some (.builtin "object.__class__"))
  hn : PySem.W.specialIn K (.builtin "object.__class__") "__get__" = some (some (.builtin "getset_descriptor.__get__"))
  htk : PySem.W.takesIn K (.builtin "object.__class__") = some true
  hm : PySem.W.mroIn K C (.type "object") = some true
  self_ : PySem.W.kitOne K (.ref C) (.ref C) = some true
  int_ : PySem.W.kitOne K (.type "int") (.ref C) = some false
  non_ : PySem.W.kitOne K (.type "NoneType") (.ref C) = some false
  lst_ : PySem.W.kitOne K (.type "list") (.ref C) = some false
  nSelf : PySem.W.notFirst K C (.ref C) = true
  nInt : PySem.W.notFirst K C (.type "int") = true
  nNon : PySem.W.notFirst K C (.type "NoneType") = true
  nLst : PySem.W.notFirst K C (.type "list") = true
/-! ### the same rules with the written part named (within a comprehension) -/
section
variable {X : Cx} {K : PySem.W.Frag}
theorem ix_tupK (h : X.K = K := by rfl) : IxR X (rIxT K) := by
  subst h
  exact ix_tup
theorem ix_listK (h : X.K = K := by rfl) : IxR X (rIxL K) := by
  subst h
  exact ix_list
theorem call_lenK (h : X.K = K := by rfl) : CallR X (.builtin "len") (fun xs H Q => ∃ x n, xs = [x] ∧ LenV K x H n ∧ Q (.int n) H) := by
  subst h
  exact call_len
theorem call_isiK' (h : X.K = K := by rfl) : CallR X (.builtin "isinstance") (rIsi K) := by
  subst h
  exact call_isi
theorem call_list_ofK (h : X.K = K := by rfl) : CallR X (.type "list") (fun xs H Q => ∃ p ys, xs = [.ref p] ∧ (SqL K H p ys ∨ SqT K H p ys) ∧ ∀ l, H l = none → Q (.ref l) (upd H l (.lst ys))) := by
  subst h
  exact call_list_of
end
end L2

/-! The law's own def where it asks repr: its promise for the claim's caller alone (nothing is being shown around it), and its end. -/
namespace L2
open PySem PySem.Spec PyProof.Rows
/-- a promise that holds where nothing is being shown around the call -/
structure FnOkG (P : Program) (w : World) (K : PySem.W.Frag) (mg : Str → Option Value) (base : Heap) (k : Nat) (f : Addr) (fd : FuncData) (ps : List Str) (sp : Sp) : Prop where
  len : ∀ vs H Q E, sp vs H Q E → vs.length = ps.length
  go : ∀ (A : Around) (outer : List Env) (st : Shared) (H : Hp) (args : Args) (us : List Value) (vs : List V) (Q : VK) (E : XK), A.guards = some [] → Room k A → Env0 P w K mg base A outer st H → BindsTo st fd args (ps.zip us) →
    Vals vs us → sp vs H Q E → codeAny (model P w) A (.call (.ref f) args) (CR CX0 outer P w H st Q E) st
theorem some_neq {α : Type} {x : Option α} {o : α} (h : x = some o) : x ≠ none := by
  rw [h]
  exact fun z => nomatch z
section
variable {P : Program} {w : World} {K : PySem.W.Frag} {mg : Str → Option Value} {base : Heap}
theorem Fun.okG {x qual : Str} {d : Stmt} {f : Addr} {fd : FuncData} {N ps : List Str} {k : Nat} {sp : Sp} (F : Fun K x qual d f fd) (S : FnScope N ps (defScope d)) (len : ∀ vs H Q E, sp vs H Q E → vs.length = ps.length)
    (body : ∀ (cdv : Value) (A : Around) (outer : List Env) (st : Shared) (H : Hp) (vs : List V) (Q : VK) (E : XK), (A.deeper (envOfC qual (defScope d) st.heap.objs.size f cdv)).guards = some [] →
      Room k (A.deeper (envOfC qual (defScope d) st.heap.objs.size f cdv)) → sp vs H Q E →
      ∃ t, PSs (cxOf CX0 P w K mg base N qual (defScope d) f cdv A outer st H E).nox (defBody d) t ∧ t { nx := fun _ H' => Q .non H', rt := Q } (start N vs) H) : FnOkG P w K mg base (k + 1) f fd ps sp := by
  obtain ⟨oc, od, kV, doc, pm, an, cdv, ct, osl, rfl, at_f, cod⟩ := F.ex
  refine ⟨len, fun A outer st H args us vs Q E hgd room e0 hbd rel ask => ?_⟩
  have n_args := len _ _ _ _ ask
  have inK : K.In st.heap := e0.mod.kin.keeps fun b o q => (e0.bs b o q).1
  have noLim : st.heap.NoLimit := e0.mod.nolimit.keeps fun b o q => (e0.bs b o q).1
  have kinds : ∀ y ∈ ps.zip us, (defScope d).names.lookup y.1 = some .local ∨ ((defScope d).names.lookup y.1 = some .cell ∧ ((cellsFrom (st.heap.objs.size + 1) (defScope d).names []).lookup y.1).isSome = true) :=
    fun ⟨nm, u⟩ hy => (S.par nm (List.of_mem_zip hy).1).elim (fun q => .inl q) fun q => .inr ⟨q, PySem.W.cellsFrom_some _ _ _ (.inl q)⟩
  refine codeAny_call_function room.depth (inK _ _ at_f) rfl S.co S.gen rfl (PySem.W.codeRec_of inK cod) (hbd _ _ _ _ (wpAny_newFunctionEnv_cells S.kind kinds fun env he s1 x => ?_))
  subst he
  refine ⟨noLim.keeps x.toInCall.keep, codeAny_func ?_⟩
  obtain ⟨t, ht, hq⟩ := body cdv A outer st H vs Q E hgd (room.deeper _) ask
  refine wpAny_mono (ht.nox.run [] s1 (start N vs) H _ (inv_start S room.hd e0 n_args rel x) hq) (fun fl s' z => ?_) fun e s' z => z
  cases fl with
  | ret u =>
    obtain ⟨v, σ', H', J, rv, q⟩ := z
    exact ⟨v, H', J.os, J.bare, J.base, J.hok, rv, q⟩
  | next =>
    obtain ⟨σ', H', J, q⟩ := z
    exact ⟨V.non, H', J.os, J.bare, J.base, J.hok, rfl, q⟩
  | brk => exact z.elim fun _ z => z.elim fun _ z => z.2.elim
  | cont => exact z.elim fun _ z => z.elim fun _ z => z.2.elim
/-- the end: the law's call from the claim's caller -/
theorem law_callG {mb : Str → Option Value} {k : Nat} {fa a : Addr} {fd : FuncData} {x : Str} {sp : Sp} {st : Shared} {vs : List Value} {ns : List Int}
    (inK : K.In st.heap) (gl : st.heap.Ns mainGlobals mg) (bl : st.heap.Ns builtinsNs mb) (bb : ∀ x : Str, x ≠ "__name__" → mb x = bootBuiltins x) (lim : st.heap.NoLimit) (gens : st.gens = #[])
    (obj : st.heap.get? a = some { cls := .type "list", data := .seq vs.toArray }) (areInts : IntsAre vs ns) (short : ns.length ≤ sizeLine) (room : Room k callerA)
    (F : ∀ base : Heap, K.In base → base.Ns mainGlobals mg → FnOkG P w K mg base k fa fd [x] sp) (binds : ∀ (s : Shared) (u : Value), BindsTo s fd ⟨[u], []⟩ [(x, u)])
    (ask : ∀ H : Hp, SqL K H a (ns.map V.int) → sp [.ref a] H (fun v _ => v = .bl true) fun _ _ _ => False) :
    codeAny (model P w) callerA (.call (.ref fa) ⟨[.ref a], []⟩) (fun r s' => r = .ok (.ret (.bool true)) ∧ OldK st.heap s'.heap ∧ s'.os = st.os ∧ AllBare s'.gens) st := by
  have rel := vals_ints areInts
  have n_vs := areInts.length
  -- H: nothing is told of, or the script alone, as a thing that stays
  have core : ∀ H : Hp, (∀ b, H b = none ∨ ∃ ob xs, H b = some (.frz ob (.lst xs))) → SqL K H a (ns.map V.int) → HOk P w H st.heap → (∀ b, H b ≠ none → b = a) → (H a ≠ none → K.lookup a = none) →
      codeAny (model P w) callerA (.call (.ref fa) ⟨[.ref a], []⟩) (fun r s' => r = .ok (.ret (.bool true)) ∧ OldK st.heap s'.heap ∧ s'.os = st.os ∧ AllBare s'.gens) st := by
    intro H hO hS hok only_a notK
    have stands : ∀ {b : Addr} {o : Obj}, st.heap.get? b = some o → H b = none → (hidT st.heap H).get? b = some o := fun e n => hidT_get e n
    have free_of : ∀ {b : Addr}, b ≠ a → H b = none := fun {b} hb => by
      cases q : H b with
      | none => rfl
      | some u => exact absurd (only_a b (some_neq q)) hb
    have keepNs : ∀ {b : Addr} {m : Str → Option Value}, st.heap.Ns b m → (hidT st.heap H).Ns b m := fun {b m} ⟨o, es, ep, e, hdat, more⟩ => ⟨o, es, ep, stands e (free_of fun eq => by
      rw [eq, obj] at e
      cases e
      cases hdat), hdat, more⟩
    have inB : K.In (hidT st.heap H) := fun b o e => stands (inK b o e) (by
      cases q : H b with
      | none => rfl
      | some u =>
        have eq := only_a b (some_neq q)
        subst eq
        rw [notK (some_neq q)] at e
        cases e)
    have md : Mod K mg (hidT st.heap H) := ⟨inB, keepNs gl, ⟨mb, keepNs bl, bb⟩, lim.elim fun mc h => ⟨mc, keepNs h.1, h.2⟩⟩
    have e0 : Env0 P w K mg (hidT st.heap H) callerA [] st H := ⟨rfl, md, fun b o e => of_hidT e, Nat.le_of_eq (hidT_size _ _), trivial, fun b hb => (List.not_mem_nil (a := b) hb).elim, hok, .of_eq gens⟩
    refine codeAny_mono ((F _ inB (keepNs gl)).go callerA [] st H ⟨[.ref a], []⟩ [.ref a] [.ref a] _ _ rfl room e0 (binds st (.ref a)) (.cons rfl .nil) (ask H hS)) fun r s' z => ?_
    cases r with
    | error e => exact False.elim z
    | ok fl =>
      cases fl with
      | next => exact False.elim z
      | brk => exact False.elim z
      | cont => exact False.elim z
      | ret u =>
        obtain ⟨v, H', eos, br, un, ok2, rv, (ev : v = .bl true)⟩ := z
        subst ev
        cases rv
        refine ⟨rfl, OldK.of_keep fun b o e => ?_, eos, br⟩
        rcases hO b with q | ⟨ob, xs, q⟩
        · exact un.keep b o e q (fun z => (List.not_mem_nil (a := b) z).elim) (by simp)
        · have h1 := (hok b _ q).1
          have h2 := (ok2 b _ (un.frzs b ob _ q)).1
          rw [e] at h1
          cases h1
          exact h2
  cases at_a : K.lookup a with
  | some o =>
    have e := inK a o at_a
    rw [obj] at e
    cases e
    exact core (fun _ => none) (fun _ => .inl rfl) (.inr ⟨_, vs.toArray, _, at_a, rfl, rfl, rfl, by rw [List.size_toArray, n_vs]; exact short, by simpa using rel⟩) (fun b u z => nomatch z) (fun b z => absurd rfl z) fun z => absurd rfl z
  | none =>
    have yes : ∀ {b : Addr} {u : HO}, (if b = a then some (HO.frz { cls := .type "list", data := .seq vs.toArray } (.lst (ns.map V.int))) else none) = some u → b = a ∧ u = .frz { cls := .type "list", data := .seq vs.toArray } (.lst (ns.map V.int)) := fun {b u} z => by
      by_cases hb : b = a
      · rw [if_pos hb] at z
        exact ⟨hb, (Option.some.inj z).symm⟩
      · rw [if_neg hb] at z
        cases z
    refine core (fun b => if b = a then some (.frz { cls := .type "list", data := .seq vs.toArray } (.lst (ns.map V.int))) else none) (fun b => ?_) (.inl (.inr ⟨{ cls := .type "list", data := .seq vs.toArray }, if_pos rfl⟩)) (fun b u z => ?_) (fun b z => ?_) fun _ => at_a
    · by_cases hb : b = a
      · exact .inr ⟨_, _, if_pos hb⟩
      · exact .inl (if_neg hb)
    · obtain ⟨rfl, rfl⟩ := yes z
      exact ⟨obj, by rw [List.length_map]; exact short, vs, _, rel, obj⟩
    · by_cases hb : b = a
      · exact hb
      · exact absurd (if_neg hb) z
theorem walk_G {l : PySem.W.OpenLaw} {n k : Nat} {q : Program} {loose : List Str} {XP : (Str → Option Value) → Heap → Prop} {YP : World → Heap → Prop} {d : DefRec} {KK : Params → PySem.W.Frag} {sp : World → Sp} {x : Str}
    (hn : l.most = some n) (hn2 : n ≤ sizeLine) (hdf : d.params.defaults = []) (room : Room k callerA) (hY : ∀ (w : World) (h : Heap), YP w h → (KK w.params).In h)
    (F : ∀ (w : World) (mg : Str → Option Value) (fa : Addr) (h : Heap), (KK w.params).In h → h.Ns mainGlobals mg → mg d.name = some (.ref fa) →
      ∃ fd : FuncData, (∀ (s : Shared) (u : Value), BindsTo s fd ⟨[u], []⟩ [(x, u)]) ∧ ∀ base : Heap, (KK w.params).In base → base.Ns mainGlobals mg → FnOkG l.prog w (KK w.params) mg base k fa fd [x] (sp w))
    (ask : ∀ (w : World) (H : Hp) (a : Addr) (ns : List Int), ns.length ≤ n → SqL (KK w.params) H a (ns.map V.int) → sp w [.ref a] H (fun v _ => v = .bl true) fun _ _ _ => False) :
    PySem.W.WalkO q loose XP YP l.row.toRowW d [] (fun f vs => PySem.call f vs) :=
  Att.attach_call hn hdf fun w s₀ s₁ mg mb fa o pm cd doc a vs ns G Y ho hd hcd hmg hobj hints hlen hgens => by
    obtain ⟨fd, hb, hF⟩ := F w mg fa _ (hY w _ Y) G.T.g hmg
    exact law_callG (hY w _ Y) G.T.g G.T.b G.T.builtins G.T.nolimit hgens hobj hints (Nat.le_trans hlen hn2) room hF hb fun H hS => ask w H a ns hlen hS
end
end L2

/-! != by an own __eq__ without __ne__; a list of one such instance == a list of one other value. -/
namespace L2
open PySem PySem.Spec PyProof.Rows
/-- the class at C has an own __eq__ at f, and no __ne__; it stands on object alone -/
structure ClsNe (K : PySem.W.Frag) (C : Addr) : Prop where
  ex : ∃ (f : Addr) (nm q : Str) (N : Addr) (bs : List Value) (sn : List Str) (sub : List Value) (ab : Bool) (col : Option Bool) (dd : Option Addr) (k0 k1 k2 k3 k5 : Option Value) (oc : Value) (od : Option Addr) (es : Array DictEntry) (n : Nat) (sl : Array (Option Value)),
    K.lookup C = some (excClassObj nm q C N bs [.type "object"] true sn sub ab col dd k0 k1 k2 k3 k5 "object.__new__") ∧ K.lookup N = some ⟨oc, od, .dict es n, sl⟩ ∧ StrKeys es ∧ PySem.W.nsIn K N "__eq__" = some (some (.ref f)) ∧ PySem.W.nsIn K N "__ne__" = some none ∧
    PySem.W.findIn K (.ref C) "__eq__" = some (some (.ref f))
theorem find_of_nsIn {K : PySem.W.Frag} {N : Addr} {oc : Value} {od : Option Addr} {es : Array DictEntry} {n : Nat} {sl : Array (Option Value)} {x : Str} {r : Option Value} (h : K.lookup N = some ⟨oc, od, .dict es n, sl⟩) (e : PySem.W.nsIn K N x = some r) : nsFind es x = r := by
  unfold PySem.W.nsIn at e
  rw [h] at e
  dsimp only at e
  unfold nsFind findBy
  rw [← Array.find?_toList]
  have alt : ∀ en : DictEntry, Value.isStr en.key x = en.key.isStr x := fun _ => rfl
  cases q : es.toList.find? (·.key.isStr x) with
  | some en =>
    rw [q] at e
    simp only [Option.some.injEq] at e
    rw [← e]
    rfl
  | none =>
    rw [q] at e
    dsimp only at e
    split at e
    · cases e
    · cases e
      rfl
theorem strKeys_of {P : Params} {es : Array DictEntry} (h : PySem.W.KeysLit P es.toList) : StrKeys es := fun e he => by
  obtain ⟨x, t, e1, _⟩ := h.all e (Array.mem_toList_iff.mpr he)
  exact ⟨x, t, e1⟩
theorem kit_self {K : PySem.W.Frag} {C : Addr} : PySem.W.kitOne K (.ref C) (.ref C) = some true := if_pos (beq_self_eq_true _)
theorem kit_not {K : PySem.W.Frag} {C : Addr} {t : Value} {b : Bool} (hne : (match t with | .ref _ => false | _ => true) = true) (h1 : PySem.W.isClsIn K C = true) (h2 : PySem.W.typeIn K (.ref C) = some (.type "type")) (h3 : PySem.W.subIn K t (.ref C) = some b) : PySem.W.kitOne K t (.ref C) = some b := by
  have e : (t == Value.ref C) = false := by
    cases q : t == Value.ref C with
    | false => rfl
    | true =>
      have := eq_of_beq q
      subst this
      cases hne
  have h1' : (PySem.W.clsIn K C).isSome = true := h1
  show (if (t == Value.ref C) = true then some true else if ((PySem.W.clsIn K C).isSome && PySem.W.typeIn K (.ref C) == some (.type "type")) = true then PySem.W.subIn K t (.ref C) else none) = some b
  rw [e, if_neg Bool.false_ne_true, if_pos (by rw [h1', h2]; rfl)]
  exact h3
theorem isFn_obj {K : PySem.W.Frag} {f : Addr} (h : PySem.W.isFn K (.ref f) = true) : ∃ o, K.lookup f = some o ∧ o.cls = .type "function" := by
  unfold PySem.W.isFn at h
  exact Option.map_eq_some_iff.mp (beq_iff_eq.mp h)
def rNeO (C : Addr) (sp : Sp) : R2 := fun x y H Q => ∃ a b dx fs dy gs, x = .ref a ∧ y = .ref b ∧ H a = some (.ins C dx fs) ∧ H b = some (.ins C dy gs) ∧ sp [x, y] H (fun v H' => ∃ k, v = .bl k ∧ Q (.bl (!k)) H') E0
section
variable {X : Cx} {C : Addr} {k : Nat} {sp : Sp}
theorem op_neO (D : EqOk X.prog X.w X.K X.mg X.base C k sp) (N : ClsNe X.K C) (hr : Room (k + 1) X.A) (mono : ∀ vs H Q Q' E, (∀ v H', Q v H' → Q' v H') → sp vs H Q E → sp vs H Q' E) : OpR X (compareOp .NotEq) (rNeO C sp) := by
  intro pins s σ H x y v u Q I rx ry h
  obtain ⟨a, b, dx, fs, dy, gs, rfl, rfl, ea, eb, hs⟩ := h
  cases rx
  cases ry
  obtain ⟨f, fd, h1, h2, hb, F⟩ := D.ex
  obtain ⟨f', nm, q, NN, bs, sn, sub, ab, col, dd, k0, k1, k2, k3, k5, oc, od, es, n, sl, l1, l2, sk, e1, e2, e3⟩ := N.ex
  obtain rfl : f = f' := by
    have z := h1.symm.trans e3
    cases z
    rfl
  obtain ⟨mA, J, _⟩ := ins_get I.hok ea
  obtain ⟨oA, J, _⟩ := J.look
  obtain ⟨mB, J2, _⟩ := ins_get I.hok eb
  obtain ⟨oB, J2, _⟩ := J2.look
  obtain ⟨of, lf, cf⟩ := isFn_obj h2
  have base : s.heap.OwnEqNoNe a C f "object" [.type "object"] :=
    ⟨_, of, nm, q, NN, bs, true, sn, sub, ab, col, dd, k0, k1, k2, k3, k5, "object.__new__", nsFind es, _, J.at_, J.cls, I.kIn _ _ l1, ⟨_, es, n, I.kIn _ _ l2, rfl, sk, fun _ => rfl⟩, find_of_nsIn l2 e1, I.kIn _ _ lf, cf, PySem.F.mro_object, PySem.F.cmp_object.eq.lookup, find_of_nsIn l2 e2⟩
  have e0 : Env0 X.prog X.w X.K X.mg X.base X.A.in1 X.stack s H := I.env0.in1
  have hl := F.len _ _ _ _ hs
  have r2 : Vals [V.ref a, V.ref b] [Value.ref a, Value.ref b] := .cons rfl (.cons rfl .nil)
  have run := F.run X.A.in1 X.stack s H ⟨[.ref a, .ref b], []⟩ [.ref a, .ref b] [.ref a, .ref b] _ E0 hr.in1 e0 (by
    have := hb s [.ref a, .ref b] I.kIn (by simpa using hl)
    simpa using this) r2 hs
  obtain ⟨hp, g, d, t, os⟩ := s
  refine compareOp_ne_ownEq PySem.F.cmp_object base J2.at_ J2.cls (by have := hr.un; omega) (wpAny_call (codeAny_mono run fun r s' hq => ?_))
  cases r with
  | error e => exact False.elim hq
  | ok fl =>
    cases fl with
    | ret w =>
      obtain ⟨z, H', I', rz, b', ez, ex⟩ := I.after hq
      subst ez
      cases rz
      exact ⟨b', rfl, .bl (!b'), H', I', rfl, ex⟩
    | next => exact False.elim hq
    | brk => exact False.elim hq
    | cont => exact False.elim hq
end
end L2
namespace GQ1
open PySem PySem.SeqAt GQ
open AutoSeq1 (wpAny_loadPart')
open MeetsSeq MeetsSeq2 MeetsSeq3 SeqRoads2
section
variable {prog : Program} {w : World} {A : Around} {E : Value → Shared → Prop}
/-- two lists of one item each, whose items are not equal -/
theorem one_ne {l b : Addr} {x y : Value} {xs ys : Array Value} {n m : Nat} {st : Shared} {Q : Value → Shared → Prop} (hu : A.units < cLine) (hl : st.heap.get? l = some { cls := .type "list", data := .seq xs n }) (hb : st.heap.get? b = some { cls := .type "list", data := .seq ys m })
    (sx : xs.size = 1) (sy : ys.size = 1) (ex : xs[((0 : Int)).toNat]? = some x) (ey : ys[((0 : Int)).toNat]? = some y)
    (item : wpAny (model prog w) A.in1 (eqBool x y) (fun r s' => r = false ∧ (∃ zs us n' m', s'.heap.get? l = some { cls := .type "list", data := .seq zs n' } ∧ s'.heap.get? b = some { cls := .type "list", data := .seq us m' } ∧ zs[((0 : Int)).toNat]?.isSome = true ∧ us[((0 : Int)).toNat]?.isSome = true) ∧ Q (.bool false) s') E st) :
    wpAny (model prog w) A (richCompare .Eq (.ref l) (.ref b)) Q E st := by
  refine wpAny_richCompare_same_room (op := .Eq) ⟨_, hl, rfl⟩ ⟨_, hb, rfl⟩ F.slot_list_eq (call_here F.slot_list_eq ⟨_, hl, rfl⟩ F.entry_list_eq (F.args_list_eq_2 _ _) ?_) hu
  have sub := AutoSeq1.sub_list_list
  have turn : wpAny (model prog w) A.in1 (Builtin.«list.__eq__.loop» ⟨[.ref l, .ref b, rawInt 0, rawInt 2], []⟩) (FinOf prog w A (wants (fun v s' => v ≠ .notImplemented ∧ Q v s') E)) (fun e s' => wants (fun v s' => v ≠ .notImplemented ∧ Q v s') E (.error e) s') st := by
    obtain ⟨hp, g, d, tk, os⟩ := st
    wp_walk using wpAny_loadPart' hl, wpAny_loadPart' hb
    rw [ex, ey]
    refine wpAny_bind (wpAny_mono item (fun r s2 q => ?_) fun _ _ z => z)
    obtain ⟨hr, ⟨zs, us, n', m', hl2, hb2, i1, i2⟩, q⟩ := q
    subst hr
    obtain ⟨z, e1⟩ := Option.isSome_iff_exists.mp i1
    obtain ⟨u, e2⟩ := Option.isSome_iff_exists.mp i2
    obtain ⟨hp2, g2, d2, tk2, os2⟩ := s2
    wp_walk using wpAny_loadPart' hl2, wpAny_loadPart' hb2
    rw [e1, e2]
    wp_walk
    exact ⟨(fun z => nomatch z), q⟩
  have same : ¬ (xs.size != ys.size) = true := by simp [sx, sy]
  obtain ⟨hp, g, d, tk, os⟩ := st
  wp_walk using wpAny_loadPart' hl, wpAny_loadPart' hb
  exact ⟨plainId_quiet plain_eq_loop _, codeAny_builtin entry_eq_loop (by
    rw [Around.under_plainId plain_eq_loop _]
    exact turn)⟩
theorem eq_other {a : Addr} {y : Value} {st : Shared} {Q : Bool → Shared → Prop} (hy : y = .none) (h : wpAny (model prog w) A (richCompare .Eq (.ref a) y) (fun v s' => ∃ r, v = .bool r ∧ Q r s') E st) : wpAny (model prog w) A (eqBool (.ref a) y) Q E st := by
  subst hy
  unfold eqBool
  refine wpAny_holding ?_
  refine wpAny_ite_split (fun z => absurd (eq_of_beq z) (fun z => nomatch z)) fun _ => ?_
  refine wpAny_bind (wpAny_mono h (fun v s' hv => ?_) fun _ _ z => z)
  obtain ⟨r, rfl, q⟩ := hv
  exact wpAny_truthy_bool q
end
end GQ1
namespace L2
open PySem PySem.Spec PyProof.Rows
section
variable {X : Cx} {C : Addr} {k : Nat} {sp : Sp}
/-- [a] == [None], a an instance that is not equal to None -/
def rEq1 (K : PySem.W.Frag) (C : Addr) (sp : Sp) : R2 := fun x y H Q => ∃ l b a dx fs, x = .ref l ∧ y = .ref b ∧ H l = some (.lst [.ref a]) ∧ H b = some (.lst [.non]) ∧ H a = some (.ins C dx fs) ∧ PySem.W.notFirst K C (.type "NoneType") = true ∧ sp [.ref a, .non] H (fun v H' => v = .bl false ∧ H' = H) E0 ∧ Q (.bl false) H
theorem op_eq1 (D : EqOk X.prog X.w X.K X.mg X.base C k sp) (hr : Room (k + 1) X.A) (mono : ∀ vs H Q Q' E, (∀ v H', Q v H' → Q' v H') → sp vs H Q E → sp vs H Q' E) : OpR X (compareOp .Eq) (rEq1 X.K C sp) := by
  intro pins s σ H x y v u Q I rx ry h
  obtain ⟨l, b, a, dx, fs, rfl, rfl, hl, hb, ha, hn, hs, q⟩ := h
  cases rx
  cases ry
  obtain ⟨_, its, n, r1, h1⟩ := (show ObjOk X.prog X.w H s.heap l (.lst [.ref a]) from I.hok l _ hl)
  obtain ⟨_, its2, m, r2, h2⟩ := (show ObjOk X.prog X.w H s.heap b (.lst [.non]) from I.hok b _ hb)
  cases r1 with | cons q1 t1 =>
  cases t1
  cases q1
  cases r2 with | cons q2 t2 =>
  cases t2
  cases q2
  show wpAny (model X.prog X.w) X.A (richCompare .Eq (.ref l) (.ref b)) (EP X pins σ Q) X.xe s
  refine GQ1.one_ne (x := .ref a) (y := .none) hr.units0 h1 h2 rfl rfl rfl rfl (GQ1.eq_other rfl (wpAny_mono (run_eqO D (R := fun c s' => c = false ∧ Inv X pins σ H s' ∧ True) (hr.in1) rfl I ha (show RelV .non Value.none from rfl) .non hn (mono _ _ _ _ _ (fun v H' z => ?_) hs)) (fun r s' z => ?_) fun _ _ z => z))
  · obtain ⟨rfl, rfl⟩ := z
    exact ⟨false, rfl, fun s' I' => ⟨rfl, I', True.intro⟩⟩
  · obtain ⟨c, rfl, rfl, I', _⟩ := z
    obtain ⟨_, jts, n', r1, g1⟩ := (show ObjOk X.prog X.w H s'.heap l (.lst [.ref a]) from I'.hok l _ hl)
    obtain ⟨_, jts2, m', r2, g2⟩ := (show ObjOk X.prog X.w H s'.heap b (.lst [.non]) from I'.hok b _ hb)
    cases r1 with | cons q1 t1 =>
    cases t1
    cases q1
    cases r2 with | cons q2 t2 =>
    cases t2
    cases q2
    exact ⟨false, rfl, rfl, ⟨_, _, n', m', g1, g2, rfl, rfl⟩, .bl false, H, I', rfl, q⟩
end
end L2

/-! for k in w, w a dict of the module whose keys are texts. -/
namespace L2
open PySem PySem.Spec PyProof.Rows
/-- the keys of such a dict -/
def keysL : List DictEntry → Option (List Str)
  | [] => some []
  | e :: r => match e.key, keysL r with
    | .str z _, some zs => some (z :: zs)
    | _, _ => none
theorem keysL_cons {e : DictEntry} {r : List DictEntry} {ks : List Str} (h : keysL (e :: r) = some ks) : ∃ z t zs, e.key = .str z t ∧ keysL r = some zs ∧ ks = z :: zs := by
  unfold keysL at h
  split at h
  · rename_i z t zs e1 e2
    cases h
    exact ⟨z, t, zs, e1, e2, rfl⟩
  · cases h
theorem keysL_len : ∀ {es : List DictEntry} {ks : List Str}, keysL es = some ks → ks.length = es.length
  | [], ks, h => by
    cases h
    rfl
  | e :: r, ks, h => by
    obtain ⟨z, t, zs, _, h2, rfl⟩ := keysL_cons h
    rw [List.length_cons, List.length_cons, keysL_len h2]
theorem keysL_get : ∀ {es : List DictEntry} {ks : List Str} {i : Nat}, keysL es = some ks → i < ks.length → ∃ e z t, es[i]? = some e ∧ e.key = .str z t ∧ ks[i]? = some z
  | [], ks, i, h, hi => by
    cases h
    exact absurd hi (Nat.not_lt_zero _)
  | e :: r, ks, i, h, hi => by
    obtain ⟨z, t, zs, h1, h2, rfl⟩ := keysL_cons h
    cases i with
    | zero => exact ⟨e, z, t, rfl, h1, rfl⟩
    | succ i =>
      obtain ⟨e', z', t', a, b, c⟩ := keysL_get h2 (i := i) (by simpa using hi)
      exact ⟨e', z', t', by simpa using a, b, by simpa using c⟩
/-- turns over the texts ks -/
def Iwk (ks : List Str) : It := ⟨fun i _ => i < ks.length, fun i H x H' => H' = H ∧ ∃ z, ks[i]? = some z ∧ x = .str z, fun i _ => ks.length ≤ i⟩
theorem walk_wk {ks : List Str} : Walk (Iwk ks) ks.length (fun _ => True) (fun i H x H' => H' = H ∧ ∃ z, ks[i]? = some z ∧ x = .str z) :=
  ⟨fun _ _ h _ => h, fun _ _ => Nat.le_refl _, fun _ _ _ _ _ _ y => y⟩
section
variable {P : Program} {w : World} {K : PySem.W.Frag} {tg : Expr}
theorem turn_wk {a : Addr} {es : Array DictEntry} {n : Nat} {ks : List Str} (it : Addr) (hl : K.lookup a = some ⟨.type "dict", none, .dict es n, #[]⟩) (hk : keysL es.toList = some ks) :
    Turn P w K tg (Iwk ks) [it] it (fun i h => h.IsKeyIter it a i ks.length n) where
  mem := List.mem_singleton.mpr rfl
  obj := fun i h st b hb => by
    obtain rfl : b = it := List.mem_singleton.mp hb
    obtain ⟨o, e1, _, e3⟩ := st
    exact ⟨o, e1, fun v z => by rw [e3] at z; cases z⟩
  keep := fun i h h' st k => st.at fun o e => k it (List.mem_singleton.mpr rfl) o e
  item := by
    intro X eP ew eK hc i pins s σ H E I hf st hg
    subst eP ew eK
    obtain ⟨f0, f1, f2, f3, f4, f5⟩ := hf it (List.mem_singleton.mpr rfl)
    obtain ⟨en, z, tk, e1, e2, e3⟩ := keysL_get hk hg
    have hsz : es.size = ks.length := by rw [keysL_len hk, Array.length_toList]
    refine next_key_item st (I.kIn _ _ hl) rfl hsz (by rw [← Array.getElem?_toList]; exact e1) fun h' st' sb => ?_
    have J : Inv X pins σ H { s with heap := h' } := I.turned (t' := s.toks) (fun b o hb q => (sb.2 b hb).trans q) f0 f1 f3 f4 f5
    obtain ⟨o, q1, q2, q3⟩ := id st'
    refine ⟨en.key, rfl, go_of (s := { s with heap := h' }) q1 q2 q3 (by decide) ⟨.str z, H, J, ?_, ⟨rfl, z, e3, rfl⟩, st', fun b hb => (hf b hb).1⟩⟩
    rw [e2]
    exact ⟨tk, rfl⟩
  done := by
    intro X eP ew eK hc i pins s σ H E I hf st hg
    subst eP ew eK
    obtain ⟨f0, f1, f2, f3, f4, f5⟩ := hf it (List.mem_singleton.mpr rfl)
    have hsz : es.size = ks.length := by rw [keysL_len hk, Array.length_toList]
    exact next_key_end (I.ok.hd hc) st (I.kIn _ _ hl) rfl hsz hg fun h' eb => ⟨rfl, I.turned (t' := s.toks) (fun b o hb q => eb b o hb q) f0 f1 f3 f4 f5⟩
  self := fun B j s Q E turned more => by
    have hT := turned.typeIs
    exact wpAny_pyIter_slot hT F.slot_dict_keyiterator_iter (wpAny_call_entry F.slot_dict_keyiterator_iter hT F.entry_dict_keyiterator_iter (wpAny_pure ⟨_, rfl, "dict_keyiterator", _, hT, F.slot_dict_keyiterator_next.lookup, more⟩) (F.args_dict_keyiterator_iter_1 _))
end
def iWk (K : PySem.W.Frag) (td : TE) : TI := fun σ H R => td σ H fun x H1 => ∃ a es n ks, x = .ref a ∧ K.lookup a = some ⟨.type "dict", none, .dict es n, #[]⟩ ∧ (a == sysModules) = false ∧ keysL es.toList = some ks ∧ R (Iwk ks) H1
theorem pi_wk {X : Cx} {tg e : Expr} {td : TE} (he : PE X e td) : PI X tg e (iWk X.K td) := by
  refine ⟨fun pins s σ H R I h => ?_⟩
  refine thn (he.run pins s σ H _ I h) fun u s1 ⟨x, H1, I1, rx, a, es, n, ks, ex, hl, hs, hk, q⟩ => ?_
  subst ex
  obtain rfl : u = Value.ref a := rx
  have hsz : es.size = ks.length := by rw [keysL_len hk, Array.length_toList]
  refine iter_keys hs (I1.kIn _ _ hl) ⟨rfl, rfl, rfl⟩ rfl (pi_one (tk := s1.toks) I1 _ (turn_wk _ hl hk) ⟨_, Heap.get?_push_size _ rfl, rfl, ?_⟩ q)
  rw [hsz] <;> rfl
end L2

/-! Documents as plain data: rows, their texts, and how a text is read. -/
namespace Lw
open PySem L2
def GoodS (n : Nat) (z : Str) : Prop := z.cps.size ≤ n ∧ ∀ c ∈ z.cps.toList, 32 ≤ c ∧ c ≤ 126
inductive Row where
  | text (z : Str) | line (z : Str) | hard | cat (ps : List Int) | nest (n j : Int) | align (j : Int) | group (j : Int)
def Row.data : Row → PyData
  | .text z => .tuple [.str "text", .str z]
  | .line z => .tuple [.str "line", .str z]
  | .hard => .tuple [.str "hard"]
  | .cat ps => .tuple [.str "cat", .list (ps.map .int)]
  | .nest n j => .tuple [.str "nest", .int n, .int j]
  | .align j => .tuple [.str "align", .int j]
  | .group j => .tuple [.str "group", .int j]
def Row.ok (k : Nat) : Row → Prop
  | .text z => GoodS 20 z
  | .line z => GoodS 3 z
  | .hard => True
  | .cat ps => ps.length ≤ 8 ∧ ∀ j ∈ ps, 0 ≤ j ∧ j < k
  | .nest n j => 0 ≤ n ∧ n ≤ 8 ∧ 0 ≤ j ∧ j < k
  | .align j => 0 ≤ j ∧ j < k
  | .group j => 0 ≤ j ∧ j < k
theorem GoodS.mono {n m : Nat} {z : Str} (h : GoodS n z) (hm : n ≤ m) : GoodS m z := ⟨Nat.le_trans h.1 hm, h.2⟩
def OkRows (rs : List Row) : Prop := ∀ (i : Nat) (r : Row), rs[i]? = some r → Row.ok i r
theorem OkRows.snoc {rs : List Row} {r : Row} (h : OkRows rs) (hr : r.ok rs.length) : OkRows (rs ++ [r]) := fun i q e => by
  rcases Nat.lt_trichotomy i rs.length with l | l | l
  · rw [List.getElem?_append_left l] at e
    exact h i q e
  · subst l
    rw [List.getElem?_append_right (Nat.le_refl _), Nat.sub_self] at e
    cases e
    exact hr
  · rw [List.getElem?_eq_none (by rw [List.length_append, List.length_singleton]; omega)] at e
    cases e
def Row.kind : Row → Str
  | .text _ => "text" | .line _ => "line" | .hard => "hard" | .cat _ => "cat" | .nest _ _ => "nest" | .align _ => "align" | .group _ => "group"

/-! ### a line is read -/
def comm : List Nat → List Nat → Nat
  | a :: as, b :: bs => if a = b then comm as bs + 1 else 0
  | _, _ => 0
/-- digits of a number less than e -/
def digs (e : Nat) : List Nat → Option Nat → Nat → Option Nat × Nat
  | [], n, s => (n, s)
  | c :: r, n, s => if 48 ≤ c ∧ c ≤ 57 then (if n = some 0 ∨ e ≤ n.getD 0 * 10 + (c - 48) then (n, s) else digs e r (some (n.getD 0 * 10 + (c - 48))) (s + 1)) else (n, s)
def rdNum (l : List Nat) (s e : Nat) : Option Nat × Nat := if e = 0 ∨ l[s]? ≠ some 32 then (none, s) else digs e (l.drop (s + 1)) none (s + 1)
def good (c : Nat) : Bool := decide (32 ≤ c ∧ c ≤ 126)
def run : Nat → List Nat → Nat
  | 0, _ => 0
  | _ + 1, [] => 0
  | m + 1, c :: r => if good c then run m r + 1 else 0
/-- k: the length of the kind -/
def rdStr (k : Nat) (l : List Nat) (most : Nat) : Option (List Nat) × Nat :=
  if l[k]? ≠ some 32 then (none, k) else if k + 1 + run most (l.drop (k + 1)) < l.length then (none, k + 1 + run most (l.drop (k + 1))) else (some (l.drop (k + 1)), k + 1 + run most (l.drop (k + 1)))
def rdParts (l : List Nat) (k : Nat) : Nat → Nat → List Nat → Option (List Nat) × Nat
  | 0, s, ps => if s < l.length then (none, s) else (some ps, s)
  | m + 1, s, ps => if s < l.length then (match rdNum l s k with | (none, t) => (none, t) | (some p, t) => rdParts l k m t (ps ++ [p])) else (some ps, s)
def rdNums (l : List Nat) : List Nat → Nat → List Nat → Option (List Nat) × Nat
  | [], s, fs => if s < l.length then (none, s) else (some fs, s)
  | e :: es, s, fs => match rdNum l s e with | (none, t) => (none, t) | (some n, t) => rdNums l es t (fs ++ [n])
inductive Kind where
  | text | line | hard | cat | nest | align | group
  deriving DecidableEq
def Kind.str : Kind → Str
  | .text => "text" | .line => "line" | .hard => "hard" | .cat => "cat" | .nest => "nest" | .align => "align" | .group => "group"
def Kind.cps (q : Kind) : List Nat := q.str.cps.toList
def kinds : List Kind := [.text, .line, .hard, .cat, .nest, .align, .group]
def Kind.needs : Kind → Bool
  | .nest => true | .align => true | .group => true | _ => false
def strOf (l : List Nat) : Str := ⟨l.toArray⟩
def rdKind (q : Kind) (l : List Nat) (k : Nat) : Option Row × Nat :=
  if k = 0 ∧ q.needs = true then (none, 0) else
  if comm q.cps l < q.cps.length then (none, comm q.cps l) else
  match q with
  | .text => match rdStr 4 l 20 with | (none, s) => (none, s) | (some z, s) => (some (.text (strOf z)), s)
  | .line => match rdStr 4 l 3 with | (none, s) => (none, s) | (some z, s) => (some (.line (strOf z)), s)
  | .cat => match rdParts l k 8 3 [] with | (none, s) => (none, s) | (some ps, s) => (some (.cat (ps.map Int.ofNat)), s)
  | .nest => match rdNums l [9, k] 4 [] with | (some [n, j], s) => (some (.nest n j), s) | (_, s) => (none, s)
  | .hard => match rdNums l [] 4 [] with | (some _, s) => (some .hard, s) | (none, s) => (none, s)
  | .align => match rdNums l [k] 5 [] with | (some [j], s) => (some (.align j), s) | (_, s) => (none, s)
  | .group => match rdNums l [k] 5 [] with | (some [j], s) => (some (.group j), s) | (_, s) => (none, s)
def rdRow (l : List Nat) (k : Nat) : List Kind → Nat → Option Row × Nat
  | [], m => (none, m)
  | q :: qs, m => match rdKind q l k with | (some r, s) => (some r, s) | (none, s) => rdRow l k qs (max m s)
def rdDoc : List (List Nat) → List Row → Except (Nat × Nat) (List Row)
  | [], rs => .ok rs
  | l :: ls, rs => if rs.length = 200 then .error (200, 0) else match rdRow l rs.length kinds 0 with | (none, s) => .error (rs.length, s) | (some r, _) => rdDoc ls (rs ++ [r])

/-! ### what is read is a row -/
theorem digs_lt {e : Nat} : ∀ {l : List Nat} {n : Option Nat} {s : Nat} {m t : Nat}, digs e l n s = (some m, t) → (∀ a, n = some a → a < e) → m < e
  | [], n, s, m, t, h, hn => by
    cases h
    exact hn m rfl
  | c :: r, n, s, m, t, h, hn => by
    unfold digs at h
    split at h
    · split at h
      · cases h
        exact hn m rfl
      · rename_i h2
        refine digs_lt h fun a ha => ?_
        cases ha
        omega
    · cases h
      exact hn m rfl
theorem rdNum_lt {l : List Nat} {s e m t : Nat} (h : rdNum l s e = (some m, t)) : m < e := by
  unfold rdNum at h
  split at h
  · cases h
  · exact digs_lt h fun a ha => nomatch ha
theorem run_le : ∀ (m : Nat) (l : List Nat), run m l ≤ m ∧ run m l ≤ l.length
  | 0, l => ⟨Nat.le_refl _, Nat.zero_le _⟩
  | m + 1, [] => ⟨Nat.zero_le _, Nat.zero_le _⟩
  | m + 1, c :: r => by
    have := run_le m r
    unfold run
    rw [List.length_cons]
    split <;> omega
theorem run_good : ∀ (m : Nat) (l : List Nat) (i : Nat), i < run m l → ∃ c, l[i]? = some c ∧ good c = true
  | 0, l, i, h => absurd h (Nat.not_lt_zero _)
  | m + 1, [], i, h => absurd h (Nat.not_lt_zero _)
  | m + 1, c :: r, i, h => by
    unfold run at h
    split at h
    · rename_i hc
      cases i with
      | zero => exact ⟨c, rfl, hc⟩
      | succ i => exact run_good m r i (by omega)
    · omega
theorem rdStr_ok {k most s : Nat} {l z : List Nat} (h : rdStr k l most = (some z, s)) : GoodS most (strOf z) := by
  unfold rdStr at h
  split at h
  · cases h
  split at h
  · cases h
  rename_i h2
  cases h
  have r1 := run_le most (l.drop (k + 1))
  rw [List.length_drop] at r1
  refine ⟨?_, fun c hc => ?_⟩
  · show (l.drop (k + 1)).toArray.size ≤ most
    rw [List.size_toArray, List.length_drop]
    omega
  · obtain ⟨i, hi⟩ := List.mem_iff_getElem?.mp (show c ∈ l.drop (k + 1) by simpa [strOf] using hc)
    have hlt : i < (l.drop (k + 1)).length := (List.getElem?_eq_some_iff.mp hi).1
    rw [List.length_drop] at hlt
    obtain ⟨d, h1, h2⟩ := run_good most (l.drop (k + 1)) i (by omega)
    rw [hi] at h1
    cases h1
    exact of_decide_eq_true h2
theorem rdParts_ok {l : List Nat} {k : Nat} : ∀ {m s : Nat} {ps qs : List Nat} {t : Nat}, rdParts l k m s ps = (some qs, t) → (∀ p ∈ ps, p < k) → qs.length ≤ ps.length + m ∧ ∀ p ∈ qs, p < k
  | 0, s, ps, qs, t, h, hp => by
    unfold rdParts at h
    split at h <;> cases h
    exact ⟨Nat.le_refl _, hp⟩
  | m + 1, s, ps, qs, t, h, hp => by
    unfold rdParts at h
    split at h
    · split at h
      · cases h
      · rename_i p t' e
        have := rdParts_ok h fun q hq => by
          rcases List.mem_append.mp hq with hq | hq
          · exact hp q hq
          · rw [List.mem_singleton.mp hq]
            exact rdNum_lt e
        rw [List.length_append, List.length_singleton] at this
        exact ⟨by omega, this.2⟩
    · cases h
      exact ⟨by omega, hp⟩
theorem rdNums1 {l : List Nat} {e s j t : Nat} {fs : List Nat} (h : rdNums l [e] s [] = (some fs, t)) : ∃ j, fs = [j] ∧ j < e := by
  unfold rdNums at h
  split at h
  · cases h
  · rename_i n t' e1
    unfold rdNums at h
    split at h <;> cases h
    exact ⟨n, rfl, rdNum_lt e1⟩
theorem rdNums2 {l : List Nat} {e e' s j t : Nat} {fs : List Nat} (h : rdNums l [e, e'] s [] = (some fs, t)) : ∃ i j, fs = [i, j] ∧ i < e ∧ j < e' := by
  unfold rdNums at h
  split at h
  · cases h
  · rename_i n t' e1
    unfold rdNums at h
    split at h
    · cases h
    · rename_i m t2 e2
      unfold rdNums at h
      split at h <;> cases h
      exact ⟨n, m, rfl, rdNum_lt e1, rdNum_lt e2⟩
theorem rdKind_ok {q : Kind} {l : List Nat} {k s : Nat} {r : Row} (h : rdKind q l k = (some r, s)) : r.ok k := by
  unfold rdKind at h
  split at h
  · cases h
  split at h
  · cases h
  cases q with
  | text =>
    dsimp only at h
    split at h <;> cases h
    exact rdStr_ok (by assumption)
  | line =>
    dsimp only at h
    split at h <;> cases h
    exact rdStr_ok (by assumption)
  | hard =>
    dsimp only at h
    split at h <;> cases h
    exact True.intro
  | cat =>
    dsimp only at h
    split at h <;> cases h
    rename_i ps e
    have := rdParts_ok e fun p hp => nomatch hp
    refine ⟨by rw [List.length_map]; simpa using this.1, fun j hj => ?_⟩
    obtain ⟨n, hn, rfl⟩ := List.mem_map.mp hj
    exact ⟨Int.natCast_nonneg n, Int.ofNat_lt.mpr (this.2 n hn)⟩
  | nest =>
    dsimp only at h
    split at h <;> cases h
    rename_i n j e
    obtain ⟨a, b, e1, h1, h2⟩ := rdNums2 (j := 0) e
    cases e1
    exact ⟨Int.natCast_nonneg _, by omega, Int.natCast_nonneg _, Int.ofNat_lt.mpr h2⟩
  | align =>
    dsimp only at h
    split at h <;> cases h
    rename_i j e
    obtain ⟨a, e1, h1⟩ := rdNums1 (j := 0) e
    cases e1
    exact ⟨Int.natCast_nonneg _, Int.ofNat_lt.mpr h1⟩
  | group =>
    dsimp only at h
    split at h <;> cases h
    rename_i j e
    obtain ⟨a, e1, h1⟩ := rdNums1 (j := 0) e
    cases e1
    exact ⟨Int.natCast_nonneg _, Int.ofNat_lt.mpr h1⟩
theorem rdRow_ok {l : List Nat} {k : Nat} {r : Row} {s : Nat} : ∀ {qs : List Kind} {m : Nat}, rdRow l k qs m = (some r, s) → r.ok k
  | [], m, h => by cases h
  | q :: qs, m, h => by
    unfold rdRow at h
    split at h
    · cases h
      exact rdKind_ok (by assumption)
    · exact rdRow_ok h
theorem rdDoc_ok : ∀ {ls : List (List Nat)} {rs qs : List Row}, rdDoc ls rs = .ok qs → OkRows rs → rs.length ≤ 200 → OkRows qs ∧ qs.length ≤ 200 ∧ qs.length = rs.length + ls.length
  | [], rs, qs, h, ho, hl => by
    cases h
    exact ⟨ho, hl, rfl⟩
  | l :: ls, rs, qs, h, ho, hl => by
    unfold rdDoc at h
    split at h
    · cases h
    split at h
    · cases h
    · rename_i hne r s e
      have := rdDoc_ok h (ho.snoc (rdRow_ok e)) (by rw [List.length_append, List.length_singleton]; omega)
      rw [List.length_append, List.length_singleton] at this
      rw [List.length_cons]
      exact ⟨this.1, this.2.1, by omega⟩

/-! ### the text of a row, and back -/
def dg (n : Nat) : List Nat := if n < 10 then [48 + n] else if n < 100 then [48 + n / 10, 48 + n % 10] else [48 + n / 100, 48 + n / 10 % 10, 48 + n % 10]
/-- the words of a row behind its kind -/
def Row.words : Row → List (List Nat)
  | .text z => [z.cps.toList]
  | .line z => [z.cps.toList]
  | .hard => []
  | .cat ps => ps.map fun p => dg p.toNat
  | .nest n j => [dg n.toNat, dg j.toNat]
  | .align j => [dg j.toNat]
  | .group j => [dg j.toNat]
def tailL (ws : List (List Nat)) : List Nat := ws.flatMap fun w => 32 :: w
def Row.q : Row → Kind
  | .text _ => .text | .line _ => .line | .hard => .hard | .cat _ => .cat | .nest _ _ => .nest | .align _ => .align | .group _ => .group
def Row.codes (r : Row) : List Nat := r.q.cps ++ tailL r.words
theorem digs_dg {e n : Nat} {r : List Nat} {s : Nat} (hn : n < e) (he : e ≤ 1000) (hr : r = [] ∨ ∃ t, r = 32 :: t) : digs e (dg n ++ r) none s = (some n, s + (dg n).length) := by
  have stop : ∀ (m : Nat) (s : Nat), digs e r (some m) s = (some m, s) := fun m s => by
    rcases hr with rfl | ⟨t, rfl⟩
    · rfl
    · unfold digs
      rw [if_neg (by decide)]
  have step : ∀ (o : Option Nat) (d : Nat) (s : Nat) (t : List Nat), d < 10 → o ≠ some 0 → o.getD 0 * 10 + d < e → digs e ((48 + d) :: t) o s = digs e t (some (o.getD 0 * 10 + d)) (s + 1) := fun o d s t hd ho hlt => by
    conv => lhs; unfold digs
    rw [if_pos (by omega), show 48 + d - 48 = d by omega, if_neg (by rintro (h | h) <;> first | exact ho h | omega)]
  unfold dg
  split
  · rename_i h
    rw [List.cons_append, step none n s _ h (fun z => nomatch z) (by simpa using hn)]
    simpa using stop n (s + 1)
  split
  · rename_i h1 h
    rw [List.cons_append, step none (n / 10) s _ (by omega) (fun z => nomatch z) (by simp; omega), List.cons_append, step _ (n % 10) _ _ (by omega) (fun z => by
      have := Option.some.inj z
      simp at this
      omega) (by simp; omega)]
    have e1 : (some (Option.getD none 0 * 10 + n / 10)).getD 0 * 10 + n % 10 = n := by simp; omega
    rw [e1]
    exact stop n (s + 2)
  · rename_i h1 h
    rw [List.cons_append, step none (n / 100) s _ (by omega) (fun z => nomatch z) (by simp; omega), List.cons_append, step _ (n / 10 % 10) _ _ (by omega) (fun z => by
      have := Option.some.inj z
      simp at this
      omega) (by simp; omega), List.cons_append, step _ (n % 10) _ _ (by omega) (fun z => by
      have := Option.some.inj z
      simp at this
      omega) (by simp; omega)]
    have e1 : (some ((some (Option.getD none 0 * 10 + n / 100)).getD 0 * 10 + n / 10 % 10)).getD 0 * 10 + n % 10 = n := by simp; omega
    rw [e1]
    exact stop n (s + 3)
/-- l is p, then w -/
theorem rdNum_dg {p : List Nat} {e n : Nat} {r : List Nat} (hn : n < e) (he : e ≤ 1000) (hr : r = [] ∨ ∃ t, r = 32 :: t) : rdNum (p ++ 32 :: (dg n ++ r)) p.length e = (some n, p.length + (1 + (dg n).length)) := by
  unfold rdNum
  rw [if_neg (by
    rintro (h | h)
    · omega
    · exact h (by rw [List.getElem?_append_right (Nat.le_refl _), Nat.sub_self]; rfl)), show p ++ 32 :: (dg n ++ r) = (p ++ [32]) ++ (dg n ++ r) by simp, List.drop_append_of_le_length (by simp), show List.drop (p.length + 1) (p ++ [32]) = [] from List.drop_eq_nil_of_le (by simp), List.nil_append, digs_dg hn he hr]
  congr 1
  omega
theorem tail_shape (ws : List (List Nat)) : tailL ws = [] ∨ ∃ t, tailL ws = 32 :: t := by
  cases ws with
  | nil => exact .inl rfl
  | cons w ws => exact .inr ⟨w ++ tailL ws, by simp [tailL]⟩
theorem tail_cons (w : List Nat) (ws : List (List Nat)) : tailL (w :: ws) = 32 :: (w ++ tailL ws) := by simp [tailL]
theorem rdParts_back {k : Nat} (hk : k ≤ 1000) : ∀ (ps : List Nat) (p : List Nat) (m : Nat) (qs : List Nat), ps.length ≤ m → (∀ j ∈ ps, j < k) → ∃ t, rdParts (p ++ tailL (ps.map dg)) k m p.length qs = (some (qs ++ ps), t)
  | [], p, 0, qs, hm, hj => ⟨p.length, by
    unfold rdParts
    rw [if_neg (by simp [tailL])]
    simp⟩
  | [], p, m + 1, qs, hm, hj => ⟨p.length, by
    unfold rdParts
    rw [if_neg (by simp [tailL])]
    simp⟩
  | j :: ps, p, 0, qs, hm, hj => absurd hm (by simp)
  | j :: ps, p, m + 1, qs, hm, hj => by
    have e := rdNum_dg (p := p) (hj j List.mem_cons_self) hk (tail_shape (ps.map dg))
    obtain ⟨t, ht⟩ := rdParts_back hk ps (p ++ 32 :: dg j) m (qs ++ [j]) (by simpa using hm) fun i hi => hj i (List.mem_cons_of_mem _ hi)
    refine ⟨t, ?_⟩
    rw [List.map_cons, tail_cons]
    unfold rdParts
    rw [if_pos (by rw [List.length_append, List.length_cons]; omega), e]
    dsimp only
    have e2 : p.length + (1 + (dg j).length) = (p ++ 32 :: dg j).length := by rw [List.length_append, List.length_cons]; omega
    have e3 : p ++ 32 :: (dg j ++ tailL (ps.map dg)) = (p ++ 32 :: dg j) ++ tailL (ps.map dg) := by simp
    rw [e2, e3, ht]
    simp
theorem rdNums_back : ∀ (es ns : List Nat) (p : List Nat) (qs : List Nat), es.length = ns.length → (∀ (i e n : Nat), es[i]? = some e → ns[i]? = some n → n < e ∧ e ≤ 1000) → ∃ t, rdNums (p ++ tailL (ns.map dg)) es p.length qs = (some (qs ++ ns), t)
  | [], [], p, qs, hl, h => ⟨p.length, by
    unfold rdNums
    rw [if_neg (by simp [tailL])]
    simp⟩
  | [], n :: ns, p, qs, hl, h => absurd hl (by simp)
  | e :: es, [], p, qs, hl, h => absurd hl (by simp)
  | e :: es, n :: ns, p, qs, hl, h => by
    obtain ⟨h1, h2⟩ := h 0 e n rfl rfl
    have e1 := rdNum_dg (p := p) h1 h2 (tail_shape (ns.map dg))
    obtain ⟨t, ht⟩ := rdNums_back es ns (p ++ 32 :: dg n) (qs ++ [n]) (by simpa using hl) fun i a b ha hb => h (i + 1) a b ha hb
    refine ⟨t, ?_⟩
    rw [List.map_cons, tail_cons]
    unfold rdNums
    rw [e1]
    dsimp only
    have e2 : p.length + (1 + (dg n).length) = (p ++ 32 :: dg n).length := by rw [List.length_append, List.length_cons]; omega
    have e3 : p ++ 32 :: (dg n ++ tailL (ns.map dg)) = (p ++ 32 :: dg n) ++ tailL (ns.map dg) := by simp
    rw [e2, e3, ht]
    simp
theorem run_all : ∀ (l : List Nat) (m : Nat), l.length ≤ m → (∀ c ∈ l, good c = true) → run m l = l.length
  | [], 0, _, _ => rfl
  | [], _ + 1, _, _ => rfl
  | c :: r, 0, h, _ => absurd h (by simp)
  | c :: r, m + 1, h, hg => by
    unfold run
    rw [if_pos (hg c List.mem_cons_self), run_all r m (by simpa using h) fun d hd => hg d (List.mem_cons_of_mem _ hd)]
    rfl
theorem rdStr_back {p : List Nat} {z : Str} {most : Nat} (h : GoodS most z) : ∃ t, rdStr p.length (p ++ 32 :: z.cps.toList) most = (some z.cps.toList, t) := by
  have e : (p ++ 32 :: z.cps.toList).drop (p.length + 1) = z.cps.toList := by
    rw [show p ++ 32 :: z.cps.toList = (p ++ [32]) ++ z.cps.toList by simp, List.drop_append_of_le_length (by simp), show List.drop (p.length + 1) (p ++ [32]) = [] from List.drop_eq_nil_of_le (by simp), List.nil_append]
  have hr := run_all z.cps.toList most (by simpa using h.1) fun c hc => decide_eq_true (h.2 c hc)
  refine ⟨p.length + 1 + z.cps.toList.length, ?_⟩
  unfold rdStr
  rw [if_neg (by
    intro hne
    exact hne (by rw [List.getElem?_append_right (Nat.le_refl _), Nat.sub_self]; rfl)), e, hr, if_neg (by rw [List.length_append, List.length_cons]; omega)]
theorem comm_self : ∀ (a b : List Nat), comm a (a ++ b) = a.length
  | [], b => by cases b <;> rfl
  | c :: a, b => by
    rw [List.cons_append]
    unfold comm
    rw [if_pos rfl, comm_self a b]
    rfl
theorem cps_text : Kind.cps .text = [116, 101, 120, 116] := by decide +kernel
theorem cps_line : Kind.cps .line = [108, 105, 110, 101] := by decide +kernel
theorem cps_hard : Kind.cps .hard = [104, 97, 114, 100] := by decide +kernel
theorem cps_cat : Kind.cps .cat = [99, 97, 116] := by decide +kernel
theorem cps_nest : Kind.cps .nest = [110, 101, 115, 116] := by decide +kernel
theorem cps_align : Kind.cps .align = [97, 108, 105, 103, 110] := by decide +kernel
theorem cps_group : Kind.cps .group = [103, 114, 111, 117, 112] := by decide +kernel
theorem rdKind_back {r : Row} {k : Nat} (h : r.ok k) (hk : k ≤ 1000) : ∃ t, rdKind r.q r.codes k = (some r, t) := by
  have h0 : ¬ (k = 0 ∧ r.q.needs = true) := by
    rintro ⟨rfl, hn⟩
    cases r with
    | nest n j => exact absurd (show 0 ≤ n ∧ n ≤ 8 ∧ 0 ≤ j ∧ j < (0 : Nat) from h) (by omega)
    | align j => exact absurd (show 0 ≤ j ∧ j < (0 : Nat) from h) (by omega)
    | group j => exact absurd (show 0 ≤ j ∧ j < (0 : Nat) from h) (by omega)
    | _ => cases hn
  unfold rdKind
  rw [if_neg h0, if_neg (by unfold Row.codes; rw [comm_self]; omega)]
  cases r with
  | text z =>
    obtain ⟨t, ht⟩ := rdStr_back (p := Kind.cps .text) (z := z) (most := 20) h
    refine ⟨t, ?_⟩
    have e : Row.codes (.text z) = Kind.cps .text ++ 32 :: z.cps.toList := by simp [Row.codes, Row.words, Row.q, tailL]
    have e4 : (Kind.cps .text).length = 4 := by rw [cps_text]; rfl
    rw [e4] at ht
    show (match rdStr 4 (Row.codes (.text z)) 20 with | (none, s) => (none, s) | (some z, s) => (some (Row.text (strOf z)), s)) = _
    rw [e, ht]
    rfl
  | line z =>
    obtain ⟨t, ht⟩ := rdStr_back (p := Kind.cps .line) (z := z) (most := 3) h
    refine ⟨t, ?_⟩
    have e : Row.codes (.line z) = Kind.cps .line ++ 32 :: z.cps.toList := by simp [Row.codes, Row.words, Row.q, tailL]
    have e4 : (Kind.cps .line).length = 4 := by rw [cps_line]; rfl
    rw [e4] at ht
    show (match rdStr 4 (Row.codes (.line z)) 3 with | (none, s) => (none, s) | (some z, s) => (some (Row.line (strOf z)), s)) = _
    rw [e, ht]
    rfl
  | hard =>
    obtain ⟨t, ht⟩ := rdNums_back [] [] (Kind.cps .hard) [] rfl fun i e n a => by simp at a
    have e4 : (Kind.cps .hard).length = 4 := by rw [cps_hard]; rfl
    rw [e4] at ht
    refine ⟨t, ?_⟩
    show (match rdNums (Row.codes .hard) [] 4 [] with | (some _, s) => (some Row.hard, s) | (none, s) => (none, s)) = _
    rw [show Row.codes .hard = Kind.cps .hard ++ tailL (([] : List Nat).map dg) from rfl, ht]
  | cat ps =>
    obtain ⟨h8, hp⟩ := h
    obtain ⟨t, ht⟩ := rdParts_back hk (ps.map Int.toNat) (Kind.cps .cat) 8 [] (by rw [List.length_map]; exact h8) fun j hj => by
      obtain ⟨i, hi, rfl⟩ := List.mem_map.mp hj
      have := hp i hi
      omega
    have e3 : (Kind.cps .cat).length = 3 := by rw [cps_cat]; rfl
    rw [e3] at ht
    refine ⟨t, ?_⟩
    show (match rdParts (Row.codes (.cat ps)) k 8 3 [] with | (none, s) => (none, s) | (some ps, s) => (some (Row.cat (ps.map Int.ofNat)), s)) = _
    have e : Row.codes (.cat ps) = Kind.cps .cat ++ tailL ((ps.map Int.toNat).map dg) := by simp [Row.codes, Row.words, Row.q, List.map_map, Function.comp_def]
    rw [e, ht]
    dsimp only
    have e2 : (([] : List Nat) ++ ps.map Int.toNat).map Int.ofNat = ps := by
      rw [List.nil_append, List.map_map]
      clear ht e h8 h0
      induction ps with
      | nil => rfl
      | cons j ps ih =>
        rw [List.map_cons, ih fun i hi => hp i (List.mem_cons_of_mem _ hi)]
        have := (hp j List.mem_cons_self).1
        congr 1
        show (j.toNat : Int) = j
        omega
    rw [e2]
  | nest n j =>
    obtain ⟨n0, n8, j0, jk⟩ := h
    obtain ⟨t, ht⟩ := rdNums_back [9, k] [n.toNat, j.toNat] (Kind.cps .nest) [] rfl fun i a b ha hb => by
      match i, ha, hb with
      | 0, ha, hb => cases ha; cases hb; omega
      | 1, ha, hb => cases ha; cases hb; omega
      | i + 2, ha, hb => simp at ha
    have e4 : (Kind.cps .nest).length = 4 := by rw [cps_nest]; rfl
    rw [e4] at ht
    refine ⟨t, ?_⟩
    show (match rdNums (Row.codes (.nest n j)) [9, k] 4 [] with | (some [n, j], s) => (some (Row.nest n j), s) | (_, s) => (none, s)) = _
    rw [show Row.codes (.nest n j) = Kind.cps .nest ++ tailL ([n.toNat, j.toNat].map dg) from rfl, ht]
    dsimp only [List.nil_append]
    rw [show ((n.toNat : Nat) : Int) = n by omega, show ((j.toNat : Nat) : Int) = j by omega]
  | align j =>
    obtain ⟨j0, jk⟩ := h
    obtain ⟨t, ht⟩ := rdNums_back [k] [j.toNat] (Kind.cps .align) [] rfl fun i a b ha hb => by
      match i, ha, hb with
      | 0, ha, hb => cases ha; cases hb; omega
      | i + 1, ha, hb => simp at ha
    have e4 : (Kind.cps .align).length = 5 := by rw [cps_align]; rfl
    rw [e4] at ht
    refine ⟨t, ?_⟩
    show (match rdNums (Row.codes (.align j)) [k] 5 [] with | (some [j], s) => (some (Row.align j), s) | (_, s) => (none, s)) = _
    rw [show Row.codes (.align j) = Kind.cps .align ++ tailL ([j.toNat].map dg) from rfl, ht]
    dsimp only [List.nil_append]
    rw [show ((j.toNat : Nat) : Int) = j by omega]
  | group j =>
    obtain ⟨j0, jk⟩ := h
    obtain ⟨t, ht⟩ := rdNums_back [k] [j.toNat] (Kind.cps .group) [] rfl fun i a b ha hb => by
      match i, ha, hb with
      | 0, ha, hb => cases ha; cases hb; omega
      | i + 1, ha, hb => simp at ha
    have e4 : (Kind.cps .group).length = 5 := by rw [cps_group]; rfl
    rw [e4] at ht
    refine ⟨t, ?_⟩
    show (match rdNums (Row.codes (.group j)) [k] 5 [] with | (some [j], s) => (some (Row.group j), s) | (_, s) => (none, s)) = _
    rw [show Row.codes (.group j) = Kind.cps .group ++ tailL ([j.toNat].map dg) from rfl, ht]
    dsimp only [List.nil_append]
    rw [show ((j.toNat : Nat) : Int) = j by omega]
/-- another kind does not read it -/
theorem comm_head {a b : Nat} {as bs : List Nat} (h : a ≠ b) : comm (a :: as) (b :: bs) = 0 := by
  unfold comm
  exact if_neg h
theorem rdKind_other {q q' : Kind} {l t : List Nat} {k : Nat} (h : q ≠ q') (e : l = q'.cps ++ t) : rdKind q l k = (none, 0) := by
  have c0 : comm q.cps l = 0 := by
    rw [e]
    cases q <;> cases q' <;> first | exact absurd rfl h | skip
    all_goals (simp only [cps_text, cps_line, cps_hard, cps_cat, cps_nest, cps_align, cps_group, List.cons_append]; exact comm_head (by decide))
  have hq : 0 < q.cps.length := by cases q <;> decide +kernel
  unfold rdKind
  split
  · rfl
  · rw [c0, if_pos hq]
theorem rdRow_back {r : Row} {k : Nat} (h : r.ok k) (hk : k ≤ 1000) : ∃ t, rdRow r.codes k kinds 0 = (some r, t) := by
  obtain ⟨t, ht⟩ := rdKind_back h hk
  refine ⟨t, ?_⟩
  have other : ∀ q, q ≠ r.q → rdKind q r.codes k = (none, 0) := fun q hq => rdKind_other hq rfl
  have go : ∀ qs m, r.q ∈ qs → rdRow r.codes k qs m = (some r, t) := fun qs => by
    induction qs with
    | nil => intro m hm; cases hm
    | cons q qs ih =>
      intro m hm
      by_cases e : q = r.q
      · unfold rdRow
        rw [e, ht]
      · unfold rdRow
        rw [other q e]
        exact ih _ ((List.mem_cons.mp hm).resolve_left fun z => e z.symm)
  exact go kinds 0 (by cases r <;> simp [Row.q, kinds])
theorem rdDoc_back : ∀ (qs rs : List Row), OkRows (rs ++ qs) → (rs ++ qs).length ≤ 200 → rdDoc (qs.map Row.codes) rs = .ok (rs ++ qs)
  | [], rs, _, _ => by simp [rdDoc]
  | q :: qs, rs, ho, hl => by
    rw [List.length_append, List.length_cons] at hl
    obtain ⟨t, ht⟩ := rdRow_back (r := q) (k := rs.length) (ho rs.length q (by rw [List.getElem?_append_right (Nat.le_refl _), Nat.sub_self]; rfl)) (by omega)
    rw [List.map_cons]
    unfold rdDoc
    rw [if_neg (by omega), ht]
    have e : rs ++ q :: qs = (rs ++ [q]) ++ qs := by simp
    have := rdDoc_back qs (rs ++ [q]) (by rw [← e]; exact ho) (by rw [← e, List.length_append, List.length_cons]; omega)
    rw [e]
    exact this
end Lw

/-! Texts as lists of signs. -/
namespace Lw
open PySem PySem.Spec PyProof.Rows L2
/-- a number, or None -/
def optI : Option Nat → V
  | none => .non
  | some n => .int n
abbrev cl (z : Str) : List Nat := z.cps.toList
theorem cl_len (z : Str) : (cl z).length = z.length := Array.length_toList
theorem cl_inj {a b : Str} (h : cl a = cl b) : a = b := Str.ext' (Array.toList_inj.mp h)
theorem cl_one (c : Nat) : cl ⟨#[c]⟩ = [c] := rfl
theorem cut_take (z : Str) (i j : Nat) (hij : i ≤ j) : cl (cutS z (some (i : Int)) (some (j : Int))) = ((cl z).drop i).take (j - i) := by
  unfold cutS
  rw [HT.sIx_nat, HT.sIx_nat]
  show ((cl z).drop (min i z.length)).take (min j z.length - min i z.length) = _
  by_cases h : i ≤ z.length
  · rw [Nat.min_eq_left h]
    by_cases h2 : j ≤ z.length
    · rw [Nat.min_eq_left h2]
    · rw [Nat.min_eq_right (by omega), List.take_of_length_le (by rw [List.length_drop, cl_len]; omega), List.take_of_length_le (by rw [List.length_drop, cl_len]; omega)]
  · rw [Nat.min_eq_right (by omega : z.length ≤ i), Nat.min_eq_right (by omega : z.length ≤ j), Nat.sub_self, List.take_zero, List.drop_of_length_le (by rw [cl_len]; omega), List.take_nil]
theorem cut_from (z : Str) (i : Nat) : cl (cutS z (some (i : Int)) none) = (cl z).drop i := by
  unfold cutS
  rw [HT.sIx_nat, HT.sIx_none]
  show ((cl z).drop (min i z.length)).take (z.length - min i z.length) = _
  by_cases h : i ≤ z.length
  · rw [Nat.min_eq_left h, List.take_of_length_le (by rw [List.length_drop, cl_len]; omega)]
  · rw [Nat.min_eq_right (by omega), Nat.sub_self, List.take_zero, List.drop_of_length_le (by rw [cl_len]; omega)]
theorem cut_one (z : Str) (i : Nat) : cl (cutS z (some (i : Int)) (some ((i : Int) + 1))) = ((cl z).drop i).take 1 := by
  have := cut_take z i (i + 1) (by omega)
  rw [show i + 1 - i = 1 by omega] at this
  exact this
theorem take1 (l : List Nat) (i : Nat) : (l.drop i).take 1 = match l[i]? with | some c => [c] | none => [] := by
  cases h : l[i]? with
  | none =>
    have := List.getElem?_eq_none_iff.mp h
    rw [List.drop_of_length_le this, List.take_nil]
  | some c =>
    obtain ⟨hi, e⟩ := List.getElem?_eq_some_iff.mp h
    rw [List.drop_eq_getElem_cons hi, e]
    rfl
/-- z[i:i+1] == the sign c -/
theorem cut_eq (z : Str) (i c : Nat) : decide (V.str (cutS z (some (i : Int)) (some ((i : Int) + 1))) = V.str ⟨#[c]⟩) = decide ((cl z)[i]? = some c) := by
  have e := cut_one z i
  rw [take1] at e
  by_cases h : (cl z)[i]? = some c
  · rw [h] at e
    rw [decide_eq_true h, decide_eq_true (by rw [cl_inj (a := cutS z _ _) (b := ⟨#[c]⟩) e])]
  · rw [decide_eq_false h, decide_eq_false (fun q => h ?_)]
    rw [V.str.inj q] at e
    cases h2 : (cl z)[i]? with
    | none => rw [h2] at e; cases e
    | some d =>
      rw [h2] at e
      rw [List.cons.inj e |>.1]
theorem lt1 (a b : Nat) : decide (([a] : List Nat) < [b]) = decide (a < b) := by
  by_cases h : a < b
  · rw [decide_eq_true h]
    exact decide_eq_true (show List.Lex _ _ _ from List.Lex.rel h)
  · rw [decide_eq_false h, decide_eq_false]
    intro z
    cases z with
    | rel h' => exact h h'
    | cons h' => cases h'
theorem not_lt1 (a b : Nat) : (!decide (([a] : List Nat) < [b])) = decide (b ≤ a) := by
  rw [lt1]
  by_cases z : a < b
  · rw [decide_eq_true z, decide_eq_false (by omega)]
    rfl
  · rw [decide_eq_false z, decide_eq_true (by omega)]
    rfl
theorem from0 (c : Nat) : (!decide (({ cps := #[c] } : Str).cps.toList < (Str.ofString "0").cps.toList)) = decide (48 ≤ c) := not_lt1 c 48
theorem to9 (c : Nat) : (!decide ((Str.ofString "9").cps.toList < ({ cps := #[c] } : Str).cps.toList)) = decide (c ≤ 57) := not_lt1 57 c
theorem fromB (c : Nat) : (!decide (({ cps := #[c] } : Str).cps.toList < (Str.ofString " ").cps.toList)) = decide (32 ≤ c) := not_lt1 c 32
theorem toT (c : Nat) : (!decide ((Str.ofString "~").cps.toList < ({ cps := #[c] } : Str).cps.toList)) = decide (c ≤ 126) := not_lt1 126 c
theorem scal_opt (o : Option Nat) (i : Int) : scal (optI o) (.int i) = true := by cases o <;> rfl
theorem tru_opt {K : PySem.W.Frag} {H : Hp} (o : Option Nat) : TruV K (optI o) H (match o with | none => false | some n => (n : Int) != 0) := by cases o <;> rfl
/-- what is told of the sign at i -/
theorem at_sign {z : Str} {i : Nat} (h : i < z.length) : ∃ c, (cl z)[i]? = some c ∧ atI (cl z) (i : Int) = some c :=
  ⟨(cl z)[i]'(by rw [cl_len]; exact h), List.getElem?_eq_getElem _, atI_nat (List.getElem?_eq_getElem _)⟩
theorem digit_text (c : Nat) (h : 48 ≤ c ∧ c ≤ 57) : PySem.intText? ⟨#[c]⟩ = some ((c - 48 : Nat) : Int) := by
  have : ∀ d, d < 10 → PySem.intText? ⟨#[48 + d]⟩ = some ((d : Nat) : Int) := by decide +kernel
  have e := this (c - 48) (by omega)
  rw [show 48 + (c - 48) = c by omega] at e
  exact e
theorem dg_text : ∀ n : Nat, n < 1000 → cl (toString (n : Int) : Str) = dg n := by
  have h : (List.range 1000).all (fun n : Nat => decide (cl (toString (n : Int) : Str) = dg n)) = true := by decide +kernel
  intro n hn
  exact of_decide_eq_true (List.all_eq_true.mp h n (List.mem_range.mpr hn))
theorem drop_step {α : Type} {l : List α} {m : Nat} {c : α} (h : l[m]? = some c) : l.drop m = c :: l.drop (m + 1) := by
  obtain ⟨hi, e⟩ := List.getElem?_eq_some_iff.mp h
  rw [List.drop_eq_getElem_cons hi, e]
theorem drop_end {l : List Nat} {m : Nat} (h : l[m]? = none) : l.drop m = [] := List.drop_of_length_le (List.getElem?_eq_none_iff.mp h)
theorem comm_go {a b : List Nat} {m c : Nat} (ha : a[m]? = some c) (hb : b[m]? = some c) : comm (a.drop m) (b.drop m) = comm (a.drop (m + 1)) (b.drop (m + 1)) + 1 := by
  rw [drop_step ha, drop_step hb]
  conv => lhs; unfold comm
  rw [if_pos rfl]
theorem comm_stop {a b : List Nat} {m : Nat} (h : a[m]? = none ∨ a[m]? ≠ b[m]?) : comm (a.drop m) (b.drop m) = 0 := by
  cases ha : a[m]? with
  | none =>
    rw [drop_end ha]
    rfl
  | some c =>
    cases hb : b[m]? with
    | none =>
      rw [drop_end hb, drop_step ha]
      rfl
    | some d =>
      rw [drop_step ha, drop_step hb]
      unfold comm
      rw [if_neg]
      rintro rfl
      rcases h with h | h
      · rw [ha] at h
        cases h
      · exact h (ha.trans hb.symm)
theorem run_go {l : List Nat} {m n c : Nat} (h : l[m]? = some c) (hg : good c = true) : run (n + 1) (l.drop m) = run n (l.drop (m + 1)) + 1 := by
  rw [drop_step h]
  conv => lhs; unfold run
  rw [if_pos hg]
theorem run_stop {l : List Nat} {m n : Nat} (h : n = 0 ∨ l[m]? = none ∨ ∃ c, l[m]? = some c ∧ good c = false) : run n (l.drop m) = 0 := by
  rcases h with rfl | h | ⟨c, h, hg⟩
  · unfold run
    rfl
  · rw [drop_end h]
    cases n <;> rfl
  · rw [drop_step h]
    cases n with
    | zero => rfl
    | succ n =>
      unfold run
      rw [hg]
      rfl
theorem digs_in {e m c : Nat} {l : List Nat} {o : Option Nat} (h : l[m]? = some c) (hc : 48 ≤ c ∧ c ≤ 57) (ho : o ≠ some 0) (he : o.getD 0 * 10 + (c - 48) < e) : digs e (l.drop m) o m = digs e (l.drop (m + 1)) (some (o.getD 0 * 10 + (c - 48))) (m + 1) := by
  rw [drop_step h]
  conv => lhs; unfold digs
  rw [if_pos hc, if_neg (by rintro (z | z) <;> first | exact ho z | omega)]
theorem digs_out {e m c : Nat} {l : List Nat} {o : Option Nat} (h : l[m]? = some c) (hc : ¬ (48 ≤ c ∧ c ≤ 57) ∨ o = some 0 ∨ e ≤ o.getD 0 * 10 + (c - 48)) : digs e (l.drop m) o m = (o, m) := by
  rw [drop_step h]
  unfold digs
  by_cases h1 : 48 ≤ c ∧ c ≤ 57
  · rw [if_pos h1, if_pos (hc.resolve_left fun z => z h1)]
  · rw [if_neg h1]
end Lw
namespace Lw
open PySem PySem.Spec PyProof.Rows L2
def RowV (K : PySem.W.Frag) (U : Hp) (v : V) : Option Row → Prop
  | none => v = .non
  | some r => Dp K U v r.data
theorem strOf_cl (z : Str) : strOf (cl z) = z := cl_inj (by simp [strOf])
end Lw
namespace Lw
open PySem PySem.Spec PyProof.Rows L2 TL
theorem join_tail (w : List Nat) (ws : List (List Nat)) : joinL [32] (w :: ws) = w ++ tailL ws := by
  induction ws generalizing w with
  | nil => simp [tailL, joinL]
  | cons v ws ih =>
    show w ++ ([32] ++ joinL [32] (v :: ws)) = _
    rw [ih, tail_cons]
    rfl
theorem dg_len (n : Nat) : (dg n).length ≤ 3 := by
  unfold dg
  split
  · simp
  split <;> simp
theorem dg_clean (n : Nat) (h : n < 1000) : ∀ c ∈ dg n, 48 ≤ c ∧ c ≤ 57 := by
  intro c hc
  unfold dg at hc
  split at hc
  · simp at hc
    omega
  split at hc <;> simp at hc <;> omega
theorem tail_len (m : Nat) : ∀ (ws : List (List Nat)), (∀ w ∈ ws, w.length ≤ m) → (tailL ws).length ≤ ws.length * (m + 1)
  | [], _ => by simp [tailL]
  | w :: ws, h => by
    rw [tail_cons, List.length_cons, List.length_append, List.length_cons, Nat.succ_mul]
    have := tail_len m ws fun v hv => h v (List.mem_cons_of_mem _ hv)
    have := h w List.mem_cons_self
    omega
theorem kind_short (q : Kind) : q.cps.length ≤ 5 ∧ ∀ c ∈ q.cps, 97 ≤ c ∧ c ≤ 122 := by cases q <;> decide +kernel
theorem codes_len {r : Row} {k : Nat} (h : r.ok k) : r.codes.length ≤ 64 := by
  have hk := (kind_short r.q).1
  unfold Row.codes
  rw [List.length_append]
  cases r with
  | text z =>
    have := tail_len 20 [cl z] fun w hw => by rw [List.mem_singleton.mp hw, cl_len]; exact h.1
    show _ + (tailL [cl z]).length ≤ 64
    simp at this
    omega
  | line z =>
    have := tail_len 20 [cl z] fun w hw => by rw [List.mem_singleton.mp hw, cl_len]; exact Nat.le_trans h.1 (by decide)
    show _ + (tailL [cl z]).length ≤ 64
    simp at this
    omega
  | hard =>
    show _ + 0 ≤ 64
    omega
  | cat ps =>
    have := tail_len 3 (ps.map fun p => dg p.toNat) fun w hw => by
      obtain ⟨p, _, rfl⟩ := List.mem_map.mp hw
      exact dg_len _
    rw [List.length_map] at this
    have h8 : ps.length ≤ 8 := h.1
    show _ + (tailL (ps.map fun p => dg p.toNat)).length ≤ 64
    omega
  | nest n j =>
    have := tail_len 3 [dg n.toNat, dg j.toNat] fun w hw => by
      simp at hw
      rcases hw with rfl | rfl <;> exact dg_len _
    simp at this
    show _ + (tailL [dg n.toNat, dg j.toNat]).length ≤ 64
    omega
  | align j =>
    have := tail_len 3 [dg j.toNat] fun w hw => by rw [List.mem_singleton.mp hw]; exact dg_len _
    simp at this
    show _ + (tailL [dg j.toNat]).length ≤ 64
    omega
  | group j =>
    have := tail_len 3 [dg j.toNat] fun w hw => by rw [List.mem_singleton.mp hw]; exact dg_len _
    simp at this
    show _ + (tailL [dg j.toNat]).length ≤ 64
    omega
theorem words_clean {r : Row} {k : Nat} (h : r.ok k) (hk : k ≤ 1000) : ∀ w ∈ r.words, ∀ c ∈ w, 32 ≤ c ∧ c ≤ 126 := by
  have num : ∀ (j : Int), 0 ≤ j → j < 1000 → ∀ c ∈ dg j.toNat, 32 ≤ c ∧ c ≤ 126 := fun j h0 h1 c hc => by
    have := dg_clean j.toNat (by omega) c hc
    omega
  cases r with
  | text z =>
    intro w hw c hc
    rw [show w = cl z from List.mem_singleton.mp hw] at hc
    exact h.2 c hc
  | line z =>
    intro w hw c hc
    rw [show w = cl z from List.mem_singleton.mp hw] at hc
    exact h.2 c hc
  | hard =>
    intro w hw
    cases hw
  | cat ps =>
    intro w hw c hc
    obtain ⟨p, hp, rfl⟩ := List.mem_map.mp hw
    have := h.2 p hp
    exact num p this.1 (by omega) c hc
  | nest n j =>
    obtain ⟨n0, n8, j0, jk⟩ := h
    intro w hw c hc
    simp [Row.words] at hw
    rcases hw with rfl | rfl
    · exact num n n0 (by omega) c hc
    · exact num j j0 (by omega) c hc
  | align j =>
    intro w hw c hc
    rw [show w = dg j.toNat from List.mem_singleton.mp hw] at hc
    have h : 0 ≤ j ∧ j < k := h
    exact num j h.1 (by omega) c hc
  | group j =>
    intro w hw c hc
    rw [show w = dg j.toNat from List.mem_singleton.mp hw] at hc
    have h : 0 ≤ j ∧ j < k := h
    exact num j h.1 (by omega) c hc
theorem codes_clean {r : Row} {k : Nat} (h : r.ok k) (hk : k ≤ 1000) : ∀ c ∈ r.codes, 32 ≤ c ∧ c ≤ 126 := by
  intro c hc
  rcases List.mem_append.mp hc with hc | hc
  · have := (kind_short r.q).2 c hc
    omega
  · obtain ⟨w, hw, hc⟩ := List.mem_flatMap.mp hc
    rcases List.mem_cons.mp hc with rfl | hc
    · omega
    · exact words_clean h hk w hw c hc
/-- a text, or a number, as str() has it -/
theorem call_str_is {X : Cx} : CallR X (.type "str") (fun xs H Q => (∃ i, xs = [.int i] ∧ i.natAbs.log2 < 1920 ∧ Q (.str (toString i)) H) ∨ (∃ a, xs = [.str a] ∧ Q (.str a) H)) :=
  fun pins s σ H xs us Q I r h => h.elim (call_str_int pins s σ H xs us Q I r) (SkE.call_str_str pins s σ H xs us Q I r)
theorem small_log {i : Int} (h : i.natAbs < 2 ^ 64) : i.natAbs.log2 < 1920 := by
  by_cases h0 : i.natAbs = 0
  · rw [h0]
    decide
  · exact Nat.lt_of_lt_of_le ((Nat.log2_lt h0).mpr h) (by decide)
theorem lines_len {m : Nat} : ∀ (zs : List Str), (∀ z ∈ zs, z.length ≤ m) → (zs.map (·.length)).sum ≤ zs.length * m
  | [], _ => Nat.zero_le _
  | z :: zs, h => by
    rw [List.map_cons, List.sum_cons, List.length_cons, Nat.succ_mul]
    have := lines_len zs fun y hy => h y (List.mem_cons_of_mem _ hy)
    have := h z List.mem_cons_self
    omega
theorem joinL_len (m : Nat) : ∀ (ls : List (List Nat)), (∀ l ∈ ls, l.length ≤ m) → (joinL [10] ls).length ≤ ls.length * (m + 1)
  | [], _ => Nat.zero_le _
  | [p], h => by
    have := h p (List.mem_singleton.mpr rfl)
    show p.length ≤ 1 * (m + 1)
    omega
  | p :: q :: r, h => by
    show (p ++ ([10] ++ joinL [10] (q :: r))).length ≤ _
    rw [List.length_append, List.length_append, show (p :: q :: r).length = (q :: r).length + 1 from rfl, Nat.succ_mul]
    have := joinL_len m (q :: r) fun l hl => h l (List.mem_cons_of_mem _ hl)
    have := h p List.mem_cons_self
    have e1 : ([10] : List Nat).length = 1 := rfl
    omega
end Lw

namespace Lw
open PySem PySem.Spec PyProof.Rows L2 VW TL
def top (i : Nat) : Stmt := PySem.Challenge.pw_farlayout_k02_rows_that_are_kept.main.body.getD i (.Pass ⟨0, 0, 0, 0⟩)
abbrev s_InvalidDoc___init__ : Stmt := (inClass (top 2) 0)
abbrev s__shown : Stmt := (top 3)
abbrev s_is_integer : Stmt := (top 5)
abbrev s_is_between : Stmt := (top 6)
abbrev s_Doc___init__ : Stmt := (inClass (top 14) 0)
abbrev s_Doc___eq__ : Stmt := (inClass (top 14) 1)
abbrev s_Doc_row_list : Stmt := (inClass (top 14) 2)
abbrev s_copied_row : Stmt := (top 15)
abbrev s_is_row : Stmt := (top 16)
abbrev s__checked_rows : Stmt := (top 17)
abbrev s__is_signs : Stmt := (top 18)
abbrev s__is_parts : Stmt := (top 19)
abbrev s__law_cell_at : Stmt := (top 21)
abbrev s__law_source_of : Stmt := (top 22)
abbrev s__law_next : Stmt := (top 23)
abbrev s__law_one : Stmt := (top 24)
abbrev s__law_signs : Stmt := (top 25)
abbrev s__law_row : Stmt := (top 26)
abbrev s__law_rows : Stmt := (top 27)
abbrev s_law : Stmt := (top 28)
structure Wd where
  c_LayoutError : Addr
  c_InvalidDoc : Addr
  c_Doc : Addr
  ROW_LENGTHS : Addr
  none_ : Unit := ()
structure Txt (w : World) (K : PySem.W.Frag) (mg : Str → Option Value) (W : Wd) : Prop where
  n_bool : mg "bool" = none
  n_enumerate : mg "enumerate" = none
  n_int : mg "int" = none
  n_isinstance : mg "isinstance" = none
  n_len : mg "len" = none
  n_list : mg "list" = none
  n_max : mg "max" = none
  n_range : mg "range" = none
  n_repr : mg "repr" = none
  n_str : mg "str" = none
  n_tuple : mg "tuple" = none
  g_MOST_ROWS : ∃ t, mg "MOST_ROWS" = some (.int 200 t)
  g_MOST_PARTS : ∃ t, mg "MOST_PARTS" = some (.int 8 t)
  g_MOST_NEST : ∃ t, mg "MOST_NEST" = some (.int 8 t)
  g_MOST_TEXT_SIGNS : ∃ t, mg "MOST_TEXT_SIGNS" = some (.int 20 t)
  g_MOST_LINE_SIGNS : ∃ t, mg "MOST_LINE_SIGNS" = some (.int 3 t)
  g_ROW_LENGTHS : mg "ROW_LENGTHS" = some (.ref W.ROW_LENGTHS)
  k_ROW_LENGTHS : ∃ es n, K.lookup W.ROW_LENGTHS = some ⟨.type "dict", none, .dict es n, #[]⟩ ∧ PySem.W.KeysLit w.params es.toList ∧ (W.ROW_LENGTHS == sysModules) = false
  kt_ROW_LENGTHS : ∃ es n, K.lookup W.ROW_LENGTHS = some ⟨.type "dict", none, .dict es n, #[]⟩ ∧ (W.ROW_LENGTHS == sysModules) = false ∧ L2.keysL es.toList = some (["text", "line", "hard", "cat", "nest", "align", "group"] : List Str)
  k_ROW_LENGTHS_text : ∃ t, PySem.W.nsIn K W.ROW_LENGTHS "text" = some (some (.int 2 t))
  k_ROW_LENGTHS_line : ∃ t, PySem.W.nsIn K W.ROW_LENGTHS "line" = some (some (.int 2 t))
  k_ROW_LENGTHS_hard : ∃ t, PySem.W.nsIn K W.ROW_LENGTHS "hard" = some (some (.int 1 t))
  k_ROW_LENGTHS_cat : ∃ t, PySem.W.nsIn K W.ROW_LENGTHS "cat" = some (some (.int 2 t))
  k_ROW_LENGTHS_nest : ∃ t, PySem.W.nsIn K W.ROW_LENGTHS "nest" = some (some (.int 3 t))
  k_ROW_LENGTHS_align : ∃ t, PySem.W.nsIn K W.ROW_LENGTHS "align" = some (some (.int 2 t))
  k_ROW_LENGTHS_group : ∃ t, PySem.W.nsIn K W.ROW_LENGTHS "group" = some (some (.int 2 t))
  c_LayoutError : mg "LayoutError" = some (.ref W.c_LayoutError)
  c_InvalidDoc : mg "InvalidDoc" = some (.ref W.c_InvalidDoc)
  c_Doc : mg "Doc" = some (.ref W.c_Doc)
  cl_Doc : Cls K W.c_Doc
  i_Doc : ClsIsi K W.c_Doc
  ne_Doc : ClsNe K W.c_Doc
  na_Doc__rows : NoAttr K W.c_Doc "_rows"
  na_Doc_facts : NoAttr K W.c_Doc "facts"
  na_Doc_group_facts : NoAttr K W.c_Doc "group_facts"
  f_Doc___init__ : MethDef K W.c_Doc "__init__" "Doc.__init__" s_Doc___init__ ["self", "rows"]
  f_Doc___eq__ : MethDef K W.c_Doc "__eq__" "Doc.__eq__" s_Doc___eq__ ["self", "other"]
  f_Doc_row_list : MethDef K W.c_Doc "row_list" "Doc.row_list" s_Doc_row_list ["self"]
  mk_Doc : PySem.W.makesIn K W.c_Doc = true ∧ PySem.W.keepIn K (.ref W.c_Doc) = true
  f__shown : TopDef K mg "_shown" s__shown ["field"]
  f_is_integer : TopDef K mg "is_integer" s_is_integer ["value"]
  f_is_between : TopDef K mg "is_between" s_is_between ["value", "least", "most"]
  f_copied_row : TopDef K mg "copied_row" s_copied_row ["row"]
  f_is_row : TopDef K mg "is_row" s_is_row ["row", "k"]
  f__checked_rows : TopDef K mg "_checked_rows" s__checked_rows ["rows"]
  f__is_signs : TopDef K mg "_is_signs" s__is_signs ["value", "most"]
  f__is_parts : TopDef K mg "_is_parts" s__is_parts ["value", "k"]
  f__law_cell_at : TopDef K mg "_law_cell_at" s__law_cell_at ["_law_script", "_law_k"]
  f__law_source_of : TopDef K mg "_law_source_of" s__law_source_of ["_law_cell"]
  f__law_next : TopDef K mg "_law_next" s__law_next ["_law_source", "_law_many"]
  f__law_one : TopDef K mg "_law_one" s__law_one ["_law_source", "_law_some"]
  f__law_signs : TopDef K mg "_law_signs" s__law_signs ["_law_source", "_law_most"]
  f__law_row : TopDef K mg "_law_row" s__law_row ["_law_source", "_law_number"]
  f__law_rows : TopDef K mg "_law_rows" s__law_rows ["_law_source", "_law_many"]
  f_law : TopDef K mg "law" s_law ["_law_script"]
local macro_rules | `(tactic| walk_at "rdc") => `(tactic| first | assumption | rfl | decide | omega | exact Or.inr ⟨by decide, by decide⟩ | exact ⟨by decide, by decide⟩ | exact ⟨by decide, by decide, by decide⟩ | (show (0 : Int) < _; omega) | (show (0 : Int) < _ ∧ _ < (1073741824 : Int); omega) | (show (-(2 ^ 64) < _ ∧ _ < 2 ^ 64) ∨ (-(2 ^ 64) < _ ∧ _ < 2 ^ 64); omega) | (show (-(2 ^ 64) < _ ∧ _ < 2 ^ 64) ∨ (-(2 ^ 64) < _ ∧ _ < 2 ^ 64); right; split <;> decide) | exact Nat.le_of_ble_eq_true rfl)
local macro_rules | `(tactic| walk_at "rd1") => `(tactic| first | refine ⟨_, rfl, ?_⟩ | refine And.intro (by walk_at "rdc") ?_ | refine ⟨_, _, rfl, rfl, ?_⟩ | refine Or.inl ⟨_, rfl, ?_⟩ | refine Or.inr ⟨_, rfl, ?_⟩ | refine ⟨_, _, _, _, rfl, rfl, sqlO (by first | assumption | exact upd_same), rfl, ?_⟩ | refine ⟨_, _, _, _, rfl, rfl, (by first | assumption | exact upd_same), rfl, ?_⟩)
local macro_rules | `(tactic| walk_at "rd") => `(tactic| repeat (walk_at "rd1"))

/-! ### the source of what is drawn -/
structure Src (U H : Hp) (s : Addr) : Prop where
  v : Same U H
  o : U s = none
  h : ∃ a b c : Int, H s = some (.lst [.int a, .int b, .int c])
abbrev G1 (s : Addr) : Addr → Prop := fun b => b = s
theorem Src.put {U H : Hp} {s : Addr} (S : Src U H s) (a b c : Int) : Gr (G1 s) U H U (upd H s (.lst [.int a, .int b, .int c])) ∧ Src U (upd H s (.lst [.int a, .int b, .int c])) s :=
  have g := (Gr.refl (S := G1 s) S.v).mut (o := .lst [.int a, .int b, .int c]) (.inl rfl) S.o
  ⟨g, g.s, S.o, a, b, c, upd_same⟩
theorem Src.new {U H : Hp} {s p : Addr} {o : HO} (S : Src U H s) (h : H p = none) : Gr (G1 s) U H (upd U p o) (upd H p o) ∧ Src (upd U p o) (upd H p o) s := by
  obtain ⟨a, b, c, e⟩ := S.h
  have g := (Gr.refl (S := G1 s) S.v).new (o := o) h
  have hne : s ≠ p := ne_of_none e h
  exact ⟨g, g.s, by rw [upd_ne hne]; exact S.o, a, b, c, by rw [upd_ne hne]; exact e⟩
theorem Src.mut {U H : Hp} {s p : Addr} {o : HO} (S : Src U H s) (hne : p ≠ s) (h : U p = none) : Src U (upd H p o) s := by
  obtain ⟨a, b, c, e⟩ := S.h
  refine ⟨fun b u q => ?_, S.o, a, b, c, by rw [upd_ne (Ne.symm hne)]; exact e⟩
  have hb : b ≠ p := fun z => by
    rw [z, h] at q
    cases q
  rw [upd_ne hb]
  exact S.v b u q
theorem Src.newH {U H : Hp} {s p : Addr} {o : HO} (S : Src U H s) (h : H p = none) : Gr (G1 s) U H U (upd H p o) ∧ Src U (upd H p o) s := by
  obtain ⟨a, b, c, e⟩ := S.h
  have g := (Gr.refl (S := G1 s) S.v).newH (o := o) h
  have hne : s ≠ p := ne_of_none e h
  exact ⟨g, g.s, S.o, a, b, c, by rw [upd_ne hne]; exact e⟩
section
variable {P : Program} {w : World} {K : PySem.W.Frag} {mg : Str → Option Value} {base : Heap} {W : Wd}
theorem sc__law_next : FnScope ["_law_source", "_law_many", "_law_found", "_law_prime", "_law_number"] ["_law_source", "_law_many"] (defScope s__law_next) := ⟨rfl, rfl, rfl, by decide +kernel, rfl, by decide +kernel, by decide +kernel⟩
def sp_next : Sp := fun vs H Q _ => ∃ (s : Addr) (U : Hp) (m : Int), vs = [.ref s, .int m] ∧ Src U H s ∧ 0 < m ∧ m < 1073741824 ∧
  ∀ (r : Int) (H' : Hp), Gr (G1 s) U H U H' → Src U H' s → 0 ≤ r → r < m → Q (.int r) H'
theorem d__law_next (T : Txt w K mg W) : DefOk P w K mg base "_law_next" s__law_next ["_law_source", "_law_many"] 1 sp_next := by
  refine T.f__law_next.ok sc__law_next (fun vs H Q E h => ?_) (fun f cdv A outer s H vs Q E hr h => ?_)
  · obtain ⟨s, U, m, rfl, _⟩ := h
    rfl
  · obtain ⟨s, U, m, rfl, S, h2, h3, k⟩ := h
    obtain ⟨a, b, c, h1⟩ := S.h
    refine ⟨_, (pss_cons (ps_if (pt_cmpR op_gt (pe_ix ix_list (pv 0) pe_int (fun _ _ => rfl)) pe_int (nomark _)) (pss_cons (ps_set (i := 2) sc__law_next.nd rfl (Or.inl rfl) (pe_op op_mod (pe_callTy (T := "int") call_int1 (by rfl) T.n_int (by decide +kernel) (pa_cons (pe_ix ix_list (pv 0) pe_int (fun _ _ => rfl)) pa_nil)) (pv 1)))
      (pss_cons (ps_asg (pe_op op_fdiv (pe_ix ix_list (pv 0) pe_int (fun _ _ => rfl)) (pv 1)) (pg_sub (pv 0) pe_int set_list))
      (pss_one (ps_ret (pv 2))))) pss_nil)
      (pss_cons (ps_asg (pe_op op_add (pe_ix ix_list (pv 0) pe_int (fun _ _ => rfl)) pe_int) (pg_sub (pv 0) pe_int set_list))
      (pss_cons (ps_set (i := 3) sc__law_next.nd rfl (Or.inl rfl) pe_int)
      (pss_cons (ps_set (i := 4) sc__law_next.nd rfl (Or.inl rfl) (pe_op op_mod (pe_callTy (T := "int") call_int1 (by rfl) T.n_int (by decide +kernel) (pa_cons (pe_op op_add (pe_op op_add (pe_ix ix_list (pv 0) pe_int (fun _ _ => rfl)) (pe_op op_mul pe_int (pe_ix ix_list (pv 0) pe_int (fun _ _ => rfl)))) pe_int) pa_nil)) (pv 3)))
      (pss_cons (ps_set (i := 4) sc__law_next.nd rfl (Or.inl rfl) (pe_op op_mod (pe_callTy (T := "int") call_int1 (by rfl) T.n_int (by decide +kernel) (pa_cons (pe_op op_mul (pv 4) pe_int) pa_nil)) (pv 3)))
      (pss_cons (ps_set (i := 4) sc__law_next.nd rfl (Or.inl rfl) (pe_op op_mod (pe_callTy (T := "int") call_int1 (by rfl) T.n_int (by decide +kernel) (pa_cons (pe_op op_mul (pv 4) (pe_op op_add (pe_op op_fdiv (pv 4) pe_int) pe_int)) pa_nil)) (pv 3)))
      (pss_cons (ps_set (i := 4) sc__law_next.nd rfl (Or.inl rfl) (pe_op op_mod (pe_callTy (T := "int") call_int1 (by rfl) T.n_int (by decide +kernel) (pa_cons (pe_op op_mul (pv 4) (pe_op op_add (pe_op op_fdiv (pv 4) pe_int) pe_int)) pa_nil)) pe_int))
      (pss_one (ps_ret (pe_op op_mod (pe_callTy (T := "int") call_int1 (by rfl) T.n_int (by decide +kernel) (pa_cons (pe_op op_fdiv (pv 4) pe_int) pa_nil)) (pv 1))))))))))), ?_⟩
    walk_at "rd"
    refine ite2 (fun hc => ?_) (fun hc => ?_)
    · walk_at "rd"
      exact k _ _ (S.put _ _ _).1 (S.put _ _ _).2 (Int.emod_nonneg _ (by omega)) (Int.emod_lt_of_pos _ h2)
    · walk_at "rd"
      exact k _ _ (S.put _ _ _).1 (S.put _ _ _).2 (Int.emod_nonneg _ (by omega)) (Int.emod_lt_of_pos _ h2)
theorem sc__law_cell_at : FnScope ["_law_script", "_law_k"] ["_law_script", "_law_k"] (defScope s__law_cell_at) := ⟨rfl, rfl, rfl, by decide +kernel, rfl, by decide +kernel, by decide +kernel⟩
def sp_cell (K : PySem.W.Frag) : Sp := fun vs H Q _ => ∃ (a : Addr) (ns : List Int) (i : Int), vs = [.ref a, .int i] ∧ SqL K H a (ns.map V.int) ∧ 0 ≤ i ∧ ∀ r : Int, Q (.int r) H
theorem d__law_cell_at (T : Txt w K mg W) : DefOk P w K mg base "_law_cell_at" s__law_cell_at ["_law_script", "_law_k"] 1 (sp_cell K) := by
  refine T.f__law_cell_at.ok sc__law_cell_at (fun vs H Q E h => ?_) (fun f cdv A outer s H vs Q E hr h => ?_)
  · obtain ⟨a, ns, i, rfl, _⟩ := h
    rfl
  · obtain ⟨a, ns, i, rfl, h1, h2, k⟩ := h
    refine ⟨_, (pss_cons (ps_if (pt_cmpR op_lt (pv 1) (pe_callB (id := "len") call_len (by rfl) T.n_len (by decide +kernel) (pa_cons (pv 0) pa_nil)) (nomark _)) (pss_one (ps_ret (pe_ix ix_list (pv 0) (pv 1) (fun _ _ => rfl)))) pss_nil)
      (pss_one (ps_ret pe_int))), ?_⟩
    refine ⟨_, rfl, _, rfl, _, _, rfl, .inl ⟨_, h1, rfl⟩, ?_⟩
    walk_at "rd"
    refine ite2 (fun hc => ?_) (fun hc => ?_)
    · have hc := of_decide_eq_true hc
      rw [List.length_map] at hc
      obtain ⟨j, rfl⟩ : ∃ j : Nat, i = (j : Int) := ⟨i.toNat, by omega⟩
      have hj : j < ns.length := by omega
      refine ⟨_, rfl, _, rfl, _, _, _, _, rfl, rfl, h1, atI_nat (v := V.int ns[j]) (by rw [List.getElem?_map, List.getElem?_eq_getElem hj] <;> rfl), ?_⟩
      exact k _
    · exact k _
theorem sc__law_source_of : FnScope ["_law_cell"] ["_law_cell"] (defScope s__law_source_of) := ⟨rfl, rfl, rfl, by decide +kernel, rfl, by decide +kernel, by decide +kernel⟩
def sp_src : Sp := fun vs H Q _ => ∃ i : Int, vs = [.int i] ∧ ∀ (p : Addr) (a b c : Int), H p = none → Q (.ref p) (upd H p (.lst [.int a, .int b, .int c]))
theorem d__law_source_of (T : Txt w K mg W) : DefOk P w K mg base "_law_source_of" s__law_source_of ["_law_cell"] 1 sp_src := by
  refine T.f__law_source_of.ok sc__law_source_of (fun vs H Q E h => ?_) (fun f cdv A outer s H vs Q E hr h => ?_)
  · obtain ⟨i, rfl, _⟩ := h
    rfl
  · obtain ⟨i, rfl, k⟩ := h
    refine ⟨_, (pss_cons (ps_set (i := 0) sc__law_source_of.nd rfl (Or.inl rfl) (pe_ifExp (pt_cmpR op_ge (pv 0) pe_int (nomark _)) (pv 0) (pe_op op_sub (pe_op op_sub pe_int (pe_op op_mul pe_int (pv 0))) pe_int)))
      (pss_one (ps_ret (pe_lst (pa_cons (pe_op op_mul (pv 0) (pe_callTy (T := "int") call_int1 (by rfl) T.n_int (by decide +kernel) (pa_cons (pe_cmpR op_ge (pv 0) (pe_op op_pow pe_int pe_int) (nomark _)) pa_nil))) (pa_cons (pe_op op_mod (pe_callTy (T := "int") call_int1 (by rfl) T.n_int (by decide +kernel) (pa_cons (pv 0) pa_nil)) pe_int) (pa_cons pe_int pa_nil))))))), ?_⟩
    walk_at "rd"
    refine ite2 (fun hc => ?_) (fun hc => ?_)
    · walk_at "rd"
      exact fun p hp => k _ _ _ _ hp
    · walk_at "rd"
      exact fun p hp => k _ _ _ _ hp
theorem sc__law_one : FnScope ["_law_source", "_law_some"] ["_law_source", "_law_some"] (defScope s__law_one) := ⟨rfl, rfl, rfl, by decide +kernel, rfl, by decide +kernel, by decide +kernel⟩
def sp_one (K : PySem.W.Frag) : Sp := fun vs H Q _ => ∃ (s l : Addr) (U : Hp) (xs : List V), vs = [.ref s, .ref l] ∧ Src U H s ∧ SqL K U l xs ∧ 0 < xs.length ∧ xs.length < 1000000 ∧
  ∀ (x : V) (H' : Hp), Gr (G1 s) U H U H' → Src U H' s → x ∈ xs → Q x H'
theorem d__law_one (T : Txt w K mg W) : DefOk P w K mg base "_law_one" s__law_one ["_law_source", "_law_some"] 2 (sp_one K) := by
  refine T.f__law_one.ok sc__law_one (fun vs H Q E h => ?_) (fun f cdv A outer s H vs Q E hr h => ?_)
  · obtain ⟨s, l, U, xs, rfl, _⟩ := h
    rfl
  · obtain ⟨s, l, U, xs, rfl, S, h1, h2, h3, k⟩ := h
    refine ⟨_, (pss_one (ps_ret (pe_ix ix_list (pv 1) (pe_callD (d__law_next T) (hr.mono (by decide)) (pa_cons (pv 0) (pa_cons (pe_callB (id := "len") call_len (by rfl) T.n_len (by decide +kernel) (pa_cons (pv 1) pa_nil)) pa_nil))) (fun _ _ => rfl)))), ?_⟩
    refine ⟨_, rfl, _, rfl, _, rfl, _, _, rfl, .inl ⟨_, sqlS S.v h1, rfl⟩, s, U, _, rfl, S, by omega, by omega, fun r H' g S' l0 l1 => ?_⟩
    obtain ⟨j, rfl⟩ : ∃ j : Nat, r = (j : Int) := ⟨r.toNat, by omega⟩
    have hj : j < xs.length := by omega
    exact ⟨_, _, _, _, rfl, rfl, sqlS S'.v h1, atI_nat (List.getElem?_eq_getElem hj), k _ _ g S' (List.getElem_mem hj)⟩
theorem sc__law_signs : FnScope ["_law_source", "_law_most", "_law_turn"] ["_law_source", "_law_most"] (defScope s__law_signs) := ⟨rfl, rfl, rfl, by decide +kernel, rfl, by decide +kernel, by decide +kernel⟩
theorem joinNil_mem : ∀ {ps : List (List Nat)} {c : Nat}, c ∈ joinL [] ps → ∃ p ∈ ps, c ∈ p
  | [], c, h => by cases h
  | [p], c, h => ⟨p, List.mem_singleton.mpr rfl, h⟩
  | p :: q :: r, c, h => by
    rcases List.mem_append.mp (show c ∈ p ++ ([] ++ joinL [] (q :: r)) from h) with h | h
    · exact ⟨p, List.mem_cons_self, h⟩
    · obtain ⟨p', h1, h2⟩ := joinNil_mem (ps := q :: r) (c := c) (by simpa using h)
      exact ⟨p', List.mem_cons_of_mem _ h1, h2⟩
theorem joinNil_len : ∀ {ps : List (List Nat)}, (∀ p ∈ ps, p.length = 1) → (joinL [] ps).length = ps.length
  | [], _ => rfl
  | [p], h => h p (List.mem_singleton.mpr rfl)
  | p :: q :: r, h => by
    show (p ++ ([] ++ joinL [] (q :: r))).length = _
    rw [List.length_append, List.length_append, joinNil_len (ps := q :: r) fun x hx => h x (List.mem_cons_of_mem _ hx), h p List.mem_cons_self]
    simp
    omega
theorem abxy_ok : ∀ c ∈ ("abxy (){}~" : Str).cps.toList, 32 ≤ c ∧ c ≤ 126 := by decide +kernel
theorem join_single {zs : List Str} {n : Nat} (hl : zs.length ≤ n) (hz : ∀ z ∈ zs, ∃ c, z = ⟨#[c]⟩ ∧ 32 ≤ c ∧ c ≤ 126) : GoodS n (Txt.join "" zs) := by
  have e : (Txt.join "" zs).cps.toList = joinL [] (zs.map tl) := by
    rw [join_eq]
    exact tl_join "" zs
  refine ⟨?_, fun c hc => ?_⟩
  · rw [← Array.length_toList, e, joinNil_len, List.length_map]
    · exact hl
    · intro p hp
      obtain ⟨z, h1, rfl⟩ := List.mem_map.mp hp
      obtain ⟨c, rfl, _⟩ := hz z h1
      rfl
  · rw [e] at hc
    obtain ⟨p, hp, h2⟩ := joinNil_mem hc
    obtain ⟨z, h1, rfl⟩ := List.mem_map.mp hp
    obtain ⟨d, rfl, h3⟩ := hz z h1
    have : c = d := by simpa [tl] using h2
    subst this
    exact h3
def sp_signs : Sp := fun vs H Q _ => ∃ (s : Addr) (U : Hp) (m : Nat), vs = [.ref s, .int m] ∧ Src U H s ∧ m ≤ 1000 ∧
  ∀ (z : Str) (U' H' : Hp), Gr (G1 s) U H U' H' → Src U' H' s → GoodS m z → Q (.str z) H'
theorem d__law_signs (T : Txt w K mg W) : DefOk P w K mg base "_law_signs" s__law_signs ["_law_source", "_law_most"] 3 sp_signs := by
  refine T.f__law_signs.ok sc__law_signs (fun vs H Q E h => ?_) (fun f cdv A outer s H vs Q E hr h => ?_)
  · obtain ⟨s, U, m, rfl, _⟩ := h
    rfl
  · obtain ⟨s, U, m, rfl, S, h1, k⟩ := h
    refine ⟨_, (pss_one (ps_ret (pe_join pe_str (pe_lc (own := [("_law_turn", 2)]) (g := (gName 2)) (tt := tYes) rfl sc__law_signs.nd (pi_range1 (by rfl) T.n_range (pa_cons (pe_callD (d__law_next T) (hr.mono (by decide)) (pa_cons (pv 0) (pa_cons (pe_op op_add (pv 1) pe_int) pa_nil))) pa_nil)) (blkOk_by (own := [("_law_turn", 2)]) (N := ["_law_source", "_law_most", "_law_turn"]) (sc := defScope s__law_signs) (by decide +kernel)) (fun _ _ _ _ _ => (pg_name (i := 2) sc__law_signs.nd rfl (Or.inl rfl))) (fun _ _ _ _ _ => pts_nil) (fun _ _ _ _ _ => (pe_callD (d__law_one T) (hr.mono (by decide)) (pa_cons (pv 0) (pa_cons (pe_callTy (T := "list") (call_list_text rfl) (by rfl) T.n_list (by decide +kernel) (pa_cons pe_str pa_nil)) pa_nil)))))))), ?_⟩
    refine ⟨⟨_, rfl⟩, ?_⟩
    refine ⟨_, rfl, _, rfl, _, _, rfl, rfl, s, U, _, rfl, S, by omega, by omega, fun r H1 g1 S1 l0 l1 => ?_⟩
    refine ⟨_, rfl, by omega, by omega, fun D hD => ?_⟩
    refine lc_range (lo := 0) (n := r.toNat) (fun i H' => ∃ (U' : Hp) (zs : List Str), Gr (G1 s) U H U' H' ∧ Src U' H' s ∧ U' D = none ∧ H D = none ∧ H' D = some (.lst (zs.map V.str)) ∧ zs.length = i ∧ ∀ z ∈ zs, ∃ c, z = ⟨#[c]⟩ ∧ 32 ≤ c ∧ c ≤ 126) ?_ ?_ ?_
    · exact ⟨U, [], g1.trans (S1.newH hD).1, (S1.newH hD).2, vfree S1.v hD, g1.free hD, upd_same, rfl, fun z hz => by cases hz⟩
    · rintro i H' hi ⟨U', zs, g, S', v0, d0, hd, hl, hz⟩
      refine ⟨rfl, ?_⟩
      refine ⟨_, rfl, _, rfl, by decide +kernel, fun l hl0 => ?_⟩
      have hlD : D ≠ l := ne_of_none hd hl0
      refine ⟨s, l, _, _, rfl, (S'.new hl0).2, sqlO upd_same, by decide +kernel, by decide +kernel, fun x H2 g2 S2 hx => ?_⟩
      obtain ⟨c, hc, rfl⟩ := List.mem_map.mp hx
      have hDs : D ≠ s := fun e => by
        obtain ⟨_, _, _, q⟩ := S.h
        rw [e, q] at d0
        cases d0
      have hd2 : H2 D = some (.lst (zs.map V.str)) := g2.k D _ hDs (by rw [upd_ne hlD]; exact hd)
      have v2 : (upd U' l (.lst (("abxy (){}~" : Str).cps.toList.map fun c => V.str ⟨#[c]⟩))) D = none := by rw [upd_ne hlD]; exact v0
      refine ⟨_, hd2, by rw [List.length_map, hl]; exact small1000 (by omega), _, zs ++ [⟨#[c]⟩], ((g.trans (S'.new hl0).1).trans g2).mut (.inr d0) v2, ?_, v2, d0, ?_, by rw [List.length_append, hl]; rfl, fun z hz' => ?_⟩
      · exact S2.mut hDs v2
      · rw [upd_same, List.map_append]
        rfl
      · rcases List.mem_append.mp hz' with h | h
        · exact hz z h
        · rw [List.mem_singleton.mp h]
          exact ⟨c, rfl, abxy_ok c hc⟩
    · rintro H' ⟨U', zs, g, S', v0, d0, hd, hl, hz⟩
      have hs : ∀ z ∈ zs, z.length = 1 := fun z h => by obtain ⟨c, rfl, _⟩ := hz z h; rfl
      refine ⟨_, _, zs, rfl, rfl, .inl (sqlO hd), ?_, k _ _ _ g S' (join_single (by omega) hz)⟩
      have : (zs.map (·.length)).sum = zs.length := by
        clear hz hd hl
        induction zs with
        | nil => rfl
        | cons z zs ih =>
          rw [List.map_cons, List.sum_cons, hs z List.mem_cons_self, ih fun z h => hs z (List.mem_cons_of_mem _ h), List.length_cons]
          omega
      show _ + zs.length * 0 ≤ _
      omega
/-! ### rows -/
theorem dp_tup {K : PySem.W.Frag} {H : Hp} {p : Addr} {vs : List V} {ds : List PyData} (h : H p = some (.tup vs)) (hd : DpAll K H vs ds) : Dp K H (.ref p) (.tuple ds) := .tup (sqtO h) hd
theorem dp_lst {K : PySem.W.Frag} {H : Hp} {p : Addr} {vs : List V} {ds : List PyData} (h : H p = some (.lst vs)) (hd : DpAll K H vs ds) : Dp K H (.ref p) (.list ds) := .lst (sqlO h) hd
theorem sc__law_row : FnScope ["_law_source", "_law_number", "_law_way", "_law_part", "_law_many", "_law_k"] ["_law_source", "_law_number"] (defScope s__law_row) := ⟨rfl, rfl, rfl, by decide +kernel, rfl, by decide +kernel, by decide +kernel⟩
def sp_row (K : PySem.W.Frag) : Sp := fun vs H Q _ => ∃ (s : Addr) (U : Hp) (n : Nat), vs = [.ref s, .int n] ∧ Src U H s ∧ n ≤ 1000 ∧
  ∀ (v : V) (r : Row) (U' H' : Hp), Gr (G1 s) U H U' H' → Src U' H' s → r.ok n → Dp K U' v r.data → Q v H'
theorem d__law_row (T : Txt w K mg W) : DefOk P w K mg base "_law_row" s__law_row ["_law_source", "_law_number"] 4 (sp_row K) := by
  refine T.f__law_row.ok sc__law_row (fun vs H Q E h => ?_) (fun f cdv A outer s H vs Q E hr h => ?_)
  · obtain ⟨s, U, m, rfl, _⟩ := h
    rfl
  · obtain ⟨s, U, m, rfl, S, h1, k⟩ := h
    refine ⟨_, (Evl.pss_cut (ps_set (i := 2) sc__law_row.nd rfl (Or.inl rfl) (pe_ifExp (pt_cmpR op_gt (pv 1) pe_int (nomark _)) (pe_callD (d__law_next T) (hr.mono (by decide)) (pa_cons (pv 0) (pa_cons pe_int pa_nil))) (pe_callD (d__law_next T) (hr.mono (by decide)) (pa_cons (pv 0) (pa_cons pe_int pa_nil)))))
      (pss_cons (ps_if (pt_cmpR op_lt (pv 2) pe_int (nomark _)) (pss_one (ps_ret (pe_tup (pa_cons pe_str (pa_cons (pe_callD (d__law_signs T) (hr.mono (by decide)) (pa_cons (pv 0) (pa_cons (pe_callD (d__law_one T) (hr.mono (by decide)) (pa_cons (pv 0) (pa_cons (pe_lst (pa_cons pe_int (pa_cons pe_int (pa_cons pe_int pa_nil)))) pa_nil))) pa_nil))) pa_nil))))) pss_nil)
      (pss_cons (ps_if (pt_cmpR op_lt (pv 2) pe_int (nomark _)) (pss_one (ps_ret (pe_ix ix_list (pe_lst (pa_cons (pe_tup (pa_cons pe_str (pa_cons (pe_callD (d__law_signs T) (hr.mono (by decide)) (pa_cons (pv 0) (pa_cons pe_int pa_nil))) pa_nil))) (pa_cons (pe_tup (pa_cons pe_str (pa_cons pe_str pa_nil))) (pa_cons (pe_tup (pa_cons pe_str pa_nil)) pa_nil)))) (pe_callD (d__law_next T) (hr.mono (by decide)) (pa_cons (pv 0) (pa_cons pe_int pa_nil))) (fun _ _ => rfl)))) pss_nil)
      (pss_cons (ps_set (i := 3) sc__law_row.nd rfl (Or.inl rfl) (pe_callB (id := "max") (call_max2 rfl) (by rfl) T.n_max (by decide +kernel) (pa_cons (pe_callD (d__law_next T) (hr.mono (by decide)) (pa_cons (pv 0) (pa_cons (pv 1) pa_nil))) (pa_cons (pe_callD (d__law_next T) (hr.mono (by decide)) (pa_cons (pv 0) (pa_cons (pv 1) pa_nil))) pa_nil))))
      (pss_cons (ps_if (pt_cmpR op_lt (pv 2) pe_int (nomark _)) (pss_cons (ps_set (i := 4) sc__law_row.nd rfl (Or.inl rfl) (pe_callD (d__law_one T) (hr.mono (by decide)) (pa_cons (pv 0) (pa_cons (pe_lst (pa_cons pe_int (pa_cons pe_int (pa_cons pe_int (pa_cons pe_int (pa_cons pe_int (pa_cons pe_int pa_nil))))))) pa_nil))))
      (pss_one (ps_ret (pe_tup (pa_cons pe_str (pa_cons (pe_lc (own := [("_law_k", 5)]) (g := (gName 5)) (tt := tYes) rfl sc__law_row.nd (pi_range1 (by rfl) T.n_range (pa_cons (pv 4) pa_nil)) (blkOk_by (own := [("_law_k", 5)]) (N := ["_law_source", "_law_number", "_law_way", "_law_part", "_law_many", "_law_k"]) (sc := defScope s__law_row) (by decide +kernel)) (fun _ _ _ _ _ => (pg_name (i := 5) sc__law_row.nd rfl (Or.inl rfl))) (fun _ _ _ _ _ => pts_nil) (fun _ _ _ _ _ => (pe_callB (id := "max") (call_max2 rfl) (by rfl) T.n_max (by decide +kernel) (pa_cons (pe_callD (d__law_next T) (hr.mono (by decide)) (pa_cons (pv 0) (pa_cons (pv 1) pa_nil))) (pa_cons (pe_callD (d__law_next T) (hr.mono (by decide)) (pa_cons (pv 0) (pa_cons (pv 1) pa_nil))) pa_nil))))) pa_nil)))))) pss_nil)
      (pss_cons (ps_if (pt_cmpR op_lt (pv 2) pe_int (nomark _)) (pss_one (ps_ret (pe_tup (pa_cons pe_str (pa_cons (pe_callD (d__law_next T) (hr.mono (by decide)) (pa_cons (pv 0) (pa_cons pe_int pa_nil))) (pa_cons (pv 3) pa_nil)))))) pss_nil)
      (pss_one (ps_ret (pe_ifExp (pt_cmpR op_eq (pv 2) pe_int (nomark _)) (pe_tup (pa_cons pe_str (pa_cons (pv 3) pa_nil))) (pe_tup (pa_cons pe_str (pa_cons (pv 3) pa_nil)))))))))))), ?_⟩
    refine ⟨fun σ' H' => ∃ way : Int, σ' = [some (.ref s), some (.int m), some (.int way), none, none, none] ∧ Gr (G1 s) U H U H' ∧ Src U H' s ∧ 0 ≤ way ∧ (m = 0 → way < 5), ?_, ?_⟩
    · walk_at "rd"
      refine ite2 (fun hc => ?_) (fun hc => ?_)
      · have hc := of_decide_eq_true hc
        refine ⟨_, rfl, s, U, _, rfl, S, by omega, by omega, fun r H1 g1 S1 l0 l1 => ⟨r, rfl, g1, S1, l0, by omega⟩⟩
      · refine ⟨_, rfl, s, U, _, rfl, S, by omega, by omega, fun r H1 g1 S1 l0 l1 => ⟨r, rfl, g1, S1, l0, by omega⟩⟩
    · rintro σ' H1 ⟨way, rfl, g1, S1, l0, l1⟩
      walk_at "rd"
      refine ite2 (fun hc => ?_) (fun hc => ?_)
      · -- a text
        refine ⟨_, rfl, _, rfl, by decide +kernel, fun l hl => ?_⟩
        refine ⟨s, l, _, _, rfl, (S1.new hl).2, sqlO upd_same, by decide, by decide, fun x H2 g2 S2 hx => ?_⟩
        obtain ⟨mm, rfl, hm⟩ : ∃ mm : Nat, x = .int mm ∧ mm ≤ 20 := by
          simp only [List.mem_cons, List.not_mem_nil, or_false] at hx
          rcases hx with rfl | rfl | rfl
          · exact ⟨2, rfl, by omega⟩
          · exact ⟨5, rfl, by omega⟩
          · exact ⟨20, rfl, by omega⟩
        refine ⟨s, _, mm, rfl, S2, by omega, fun z U3 H3 g3 S3 hz => ?_⟩
        refine ⟨Nat.le_of_ble_eq_true rfl, fun p hp => ?_⟩
        exact k _ (.text z) _ _ (((g1.trans (S1.new hl).1).trans g2).trans (g3.trans (S3.new hp).1)) (S3.new hp).2 (hz.mono hm) (dp_tup upd_same (.cons (.str _) (.cons (.str _) .nil)))
      walk_at "rd"
      refine ite2 (fun hc2 => ?_) (fun hc2 => ?_)
      · -- a line
        refine ⟨_, rfl, s, _, 3, rfl, S1, by omega, fun z U2 H2 g2 S2 hz => ?_⟩
        refine ⟨Nat.le_of_ble_eq_true rfl, fun p hp => ⟨Nat.le_of_ble_eq_true rfl, fun q hq => ⟨Nat.le_of_ble_eq_true rfl, fun u hu => ⟨Nat.le_of_ble_eq_true rfl, fun l hl => ?_⟩⟩⟩⟩
        have Sp := S2.new (o := .tup [.str "line", .str z]) hp
        have Sq := Sp.2.new (o := .tup [.str "line", .str " "]) hq
        have Su := Sq.2.new (o := .tup [.str "hard"]) hu
        have Sl := Su.2.new (o := .lst [.ref p, .ref q, .ref u]) hl
        have npq : p ≠ q := ne_of_none upd_same hq
        have npu : p ≠ u := ne_of_none (o := .tup [.str "line", .str z]) (by rw [upd_ne npq]; exact upd_same) hu
        have nqu : q ≠ u := ne_of_none upd_same hu
        have npl : p ≠ l := ne_of_none (o := .tup [.str "line", .str z]) (by rw [upd_ne npu, upd_ne npq]; exact upd_same) hl
        have nql : q ≠ l := ne_of_none (o := .tup [.str "line", .str " "]) (by rw [upd_ne nqu]; exact upd_same) hl
        have nul : u ≠ l := ne_of_none upd_same hl
        refine ⟨_, rfl, s, _, _, rfl, Sl.2, by omega, by omega, fun r H3 g3 S3 r0 r1 => ?_⟩
        have g := (((g1.trans g2).trans ((Sp.1.trans Sq.1).trans (Su.1.trans Sl.1))).trans g3)
        have e : r = 0 ∨ r = 1 ∨ r = 2 := by omega
        rcases e with rfl | rfl | rfl
        · refine ⟨_, _, _, _, rfl, rfl, sqlS S3.v (sqlO upd_same), rfl, ?_⟩
          exact k _ (.line z) _ _ g S3 hz (dp_tup (by rw [upd_ne npl, upd_ne npu, upd_ne npq]; exact upd_same) (.cons (.str _) (.cons (.str _) .nil)))
        · refine ⟨_, _, _, _, rfl, rfl, sqlS S3.v (sqlO upd_same), rfl, ?_⟩
          exact k _ (.line " ") _ _ g S3 (by exact ⟨by decide +kernel, by decide +kernel⟩) (dp_tup (by rw [upd_ne nql, upd_ne nqu]; exact upd_same) (.cons (.str _) (.cons (.str _) .nil)))
        · refine ⟨_, _, _, _, rfl, rfl, sqlS S3.v (sqlO upd_same), rfl, ?_⟩
          exact k _ .hard _ _ g S3 True.intro (dp_tup (by rw [upd_ne nul]; exact upd_same) (.cons (.str _) .nil))
      -- a part
      have hc2 : ¬ way < 5 := fun z => hc2 (decide_eq_true z)
      have hm : 0 < m := by omega
      have two : ∀ (r t : Int), 0 ≤ r → r < (m : Int) → 0 ≤ t → t < (m : Int) → 0 ≤ (if t > r then t else r) ∧ (if t > r then t else r) < (m : Int) := fun r t _ _ _ _ => by split <;> omega
      refine ⟨_, rfl, _, rfl, s, U, _, rfl, S1, by omega, by omega, fun r H2 g2 S2 r0 r1 => ⟨_, rfl, _, rfl, s, U, _, rfl, S2, by omega, by omega, fun t H3 g3 S3 t0 t1 => ?_⟩⟩
      obtain ⟨j0, j1⟩ := two r t r0 r1 t0 t1
      refine ⟨_, _, rfl, ?_⟩
      generalize (if t > r then t else r) = j at j0 j1 ⊢
      have g3 := (g1.trans g2).trans g3
      walk_at "rd"
      refine ite2 (fun hc => ?_) (fun hc => ?_)
      · -- a cat
        refine ⟨_, rfl, Nat.le_of_ble_eq_true rfl, fun l hl => ?_⟩
        refine ⟨s, l, _, _, rfl, (S3.new hl).2, sqlO upd_same, by decide, by decide, fun x H4 g4 S4 hx => ?_⟩
        obtain ⟨mm, rfl, hmm⟩ : ∃ mm : Nat, x = .int mm ∧ mm ≤ 8 := by
          simp only [List.mem_cons, List.not_mem_nil, or_false] at hx
          rcases hx with rfl | rfl | rfl | rfl | rfl | rfl
          · exact ⟨0, rfl, by omega⟩
          · exact ⟨1, rfl, by omega⟩
          · exact ⟨2, rfl, by omega⟩
          · exact ⟨3, rfl, by omega⟩
          · exact ⟨4, rfl, by omega⟩
          · exact ⟨8, rfl, by omega⟩
        have g5 := (g3.trans (S3.new hl).1).trans g4
        refine ⟨_, rfl, _, rfl, by omega, by omega, fun D hD => ?_⟩
        refine lc_range (lo := 0) (n := (mm : Int).toNat) (fun i H' => ∃ (js : List Int), Gr (G1 s) U H (upd U l (.lst [.int 0, .int 1, .int 2, .int 3, .int 4, .int 8])) H' ∧ Src (upd U l (.lst [.int 0, .int 1, .int 2, .int 3, .int 4, .int 8])) H' s ∧ H D = none ∧ H' D = some (.lst (js.map V.int)) ∧ js.length = i ∧ ∀ j ∈ js, 0 ≤ j ∧ j < (m : Int)) ?_ ?_ ?_
        · exact ⟨[], g5.trans (S4.newH hD).1, (S4.newH hD).2, g5.free hD, upd_same, rfl, fun z hz => by cases hz⟩
        · rintro i H' hi ⟨js, g, S', d0, hd, hlen, hj⟩
          have v0 := vfree S4.v hD
          refine ⟨rfl, ?_⟩
          refine ⟨_, rfl, _, rfl, s, _, _, rfl, S', by omega, by omega, fun r H6 g6 S6 r0 r1 => ⟨_, rfl, _, rfl, s, _, _, rfl, S6, by omega, by omega, fun t H7 g7 S7 t0 t1 => ?_⟩⟩
          refine ⟨_, _, rfl, ?_⟩
          have q := two r t r0 r1 t0 t1
          have hDs : D ≠ s := fun e => by
            obtain ⟨_, _, _, q⟩ := S.h
            rw [e, q] at d0
            cases d0
          have hd7 : H7 D = some (.lst (js.map V.int)) := g7.k D _ hDs (g6.k D _ hDs hd)
          refine ⟨_, hd7, by rw [List.length_map, hlen]; exact small1000 (by omega), js ++ [if t > r then t else r], ((g.trans g6).trans g7).mut (.inr d0) v0, S7.mut hDs v0, d0, by rw [upd_same, List.map_append]; rfl, by rw [List.length_append, hlen]; rfl, fun z hz => ?_⟩
          rcases List.mem_append.mp hz with h | h
          · exact hj z h
          · rw [List.mem_singleton.mp h]
            exact q
        · rintro H' ⟨js, g, S', d0, hd, hlen, hj⟩
          have v0 := vfree S4.v hD
          have gt := g.tell d0 hd v0
          have hsD : s ≠ D := fun e => by
            obtain ⟨_, _, _, q⟩ := S.h
            rw [← e, q] at d0
            cases d0
          have St : Src (upd (upd U l (.lst [.int 0, .int 1, .int 2, .int 3, .int 4, .int 8])) D (.lst (js.map V.int))) H' s := ⟨gt.s, by rw [upd_ne hsD]; exact S'.o, S'.h⟩
          refine ⟨Nat.le_of_ble_eq_true rfl, fun p hp => ?_⟩
          have hDp : D ≠ p := ne_of_none hd hp
          exact k _ (.cat js) _ _ (gt.trans (St.new hp).1) (St.new hp).2 ⟨by omega, hj⟩ (dp_tup upd_same (.cons (.str _) (.cons (dp_lst (by rw [upd_ne hDp]; exact upd_same) (dps_ints js)) .nil)))
      walk_at "rd"
      refine ite2 (fun hc => ?_) (fun hc => ?_)
      · -- a nest
        refine ⟨_, rfl, s, U, _, rfl, S3, by omega, by omega, fun r H4 g4 S4 r0 r1 => ?_⟩
        refine ⟨_, rfl, Nat.le_of_ble_eq_true rfl, fun p hp => ?_⟩
        exact k _ (.nest r j) _ _ ((g3.trans g4).trans (S4.new hp).1) (S4.new hp).2 ⟨r0, by omega, j0, j1⟩ (dp_tup upd_same (.cons (.str _) (.cons (.int _) (.cons (.int _) .nil))))
      walk_at "rd"
      refine ite2 (fun hc => ?_) (fun hc => ?_)
      · refine ⟨_, rfl, Nat.le_of_ble_eq_true rfl, fun p hp => ?_⟩
        exact k _ (.align j) _ _ (g3.trans (S3.new hp).1) (S3.new hp).2 ⟨j0, j1⟩ (dp_tup upd_same (.cons (.str _) (.cons (.int _) .nil)))
      · refine ⟨_, rfl, Nat.le_of_ble_eq_true rfl, fun p hp => ?_⟩
        exact k _ (.group j) _ _ (g3.trans (S3.new hp).1) (S3.new hp).2 ⟨j0, j1⟩ (dp_tup upd_same (.cons (.str _) (.cons (.int _) .nil)))
theorem sc__law_rows : FnScope ["_law_source", "_law_many", "_law_found", "_law_number"] ["_law_source", "_law_many"] (defScope s__law_rows) := ⟨rfl, rfl, rfl, by decide +kernel, rfl, by decide +kernel, by decide +kernel⟩
def sp_rows (K : PySem.W.Frag) : Sp := fun vs H Q _ => ∃ (s : Addr) (U : Hp) (m : Nat), vs = [.ref s, .int m] ∧ Src U H s ∧ 0 < m ∧ m ≤ 1000 ∧
  ∀ (p : Addr) (vs : List V) (rs : List Row) (U' H' : Hp), Gr (G1 s) U H U' H' → Src U' H' s → H p = none → U' p = some (.lst vs) → DpAll K U' vs (rs.map Row.data) → OkRows rs → 0 < rs.length → rs.length ≤ m → Q (.ref p) H'
theorem d__law_rows (T : Txt w K mg W) : DefOk P w K mg base "_law_rows" s__law_rows ["_law_source", "_law_many"] 5 (sp_rows K) := by
  refine T.f__law_rows.ok sc__law_rows (fun vs H Q E h => ?_) (fun f cdv A outer s H vs Q E hr h => ?_)
  · obtain ⟨s, U, m, rfl, _⟩ := h
    rfl
  · obtain ⟨s, U, m, rfl, S, m0, m1, k⟩ := h
    refine ⟨_, (pss_cons (ps_set (i := 2) sc__law_rows.nd rfl (Or.inl rfl) (pe_lst pa_nil))
      (pss_cons (ps_for PassesOwn.never rfl (pi_range1 (by rfl) T.n_range (pa_cons (pe_op op_add pe_int (pe_callD (d__law_next T) (hr.mono (by decide)) (pa_cons (pv 0) (pa_cons (pv 1) pa_nil)))) pa_nil)) (pg_name (i := 3) sc__law_rows.nd rfl (Or.inl rfl))
      (pss_one (ps_expr (pe_bm PySem.F.plainAttrs_list PySem.F.slot_list_append PySem.F.type_list_append mt_append (pv 2) (pa_cons (pe_callD (d__law_row T) (hr.mono (by decide)) (pa_cons (pv 0) (pa_cons (pv 3) pa_nil))) pa_nil)))))
      (pss_one (ps_ret (pv 2))))), ?_⟩
    refine ⟨Nat.le_of_ble_eq_true rfl, fun p hp => ?_⟩
    have p0 := vfree S.v hp
    have hps : p ≠ s := fun e => by
      obtain ⟨_, _, _, q⟩ := S.h
      rw [e, q] at hp
      cases hp
    refine ⟨_, rfl, _, rfl, s, U, _, rfl, (S.newH hp).2, by omega, by omega, fun r H1 g0 S1 r0 r1 => ?_⟩
    have g1 := (S.newH (o := .lst []) hp).1.trans g0
    refine ⟨_, _, rfl, rfl, _, rfl, by omega, by omega, ?_⟩
    refine for_range (lo := 0) (n := (1 + r).toNat) (fun i σ H' => ∃ (v : Option V) (U' : Hp) (vs : List V) (rs : List Row), σ = [some (.ref s), some (.int m), some (.ref p), v] ∧ Gr (G1 s) U H U' H' ∧ Src U' H' s ∧ U' p = none ∧ H' p = some (.lst vs) ∧ DpAll K U' vs (rs.map Row.data) ∧ OkRows rs ∧ rs.length = i) ?_ ?_ ?_
    · exact ⟨none, U, [], [], rfl, g1, S1, p0, g0.k p _ hps upd_same, .nil, fun i r e => by simp at e, rfl⟩
    · rintro i σ H' hi ⟨v, U', vs, rs, rfl, g, S', pu, hpv, hd, hok, hl⟩
      refine ⟨_, rfl, .inl ⟨rfl, _, sqlO hpv⟩, ?_⟩
      refine ⟨_, rfl, _, rfl, s, U', i, by rw [Int.zero_add]; rfl, S', by omega, fun v2 r2 U2 H2 g2 S2 hr2 hd2 => ?_⟩
      have hp2 := g2.k p _ hps hpv
      have pu2 := g2.out (some_ne hpv) pu
      have hlen := dps_length hd
      refine ⟨_, _, _, rfl, rfl, hp2, by rw [hlen, List.length_map, hl]; exact small1000 (by omega), ?_⟩
      refine ⟨_, U2, vs ++ [v2], rs ++ [r2], rfl, (g.trans g2).mut (.inr hp) pu2, S2.mut hps pu2, pu2, upd_same, ?_, hok.snoc (by rw [hl]; exact hr2), by rw [List.length_append, hl]; rfl⟩
      rw [List.map_append]
      exact dps_append (dpsS g2.v hd) (.cons hd2 .nil)
    · rintro σ H' ⟨v, U', vs, rs, rfl, g, S', pu, hpv, hd, hok, hl⟩
      have gt := g.tell hp hpv pu
      have hsp : s ≠ p := Ne.symm hps
      exact ⟨_, rfl, k p vs rs _ _ gt ⟨gt.s, by rw [upd_ne hsp]; exact S'.o, S'.h⟩ hp upd_same (dpsS (fun b o e => by rw [upd_ne (ne_of_none e pu)]; exact e) hd) hok (by omega) (by omega)⟩
end
end Lw

namespace Lw
open PySem PySem.Spec PyProof.Rows L2 VW TL
local macro_rules | `(tactic| walk_at "rdc") => `(tactic| first | assumption | rfl | decide | omega | exact Or.inr ⟨by decide, by decide⟩ | exact ⟨by decide, by decide⟩ | exact ⟨by decide, by decide, by decide⟩ | (show (0 : Int) < _; omega) | (show (0 : Int) < _ ∧ _ < (1073741824 : Int); omega) | (show (-(2 ^ 64) < _ ∧ _ < 2 ^ 64) ∨ (-(2 ^ 64) < _ ∧ _ < 2 ^ 64); omega) | (show (-(2 ^ 64) < _ ∧ _ < 2 ^ 64) ∨ (-(2 ^ 64) < _ ∧ _ < 2 ^ 64); right; split <;> decide) | exact Nat.le_of_ble_eq_true rfl)
local macro_rules | `(tactic| walk_at "rd1") => `(tactic| first | refine ⟨_, rfl, ?_⟩ | refine And.intro (by walk_at "rdc") ?_ | refine ⟨_, _, rfl, rfl, ?_⟩ | refine Or.inl ⟨_, rfl, ?_⟩ | refine Or.inr ⟨_, rfl, ?_⟩ | refine ⟨_, _, _, _, rfl, rfl, sqlO (by first | assumption | exact upd_same), rfl, ?_⟩ | refine ⟨_, _, _, _, rfl, rfl, (by first | assumption | exact upd_same), rfl, ?_⟩)
local macro_rules | `(tactic| walk_at "rd") => `(tactic| repeat (walk_at "rd1"))

section
variable {P : Program} {w : World} {K : PySem.W.Frag} {mg : Str → Option Value} {base : Heap} {W : Wd}
/-! ### what is a row: for rows alone -/
theorem ty_of {K : PySem.W.Frag} {H : Hp} {v : V} {d : PyData} : Dp K H v d → ∃ t, TyX K H v (.type t) ∧ t = (match d with | .none => "NoneType" | .bool _ => "bool" | .int _ => "int" | .str _ => "str" | .list _ => "list" | .tuple _ => "tuple" | .dict _ => "dict") := by
  intro h
  cases h with
  | non => exact ⟨_, .base .non, rfl⟩
  | bl b => exact ⟨_, .base (.bl b), rfl⟩
  | int i => exact ⟨_, .base (.int i), rfl⟩
  | str x => exact ⟨_, .base (.str x), rfl⟩
  | lst hs _ =>
    rcases hs with (h | ⟨o, h⟩) | ⟨o, its, n, h1, h2, _⟩
    · exact ⟨_, .base (.lst h), rfl⟩
    · exact ⟨_, .base (.frz h), rfl⟩
    · exact ⟨_, .kList h1 h2, rfl⟩
  | tup hs _ =>
    rcases hs with (h | ⟨o, h⟩) | ⟨o, its, n, h1, h2, _⟩
    · exact ⟨_, .base (.tup h), rfl⟩
    · exact ⟨_, .fTuple h, rfl⟩
    · exact ⟨_, .kTuple h1 h2, rfl⟩
theorem sc_is_integer : FnScope ["value"] ["value"] (defScope s_is_integer) := ⟨rfl, rfl, rfl, by decide +kernel, rfl, by decide +kernel, by decide +kernel⟩
def sp_isint (K : PySem.W.Frag) : Sp := fun vs H Q _ => ∃ (i : Int), vs = [.int i] ∧ Q (.bl true) H
theorem d_is_integer (T : Txt w K mg W) : DefOk P w K mg base "is_integer" s_is_integer ["value"] 1 (sp_isint K) := by
  refine T.f_is_integer.ok sc_is_integer (fun vs H Q E h => ?_) (fun f cdv A outer s H vs Q E hr h => ?_)
  · obtain ⟨i, rfl, _⟩ := h
    rfl
  · obtain ⟨i, rfl, k⟩ := h
    refine ⟨_, (pss_one (ps_ret (pe_and (pe_callB (id := "isinstance") call_isi (by rfl) T.n_isinstance (by decide +kernel) (pa_cons (pv 0) (pa_cons (pe_bltn (v := .ty "int") (by rfl) T.n_int (by decide +kernel) rfl) pa_nil))) (pe_one (pe_not (pe_callB (id := "isinstance") call_isi (by rfl) T.n_isinstance (by decide +kernel) (pa_cons (pv 0) (pa_cons (pe_bltn (v := .ty "bool") (by rfl) T.n_bool (by decide +kernel) rfl) pa_nil)))))))), ?_⟩
    refine ⟨_, rfl, ⟨_, _, _, _, true, rfl, .ty "int", .base (.int i), kit_ty (by decide +kernel), ?_⟩⟩
    refine ⟨_, rfl, iteT ?_⟩
    refine ⟨_, rfl, ⟨_, _, _, _, false, rfl, .ty "bool", .base (.int i), kit_ty (by decide +kernel), ?_⟩⟩
    exact ⟨_, rfl, k⟩
theorem sc_is_between : FnScope ["value", "least", "most"] ["value", "least", "most"] (defScope s_is_between) := ⟨rfl, rfl, rfl, by decide +kernel, rfl, by decide +kernel, by decide +kernel⟩
def sp_between (K : PySem.W.Frag) : Sp := fun vs H Q _ => ∃ (i a e : Int), vs = [.int i, .int a, .int e] ∧ a ≤ i ∧ i ≤ e ∧ Q (.bl true) H
theorem d_is_between (T : Txt w K mg W) : DefOk P w K mg base "is_between" s_is_between ["value", "least", "most"] 2 (sp_between K) := by
  refine T.f_is_between.ok sc_is_between (fun vs H Q E h => ?_) (fun f cdv A outer s H vs Q E hr h => ?_)
  · obtain ⟨i, a, e, rfl, _⟩ := h
    rfl
  · obtain ⟨i, a, e, rfl, h1, h2, k⟩ := h
    refine ⟨_, (pss_one (ps_ret (pe_and (pe_callD (d_is_integer T) (hr.mono (by decide)) (pa_cons (pv 0) pa_nil)) (pe_one (pe_chain op_le op_le (pv 1) (pv 0) (pv 2)))))), ?_⟩
    refine ⟨_, rfl, i, rfl, _, rfl, iteT ?_⟩
    walk_at "rd"
    rw [decide_eq_true h1]
    refine iteT ?_
    walk_at "rd"
    show Q (.bl (decide (i ≤ e))) H
    rw [decide_eq_true h2]
    exact k
theorem ifF {c : Bool} {A B : Prop} (hc : c = false) (h : B) : if c = true then A else B := by
  rw [hc]
  exact iteF h
theorem ifT {c : Bool} {A B : Prop} (hc : c = true) (h : A) : if c = true then A else B := by
  rw [hc]
  exact iteT h
theorem tyT {K : PySem.W.Frag} {H : Hp} {a : Addr} {vs : List V} (hs : SqT K H a vs) : TyX K H (.ref a) (.type "tuple") := by
  rcases hs with (h | ⟨o, h⟩) | ⟨o, its, n, h1, h2, _⟩
  · exact .base (.tup h)
  · exact .fTuple h
  · exact .kTuple h1 h2
theorem tyL {K : PySem.W.Frag} {H : Hp} {a : Addr} {vs : List V} (hs : SqL K H a vs) : TyX K H (.ref a) (.type "list") := by
  rcases hs with (h | ⟨o, h⟩) | ⟨o, its, n, h1, h2, _⟩
  · exact .base (.lst h)
  · exact .base (.frz h)
  · exact .kList h1 h2
theorem sc__is_signs : FnScope ["value", "most"] ["value", "most"] (defScope s__is_signs) := ⟨rfl, rfl, rfl, by decide +kernel, rfl, by decide +kernel, by decide +kernel⟩
theorem asc_of {n : Nat} {z : Str} (h : GoodS n z) : Txt.isascii z = true ∧ Txt.isprintable z = true := by
  have q : (List.range 128).all (fun c => decide (32 ≤ c ∧ c ≤ 126) == Unicode.isPrintable c) = true := by decide +kernel
  constructor
  · unfold Txt.isascii
    rw [Array.all_eq_true]
    intro i hi
    have := h.2 z.cps[i] (Array.mem_toList_iff.mpr (Array.getElem_mem hi))
    exact decide_eq_true (by omega)
  · unfold Txt.isprintable
    rw [Array.all_eq_true]
    intro i hi
    have h3 := h.2 z.cps[i] (Array.mem_toList_iff.mpr (Array.getElem_mem hi))
    have := List.all_eq_true.mp q z.cps[i] (List.mem_range.mpr (by omega))
    rw [beq_iff_eq] at this
    rw [← this]
    exact decide_eq_true h3
def sp_issigns (K : PySem.W.Frag) : Sp := fun vs H Q _ => ∃ (z : Str) (m : Nat), vs = [.str z, .int m] ∧ (GoodS m z ∧ m ≤ 1000) ∧ ∀ H', Same H H' → Q (.bl true) H'
theorem d__is_signs (T : Txt w K mg W) : DefOk P w K mg base "_is_signs" s__is_signs ["value", "most"] 1 (sp_issigns K) := by
  refine T.f__is_signs.ok sc__is_signs (fun vs H Q E h => ?_) (fun f cdv A outer s H vs Q E hr h => ?_)
  · obtain ⟨z, m, rfl, _⟩ := h
    rfl
  · obtain ⟨z, m, rfl, ⟨hz, hm⟩, k⟩ := h
    have hzl : z.length ≤ m := hz.1
    refine ⟨_, (pss_one (ps_ret (pe_and (pe_callB (id := "isinstance") call_isi (by rfl) T.n_isinstance (by decide +kernel) (pa_cons (pv 0) (pa_cons (pe_bltn (v := .ty "str") (by rfl) T.n_str (by decide +kernel) rfl) pa_nil))) (pe_and (pe_cmpR op_le (pe_callB (id := "len") call_len (by rfl) T.n_len (by decide +kernel) (pa_cons (pv 0) pa_nil)) (pv 1) (nomark _)) (pe_and (pe_bm0 PySem.F.plainAttrs_str PySem.F.slot_str_isascii PySem.F.type_str_isascii mt_isascii (pv 0)) (pe_one (pe_bm0 PySem.F.plainAttrs_str PySem.F.slot_str_isprintable PySem.F.type_str_isprintable mt_isprintable (pv 0)))))))), ?_⟩
    obtain ⟨ha, hp⟩ := asc_of hz
    refine ⟨_, rfl, _, _, _, _, true, rfl, .ty "str", .base (.str _), kit_ty (by decide +kernel), _, rfl, iteT ?_⟩
    refine ⟨_, rfl, _, z.length, rfl, ⟨Nat.le_trans hzl (Nat.le_of_lt (small1000 hm)), rfl⟩, ?_⟩
    refine ⟨_, rfl, _, _, rfl, rfl, _, rfl, ifT (decide_eq_true (by omega)) ?_⟩
    refine ⟨_, rfl, rfl, z, rfl, rfl, trivial, _, rfl, ifT ha ?_⟩
    refine ⟨_, rfl, rfl, z, rfl, rfl, trivial, ?_⟩
    rw [hp]
    exact k H (Same.refl _)
theorem sc__is_parts : FnScope ["value", "k", "part"] ["value", "k"] (defScope s__is_parts) := ⟨rfl, rfl, rfl, by decide +kernel, rfl, by decide +kernel, by decide +kernel⟩
def sp_isparts (K : PySem.W.Frag) : Sp := fun vs H Q _ => ∃ (l : Addr) (ns : List Int) (e : Nat), vs = [.ref l, .int e] ∧ SqL K H l (ns.map V.int) ∧ ns.length ≤ 8 ∧ (∀ j ∈ ns, 0 ≤ j ∧ j < (e : Int)) ∧ ∀ H', Same H H' → Q (.bl true) H'
theorem d__is_parts (T : Txt w K mg W) : DefOk P w K mg base "_is_parts" s__is_parts ["value", "k"] 1 (sp_isparts K) := by
  refine T.f__is_parts.ok sc__is_parts (fun vs H Q E h => ?_) (fun f cdv A outer s H vs Q E hr h => ?_)
  · obtain ⟨l, ns, e, rfl, _⟩ := h
    rfl
  · obtain ⟨l, ns, e, rfl, hl, h8, hj, k⟩ := h
    refine ⟨_, (pss_cons (ps_if (PW.pt (pw_or (pt_not (pt_val (pe_callB (id := "isinstance") call_isi (by rfl) T.n_isinstance (by decide +kernel) (pa_cons (pv 0) (pa_cons (pe_bltn (v := .ty "list") (by rfl) T.n_list (by decide +kernel) rfl) pa_nil))))) (pw_or1 (pt_cmpR op_gt (pe_callB (id := "len") call_len (by rfl) T.n_len (by decide +kernel) (pa_cons (pv 0) pa_nil)) (pe_globI T.g_MOST_PARTS) (nomark _))))) (pss_one (ps_ret pe_bl)) pss_nil)
      (pss_cons (ps_for PassesOwn.never rfl (pi_list (pv 0)) (pg_name (i := 2) sc__is_parts.nd rfl (Or.inl rfl))
      (pss_one (ps_if (PW.pt (pw_or (pt_not (pt_val (pe_callB (id := "isinstance") call_isi (by rfl) T.n_isinstance (by decide +kernel) (pa_cons (pv 2) (pa_cons (pe_bltn (v := .ty "int") (by rfl) T.n_int (by decide +kernel) rfl) pa_nil))))) (pw_or (pt_val (pe_callB (id := "isinstance") call_isi (by rfl) T.n_isinstance (by decide +kernel) (pa_cons (pv 2) (pa_cons (pe_bltn (v := .ty "bool") (by rfl) T.n_bool (by decide +kernel) rfl) pa_nil)))) (pw_or1 (pt_not (pt_chain op_le op_lt pe_int (pv 2) (pv 1))))))) (pss_one (ps_ret pe_bl)) pss_nil)))
      (pss_one (ps_ret pe_bl)))), ?_⟩
    refine ⟨_, rfl, _, _, _, _, true, rfl, .ty "list", tyL hl, kit_ty (by decide +kernel), true, rfl, iteF ?_⟩
    refine ⟨_, rfl, _, _, rfl, .inl ⟨_, hl, rfl⟩, _, _, rfl, rfl, _, rfl, ifF (decide_eq_false (by rw [List.length_map]; omega)) ?_⟩
    refine ⟨_, rfl, l, rfl, ⟨_, hl⟩, ?_⟩
    refine for_list (xs := ns.map V.int) (fun i σ H' => Same H H' ∧ ∃ v, σ = [some (.ref l), some (.int e), v]) ⟨Same.refl _, _, rfl⟩ (fun i σ H' _ z => sqlS z.1 hl) ?_ ?_
    · rintro i x σ H2 hx ⟨sm, v, rfl⟩
      rw [List.getElem?_map] at hx
      obtain ⟨j, hj1, rfl⟩ := Option.map_eq_some_iff.mp hx
      obtain ⟨j0, j1⟩ := hj j (List.mem_of_getElem? hj1)
      refine ⟨_, rfl, _, _, _, _, true, rfl, .ty "int", .base (.int _), kit_ty (by decide +kernel), true, rfl, iteF ?_⟩
      refine ⟨_, rfl, _, _, _, _, false, rfl, .ty "bool", .base (.int _), kit_ty (by decide +kernel), false, rfl, iteF ?_⟩
      refine ⟨_, rfl, _, _, rfl, rfl, _, rfl, ifT (decide_eq_true j0) ?_⟩
      refine ⟨_, rfl, _, _, rfl, rfl, _, rfl, ifF (by rw [decide_eq_true j1]; rfl) ?_⟩
      exact ⟨sm, _, rfl⟩
    · rintro σ H2 ⟨sm, v, rfl⟩
      exact k H2 sm
theorem sc_is_row : FnScope ["row", "k", "kind"] ["row", "k"] (defScope s_is_row) := ⟨rfl, rfl, rfl, by decide +kernel, rfl, by decide +kernel, by decide +kernel⟩
def sp_isrow (K : PySem.W.Frag) : Sp := fun vs H Q _ => ∃ (v : V) (r : Row) (n : Nat), vs = [v, .int n] ∧ Dp K H v r.data ∧ r.ok n ∧ ∀ H', Same H H' → Q (.bl true) H'
theorem d_is_row (T : Txt w K mg W) : DefOk P w K mg base "is_row" s_is_row ["row", "k"] 3 (sp_isrow K) := by
  refine T.f_is_row.ok sc_is_row (fun vs H Q E h => ?_) (fun f cdv A outer s H vs Q E hr h => ?_)
  · obtain ⟨v, r, n, rfl, _⟩ := h
    rfl
  · obtain ⟨v, r, nn, rfl, hd, hok, k⟩ := h
    refine ⟨_, (pss_cons (ps_if (PW.pt (pw_or (pt_not (pt_val (pe_callB (id := "isinstance") call_isi (by rfl) T.n_isinstance (by decide +kernel) (pa_cons (pv 0) (pa_cons (pe_bltn (v := .ty "tuple") (by rfl) T.n_tuple (by decide +kernel) rfl) pa_nil))))) (pw_or (pt_cmpR op_eq (pe_callB (id := "len") call_len (by rfl) T.n_len (by decide +kernel) (pa_cons (pv 0) pa_nil)) pe_int (nomark _)) (pw_or1 (pt_not (pt_val (pe_callB (id := "isinstance") call_isi (by rfl) T.n_isinstance (by decide +kernel) (pa_cons (pe_ix ix_tup (pv 0) pe_int (fun _ _ => rfl)) (pa_cons (pe_bltn (v := .ty "str") (by rfl) T.n_str (by decide +kernel) rfl) pa_nil))))))))) (pss_one (ps_ret pe_bl)) pss_nil)
      (pss_cons (ps_set (i := 2) sc_is_row.nd rfl (Or.inl rfl) (pe_ix ix_tup (pv 0) pe_int (fun _ _ => rfl)))
      (pss_cons (ps_if (pt_cmpR op_eq (pv 2) pe_str (nomark _)) (pss_one (ps_ret (pe_and (pe_cmpR op_eq (pe_callB (id := "len") call_len (by rfl) T.n_len (by decide +kernel) (pa_cons (pv 0) pa_nil)) pe_int (nomark _)) (pe_one (pe_callD (d__is_parts T) (hr.mono (by decide)) (pa_cons (pe_ix ix_tup (pv 0) pe_int (fun _ _ => rfl)) (pa_cons (pv 1) pa_nil))))))) pss_nil)
      (pss_cons (ps_if (pt_cmpR op_ne (pe_dgetK (pe_glob (v := .ref W.ROW_LENGTHS) (by rfl) T.g_ROW_LENGTHS rfl) (pv 2) ⟨rfl, rfl, rfl, rfl⟩) (pe_callB (id := "len") call_len (by rfl) T.n_len (by decide +kernel) (pa_cons (pv 0) pa_nil)) (nomark _)) (pss_one (ps_ret pe_bl)) pss_nil)
      (pss_cons (ps_if (pt_cmpR op_eq (pv 2) pe_str (nomark _)) (pss_one (ps_ret (pe_callD (d__is_signs T) (hr.mono (by decide)) (pa_cons (pe_ix ix_tup (pv 0) pe_int (fun _ _ => rfl)) (pa_cons (pe_globI T.g_MOST_TEXT_SIGNS) pa_nil))))) pss_nil)
      (pss_cons (ps_if (pt_cmpR op_eq (pv 2) pe_str (nomark _)) (pss_one (ps_ret (pe_callD (d__is_signs T) (hr.mono (by decide)) (pa_cons (pe_ix ix_tup (pv 0) pe_int (fun _ _ => rfl)) (pa_cons (pe_globI T.g_MOST_LINE_SIGNS) pa_nil))))) pss_nil)
      (pss_cons (ps_if (pt_cmpR op_eq (pv 2) pe_str (nomark _)) (pss_one (ps_ret pe_bl)) pss_nil)
      (pss_cons (ps_if (pt_cmpR op_eq (pv 2) pe_str (nomark _)) (pss_one (ps_ret (pe_and (pe_callD (d_is_between T) (hr.mono (by decide)) (pa_cons (pe_ix ix_tup (pv 0) pe_int (fun _ _ => rfl)) (pa_cons pe_int (pa_cons (pe_globI T.g_MOST_NEST) pa_nil)))) (pe_one (pe_callD (d_is_between T) (hr.mono (by decide)) (pa_cons (pe_ix ix_tup (pv 0) pe_int (fun _ _ => rfl)) (pa_cons pe_int (pa_cons (pe_op op_sub (pv 1) pe_int) pa_nil)))))))) pss_nil)
      (pss_one (ps_ret (pe_callD (d_is_between T) (hr.mono (by decide)) (pa_cons (pe_ix ix_tup (pv 0) pe_int (fun _ _ => rfl)) (pa_cons pe_int (pa_cons (pe_op op_sub (pv 1) pe_int) pa_nil)))))))))))))), ?_⟩
    cases r with
    | text z =>
      cases hd with
      | tup ht hs =>
      cases hs with | cons a1 hs =>
      cases a1
      cases hs with | cons a2 hs =>
      cases a2
      cases hs
      -- text
      obtain ⟨es, n, kl, kk, ko⟩ := T.k_ROW_LENGTHS
      obtain ⟨t, hk⟩ := T.k_ROW_LENGTHS_text
      refine ⟨_, rfl, _, _, _, _, true, rfl, .ty "tuple", tyT ht, kit_ty (by decide +kernel), true, rfl, iteF ?_⟩
      refine ⟨_, rfl, _, 2, rfl, .inr ⟨_, ht, rfl⟩, rfl, _, rfl, ifF (by decide +kernel) ?_⟩
      refine ⟨_, rfl, _, _, _, _, rfl, rfl, ht, rfl, _, _, _, _, true, rfl, .ty "str", .base (.str _), kit_ty (by decide +kernel), true, rfl, iteF ?_⟩
      refine ⟨_, rfl, _, _, _, _, rfl, rfl, ht, rfl, ?_⟩
      refine ⟨_, rfl, rfl, _, rfl, ifF (by decide +kernel) ?_⟩
      refine ⟨W.ROW_LENGTHS, es, n, rfl, kl, kk, ko, _, rfl, "text", _, .int 2, rfl, hk, ⟨t, rfl⟩, ?_⟩
      refine ⟨_, rfl, _, 2, rfl, .inr ⟨_, ht, rfl⟩, rfl, _, rfl, ifF (by decide +kernel) ?_⟩
      refine ⟨_, rfl, rfl, _, rfl, ifT (by decide +kernel) ?_⟩
      refine ⟨_, rfl, _, _, _, _, rfl, rfl, ht, rfl, ?_⟩
      exact ⟨_, 20, rfl, ⟨hok, by omega⟩, fun H' e => k H' e⟩
    | line z =>
      cases hd with
      | tup ht hs =>
      cases hs with | cons a1 hs =>
      cases a1
      cases hs with | cons a2 hs =>
      cases a2
      cases hs
      -- line
      obtain ⟨es, n, kl, kk, ko⟩ := T.k_ROW_LENGTHS
      obtain ⟨t, hk⟩ := T.k_ROW_LENGTHS_line
      refine ⟨_, rfl, _, _, _, _, true, rfl, .ty "tuple", tyT ht, kit_ty (by decide +kernel), true, rfl, iteF ?_⟩
      refine ⟨_, rfl, _, 2, rfl, .inr ⟨_, ht, rfl⟩, rfl, _, rfl, ifF (by decide +kernel) ?_⟩
      refine ⟨_, rfl, _, _, _, _, rfl, rfl, ht, rfl, _, _, _, _, true, rfl, .ty "str", .base (.str _), kit_ty (by decide +kernel), true, rfl, iteF ?_⟩
      refine ⟨_, rfl, _, _, _, _, rfl, rfl, ht, rfl, ?_⟩
      refine ⟨_, rfl, rfl, _, rfl, ifF (by decide +kernel) ?_⟩
      refine ⟨W.ROW_LENGTHS, es, n, rfl, kl, kk, ko, _, rfl, "line", _, .int 2, rfl, hk, ⟨t, rfl⟩, ?_⟩
      refine ⟨_, rfl, _, 2, rfl, .inr ⟨_, ht, rfl⟩, rfl, _, rfl, ifF (by decide +kernel) ?_⟩
      refine ⟨_, rfl, rfl, _, rfl, ifF (by decide +kernel) ?_⟩
      refine ⟨_, rfl, rfl, _, rfl, ifT (by decide +kernel) ?_⟩
      refine ⟨_, rfl, _, _, _, _, rfl, rfl, ht, rfl, ?_⟩
      exact ⟨_, 3, rfl, ⟨hok, by omega⟩, fun H' e => k H' e⟩
    | hard =>
      cases hd with
      | tup ht hs =>
      cases hs with | cons a1 hs =>
      cases a1
      cases hs
      -- hard
      obtain ⟨es, n, kl, kk, ko⟩ := T.k_ROW_LENGTHS
      obtain ⟨t, hk⟩ := T.k_ROW_LENGTHS_hard
      refine ⟨_, rfl, _, _, _, _, true, rfl, .ty "tuple", tyT ht, kit_ty (by decide +kernel), true, rfl, iteF ?_⟩
      refine ⟨_, rfl, _, 1, rfl, .inr ⟨_, ht, rfl⟩, rfl, _, rfl, ifF (by decide +kernel) ?_⟩
      refine ⟨_, rfl, _, _, _, _, rfl, rfl, ht, rfl, _, _, _, _, true, rfl, .ty "str", .base (.str _), kit_ty (by decide +kernel), true, rfl, iteF ?_⟩
      refine ⟨_, rfl, _, _, _, _, rfl, rfl, ht, rfl, ?_⟩
      refine ⟨_, rfl, rfl, _, rfl, ifF (by decide +kernel) ?_⟩
      refine ⟨W.ROW_LENGTHS, es, n, rfl, kl, kk, ko, _, rfl, "hard", _, .int 1, rfl, hk, ⟨t, rfl⟩, ?_⟩
      refine ⟨_, rfl, _, 1, rfl, .inr ⟨_, ht, rfl⟩, rfl, _, rfl, ifF (by decide +kernel) ?_⟩
      refine ⟨_, rfl, rfl, _, rfl, ifF (by decide +kernel) ?_⟩
      refine ⟨_, rfl, rfl, _, rfl, ifF (by decide +kernel) ?_⟩
      refine ⟨_, rfl, rfl, _, rfl, ifT (by decide +kernel) ?_⟩
      exact k _ (Same.refl _)
    | cat ps =>
      cases hd with
      | tup ht hs =>
      cases hs with | cons a1 hs =>
      cases a1
      cases hs with | cons a2 hs =>
      cases hs
      cases a2 with | lst hl ha =>
      rw [dps_of_ints ha] at hl
      -- cat
      obtain ⟨es, n, kl, kk, ko⟩ := T.k_ROW_LENGTHS
      obtain ⟨t, hk⟩ := T.k_ROW_LENGTHS_cat
      refine ⟨_, rfl, _, _, _, _, true, rfl, .ty "tuple", tyT ht, kit_ty (by decide +kernel), true, rfl, iteF ?_⟩
      refine ⟨_, rfl, _, 2, rfl, .inr ⟨_, ht, rfl⟩, rfl, _, rfl, ifF (by decide +kernel) ?_⟩
      refine ⟨_, rfl, _, _, _, _, rfl, rfl, ht, rfl, _, _, _, _, true, rfl, .ty "str", .base (.str _), kit_ty (by decide +kernel), true, rfl, iteF ?_⟩
      refine ⟨_, rfl, _, _, _, _, rfl, rfl, ht, rfl, ?_⟩
      refine ⟨_, rfl, rfl, _, rfl, ifT (by decide +kernel) ?_⟩
      refine ⟨_, rfl, _, 2, rfl, .inr ⟨_, ht, rfl⟩, rfl, _, rfl, ifT (by decide +kernel) ?_⟩
      refine ⟨_, rfl, _, _, _, _, rfl, rfl, ht, rfl, ?_⟩
      exact ⟨_, rfl, _, ps, _, rfl, hl, hok.1, hok.2, fun H' e => k H' e⟩
    | nest m j =>
      cases hd with
      | tup ht hs =>
      cases hs with | cons a1 hs =>
      cases a1
      cases hs with | cons a2 hs =>
      cases a2
      cases hs with | cons a3 hs =>
      cases a3
      cases hs
      -- nest
      obtain ⟨es, n, kl, kk, ko⟩ := T.k_ROW_LENGTHS
      obtain ⟨t, hk⟩ := T.k_ROW_LENGTHS_nest
      refine ⟨_, rfl, _, _, _, _, true, rfl, .ty "tuple", tyT ht, kit_ty (by decide +kernel), true, rfl, iteF ?_⟩
      refine ⟨_, rfl, _, 3, rfl, .inr ⟨_, ht, rfl⟩, rfl, _, rfl, ifF (by decide +kernel) ?_⟩
      refine ⟨_, rfl, _, _, _, _, rfl, rfl, ht, rfl, _, _, _, _, true, rfl, .ty "str", .base (.str _), kit_ty (by decide +kernel), true, rfl, iteF ?_⟩
      refine ⟨_, rfl, _, _, _, _, rfl, rfl, ht, rfl, ?_⟩
      refine ⟨_, rfl, rfl, _, rfl, ifF (by decide +kernel) ?_⟩
      refine ⟨W.ROW_LENGTHS, es, n, rfl, kl, kk, ko, _, rfl, "nest", _, .int 3, rfl, hk, ⟨t, rfl⟩, ?_⟩
      refine ⟨_, rfl, _, 3, rfl, .inr ⟨_, ht, rfl⟩, rfl, _, rfl, ifF (by decide +kernel) ?_⟩
      refine ⟨_, rfl, rfl, _, rfl, ifF (by decide +kernel) ?_⟩
      refine ⟨_, rfl, rfl, _, rfl, ifF (by decide +kernel) ?_⟩
      refine ⟨_, rfl, rfl, _, rfl, ifF (by decide +kernel) ?_⟩
      refine ⟨_, rfl, rfl, _, rfl, ifT (by decide +kernel) ?_⟩
      refine ⟨_, rfl, _, _, _, _, rfl, rfl, ht, rfl, ?_⟩
      refine ⟨_, _, _, rfl, hok.1, hok.2.1, _, rfl, iteT ?_⟩
      refine ⟨_, rfl, _, _, _, _, rfl, rfl, ht, rfl, ?_⟩
      exact ⟨_, rfl, _, _, rfl, rfl, _, _, _, rfl, hok.2.2.1, by have := hok.2.2.2; omega, k _ (Same.refl _)⟩
    | align j =>
      cases hd with
      | tup ht hs =>
      cases hs with | cons a1 hs =>
      cases a1
      cases hs with | cons a2 hs =>
      cases a2
      cases hs
      -- align
      obtain ⟨es, n, kl, kk, ko⟩ := T.k_ROW_LENGTHS
      obtain ⟨t, hk⟩ := T.k_ROW_LENGTHS_align
      refine ⟨_, rfl, _, _, _, _, true, rfl, .ty "tuple", tyT ht, kit_ty (by decide +kernel), true, rfl, iteF ?_⟩
      refine ⟨_, rfl, _, 2, rfl, .inr ⟨_, ht, rfl⟩, rfl, _, rfl, ifF (by decide +kernel) ?_⟩
      refine ⟨_, rfl, _, _, _, _, rfl, rfl, ht, rfl, _, _, _, _, true, rfl, .ty "str", .base (.str _), kit_ty (by decide +kernel), true, rfl, iteF ?_⟩
      refine ⟨_, rfl, _, _, _, _, rfl, rfl, ht, rfl, ?_⟩
      refine ⟨_, rfl, rfl, _, rfl, ifF (by decide +kernel) ?_⟩
      refine ⟨W.ROW_LENGTHS, es, n, rfl, kl, kk, ko, _, rfl, "align", _, .int 2, rfl, hk, ⟨t, rfl⟩, ?_⟩
      refine ⟨_, rfl, _, 2, rfl, .inr ⟨_, ht, rfl⟩, rfl, _, rfl, ifF (by decide +kernel) ?_⟩
      refine ⟨_, rfl, rfl, _, rfl, ifF (by decide +kernel) ?_⟩
      refine ⟨_, rfl, rfl, _, rfl, ifF (by decide +kernel) ?_⟩
      refine ⟨_, rfl, rfl, _, rfl, ifF (by decide +kernel) ?_⟩
      refine ⟨_, rfl, rfl, _, rfl, ifF (by decide +kernel) ?_⟩
      refine ⟨_, rfl, _, _, _, _, rfl, rfl, ht, rfl, ?_⟩
      exact ⟨_, rfl, _, _, rfl, rfl, _, _, _, rfl, hok.1, by have := hok.2; omega, k _ (Same.refl _)⟩
    | group j =>
      cases hd with
      | tup ht hs =>
      cases hs with | cons a1 hs =>
      cases a1
      cases hs with | cons a2 hs =>
      cases a2
      cases hs
      -- group
      obtain ⟨es, n, kl, kk, ko⟩ := T.k_ROW_LENGTHS
      obtain ⟨t, hk⟩ := T.k_ROW_LENGTHS_group
      refine ⟨_, rfl, _, _, _, _, true, rfl, .ty "tuple", tyT ht, kit_ty (by decide +kernel), true, rfl, iteF ?_⟩
      refine ⟨_, rfl, _, 2, rfl, .inr ⟨_, ht, rfl⟩, rfl, _, rfl, ifF (by decide +kernel) ?_⟩
      refine ⟨_, rfl, _, _, _, _, rfl, rfl, ht, rfl, _, _, _, _, true, rfl, .ty "str", .base (.str _), kit_ty (by decide +kernel), true, rfl, iteF ?_⟩
      refine ⟨_, rfl, _, _, _, _, rfl, rfl, ht, rfl, ?_⟩
      refine ⟨_, rfl, rfl, _, rfl, ifF (by decide +kernel) ?_⟩
      refine ⟨W.ROW_LENGTHS, es, n, rfl, kl, kk, ko, _, rfl, "group", _, .int 2, rfl, hk, ⟨t, rfl⟩, ?_⟩
      refine ⟨_, rfl, _, 2, rfl, .inr ⟨_, ht, rfl⟩, rfl, _, rfl, ifF (by decide +kernel) ?_⟩
      refine ⟨_, rfl, rfl, _, rfl, ifF (by decide +kernel) ?_⟩
      refine ⟨_, rfl, rfl, _, rfl, ifF (by decide +kernel) ?_⟩
      refine ⟨_, rfl, rfl, _, rfl, ifF (by decide +kernel) ?_⟩
      refine ⟨_, rfl, rfl, _, rfl, ifF (by decide +kernel) ?_⟩
      refine ⟨_, rfl, _, _, _, _, rfl, rfl, ht, rfl, ?_⟩
      exact ⟨_, rfl, _, _, rfl, rfl, _, _, _, rfl, hok.1, by have := hok.2; omega, k _ (Same.refl _)⟩
end
end Lw

namespace Lw
open PySem PySem.Spec PyProof.Rows L2 VW TL
local macro_rules | `(tactic| walk_at "rdc") => `(tactic| first | assumption | rfl | decide | omega | exact Or.inr ⟨by decide, by decide⟩ | exact ⟨by decide, by decide⟩ | exact ⟨by decide, by decide, by decide⟩ | (show (0 : Int) < _; omega) | (show (0 : Int) < _ ∧ _ < (1073741824 : Int); omega) | (show (-(2 ^ 64) < _ ∧ _ < 2 ^ 64) ∨ (-(2 ^ 64) < _ ∧ _ < 2 ^ 64); omega) | (show (-(2 ^ 64) < _ ∧ _ < 2 ^ 64) ∨ (-(2 ^ 64) < _ ∧ _ < 2 ^ 64); right; split <;> decide) | exact Nat.le_of_ble_eq_true rfl)
local macro_rules | `(tactic| walk_at "rd1") => `(tactic| first | refine ⟨_, rfl, ?_⟩ | refine And.intro (by walk_at "rdc") ?_ | refine ⟨_, _, rfl, rfl, ?_⟩ | refine Or.inl ⟨_, rfl, ?_⟩ | refine Or.inr ⟨_, rfl, ?_⟩ | refine ⟨_, _, _, _, rfl, rfl, sqlO (by first | assumption | exact upd_same), rfl, ?_⟩ | refine ⟨_, _, _, _, rfl, rfl, (by first | assumption | exact upd_same), rfl, ?_⟩)
local macro_rules | `(tactic| walk_at "rd") => `(tactic| repeat (walk_at "rd1"))

section
variable {P : Program} {w : World} {K : PySem.W.Frag} {mg : Str → Option Value} {base : Heap} {W : Wd}
/-- a row that is read: its tuple in the view, the list of a cat in the heap -/
def RowIn (K : PySem.W.Frag) (U H : Hp) (v : V) : Row → Prop
  | .cat ps => ∃ a l, v = .ref a ∧ SqT K U a [.str "cat", .ref l] ∧ SqL K H l (ps.map V.int)
  | r => Dp K U v r.data
/-- a copied row: the new list of a cat stands outside of the view -/
def RowNew (K : PySem.W.Frag) (U H H' : Hp) (v : V) : Row → Prop
  | .cat ps => ∃ q l, v = .ref q ∧ U q = some (.tup [.str "cat", .ref l]) ∧ U l = none ∧ H l = none ∧ H' l = some (.lst (ps.map V.int))
  | r => Dp K U v r.data
theorem RowIn.of {U H : Hp} {v : V} {r : Row} (s : Same U H) (h : Dp K U v r.data) : RowIn K U H v r := by
  cases r with
  | cat ps =>
    cases h with
    | tup ht hs =>
      cases hs with | cons a1 hs =>
      cases a1
      cases hs with | cons a2 hs =>
      cases hs
      cases a2 with | lst hl ha =>
      rw [dps_of_ints ha] at hl
      exact ⟨_, _, rfl, ht, sqlS s hl⟩
  | _ => exact h
theorem RowIn.dp {U H : Hp} {v : V} {r : Row} (s : Same U H) (h : RowIn K U H v r) : Dp K H v r.data := by
  cases r with
  | cat ps =>
    obtain ⟨a, l, rfl, h1, h2⟩ := h
    exact .tup (sqtS s h1) (.cons (.str _) (.cons (.lst h2 (dps_ints ps)) .nil))
  | _ => exact dpS s h
theorem RowIn.mono {U H U' H' : Hp} {v : V} {r : Row} (s : Same U U') (s2 : Same H H') (h : RowIn K U H v r) : RowIn K U' H' v r := by
  cases r with
  | cat ps =>
    obtain ⟨a, l, rfl, h1, h2⟩ := h
    exact ⟨a, l, rfl, sqtS s h1, sqlS s2 h2⟩
  | _ => exact dpS s h
/-- the copy is told of -/
theorem RowNew.tell {S : Addr → Prop} {U0 H0 U H H' : Hp} {v : V} {r : Row} (g : Gr S U0 H0 U H') (h : RowNew K U H H' v r) (h0 : ∀ b, H b = none → H0 b = none) :
    ∃ U', Gr S U0 H0 U' H' ∧ Same U U' ∧ Dp K U' v r.data ∧ ∀ b, H b ≠ none → U' b = U b := by
  cases r with
  | cat ps =>
    obtain ⟨q, l, rfl, h1, h2, h3, h4⟩ := h
    have g' := g.tell (h0 l h3) h4 h2
    have nq : q ≠ l := ne_of_none h1 h2
    refine ⟨_, g', fun b o e => by rw [upd_ne (ne_of_none e h2)]; exact e, dp_tup (by rw [upd_ne nq]; exact h1) (.cons (.str _) (.cons (dp_lst upd_same (dps_ints ps)) .nil)), fun b hb => ?_⟩
    have : b ≠ l := fun e => hb (by rw [e]; exact h3)
    rw [upd_ne this]
  | _ => exact ⟨U, g, Same.refl _, h, fun _ _ => rfl⟩
theorem sc_copied_row : FnScope ["row"] ["row"] (defScope s_copied_row) := ⟨rfl, rfl, rfl, by decide +kernel, rfl, by decide +kernel, by decide +kernel⟩
def sp_copied (K : PySem.W.Frag) : Sp := fun vs H Q _ => ∃ (v : V) (r : Row) (U : Hp), vs = [v] ∧ Same U H ∧ RowIn K U H v r ∧ ∀ (v' : V) (U' H' : Hp), Gr S0 U H U' H' → RowNew K U' H H' v' r → Q v' H'
theorem d_copied_row (T : Txt w K mg W) : DefOk P w K mg base "copied_row" s_copied_row ["row"] 1 (sp_copied K) := by
  refine T.f_copied_row.ok sc_copied_row (fun vs H Q E h => ?_) (fun f cdv A outer s H vs Q E hr h => ?_)
  · obtain ⟨v, r, U, rfl, _⟩ := h
    rfl
  · obtain ⟨v, r, U, rfl, s1, hd, k⟩ := h
    refine ⟨_, (pss_cons (ps_if (pt_cmpR op_eq (pe_ix ix_tup (pv 0) pe_int (fun _ _ => rfl)) pe_str (nomark _)) (pss_one (ps_ret (pe_tup (pa_cons pe_str (pa_cons (pe_callTy (T := "list") call_list_of (by rfl) T.n_list (by decide +kernel) (pa_cons (pe_ix ix_tup (pv 0) pe_int (fun _ _ => rfl)) pa_nil)) pa_nil))))) pss_nil)
      (pss_one (ps_ret (pv 0)))), ?_⟩
    have plain : ∀ (kd : Str) (ds : List PyData), r.data = .tuple (.str kd :: ds) → decide (V.str kd = V.str "cat") = false → ∃ a xs, v = .ref a ∧ SqT K H a (.str kd :: xs) := fun kd ds e _ => by
      have q := hd.dp s1
      rw [e] at q
      cases q with
      | tup ht hs =>
        cases hs with | cons a1 hs =>
        cases a1
        exact ⟨_, _, rfl, ht⟩
    cases r with
    | cat ps =>
      obtain ⟨a, l, rfl, h1, h2⟩ := hd
      refine ⟨_, rfl, _, _, _, _, rfl, rfl, sqtS s1 h1, rfl, rfl, _, rfl, ifT (by decide +kernel) ?_⟩
      refine ⟨_, rfl, _, _, _, _, rfl, rfl, sqtS s1 h1, rfl, _, _, rfl, .inl h2, fun l' hl' => ?_⟩
      refine ⟨Nat.le_of_ble_eq_true rfl, fun q hq => ?_⟩
      have g1 := (Gr.refl (S := S0) s1).newH (o := .lst (ps.map V.int)) hl'
      have g2 := g1.new (o := .tup [.str "cat", .ref l']) hq
      have nlq : l' ≠ q := ne_of_none upd_same hq
      exact k _ _ _ g2 ⟨q, l', rfl, upd_same, by rw [upd_ne nlq]; exact vfree s1 hl', hl', by rw [upd_ne nlq]; exact upd_same⟩
    | _ =>
      obtain ⟨a, xs, rfl, ht⟩ := plain _ _ rfl (by decide +kernel)
      refine ⟨_, rfl, _, _, _, _, rfl, rfl, ht, at_of (j := 0) rfl rfl, ?_⟩
      refine ⟨rfl, _, rfl, ifF (by decide +kernel) ?_⟩
      exact ⟨_, rfl, k _ _ _ (Gr.refl s1) hd⟩
def RowsIn (K : PySem.W.Frag) (U H : Hp) (vs : List V) (rs : List Row) : Prop := vs.length = rs.length ∧ ∀ (i : Nat) (v : V) (r : Row), vs[i]? = some v → rs[i]? = some r → RowIn K U H v r
theorem RowsIn.dp {U H : Hp} {vs : List V} {rs : List Row} (s : Same U H) (h : RowsIn K U H vs rs) : DpAll K H vs (rs.map Row.data) := by
  induction vs generalizing rs with
  | nil =>
    cases rs with
    | nil => exact .nil
    | cons r rs => cases h.1
  | cons v vs ih =>
    cases rs with
    | nil => cases h.1
    | cons r rs => exact .cons ((h.2 0 v r rfl rfl).dp s) (ih ⟨by have := h.1; simpa using this, fun i a b e1 e2 => h.2 (i + 1) a b e1 e2⟩)
theorem RowsIn.of {U H : Hp} {vs : List V} {rs : List Row} (s : Same U H) (h : DpAll K U vs (rs.map Row.data)) : RowsIn K U H vs rs := by
  refine ⟨by rw [dps_length h, List.length_map], fun i v r e1 e2 => ?_⟩
  obtain ⟨d, h1, h2⟩ := dps_get h e1
  rw [List.getElem?_map, e2] at h1
  cases h1
  exact .of s h2
theorem RowsIn.mono {U H U' H' : Hp} {vs : List V} {rs : List Row} (s : Same U U') (s2 : Same H H') (h : RowsIn K U H vs rs) : RowsIn K U' H' vs rs := ⟨h.1, fun i v r e1 e2 => (h.2 i v r e1 e2).mono s s2⟩
theorem sc__checked_rows : FnScope ["rows", "checked", "k", "row"] ["rows"] (defScope s__checked_rows) := ⟨rfl, rfl, rfl, by decide +kernel, rfl, by decide +kernel, by decide +kernel⟩
def sp_checked (K : PySem.W.Frag) : Sp := fun vs H Q _ => ∃ (a : Addr) (xs : List V) (rs : List Row) (U : Hp), vs = [.ref a] ∧ Same U H ∧ SqL K H a xs ∧ RowsIn K U H xs rs ∧ OkRows rs ∧ 0 < rs.length ∧ rs.length ≤ 200 ∧
  ∀ (D : Addr) (ws : List V) (U' H' : Hp), Gr S0 U H U' H' → H D = none → U' D = some (.lst ws) → DpAll K U' ws (rs.map Row.data) → Q (.ref D) H'
theorem d__checked_rows (T : Txt w K mg W) : DefOk P w K mg base "_checked_rows" s__checked_rows ["rows"] 4 (sp_checked K) := by
  refine T.f__checked_rows.ok sc__checked_rows (fun vs H Q E h => ?_) (fun f cdv A outer s H vs Q E hr h => ?_)
  · obtain ⟨a, xs, rs, U, rfl, _⟩ := h
    rfl
  · obtain ⟨a, xs, rs, U, rfl, s1, hl, hin, hok, h0, h200, k⟩ := h
    have hlen : xs.length = rs.length := hin.1
    refine ⟨_, (pss_cons (ps_if (PW.pt (pw_or (pt_not (pt_val (pe_callB (id := "isinstance") call_isi (by rfl) T.n_isinstance (by decide +kernel) (pa_cons (pv 0) (pa_cons (pe_bltn (v := .ty "list") (by rfl) T.n_list (by decide +kernel) rfl) pa_nil))))) (pw_or1 (pt_not (pt_chain op_le op_le pe_int (pe_callB (id := "len") call_len (by rfl) T.n_len (by decide +kernel) (pa_cons (pv 0) pa_nil)) (pe_globI T.g_MOST_ROWS)))))) (pss_one ps_never) pss_nil)
      (pss_cons (ps_set (i := 1) sc__checked_rows.nd rfl (Or.inl rfl) (pe_lst pa_nil))
      (pss_cons (ps_for PassesOwn.never rfl (pi_enum (by rfl) T.n_enumerate (pa_cons (pv 0) pa_nil)) (pg_tup rfl (pgs_cons (pg_name (i := 2) sc__checked_rows.nd rfl (Or.inl rfl)) (pgs_cons (pg_name (i := 3) sc__checked_rows.nd rfl (Or.inl rfl)) pgs_nil)))
      (pss_cons (ps_if (pt_not (pt_val (pe_callD (d_is_row T) (hr.mono (by decide)) (pa_cons (pv 3) (pa_cons (pv 2) pa_nil))))) (pss_one ps_never) pss_nil)
      (pss_one (ps_expr (pe_bm PySem.F.plainAttrs_list PySem.F.slot_list_append PySem.F.type_list_append mt_append (pv 1) (pa_cons (pe_callD (d_copied_row T) (hr.mono (by decide)) (pa_cons (pv 3) pa_nil)) pa_nil))))))
      (pss_one (ps_ret (pv 1)))))), ?_⟩
    refine ⟨_, rfl, _, _, _, _, true, rfl, .ty "list", tyL hl, kit_ty (by decide +kernel), true, rfl, iteF ?_⟩
    refine ⟨_, rfl, _, _, rfl, .inl ⟨_, hl, rfl⟩, ?_⟩
    refine ⟨_, _, rfl, rfl, _, rfl, ifT (decide_eq_true (by omega)) ?_⟩
    refine ⟨_, _, rfl, rfl, _, rfl, ifF (by rw [decide_eq_true (show (xs.length : Int) ≤ 200 by omega)]; rfl) ?_⟩
    refine ⟨Nat.le_of_ble_eq_true rfl, fun D hD => ?_⟩
    have smD : Same H (upd H D (.lst [])) := fun b o e => by rw [upd_ne (ne_of_none e hD)]; exact e
    refine ⟨_, rfl, _, _, rfl, sqlS smD hl, ?_⟩
    refine for_it walk_enum (fun i σ H' => ∃ (v1 v2 : Option V) (U' : Hp) (ws : List V), σ = [some (.ref a), some (.ref D), v1, v2] ∧ Gr S0 U H U' H' ∧ U' D = none ∧ H' D = some (.lst ws) ∧ DpAll K U' ws ((rs.take i).map Row.data)) ⟨none, none, U, [], rfl, (Gr.refl s1).newH hD, vfree s1 hD, upd_same, .nil⟩ (fun i σ H' _ ⟨_, _, _, _, _, g, _⟩ => sqlS g.same hl) ?_ ?_
    · rintro i x σ H1 H2 hi ⟨v1, v2, U', ws, rfl, g, v0, hd, hdp⟩ ⟨t, y1, y2, rfl, ht, rfl, e1, e2⟩
      cases e1
      have hi : i < rs.length := by rw [← hlen]; exact (List.getElem?_eq_some_iff.mp e2).1
      have hr2 : rs[i]? = some rs[i] := List.getElem?_eq_getElem hi
      have hrow := hin.2 i y2 _ e2 hr2
      have nDt : D ≠ t := ne_of_none hd ht
      have g1 : Gr S0 U H U' (upd H1 t (.tup [.int (i : Nat), y2])) := g.newH ht
      refine ⟨t, _, rfl, sqtO upd_same, rfl, _, _, rfl, _, _, rfl, rfl, ?_⟩
      refine ⟨_, rfl, _, rfl, _, rs[i], i, rfl, (hrow.mono (Same.refl _) g1.same).dp (s1.trans g1.same), hok i _ hr2, fun H3 sm3 => ?_⟩
      have g2 : Gr S0 U H U' H3 := g1.grow sm3
      have hd2 : H3 D = some (.lst ws) := sm3 _ _ (by rw [upd_ne nDt]; exact hd)
      refine ⟨true, rfl, iteF ?_⟩
      refine ⟨_, rfl, .inl ⟨rfl, _, sqlO hd2⟩, ?_⟩
      refine ⟨_, rfl, y2, rs[i], U', rfl, g2.s, hrow.mono g2.v g2.same, fun v' U4 H4 g4 hnew => ?_⟩
      obtain ⟨U5, g5, s5, dp5, keep⟩ := hnew.tell (g2.trans g4) fun b e => g2.free e
      have hd4 : H4 D = some (.lst ws) := g4.same _ _ hd2
      have u5D : U5 D = none := (keep D (some_ne hd2)).trans (g4.out (some_ne hd2) v0)
      refine ⟨_, _, _, rfl, rfl, hd4, ?_, ?_⟩
      · rw [dps_length hdp, List.length_map, List.length_take]
        exact small1000 (by omega)
      · refine ⟨_, _, U5, ws ++ [v'], rfl, g5.mut (.inr hD) u5D, u5D, upd_same, ?_⟩
        rw [List.take_succ, hr2, List.map_append]
        exact dps_append (dpsS (g4.v.trans s5) hdp) (.cons dp5 .nil)
    · rintro σ H2 ⟨v1, v2, U', ws, rfl, g, v0, hd, hdp⟩
      rw [hlen, List.take_length] at hdp
      exact ⟨_, rfl, k D ws _ _ (g.tell hD hd v0) hD upd_same (dpsS (fun b o e => by rw [upd_ne (ne_of_none e v0)]; exact e) hdp)⟩
end
end Lw

namespace Lw
open PySem PySem.Spec PyProof.Rows L2 VW TL
local macro_rules | `(tactic| walk_at "rdc") => `(tactic| first | assumption | rfl | decide | omega | exact Or.inr ⟨by decide, by decide⟩ | exact ⟨by decide, by decide⟩ | exact ⟨by decide, by decide, by decide⟩ | (show (0 : Int) < _; omega) | (show (0 : Int) < _ ∧ _ < (1073741824 : Int); omega) | (show (-(2 ^ 64) < _ ∧ _ < 2 ^ 64) ∨ (-(2 ^ 64) < _ ∧ _ < 2 ^ 64); omega) | (show (-(2 ^ 64) < _ ∧ _ < 2 ^ 64) ∨ (-(2 ^ 64) < _ ∧ _ < 2 ^ 64); right; split <;> decide) | exact Nat.le_of_ble_eq_true rfl)
local macro_rules | `(tactic| walk_at "rd1") => `(tactic| first | refine ⟨_, rfl, ?_⟩ | refine And.intro (by walk_at "rdc") ?_ | refine ⟨_, _, rfl, rfl, ?_⟩ | refine Or.inl ⟨_, rfl, ?_⟩ | refine Or.inr ⟨_, rfl, ?_⟩ | refine ⟨_, _, _, _, rfl, rfl, sqlO (by first | assumption | exact upd_same), rfl, ?_⟩ | refine ⟨_, _, _, _, rfl, rfl, (by first | assumption | exact upd_same), rfl, ?_⟩)
local macro_rules | `(tactic| walk_at "rd") => `(tactic| repeat (walk_at "rd1"))

section
variable {P : Program} {w : World} {K : PySem.W.Frag} {mg : Str → Option Value} {base : Heap} {W : Wd}
abbrev docF (l : Addr) : List (Str × V) := [("_rows", .ref l), ("facts", .non), ("group_facts", .non)]
theorem lk_rows (l : Addr) : List.lookup ("_rows" : Str) (docF l) = some (.ref l) := by simp [List.lookup]
theorem lk_no {m : Str} (l : Addr) (h : ¬ m = "_rows") (h2 : ¬ m = "facts") (h3 : ¬ m = "group_facts") : List.lookup m (docF l) = none := by
  have q : (m == ("_rows" : Str)) = false := by simpa using h
  have q2 : (m == ("facts" : Str)) = false := by simpa using h2
  have q3 : (m == ("group_facts" : Str)) = false := by simpa using h3
  simp [List.lookup, q, q2, q3]
/-- a document in the view -/
def DocAt (K : PySem.W.Frag) (C : Addr) (U : Hp) (x : Addr) (rs : List Row) : Prop := ∃ (dx l : Addr) (ws : List V), U x = some (.ins C dx (docF l)) ∧ U l = some (.lst ws) ∧ DpAll K U ws (rs.map Row.data)
theorem DocAt.mono {C : Addr} {U U' : Hp} {x : Addr} {rs : List Row} (s : Same U U') (h : DocAt K C U x rs) : DocAt K C U' x rs := by
  obtain ⟨dx, l, ws, h1, h2, h3⟩ := h
  exact ⟨dx, l, ws, s _ _ h1, s _ _ h2, dpsS s h3⟩
theorem sc_Doc___init__ : FnScope ["self", "rows"] ["self", "rows"] (defScope s_Doc___init__) := ⟨rfl, rfl, rfl, by decide +kernel, rfl, by decide +kernel, by decide +kernel⟩
def sp_init (K : PySem.W.Frag) (C : Addr) : Sp := fun vs H Q _ => ∃ (x dx a : Addr) (xs : List V) (rs : List Row) (U : Hp), vs = [.ref x, .ref a] ∧ H x = some (.ins C dx []) ∧ Same U H ∧ U x = none ∧ SqL K H a xs ∧ RowsIn K U H xs rs ∧ OkRows rs ∧ 0 < rs.length ∧ rs.length ≤ 200 ∧
  ∀ (l : Addr) (ws : List V) (U' H' : Hp), Gr (fun b => b = x) U H U' H' → U' x = none → U' l = some (.lst ws) → DpAll K U' ws (rs.map Row.data) → H' x = some (.ins C dx (docF l)) → Q .non H'
theorem d_Doc___init__ (T : Txt w K mg W) : MethOk P w K mg base W.c_Doc "__init__" "Doc.__init__" s_Doc___init__ ["self", "rows"] 5 (sp_init K W.c_Doc) := by
  refine T.f_Doc___init__.ok sc_Doc___init__ (fun vs H Q E h => ?_) (fun f cdv A outer s H vs Q E hr h => ?_)
  · obtain ⟨x, dx, a, xs, rs, U, rfl, _⟩ := h
    rfl
  · obtain ⟨x, dx, a, xs, rs, U, rfl, hx, s1, ux, ha, hin, hok, h0, h200, k⟩ := h
    refine ⟨_, (pss_cons (ps_fld (pv 0) (pe_callD (d__checked_rows T) (hr.mono (by decide)) (pa_cons (pv 1) pa_nil)) rfl)
      (pss_cons (ps_fld (pv 0) pe_non rfl)
      (pss_one (ps_fld (pv 0) pe_non rfl)))), ?_⟩
    refine ⟨_, rfl, a, xs, rs, U, rfl, s1, ha, hin, hok, h0, h200, fun D ws U' H1 g hD hl hdp => ?_⟩
    have hx1 := g.same _ _ hx
    have ux1 : U' x = none := g.out (some_ne hx) ux
    refine ⟨_, rfl, x, W.c_Doc, dx, [], rfl, hx1, T.cl_Doc, T.na_Doc__rows, by decide, ?_⟩
    have g5 := (g.of0 (S := fun b => b = x)).mut (o := .ins W.c_Doc dx [("_rows", .ref D)]) (.inl rfl) ux1
    refine ⟨_, rfl, x, W.c_Doc, dx, _, rfl, upd_same, T.cl_Doc, T.na_Doc_facts, Nat.lt_of_lt_of_le (Nat.lt_succ_self 1) (by decide), ?_⟩
    have g6 := g5.mut (o := .ins W.c_Doc dx [("_rows", .ref D), ("facts", .non)]) (.inl rfl) ux1
    refine ⟨_, rfl, x, W.c_Doc, dx, _, rfl, upd_same, T.cl_Doc, T.na_Doc_group_facts, Nat.lt_of_lt_of_le (Nat.lt_succ_self 2) (by decide), ?_⟩
    exact k D ws _ _ (g6.mut (.inl rfl) ux1) ux1 hl hdp upd_same
end
end Lw

namespace Lw
open PySem PySem.Spec PyProof.Rows L2 VW TL
local macro_rules | `(tactic| walk_at "rdc") => `(tactic| first | assumption | rfl | decide | omega | exact Or.inr ⟨by decide, by decide⟩ | exact ⟨by decide, by decide⟩ | exact ⟨by decide, by decide, by decide⟩ | (show (0 : Int) < _; omega) | (show (0 : Int) < _ ∧ _ < (1073741824 : Int); omega) | (show (-(2 ^ 64) < _ ∧ _ < 2 ^ 64) ∨ (-(2 ^ 64) < _ ∧ _ < 2 ^ 64); omega) | (show (-(2 ^ 64) < _ ∧ _ < 2 ^ 64) ∨ (-(2 ^ 64) < _ ∧ _ < 2 ^ 64); right; split <;> decide) | exact Nat.le_of_ble_eq_true rfl)
local macro_rules | `(tactic| walk_at "rd1") => `(tactic| first | refine ⟨_, rfl, ?_⟩ | refine And.intro (by walk_at "rdc") ?_ | refine ⟨_, _, rfl, rfl, ?_⟩ | refine Or.inl ⟨_, rfl, ?_⟩ | refine Or.inr ⟨_, rfl, ?_⟩ | refine ⟨_, _, _, _, rfl, rfl, sqlO (by first | assumption | exact upd_same), rfl, ?_⟩ | refine ⟨_, _, _, _, rfl, rfl, (by first | assumption | exact upd_same), rfl, ?_⟩)
local macro_rules | `(tactic| walk_at "rd") => `(tactic| repeat (walk_at "rd1"))

section
variable {P : Program} {w : World} {K : PySem.W.Frag} {mg : Str → Option Value} {base : Heap} {W : Wd}
theorem RowNew.mono {U H H' U2 H2 : Hp} {v : V} {r : Row} (h : RowNew K U H H' v r) (g : Gr S0 U H' U2 H2) : RowNew K U2 H H2 v r := by
  cases r with
  | cat ps =>
    obtain ⟨q, l, rfl, h1, h2, h3, h4⟩ := h
    exact ⟨q, l, rfl, g.v _ _ h1, g.out (some_ne h4) h2, h3, g.same _ _ h4⟩
  | _ => exact dpS g.v h
def RowsNew (K : PySem.W.Frag) (U H H' : Hp) (vs : List V) (rs : List Row) : Prop := vs.length = rs.length ∧ ∀ (i : Nat) (v : V) (r : Row), vs[i]? = some v → rs[i]? = some r → RowNew K U H H' v r
theorem RowNew.put {U H H' : Hp} {v : V} {r : Row} {D : Addr} {o : HO} (h : RowNew K U H H' v r) (hD : H D ≠ none) : RowNew K U H (upd H' D o) v r := by
  cases r with
  | cat ps =>
    obtain ⟨q, l, rfl, h1, h2, h3, h4⟩ := h
    have hne : l ≠ D := fun e => hD (by rw [← e]; exact h3)
    exact ⟨q, l, rfl, h1, h2, h3, by rw [upd_ne hne]; exact h4⟩
  | _ => exact h
theorem RowNew.lower {U H Hd H' : Hp} {v : V} {r : Row} (h : RowNew K U Hd H' v r) (hb : ∀ b, Hd b = none → H b = none) : RowNew K U H H' v r := by
  cases r with
  | cat ps =>
    obtain ⟨q, l, rfl, h1, h2, h3, h4⟩ := h
    exact ⟨q, l, rfl, h1, h2, hb l h3, h4⟩
  | _ => exact h
theorem upd_none {H : Hp} {D b : Addr} {o : HO} (h : upd H D o b = none) : H b = none := by
  by_cases e : b = D
  · rw [e, upd_same] at h
    cases h
  · rw [upd_ne e] at h
    exact h
theorem sc_Doc_row_list : FnScope ["self", "row"] ["self"] (defScope s_Doc_row_list) := ⟨rfl, rfl, rfl, by decide +kernel, rfl, by decide +kernel, by decide +kernel⟩
def sp_rowlist (K : PySem.W.Frag) (C : Addr) : Sp := fun vs H Q _ => ∃ (x : Addr) (rs : List Row) (U : Hp), vs = [.ref x] ∧ Same U H ∧ DocAt K C U x rs ∧ rs.length ≤ 200 ∧
  ∀ (p : Addr) (ws : List V) (U' H' Hb : Hp), Gr S0 U H U' H' → H p = none → U' p = none → H' p = some (.lst ws) → (∀ b, Hb b = none → H b = none) → Hb p ≠ none → RowsNew K U' Hb H' ws rs → Q (.ref p) H'
theorem d_Doc_row_list (T : Txt w K mg W) : MethOk P w K mg base W.c_Doc "row_list" "Doc.row_list" s_Doc_row_list ["self"] 2 (sp_rowlist K W.c_Doc) := by
  refine T.f_Doc_row_list.ok sc_Doc_row_list (fun vs H Q E h => ?_) (fun f cdv A outer s H vs Q E hr h => ?_)
  · obtain ⟨x, rs, U, rfl, _⟩ := h
    rfl
  · obtain ⟨x, rs, U, rfl, s1, ⟨dx, l, ws, hx, hl, hd⟩, h200, k⟩ := h
    have hlen : ws.length = rs.length := by rw [dps_length hd, List.length_map]
    refine ⟨_, (pss_one (ps_ret (pe_lc (own := [("row", 1)]) (g := (gName 1)) (tt := tYes) rfl sc_Doc_row_list.nd (pi_list (pe_fld (pv 0) rfl)) (blkOk_by (own := [("row", 1)]) (N := ["self", "row"]) (sc := defScope s_Doc_row_list) (by decide +kernel)) (fun _ _ _ _ _ => (pg_name (i := 1) sc_Doc_row_list.nd rfl (Or.inl rfl))) (fun _ _ _ _ _ => pts_nil) (fun _ _ _ _ _ => (pe_callD (d_copied_row T) (hr.mono (by decide)) (pa_cons (pv 1) pa_nil)))))), ?_⟩
    refine ⟨_, rfl, x, W.c_Doc, dx, _, _, rfl, s1 _ _ hx, T.cl_Doc, T.na_Doc__rows, lk_rows _, l, rfl, ⟨_, sqlO (s1 _ _ hl)⟩, fun D hD => ?_⟩
    have hDn : (upd H D (.lst [])) D ≠ none := some_ne upd_same
    refine lc_list (xs := ws) (fun i H' => ∃ (U' : Hp) (vs : List V), Gr (fun b => b = D) U (upd H D (.lst [])) U' H' ∧ U' D = none ∧ H' D = some (.lst vs) ∧ RowsNew K U' (upd H D (.lst [])) H' vs (rs.take i)) ?_ (fun i H' _ ⟨U', vs, g, _⟩ => sqlO (g.s _ _ (g.v _ _ hl))) ?_ ?_
    · exact ⟨U, [], Gr.refl ((Gr.refl (S := S0) s1).newH hD).s, vfree s1 hD, upd_same, rfl, fun i v r e => by simp at e⟩
    · rintro i v H2 hv ⟨U', vs, g, v0, hdD, hn⟩
      have hi : i < rs.length := by rw [← hlen]; exact (List.getElem?_eq_some_iff.mp hv).1
      have hr2 : rs[i]? = some rs[i] := List.getElem?_eq_getElem hi
      obtain ⟨d, e1, e2⟩ := dps_get hd hv
      rw [List.getElem?_map, hr2] at e1
      cases e1
      refine ⟨rfl, ?_⟩
      refine ⟨_, rfl, v, rs[i], U', rfl, g.s, .of g.s (dpS g.v e2), fun v' U3 H3 g3 hnew => ?_⟩
      have hd3 : H3 D = some (.lst vs) := g3.same _ _ hdD
      have u3D : U3 D = none := g3.out (some_ne hdD) v0
      have vl : vs.length = i := by rw [hn.1, List.length_take]; omega
      refine ⟨vs, hd3, by rw [vl]; exact small1000 (by omega), U3, vs ++ [v'], (g.trans g3.of0).mut (.inl rfl) u3D, u3D, upd_same, ?_, fun j z r e1 e2 => ?_⟩
      · rw [List.length_append, List.length_take, vl, List.length_singleton]
        omega
      · by_cases hj : j < i
        · rw [List.getElem?_append_left (by omega)] at e1
          rw [List.getElem?_take_of_lt (by omega)] at e2
          exact RowNew.put (RowNew.mono (hn.2 j z r e1 (by rw [List.getElem?_take_of_lt hj]; exact e2)) g3) hDn
        · have ej : j = i := by
            have := (List.getElem?_eq_some_iff.mp e1).1
            rw [List.length_append, List.length_singleton, vl] at this
            omega
          subst ej
          rw [List.getElem?_append_right (by omega), vl, Nat.sub_self] at e1
          rw [List.getElem?_take_of_lt (by omega), hr2] at e2
          cases e1
          cases e2
          exact RowNew.put (RowNew.lower hnew fun b hb => g.free hb) hDn
    · rintro H2 ⟨U', vs, g, v0, hdD, hn⟩
      rw [hlen, List.take_length] at hn
      exact k D vs U' H2 _ (g.under hD) hD v0 hdD (fun b hb => upd_none hb) hDn hn
end
end Lw

namespace Lw
open PySem PySem.Spec PyProof.Rows L2 VW TL
local macro_rules | `(tactic| walk_at "rdc") => `(tactic| first | assumption | rfl | decide | omega | exact Or.inr ⟨by decide, by decide⟩ | exact ⟨by decide, by decide⟩ | exact ⟨by decide, by decide, by decide⟩ | (show (0 : Int) < _; omega) | (show (0 : Int) < _ ∧ _ < (1073741824 : Int); omega) | (show (-(2 ^ 64) < _ ∧ _ < 2 ^ 64) ∨ (-(2 ^ 64) < _ ∧ _ < 2 ^ 64); omega) | (show (-(2 ^ 64) < _ ∧ _ < 2 ^ 64) ∨ (-(2 ^ 64) < _ ∧ _ < 2 ^ 64); right; split <;> decide) | exact Nat.le_of_ble_eq_true rfl)
local macro_rules | `(tactic| walk_at "rd1") => `(tactic| first | refine ⟨_, rfl, ?_⟩ | refine And.intro (by walk_at "rdc") ?_ | refine ⟨_, _, rfl, rfl, ?_⟩ | refine Or.inl ⟨_, rfl, ?_⟩ | refine Or.inr ⟨_, rfl, ?_⟩ | refine ⟨_, _, _, _, rfl, rfl, sqlO (by first | assumption | exact upd_same), rfl, ?_⟩ | refine ⟨_, _, _, _, rfl, rfl, (by first | assumption | exact upd_same), rfl, ?_⟩)
local macro_rules | `(tactic| walk_at "rd") => `(tactic| repeat (walk_at "rd1"))

section
variable {P : Program} {w : World} {K : PySem.W.Frag} {mg : Str → Option Value} {base : Heap} {W : Wd}
/-! ### rows as data -/
abbrev dat (rs : List Row) : PyData := .list (rs.map Row.data)
theorem strOk_good {n : Nat} {z : Str} (h : GoodS n z) : PyData.strOk z = true := by
  unfold PyData.strOk
  rw [Array.all_eq_true]
  intro i hi
  have := h.2 z.cps[i] (Array.mem_toList_iff.mpr (Array.getElem_mem hi))
  exact decide_eq_true (by omega)
theorem ints_lay (ns : List Int) : PyData.canLayAll0 (ns.map PyData.int) = true ∧ PyData.depthAll (ns.map PyData.int) = 0 := by
  induction ns with
  | nil => exact ⟨rfl, rfl⟩
  | cons n ns ih =>
    refine ⟨?_, ?_⟩
    · show (true && PyData.canLayAll0 (ns.map PyData.int)) = true
      rw [ih.1]
      rfl
    · show max 0 (PyData.depthAll (ns.map PyData.int)) = 0
      rw [ih.2]
      rfl
theorem row_lay {k : Nat} {r : Row} (h : r.ok k) : r.data.canLay0 = true ∧ r.data.depth ≤ 2 := by
  cases r with
  | text z =>
    refine ⟨?_, by show max 0 (max 0 0) + 1 ≤ 2; decide⟩
    show (PyData.strOk _ && (PyData.strOk z && true)) = true
    rw [strOk_good h]
    decide +kernel
  | line z =>
    refine ⟨?_, by show max 0 (max 0 0) + 1 ≤ 2; decide⟩
    show (PyData.strOk _ && (PyData.strOk z && true)) = true
    rw [strOk_good h]
    decide +kernel
  | hard => exact ⟨by decide +kernel, by show max 0 0 + 1 ≤ 2; decide⟩
  | cat ps =>
    refine ⟨?_, ?_⟩
    · show (PyData.strOk _ && (PyData.canLayAll0 (ps.map PyData.int) && true)) = true
      rw [(ints_lay ps).1]
      decide +kernel
    · show max 0 (max (PyData.depthAll (ps.map PyData.int) + 1) 0) + 1 ≤ 2
      rw [(ints_lay ps).2]
      decide
  | nest n j => exact ⟨by show (PyData.strOk _ && (true && (true && true))) = true; decide +kernel, by show max 0 (max 0 (max 0 0)) + 1 ≤ 2; decide⟩
  | align j => exact ⟨by show (PyData.strOk _ && (true && true)) = true; decide +kernel, by show max 0 (max 0 0) + 1 ≤ 2; decide⟩
  | group j => exact ⟨by show (PyData.strOk _ && (true && true)) = true; decide +kernel, by show max 0 (max 0 0) + 1 ≤ 2; decide⟩
theorem rows_lay {rs : List Row} (h : ∀ r ∈ rs, ∃ k, r.ok k) : PyData.canLayAll0 (rs.map Row.data) = true ∧ PyData.depthAll (rs.map Row.data) ≤ 2 := by
  induction rs with
  | nil => exact ⟨rfl, Nat.zero_le _⟩
  | cons r rs ih =>
    obtain ⟨k, hk⟩ := h r List.mem_cons_self
    have q := ih fun r h' => h r (List.mem_cons_of_mem _ h')
    obtain ⟨a, b⟩ := row_lay hk
    refine ⟨?_, ?_⟩
    · show (r.data.canLay0 && PyData.canLayAll0 (rs.map Row.data)) = true
      rw [a, q.1]
      rfl
    · show max r.data.depth (PyData.depthAll (rs.map Row.data)) ≤ 2
      omega
theorem OkRows.mem {rs : List Row} (h : OkRows rs) : ∀ r ∈ rs, ∃ k, r.ok k := fun r hr => by
  obtain ⟨i, hi⟩ := List.mem_iff_getElem?.mp hr
  exact ⟨i, h i r hi⟩
theorem shaped_rows {rs : List Row} (h : OkRows rs) : SeqAt.shaped (dat rs) = true := by
  obtain ⟨a, b⟩ := rows_lay h.mem
  unfold SeqAt.shaped
  rw [Bool.and_eq_true]
  refine ⟨a, decide_eq_true ?_⟩
  show PyData.depthAll (rs.map Row.data) + 1 ≤ 64
  omega
theorem eqv_rows {rs : List Row} (h : OkRows rs) : PyData.eqv (dat rs) (dat rs) = true := SeqAt.eqv_refl _ (rows_lay h.mem).1
theorem eqvAll_len : ∀ {xs ys : List PyData}, xs.length ≠ ys.length → PyData.eqvAll xs ys = false
  | [], [], h => absurd rfl h
  | [], _ :: _, _ => by simp [PyData.eqvAll]
  | _ :: _, [], _ => by simp [PyData.eqvAll]
  | x :: xs, y :: ys, h => by
    simp only [PyData.eqvAll]
    rw [eqvAll_len (xs := xs) (ys := ys) (by simpa using h), Bool.and_false]
theorem eqv_len {rs qs : List Row} (h : rs.length ≠ qs.length) : PyData.eqv (dat rs) (dat qs) = false := by
  show PyData.eqv (.list _) (.list _) = false
  simp only [PyData.eqv]
  exact eqvAll_len (by rw [List.length_map, List.length_map]; exact h)
/-! ### == -/
def sp_eq (K : PySem.W.Frag) (C : Addr) : Sp := fun vs H Q _ => ∃ (x : Addr) (y : V) (rs : List Row) (U : Hp), vs = [.ref x, y] ∧ Same U H ∧ DocAt K C U x rs ∧ OkRows rs ∧
  ((∃ y' qs, y = .ref y' ∧ DocAt K C U y' qs ∧ OkRows qs ∧ Q (.bl (PyData.eqv (dat rs) (dat qs))) H) ∨ (((∃ i, y = .int i) ∨ y = .non ∨ ∃ a xs, y = .ref a ∧ SqL K H a xs) ∧ Q (.bl false) H))
theorem sc_Doc___eq__ : FnScope ["self", "other"] ["self", "other"] (defScope s_Doc___eq__) := ⟨rfl, rfl, rfl, by decide +kernel, rfl, by decide +kernel, by decide +kernel⟩
theorem d_Doc___eq__ (T : Txt w K mg W) : MethOk P w K mg base W.c_Doc "__eq__" "Doc.__eq__" s_Doc___eq__ ["self", "other"] 1 (sp_eq K W.c_Doc) := by
  refine T.f_Doc___eq__.ok sc_Doc___eq__ (fun vs H Q E h => ?_) (fun f cdv A outer s H vs Q E hr h => ?_)
  · obtain ⟨x, y, rs, U, rfl, _⟩ := h
    rfl
  · obtain ⟨x, y, rs, U, rfl, s1, ⟨dx, l, ws, hx, hl, hd⟩, hok, k⟩ := h
    refine ⟨_, (pss_one (ps_ret (pe_and (pe_callB (id := "isinstance") call_isi (by rfl) T.n_isinstance (by decide +kernel) (pa_cons (pv 1) (pa_cons (pe_glob (v := .ref W.c_Doc) (by rfl) T.c_Doc rfl) pa_nil))) (pe_one (pe_cmpR (op_eqD hr.units) (pe_fld (pv 0) rfl) (pe_fld (pv 1) rfl) (nomark _)))))), ?_⟩
    rcases k with ⟨y', qs, rfl, ⟨dy, m, us, hy, hm, he⟩, hok', k⟩ | ⟨k1, k⟩
    · refine ⟨_, rfl, _, _, _, _, true, rfl, .own W.c_Doc, .base (.ins (s1 _ _ hy) T.cl_Doc T.i_Doc.ha T.i_Doc.hn T.i_Doc.htk T.i_Doc.hm), T.i_Doc.self_, ?_⟩
      refine ⟨true, rfl, iteT ?_⟩
      refine ⟨_, rfl, x, W.c_Doc, dx, _, _, rfl, s1 _ _ hx, T.cl_Doc, T.na_Doc__rows, lk_rows _, _, rfl, y', W.c_Doc, dy, _, _, rfl, s1 _ _ hy, T.cl_Doc, T.na_Doc__rows, lk_rows _, ?_⟩
      exact ⟨dat rs, dat qs, dp_lst (s1 _ _ hl) (dpsS s1 hd), dp_lst (s1 _ _ hm) (dpsS s1 he), shaped_rows hok, shaped_rows hok', k⟩
    · have fin : ∀ (y : V) (t : String), TyX K H y (.type t) → PySem.W.kitOne K (.type t) (.ref W.c_Doc) = some false → y = y → True := fun _ _ _ _ _ => True.intro
      rcases k1 with ⟨i, rfl⟩ | rfl | ⟨a, xs, rfl, ha⟩
      · exact ⟨_, rfl, _, _, _, _, false, rfl, .own W.c_Doc, .base (.int i), T.i_Doc.int_, false, rfl, iteF k⟩
      · exact ⟨_, rfl, _, _, _, _, false, rfl, .own W.c_Doc, .base .non, T.i_Doc.non_, false, rfl, iteF k⟩
      · exact ⟨_, rfl, _, _, _, _, false, rfl, .own W.c_Doc, tyL ha, T.i_Doc.lst_, false, rfl, iteF k⟩
/-! ### a document is made -/
theorem Gr.made {S : Addr → Prop} {U H U' H' : Hp} {x dx C : Addr} {fs : List (Str × V)} (s1 : Same U H) (hx : H x = none) (hd : H dx = none) (hne : dx ≠ x) (g : Gr (fun b => b = x) U (upd (upd H dx (.own x)) x (.ins C dx [])) U' H') (ux : U' x = none)
    (e : H' x = some (.ins C dx fs)) : Gr S U H (upd U' x (.ins C dx fs)) H' := by
  refine ⟨fun b o q => ?_, fun b o q => ?_, fun b o _ q => ?_, fun b q => ?_⟩
  · rw [upd_ne (ne_of_none (s1 b o q) hx)]
    exact g.v b o q
  · by_cases hb : b = x
    · rw [hb, upd_same] at q
      rw [hb, e]
      exact q
    · rw [upd_ne hb] at q
      exact g.s b o q
  · have h1 := ne_of_none q hx
    have h2 := ne_of_none q hd
    exact g.k b o h1 (by rw [upd_ne h1, upd_ne h2]; exact q)
  · have h1 : b ≠ x := fun z => q (by rw [z]; exact hx)
    have h2 : b ≠ dx := fun z => q (by rw [z]; exact hd)
    have := g.n b (by rw [upd_ne h1, upd_ne h2]; exact q)
    exact ⟨this.1, by rw [upd_ne h1]; exact this.2⟩
/-- what Doc(rows) asks and tells -/
theorem made_doc {C x dx : Addr} {H U : Hp} {a : Addr} {xs : List V} {rs : List Row} {Q : VK} {E : XK} (hx : H x = none) (hd : H dx = none) (hne : dx ≠ x) (s1 : Same U H) (ha : SqL K H a xs) (hin : RowsIn K U H xs rs) (hok : OkRows rs) (h0 : 0 < rs.length) (h200 : rs.length ≤ 200)
    (k : ∀ (U' H' : Hp), Gr S0 U H U' H' → DocAt K C U' x rs → Q .non H') : sp_init K C [.ref x, .ref a] (upd (upd H dx (.own x)) x (.ins C dx [])) Q E := by
  have sm : Same H (upd (upd H dx (.own x)) x (.ins C dx [])) := fun b o e => by
    rw [upd_ne (ne_of_none e hx), upd_ne (ne_of_none e hd)]
    exact e
  refine ⟨x, dx, a, xs, rs, U, rfl, upd_same, s1.trans sm, vfree s1 hx, sqlS sm ha, hin.mono (Same.refl _) sm, hok, h0, h200, fun l ws U' H' g ux hl hdp e => ?_⟩
  have g' := Gr.made (S := S0) s1 hx hd hne g ux e
  have nlx : l ≠ x := fun z => by
    rw [z, ux] at hl
    cases hl
  refine k _ H' g' ⟨dx, l, ws, upd_same, by rw [upd_ne nlx]; exact hl, dpsS (fun b o e => ?_) hdp⟩
  have hb : b ≠ x := fun z => by
    rw [z, ux] at e
    cases e
  rw [upd_ne hb]
  exact e
section
variable {X : Cx}
theorem mk_Doc {W : Wd} {e : Expr} {t : TA} {p pos : Pos} (T : Txt X.w X.K X.mg W) (hr : Room 6 X.A) (ha : PA X [e] t) (hg : Gl X "Doc" := by rfl)
    (he : starEach [e] X.env = (false, eval e X.env) :: starEach [] X.env := by rfl) (hpl : (backTo pos (starEach [] X.env)).any (·.1) = false := by rfl) :
    PE X (.Call (.Name "Doc" p) [e] [] pos) (tMake W.c_Doc (sp_init X.K W.c_Doc) [] E0 t) :=
  pe_makeD (d_Doc___init__ T) T.mk_Doc T.c_Doc hr ha hg (by decide) he hpl
theorem mk_DocK {K : PySem.W.Frag} {W : Wd} {e : Expr} {t : TA} {p pos : Pos} (T : Txt X.w K X.mg W) (hr : Room 6 X.A) (ha : PA X [e] t) (hK : X.K = K := by rfl) (hg : Gl X "Doc" := by rfl)
    (he : starEach [e] X.env = (false, eval e X.env) :: starEach [] X.env := by rfl) (hpl : (backTo pos (starEach [] X.env)).any (·.1) = false := by rfl) :
    PE X (.Call (.Name "Doc" p) [e] [] pos) (tMake W.c_Doc (sp_init K W.c_Doc) [] E0 t) := by
  subst hK
  exact mk_Doc T hr ha hg he hpl
theorem mk_Doc_kw {W : Wd} {e : Expr} {tk : TA} {p pos q : Pos} (T : Txt X.w X.K X.mg W) (hr : Room 6 X.A) (ha : PK X [⟨some "rows", e, q⟩] tk) (hg : Gl X "Doc" := by rfl)
    (hall : (backToKw pos (keywordEach [⟨some "rows", e, q⟩] X.env)).all (·.1.isSome) = true := by rfl) (hks : (backToKw pos (keywordEach [⟨some "rows", e, q⟩] X.env)).filterMap (·.1) = (["rows"] : List Str) := by rfl)
    (hpl : ((backTo pos (starEach [] X.env)).any (·.1) || (backToKw pos (keywordEach [⟨some "rows", e, q⟩] X.env)).any (·.1.isNone)) = false := by rfl) :
    PE X (.Call (.Name "Doc" p) [] [⟨some "rows", e, q⟩] pos) (tMakeK W.c_Doc 0 1 (sp_init X.K W.c_Doc) (fun vs zs => vs ++ zs) E0 tNil tk) :=
  pe_makeD_kw (ks := ["rows"]) (d_Doc___init__ T) T.mk_Doc T.c_Doc hr (fun _ _ _ _ _ _ us ws h1 h2 => match us, ws, h1, h2 with | [_], [_], _, _ => rfl) ha hg hall hks (by decide) hpl
theorem call_Doc_row_list {W : Wd} {o : Expr} {ta : TE} {apos pos : Pos} {pl : Sem Bool} (T : Txt X.w X.K X.mg W) (hr : Room 2 X.A) (he : PE X o ta)
    (ht : eval (.Call (.Attribute o "row_list" apos) [] [] pos) X.env = (do
      let ov ← eval o X.env
      standAt apos.atName
      let (f, first) ← holding [ov] (getMethod ov "row_list" pl)
      callWith pos f first (backTo pos (starEach [] X.env)) (backToKw pos (keywordEach [] X.env))) := by rfl) :
    PE X (.Call (.Attribute o "row_list" apos) [] [] pos) (tMeth W.c_Doc "row_list" (sp_rowlist X.K W.c_Doc) [] E0 ta tNil) :=
  pe_methD0 (d_Doc_row_list T) T.cl_Doc hr he ht
end
end
end Lw

namespace Lw
open PySem PySem.Spec PyProof.Rows L2 VW TL
local macro_rules | `(tactic| walk_at "rdc") => `(tactic| first | assumption | rfl | decide | omega | exact Or.inr ⟨by decide, by decide⟩ | exact ⟨by decide, by decide⟩ | exact ⟨by decide, by decide, by decide⟩ | (show (0 : Int) < _; omega) | (show (0 : Int) < _ ∧ _ < (1073741824 : Int); omega) | (show (-(2 ^ 64) < _ ∧ _ < 2 ^ 64) ∨ (-(2 ^ 64) < _ ∧ _ < 2 ^ 64); omega) | (show (-(2 ^ 64) < _ ∧ _ < 2 ^ 64) ∨ (-(2 ^ 64) < _ ∧ _ < 2 ^ 64); right; split <;> decide) | exact Nat.le_of_ble_eq_true rfl)
local macro_rules | `(tactic| walk_at "rd1") => `(tactic| first | refine ⟨_, rfl, ?_⟩ | refine And.intro (by walk_at "rdc") ?_ | refine ⟨_, _, rfl, rfl, ?_⟩ | refine Or.inl ⟨_, rfl, ?_⟩ | refine Or.inr ⟨_, rfl, ?_⟩ | refine ⟨_, _, _, _, rfl, rfl, sqlO (by first | assumption | exact upd_same), rfl, ?_⟩ | refine ⟨_, _, _, _, rfl, rfl, (by first | assumption | exact upd_same), rfl, ?_⟩)
local macro_rules | `(tactic| walk_at "rd") => `(tactic| repeat (walk_at "rd1"))

section
variable {P : Program} {w : World} {K : PySem.W.Frag} {mg : Str → Option Value} {base : Heap} {W : Wd}
/-! ### what is shown is short -/
theorem int_len : ∀ j : Fin 201, (Str.ofString (toString (j.val : Int))).length ≤ 3 := by decide +kernel
theorem shown_int {j : Int} (h : 0 ≤ j ∧ j < 200) : (PyData.shown (.int j)).length ≤ 3 := by
  obtain ⟨n, rfl⟩ : ∃ n : Nat, j = (n : Int) := ⟨j.toNat, by omega⟩
  show (Str.ofString (toString (n : Int))).length ≤ 3
  exact int_len ⟨n, by omega⟩
theorem good_repr {n : Nat} {z : Str} (h : GoodS n z) : (reprText z).length ≤ 10 * n + 2 := by
  have q := StrLaws.reprText_len z fun c hc => Nat.lt_of_le_of_lt (h.2 c hc).2 (by decide)
  have := h.1
  have e : z.length = z.cps.size := rfl
  omega
theorem piled_le {m : Nat} : ∀ {ts : List Str}, (∀ t ∈ ts, t.length ≤ m) → piled ts ≤ ts.length * (m + 2)
  | [], _ => Nat.zero_le _
  | t :: ts, h => by
    have := piled_le (ts := ts) fun t h' => h t (List.mem_cons_of_mem _ h')
    have h1 := h t List.mem_cons_self
    rw [piled_cons, List.length_cons, Nat.succ_mul]
    omega
theorem list_len (ts : List Str) : (listText ts).length ≤ piled ts + 2 := by
  have hb : ∀ x y : Str, (x ++ y).length = x.length + y.length := fun x y => Str.length_append x y
  cases ts with
  | nil => decide +kernel
  | cons t r =>
    unfold listText
    rw [hb]
    show (textFrom 1 (("[" : Str) ++ ("" : String) ++ t) r).length + _ ≤ _
    rw [textFrom_length_pos r 1 _ (by decide), piled_cons, hb, hb]
    have e1 : ("[" : Str).length = 1 := by decide +kernel
    have e2 : (("" : String) : Str).length = 0 := by decide +kernel
    have e3 : ("]" : Str).length = 1 := by decide +kernel
    omega
theorem tup_len (ts : List Str) : (tupleText ts).length ≤ piled ts + 5 := by
  have hb : ∀ x y : Str, (x ++ y).length = x.length + y.length := fun x y => Str.length_append x y
  have e1 : ("(" : Str).length = 1 := by decide +kernel
  have e3 : ∀ b : Bool, ((if b = true then ",)" else ")" : String) : Str).length ≤ 2 := by decide +kernel
  unfold tupleText
  rw [hb, hb]
  have q := e3 (ts.length == 1)
  by_cases h : ts = []
  · subst h
    have e4 : (Str.join ", " []).length = 0 := by decide +kernel
    omega
  · have := join_length_add ts h
    omega
theorem shown_row {k : Nat} {r : Row} (h : r.ok k) (hk : k ≤ 200) : r.data.shown.length ≤ 1000 ∧ r.data.showable = true ∧ r.data.hasDict = false := by
  have kd : ∀ z : Str, z ∈ (["text", "line", "hard", "cat", "nest", "align", "group"] : List Str) → (reprText z).length ≤ 7 := by decide +kernel
  have one : ∀ (z : Str) (ds : List PyData) (m : Nat), z ∈ (["text", "line", "hard", "cat", "nest", "align", "group"] : List Str) → (∀ t ∈ PyData.shownAll ds, t.length ≤ m) → (PyData.shownAll ds).length ≤ 2 → 7 ≤ m → (PyData.shown (.tuple (.str z :: ds))).length ≤ 3 * (m + 2) + 5 := fun z ds m hz hm hl h7 => by
    show (tupleText (reprText z :: PyData.shownAll ds)).length ≤ _
    have q := piled_le (m := m) (ts := reprText z :: PyData.shownAll ds) fun t ht => by
      rcases List.mem_cons.mp ht with rfl | ht
      · exact Nat.le_trans (kd z hz) h7
      · exact hm t ht
    have := tup_len (reprText z :: PyData.shownAll ds)
    rw [List.length_cons] at q
    have : ((PyData.shownAll ds).length + 1) * (m + 2) ≤ 3 * (m + 2) := Nat.mul_le_mul_right _ (by omega)
    omega
  have lg : ∀ {j : Int}, 0 ≤ j → j < 200 → decide (j.natAbs.log2 < 1920) = true := fun {j} a b => decide_eq_true (by
    have h1 : j.natAbs < 2 ^ 8 := by omega
    by_cases h0 : j.natAbs = 0
    · rw [h0]; decide
    · have := (Nat.log2_lt h0).mpr h1
      omega)
  cases r with
  | text z =>
    refine ⟨Nat.le_trans (one _ _ 300 (by simp) (fun t ht => ?_) (Nat.le_of_ble_eq_true rfl) (by decide)) (by decide), rfl, rfl⟩
    rw [List.mem_singleton.mp ht]
    exact Nat.le_trans (good_repr h) (by decide)
  | line z =>
    refine ⟨Nat.le_trans (one _ _ 300 (by simp) (fun t ht => ?_) (Nat.le_of_ble_eq_true rfl) (by decide)) (by decide), rfl, rfl⟩
    rw [List.mem_singleton.mp ht]
    exact Nat.le_trans (good_repr h) (by decide)
  | hard => exact ⟨by decide +kernel, rfl, rfl⟩
  | cat ps =>
    have hp : ∀ t ∈ PyData.shownAll (ps.map PyData.int), t.length ≤ 3 ∧ True := by
      have := h.2
      clear h
      induction ps with
      | nil => intro t ht; cases ht
      | cons p ps ih =>
        intro t ht
        rcases List.mem_cons.mp ht with rfl | ht
        · exact ⟨shown_int (by have := this p List.mem_cons_self; omega), True.intro⟩
        · exact ih (fun j hj => this j (List.mem_cons_of_mem _ hj)) t ht
    have hl : (PyData.shownAll (ps.map PyData.int)).length = ps.length := by
      clear h hp
      induction ps with
      | nil => rfl
      | cons p ps ih => show _ + 1 = _ + 1; rw [ih]
    have hs : PyData.showableAll (ps.map PyData.int) = true ∧ PyData.hasDictAll (ps.map PyData.int) = false := by
      have := h.2
      clear h hp hl
      induction ps with
      | nil => exact ⟨rfl, rfl⟩
      | cons p ps ih =>
        obtain ⟨a, b⟩ := ih fun j hj => this j (List.mem_cons_of_mem _ hj)
        obtain ⟨j0, j1⟩ := this p List.mem_cons_self
        refine ⟨?_, ?_⟩
        · show (decide _ && PyData.showableAll _) = true
          rw [a, lg j0 (by omega)]
          rfl
        · show (false || PyData.hasDictAll _) = false
          rw [b]
          rfl
    refine ⟨Nat.le_trans (one _ _ 300 (by simp) (fun t ht => ?_) (Nat.le_of_ble_eq_true rfl) (by decide)) (by decide), ?_, ?_⟩
    · rw [List.mem_singleton.mp ht]
      show (listText _).length ≤ 300
      have q1 := list_len (PyData.shownAll (ps.map PyData.int))
      have q2 := piled_le (m := 3) fun t ht => (hp t ht).1
      rw [hl] at q2
      have := h.1
      have : ps.length * (3 + 2) ≤ 8 * (3 + 2) := Nat.mul_le_mul_right _ this
      omega
    · show (true && (PyData.showableAll _ && true)) = true
      rw [hs.1]
      rfl
    · show (false || (PyData.hasDictAll _ || false)) = false
      rw [hs.2]
      rfl
  | nest n j =>
    refine ⟨Nat.le_trans (one _ _ 300 (by simp) (fun t ht => ?_) (Nat.le_of_ble_eq_true rfl) (by decide)) (by decide), ?_, rfl⟩
    · rcases List.mem_cons.mp ht with rfl | ht
      · exact Nat.le_trans (shown_int ⟨h.1, by have := h.2.1; omega⟩) (by decide)
      · rw [List.mem_singleton.mp ht]
        exact Nat.le_trans (shown_int ⟨h.2.2.1, by have := h.2.2.2; omega⟩) (by decide)
    · show (true && (decide _ && (decide _ && true))) = true
      rw [lg h.1 (by have := h.2.1; omega), lg h.2.2.1 (by have := h.2.2.2; omega)]
      rfl
  | align j =>
    refine ⟨Nat.le_trans (one _ _ 300 (by simp) (fun t ht => ?_) (Nat.le_of_ble_eq_true rfl) (by decide)) (by decide), ?_, rfl⟩
    · rw [List.mem_singleton.mp ht]
      exact Nat.le_trans (shown_int ⟨h.1, by have := h.2; omega⟩) (by decide)
    · show (true && (decide _ && true)) = true
      rw [lg h.1 (by have := h.2; omega)]
      rfl
  | group j =>
    refine ⟨Nat.le_trans (one _ _ 300 (by simp) (fun t ht => ?_) (Nat.le_of_ble_eq_true rfl) (by decide)) (by decide), ?_, rfl⟩
    · rw [List.mem_singleton.mp ht]
      exact Nat.le_trans (shown_int ⟨h.1, by have := h.2; omega⟩) (by decide)
    · show (true && (decide _ && true)) = true
      rw [lg h.1 (by have := h.2; omega)]
      rfl
theorem shown_rows {rs : List Row} (h : OkRows rs) (h200 : rs.length ≤ 200) : (dat rs).shown.length ≤ sizeLine ∧ (dat rs).showable = true ∧ (dat rs).hasDict = false ∧ (dat rs).depth ≤ 64 := by
  have all : ∀ r ∈ rs, r.data.shown.length ≤ 1000 ∧ r.data.showable = true ∧ r.data.hasDict = false := fun r hr => by
    obtain ⟨i, hi⟩ := List.mem_iff_getElem?.mp hr
    exact shown_row (h i r hi) (by have := (List.getElem?_eq_some_iff.mp hi).1; omega)
  have hdep := (rows_lay h.mem).2
  clear h
  have q : (∀ t ∈ PyData.shownAll (rs.map Row.data), t.length ≤ 1000) ∧ (PyData.shownAll (rs.map Row.data)).length = rs.length ∧ PyData.showableAll (rs.map Row.data) = true ∧ PyData.hasDictAll (rs.map Row.data) = false := by
    clear h200 hdep
    induction rs with
    | nil => exact ⟨(fun t ht => by cases ht), rfl, rfl, rfl⟩
    | cons r rs ih =>
      obtain ⟨a, b, c, d⟩ := ih fun r hr => all r (List.mem_cons_of_mem _ hr)
      obtain ⟨a1, b1, c1⟩ := all r List.mem_cons_self
      refine ⟨fun t ht => ?_, by show _ + 1 = _ + 1; rw [b], ?_, ?_⟩
      · rcases List.mem_cons.mp ht with rfl | ht
        · exact a1
        · exact a t ht
      · show (r.data.showable && PyData.showableAll _) = true
        rw [b1, c]
        rfl
      · show (r.data.hasDict || PyData.hasDictAll _) = false
        rw [c1, d]
        rfl
  obtain ⟨a, b, c, d⟩ := q
  refine ⟨?_, c, d, by show PyData.depthAll (rs.map Row.data) + 1 ≤ 64; omega⟩
  show (listText _).length ≤ _
  have q1 := list_len (PyData.shownAll (rs.map Row.data))
  have q2 := piled_le a
  rw [b] at q2
  have : rs.length * (1000 + 2) ≤ 200 * (1000 + 2) := Nat.mul_le_mul_right _ h200
  exact Nat.le_trans (by omega : _ ≤ 300000) (by decide)
end
end Lw

namespace Lw
open PySem PySem.Spec PyProof.Rows L2 VW TL
local macro_rules | `(tactic| walk_at "rdc") => `(tactic| first | assumption | rfl | decide | omega | exact Or.inr ⟨by decide, by decide⟩ | exact ⟨by decide, by decide⟩ | exact ⟨by decide, by decide, by decide⟩ | (show (0 : Int) < _; omega) | (show (0 : Int) < _ ∧ _ < (1073741824 : Int); omega) | (show (-(2 ^ 64) < _ ∧ _ < 2 ^ 64) ∨ (-(2 ^ 64) < _ ∧ _ < 2 ^ 64); omega) | (show (-(2 ^ 64) < _ ∧ _ < 2 ^ 64) ∨ (-(2 ^ 64) < _ ∧ _ < 2 ^ 64); right; split <;> decide) | exact Nat.le_of_ble_eq_true rfl)
local macro_rules | `(tactic| walk_at "rd1") => `(tactic| first | refine ⟨_, rfl, ?_⟩ | refine And.intro (by walk_at "rdc") ?_ | refine ⟨_, _, rfl, rfl, ?_⟩ | refine Or.inl ⟨_, rfl, ?_⟩ | refine Or.inr ⟨_, rfl, ?_⟩ | refine ⟨_, _, _, _, rfl, rfl, sqlO (by first | assumption | exact upd_same), rfl, ?_⟩ | refine ⟨_, _, _, _, rfl, rfl, (by first | assumption | exact upd_same), rfl, ?_⟩)
local macro_rules | `(tactic| walk_at "rd") => `(tactic| repeat (walk_at "rd1"))

section
variable {P : Program} {w : World} {K : PySem.W.Frag} {mg : Str → Option Value} {base : Heap} {W : Wd}
def Row.isCat : Row → Bool
  | .cat _ => true
  | _ => false
theorem kind_cat (r : Row) : decide (V.str r.kind = V.str "cat") = r.isCat := by
  cases r with
  | text z => show decide (V.str "text" = V.str "cat") = false; decide +kernel
  | line z => show decide (V.str "line" = V.str "cat") = false; decide +kernel
  | hard => show decide (V.str "hard" = V.str "cat") = false; decide +kernel
  | cat ps => show decide (V.str "cat" = V.str "cat") = true; decide +kernel
  | nest n j => show decide (V.str "nest" = V.str "cat") = false; decide +kernel
  | align j => show decide (V.str "align" = V.str "cat") = false; decide +kernel
  | group j => show decide (V.str "group" = V.str "cat") = false; decide +kernel
/-- a row whose list of parts may have been changed -/
def RowMut (K : PySem.W.Frag) (U Hn H : Hp) (n : Nat) (v : V) : Row → Prop
  | .cat _ => ∃ q l xs, v = .ref q ∧ U q = some (.tup [.str "cat", .ref l]) ∧ U l = none ∧ Hn l = none ∧ H l = some (.lst xs) ∧ xs.length ≤ n
  | r => Dp K U v r.data
theorem RowNew.mut {U Hn H : Hp} {v : V} {r : Row} {k : Nat} (h : RowNew K U Hn H v r) (hk : r.ok k) : RowMut K U Hn H 8 v r := by
  cases r with
  | cat ps =>
    obtain ⟨q, l, rfl, h1, h2, h3, h4⟩ := h
    exact ⟨q, l, _, rfl, h1, h2, h3, h4, by rw [List.length_map]; exact hk.1⟩
  | _ => exact h
theorem RowNew.rin {U Hn H : Hp} {v : V} {r : Row} (h : RowNew K U Hn H v r) : RowIn K U H v r := by
  cases r with
  | cat ps =>
    obtain ⟨q, l, rfl, h1, h2, h3, h4⟩ := h
    exact ⟨q, l, rfl, sqtO h1, sqlO h4⟩
  | _ => exact h
theorem RowsNew.rin {U Hn H : Hp} {vs : List V} {rs : List Row} (h : RowsNew K U Hn H vs rs) : RowsIn K U H vs rs := ⟨h.1, fun i v r e1 e2 => (h.2 i v r e1 e2).rin⟩
theorem data_kind (r : Row) : ∃ ds, r.data = .tuple (.str r.kind :: ds) := by
  cases r <;> exact ⟨_, rfl⟩
theorem RowMut.head {U Hn H : Hp} {v : V} {r : Row} {n : Nat} (s : Same U H) (h : RowMut K U Hn H n v r) : ∃ a xs, v = .ref a ∧ SqT K H a (.str r.kind :: xs) := by
  cases r with
  | cat ps =>
    obtain ⟨q, l, xs, rfl, h1, _⟩ := h
    exact ⟨q, _, rfl, sqtO (s _ _ h1)⟩
  | _ =>
    cases dpS s h with
    | tup ht hs =>
      cases hs with | cons a1 hs =>
      cases a1
      exact ⟨_, _, rfl, ht⟩
/-- one such list is changed: all rows stay such -/
theorem RowMut.put {U Hn H : Hp} {v : V} {r : Row} {n m : Nat} {l : Addr} {xs : List V} (h : RowMut K U Hn H n v r) (hx : xs.length ≤ m) (hn : n ≤ m) : RowMut K U Hn (upd H l (.lst xs)) m v r := by
  cases r with
  | cat ps =>
    obtain ⟨q, l', ys, rfl, h1, h2, h3, h4, h5⟩ := h
    by_cases e : l' = l
    · subst e
      exact ⟨q, l', xs, rfl, h1, h2, h3, upd_same, hx⟩
    · exact ⟨q, l', ys, rfl, h1, h2, h3, by rw [upd_ne e]; exact h4, Nat.le_trans h5 hn⟩
  | _ => exact h
theorem RowMut.more {U Hn H : Hp} {v : V} {r : Row} {n m : Nat} (h : RowMut K U Hn H n v r) (hn : n ≤ m) : RowMut K U Hn H m v r := by
  cases r with
  | cat ps =>
    obtain ⟨q, l', ys, rfl, h1, h2, h3, h4, h5⟩ := h
    exact ⟨q, l', ys, rfl, h1, h2, h3, h4, Nat.le_trans h5 hn⟩
  | _ => exact h
theorem RowMut.grow {U Hn H U' H' : Hp} {v : V} {r : Row} {n : Nat} (h : RowMut K U Hn H n v r) (g : Gr S0 U H U' H') : RowMut K U' Hn H' n v r := by
  cases r with
  | cat ps =>
    obtain ⟨q, l', ys, rfl, h1, h2, h3, h4, h5⟩ := h
    exact ⟨q, l', ys, rfl, g.v _ _ h1, g.out (some_ne h4) h2, h3, g.same _ _ h4, h5⟩
  | _ => exact dpS g.v h
/-! ### == of documents -/
theorem eq_mono {C : Addr} : ∀ vs H Q Q' E, (∀ v H', Q v H' → Q' v H') → sp_eq K C vs H Q E → sp_eq K C vs H Q' E := by
  rintro vs H Q Q' E hq ⟨x, y, rs, U, e, s, d, o, z⟩
  refine ⟨x, y, rs, U, e, s, d, o, ?_⟩
  rcases z with ⟨y', qs, e1, d1, o1, q⟩ | ⟨e1, q⟩
  · exact .inl ⟨y', qs, e1, d1, o1, hq _ _ q⟩
  · exact .inr ⟨e1, hq _ _ q⟩
theorem eqok (T : Txt w K mg W) : EqOk P w K mg base W.c_Doc 1 (sp_eq K W.c_Doc) := by
  obtain ⟨f, fd, h1, h2, F, hb, G⟩ := (d_Doc___eq__ (P := P) (base := base) T).ex
  exact ⟨f, fd, h1, h2, hb, G⟩
theorem eq_Doc {X : Cx} {W : Wd} (T : Txt X.w X.K X.mg W) (hr : Room 1 X.A) : OpR X (compareOp .Eq) (rEqO X.K W.c_Doc (sp_eq X.K W.c_Doc)) := op_eqO (eqok T) hr eq_mono
theorem ne_Doc {X : Cx} {W : Wd} (T : Txt X.w X.K X.mg W) (hr : Room 2 X.A) : OpR X (compareOp .NotEq) (rNeO W.c_Doc (sp_eq X.K W.c_Doc)) := op_neO (eqok T) T.ne_Doc hr eq_mono
/-- what holds between the parts of a turn -/
structure Sta (K : PySem.W.Frag) (C : Addr) (Hs U H : Hp) (p q x y : Addr) (vs : List V) (rs : List Row) : Prop where
  hs : Same Hs U
  src : Src U H p
  stk : U q = some (.lst vs)
  dp : DpAll K U vs (rs.map Row.data)
  ok : OkRows rs
  n0 : 0 < rs.length
  n25 : rs.length ≤ 25
  one : DocAt K C U x rs
  oth : DocAt K C U y rs
theorem Sta.grow {C : Addr} {Hs U H U' H' : Hp} {p q x y : Addr} {vs : List V} {rs : List Row} (s : Sta K C Hs U H p q x y vs rs) (g : Same U U') (src : Src U' H' p) : Sta K C Hs U' H' p q x y vs rs :=
  ⟨s.hs.trans g, src, g _ _ s.stk, dpsS g s.dp, s.ok, s.n0, s.n25, s.one.mono g, s.oth.mono g⟩
theorem Src.grow {U H U' H' : Hp} {p : Addr} (S : Src U H p) (g : Gr S0 U H U' H') : Src U' H' p := by
  obtain ⟨a, b, c, e⟩ := S.h
  exact ⟨g.s, g.out (some_ne e) S.o, a, b, c, g.same _ _ e⟩
theorem dp_head {H : Hp} {v : V} {r : Row} (h : Dp K H v r.data) : ∃ a xs, v = .ref a ∧ SqT K H a (.str r.kind :: xs) := by
  cases r with
  | _ =>
    cases h with
    | tup ht hs =>
      cases hs with | cons a1 hs =>
      cases a1
      exact ⟨_, _, rfl, ht⟩
theorem isCat_of {r : Row} (h : r.isCat = true) : ∃ ps, r = .cat ps := by
  cases r with
  | cat ps => exact ⟨ps, rfl⟩
  | _ => cases h
theorem RowNew.plain {U Hn H : Hp} {v : V} {r : Row} (h : r.isCat = false) (d : Dp K U v r.data) : RowNew K U Hn H v r := by
  cases r with
  | cat ps => cases h
  | _ => exact d
def sp_law (K : PySem.W.Frag) : Sp := fun vs H Q _ => ∃ (a : Addr) (ns : List Int), vs = [.ref a] ∧ SqL K H a (ns.map V.int) ∧ ns.length ≤ 63 ∧ ∀ H', Q (.bl true) H'
theorem sc_law : FnScope ["_law_script", "_law_cell", "_law_source", "_law_stack", "_law_handed", "_law_one_here", "_law_other", "_law_row_here", "_law_told", "_law_at", "_law_bent", "_law_more"] ["_law_script"] (defScope s_law) := ⟨rfl, rfl, rfl, by decide +kernel, rfl, by decide +kernel, by decide +kernel⟩
/-- the documents are equal, and row_list tells the rows -/
theorem tell {C : Addr} {Hs U H : Hp} {p q x y : Addr} {vs : List V} {rs : List Row} {Q : VK} (s : Sta K C Hs U H p q x y vs rs)
    (k : ∀ (p' : Addr) (ws : List V) (U' H' Hb : Hp), Gr S0 U H U' H' → U' p' = none → H' p' = some (.lst ws) → (∀ b, Hb b = none → H b = none) → Hb p' ≠ none → RowsNew K U' Hb H' ws rs → Sta K C Hs U' H' p q x y vs rs → Dp K H' (.ref p') (dat rs) → Q (.ref p') H') : sp_rowlist K C [.ref x] H Q E0 :=
  ⟨x, rs, U, rfl, s.src.v, s.one, Nat.le_trans s.n25 (by decide), fun p' ws U' H' Hb g hp u hw hb1 hb2 hn => k p' ws U' H' Hb g u hw hb1 hb2 hn (s.grow g.v (s.src.grow g)) (.lst (sqlO hw) (hn.rin.dp g.s))⟩
theorem Sta.dpS {C : Addr} {Hs U H : Hp} {p q x y : Addr} {vs : List V} {rs : List Row} (s : Sta K C Hs U H p q x y vs rs) : Dp K H (.ref q) (dat rs) := .lst (sqlO (s.src.v _ _ s.stk)) (dpsS s.src.v s.dp)
theorem Sta.insX {C : Addr} {Hs U H : Hp} {p q x y : Addr} {vs : List V} {rs : List Row} (s : Sta K C Hs U H p q x y vs rs) : ∃ dx l, H x = some (.ins C dx (docF l)) := by
  obtain ⟨dx, l, ws, h, _⟩ := s.one
  exact ⟨dx, l, s.src.v _ _ h⟩
theorem Sta.insY {C : Addr} {Hs U H : Hp} {p q x y : Addr} {vs : List V} {rs : List Row} (s : Sta K C Hs U H p q x y vs rs) : ∃ dx l, H y = some (.ins C dx (docF l)) := by
  obtain ⟨dx, l, ws, h, _⟩ := s.oth
  exact ⟨dx, l, s.src.v _ _ h⟩
theorem Sta.eqXY {C : Addr} {Hs U H : Hp} {p q x y : Addr} {vs : List V} {rs : List Row} {Q : VK} (s : Sta K C Hs U H p q x y vs rs) (k : Q (.bl true) H) : sp_eq K C [.ref x, .ref y] H Q E0 :=
  ⟨x, _, rs, U, rfl, s.src.v, s.one, s.ok, .inl ⟨y, rs, rfl, s.oth, s.ok, by rw [eqv_rows s.ok]; exact k⟩⟩
theorem small {n : Nat} (h : n ≤ 1000) : n ≤ sizeLine := Nat.le_of_lt (small1000 h)
theorem nilA {σ : L2.St} {H : Hp} {Q : List V → Hp → Prop} (h : Q [] H) : tNil σ H Q := h
theorem fn_law (T : Txt w K mg W) {f : Addr} {fd : FuncData} (F : Fun K "law" "law" s_law f fd) : FnOkG P w K mg base 9 f fd ["_law_script"] (sp_law K) := by
  refine F.okG sc_law (fun vs H Q E h => ?_) (fun cdv A outer s H vs Q E hgd hr h => ?_)
  · obtain ⟨a, ns, rfl, _⟩ := h
    rfl
  · obtain ⟨a, ns, rfl, ha, h63, k⟩ := h
    have hu65 : (A.deeper (envOfC "law" (defScope s_law) s.heap.objs.size f cdv)).units + 65 < cLine := by have := hr.un; omega
    refine ⟨_, (pss_cons (ps_for PassesOwn.never rfl (pi_list (pe_op op_cat (pe_lst (pa_cons (pe_callD (d__law_cell_at T) (hr.mono (by decide)) (pa_cons (pv 0) (pa_cons pe_int pa_nil))) pa_nil)) (pe_slice sl_list (pv 0) (po_some pe_int) (po_some pe_int)))) (pg_name (i := 1) sc_law.nd rfl (Or.inl rfl))
      (pss_cons (ps_set (i := 2) sc_law.nd rfl (Or.inl rfl) (pe_callD (d__law_source_of T) (hr.mono (by decide)) (pa_cons (pv 1) pa_nil)))
      (pss_cons (ps_set (i := 3) sc_law.nd rfl (Or.inl rfl) (pe_callD (d__law_rows T) (hr.mono (by decide)) (pa_cons (pv 2) (pa_cons pe_int pa_nil))))
      (pss_cons (ps_setLc (i := 4) (own := [("_law_row_here", 7)]) (g := (gName 7)) (tt := tYes) rfl sc_law.nd rfl rfl (sw_true rfl rfl rfl (by decide +kernel)) (pi_list (pv 3)) (blkOk_by (own := [("_law_row_here", 7)]) (N := ["_law_script", "_law_cell", "_law_source", "_law_stack", "_law_handed", "_law_one_here", "_law_other", "_law_row_here", "_law_told", "_law_at", "_law_bent", "_law_more"]) (sc := defScope s_law) (by decide +kernel)) (fun _ _ _ _ _ => (pg_name (i := 7) sc_law.nd rfl (Or.inl rfl))) (fun _ _ _ _ _ => pts_nil) (fun _ _ _ _ _ => (pe_ifExp (pt_cmpR op_eq (pe_ix (ix_tupK (K := K)) (pv 7) pe_int (fun _ _ => rfl)) pe_str (nomark _)) (pe_tup (pa_cons pe_str (pa_cons (pe_callTy (T := "list") (call_list_ofK (K := K)) (by rfl) T.n_list (by decide +kernel) (pa_cons (pe_ix (ix_tupK (K := K)) (pv 7) pe_int (fun _ _ => rfl)) pa_nil)) pa_nil))) (pv 7))))
      (pss_cons (ps_par (i := 5) (j := 6) (by rfl) sc_law.nd rfl rfl (by decide) rfl rfl (pa_cons (mk_Doc T (hr.mono (by decide)) (pa_cons (pv 4) pa_nil)) (pa_cons (mk_Doc_kw T (hr.mono (by decide)) (pk_cons (pe_callTy (T := "list") call_list_of (by rfl) T.n_list (by decide +kernel) (pa_cons (pv 3) pa_nil)) pk_nil)) pa_nil)) (by rfl))
      (pss_cons (ps_for PassesOwn.never rfl (pi_list (pv 4)) (pg_name (i := 7) sc_law.nd rfl (Or.inl rfl))
      (pss_one (ps_if (pt_cmpR op_eq (pe_ix ix_tup (pv 7) pe_int (fun _ _ => rfl)) pe_str (nomark _)) (pss_one (ps_expr (pe_bm PySem.F.plainAttrs_list PySem.F.slot_list_append PySem.F.type_list_append mt_append (pe_ix ix_tup (pv 7) pe_int (fun _ _ => rfl)) (pa_cons pe_int pa_nil)))) pss_nil)))
      (Evl.pss_cut (ps_expr (pe_bm PySem.F.plainAttrs_list PySem.F.slot_list_append PySem.F.type_list_append mt_append (pv 4) (pa_cons (pe_tup (pa_cons pe_str pa_nil)) pa_nil)))
      (pss_cons (ps_if (PW.pt (pw_or (pt_cmpR (ne_Doc T (hr.mono (by decide))) (pv 5) (pv 6) (nomark _)) (pw_or (pt_not (pt_cmpR (eq_Doc T (hr.mono (by decide))) (pv 5) (pv 6) (nomark _))) (pw_or (pt_cmpR (op_neD hr.units) (call_Doc_row_list T (hr.mono (by decide)) (pv 5)) (pv 3) (nomark _)) (pw_or1 (pt_cmpR op_ne (pe_callB (call_reprD hu65 hgd) (by rfl) T.n_repr (by decide +kernel) (pa_cons (call_Doc_row_list T (hr.mono (by decide)) (pv 5)) pa_nil)) (pe_callB (call_reprD hu65 hgd) (by rfl) T.n_repr (by decide +kernel) (pa_cons (pv 3) pa_nil)) (nomark _))))))) (pss_one (ps_ret pe_bl)) pss_nil)
      (pss_cons (ps_set (i := 8) sc_law.nd rfl (Or.inl rfl) (call_Doc_row_list T (hr.mono (by decide)) (pv 5)))
      (pss_cons (ps_for PassesOwn.never rfl (pi_list (pv 8)) (pg_name (i := 7) sc_law.nd rfl (Or.inl rfl))
      (pss_one (ps_if (pt_cmpR op_eq (pe_ix ix_tup (pv 7) pe_int (fun _ _ => rfl)) pe_str (nomark _)) (pss_one (ps_expr (pe_bm0 PySem.F.plainAttrs_list PySem.F.slot_list_clear PySem.F.type_list_clear mt_clear (pe_ix ix_tup (pv 7) pe_int (fun _ _ => rfl))))) pss_nil)))
      (Evl.pss_cut (ps_expr (pe_bm0 PySem.F.plainAttrs_list PySem.F.slot_list_pop PySem.F.type_list_pop mt_pop (pv 8)))
      (pss_cons (ps_if (PW.pt (pw_or (pt_cmpR (ne_Doc T (hr.mono (by decide))) (pv 5) (pv 6) (nomark _)) (pw_or1 (pt_cmpR (op_neD hr.units) (call_Doc_row_list T (hr.mono (by decide)) (pv 5)) (pv 3) (nomark _))))) (pss_one (ps_ret pe_bl)) pss_nil)
      (pss_cons (ps_set (i := 9) sc_law.nd rfl (Or.inl rfl) (pe_callD (d__law_next T) (hr.mono (by decide)) (pa_cons (pv 2) (pa_cons (pe_callB (id := "len") call_len (by rfl) T.n_len (by decide +kernel) (pa_cons (pv 3) pa_nil)) pa_nil))))
      (pss_cons (ps_set (i := 10) sc_law.nd rfl (Or.inl rfl) (pe_op op_cat (pe_op op_cat (pe_slice sl_list (pv 3) po_none (po_some (pv 9))) (pe_lst (pa_cons (pe_callD (d__law_row T) (hr.mono (by decide)) (pa_cons (pv 2) (pa_cons (pv 9) pa_nil))) pa_nil))) (pe_slice sl_list (pv 3) (po_some (pe_op op_add (pv 9) pe_int)) po_none)))
      (pss_cons (ps_set (i := 11) sc_law.nd rfl (Or.inl rfl) (pe_op op_cat (pv 3) (pe_lst (pa_cons (pe_callD (d__law_row T) (hr.mono (by decide)) (pa_cons (pv 2) (pa_cons (pe_callB (id := "len") call_len (by rfl) T.n_len (by decide +kernel) (pa_cons (pv 3) pa_nil)) pa_nil))) pa_nil))))
      (pss_cons (ps_if (PW.pt (pw_or (pt_cmpR op_ne (pe_cmpR (eq_Doc T (hr.mono (by decide))) (mk_Doc T (hr.mono (by decide)) (pa_cons (pv 10) pa_nil)) (pv 5) (nomark _)) (pe_cmpR (op_eqD hr.units) (pv 10) (pv 3) (nomark _)) (nomark _)) (pw_or (pt_cmpR (eq_Doc T (hr.mono (by decide))) (mk_Doc T (hr.mono (by decide)) (pa_cons (pv 11) pa_nil)) (pv 5) (nomark _)) (pw_or (pt_cmpR (eq_Doc T (hr.mono (by decide))) (pv 5) (pv 3) (nomark _)) (pw_or (pt_cmpR (op_eq1 (eqok T) (hr.mono (by decide)) eq_mono) (pe_lst (pa_cons (pv 5) pa_nil)) (pe_lst (pa_cons pe_non pa_nil)) (nomark _)) (pw_or1 (pt_cmpR (eq_Doc T (hr.mono (by decide))) (pv 5) pe_int (nomark _)))))))) (pss_one (ps_ret pe_bl)) pss_nil)
      (pss_one (ps_if (pt_cmpR (eq_Doc T (hr.mono (by decide))) (mk_Doc T (hr.mono (by decide)) (pa_cons (pe_lst (pa_cons (pe_tup (pa_cons pe_str (pa_cons pe_str pa_nil))) pa_nil)) pa_nil)) (mk_Doc T (hr.mono (by decide)) (pa_cons (pe_lst (pa_cons (pe_tup (pa_cons pe_str (pa_cons pe_str pa_nil))) pa_nil)) pa_nil)) (nomark _)) (pss_one (ps_ret pe_bl)) pss_nil))))))))))))))))))
      (pss_one (ps_ret (pe_cmpR (ne_Doc T (hr.mono (by decide))) (mk_Doc T (hr.mono (by decide)) (pa_cons (pe_op op_rep (pe_lst (pa_cons (pe_tup (pa_cons pe_str (pa_cons pe_str pa_nil))) pa_nil)) pe_int) pa_nil)) (mk_Doc T (hr.mono (by decide)) (pa_cons (pe_lst (pa_cons (pe_tup (pa_cons pe_str (pa_cons pe_str pa_nil))) pa_nil)) pa_nil)) (nomark _))))), ?_⟩
    -- the cells
    refine ⟨_, rfl, a, ns, 0, rfl, ha, by decide, fun c0 => ⟨Nat.le_of_ble_eq_true rfl, fun l0 hl0 => ?_⟩⟩
    have sm0 : Same H (upd H l0 (.lst [.int c0])) := fun b o e => by rw [upd_ne (ne_of_none e hl0)]; exact e
    refine ⟨_, rfl, _, rfl, _, rfl, a, _, rfl, sqlS sm0 ha, fun l1 hl1 => ?_⟩
    have n01 : l0 ≠ l1 := ne_of_none upd_same hl1
    have sm1 : Same H (upd (upd H l0 (.lst [.int c0])) l1 (.lst (cutV (ns.map V.int) (some 1) (some 5)))) := fun b o e => by
      have e' := sm0 b o e
      rw [upd_ne (ne_of_none e' hl1)]
      exact e'
    refine ⟨_, _, _, _, rfl, rfl, by rw [upd_ne n01]; exact upd_same, upd_same, small (by have := cutV_length (ns.map V.int) (some 1) (some 5); rw [List.length_map] at this; rw [List.length_singleton]; omega), fun l2 hl2 => ?_⟩
    obtain ⟨cs, ecs⟩ : ∃ cs : List Int, [V.int c0] ++ cutV (ns.map V.int) (some 1) (some 5) = cs.map V.int := by
      unfold cutV
      exact ⟨c0 :: _, by rw [List.map_cons, ← List.map_drop, ← List.map_take]; rfl⟩
    rw [ecs]
    refine ⟨l2, rfl, ⟨_, sqlO upd_same⟩, ?_⟩
    have sm2 : Same H (upd (upd (upd H l0 (.lst [.int c0])) l1 (.lst (cutV (ns.map V.int) (some 1) (some 5)))) l2 (.lst (cs.map V.int))) := fun b o e => by
      have e' := sm1 b o e
      rw [upd_ne (ne_of_none e' hl2)]
      exact e'
    have hl2' : (upd (upd (upd H l0 (.lst [.int c0])) l1 (.lst (cutV (ns.map V.int) (some 1) (some 5)))) l2 (.lst (cs.map V.int))) l2 = some (.lst (cs.map V.int)) := upd_same
    generalize upd (upd (upd H l0 (.lst [.int c0])) l1 (.lst (cutV (ns.map V.int) (some 1) (some 5)))) l2 (.lst (cs.map V.int)) = H0 at sm2 hl2' ⊢
    refine for_list (xs := cs.map V.int) (fun i σ H' => Same H0 H' ∧ ∃ v1 v2 v3 v4 v5 v6 v7 v8 v9 v10 v11, σ = [some (.ref a), v1, v2, v3, v4, v5, v6, v7, v8, v9, v10, v11]) ⟨Same.refl _, _, _, _, _, _, _, _, _, _, _, _, rfl⟩ (fun i σ H' _ z => sqlO (z.1 _ _ hl2')) ?_ ?_
    · rintro i y σ Ht hy ⟨smt, v1, v2, v3, v4, v5, v6, v7, v8, v9, v10, v11, rfl⟩
      obtain ⟨c, rfl⟩ : ∃ c, y = V.int c := by
        rw [List.getElem?_map] at hy
        cases e : cs[i]? with
        | none => rw [e] at hy; cases hy
        | some c => rw [e] at hy; exact ⟨c, (Option.some.inj hy).symm⟩
      refine ⟨_, rfl, c, rfl, fun p z1 z2 z3 hp => ?_⟩
      have S0 : Src Ht (upd Ht p (.lst [.int z1, .int z2, .int z3])) p := ⟨fun b o e => by rw [upd_ne (ne_of_none e hp)]; exact e, hp, _, _, _, upd_same⟩
      refine ⟨_, rfl, p, Ht, 25, rfl, S0, by decide, by decide, fun q vs rs U2 H2 g2 S2 hq hu2 hd2 hok n0 n25 => ?_⟩
      have hlen : vs.length = rs.length := by rw [dps_length hd2, List.length_map]
      -- handed
      refine ⟨_, rfl, q, rfl, ⟨_, sqlO (S2.v _ _ hu2)⟩, fun D hD => ?_⟩
      have hDn : (upd H2 D (.lst [])) D ≠ none := some_ne upd_same
      refine lc_list (xs := vs) (fun i H' => ∃ (U' : Hp) (ws : List V), Gr (fun b => b = D) U2 (upd H2 D (.lst [])) U' H' ∧ U' D = none ∧ H' D = some (.lst ws) ∧ RowsNew K U' (upd H2 D (.lst [])) H' ws (rs.take i)) ?_ (fun i H' _ ⟨U', ws, g, _⟩ => sqlO (g.s _ _ (g.v _ _ hu2))) ?_ ?_
      · exact ⟨U2, [], Gr.refl ((Gr.refl (S := VW.S0) S2.v).newH hD).s, vfree S2.v hD, upd_same, rfl, fun i v r e => by simp at e⟩
      · rintro i v H3 hv ⟨U', ws, g, v0, hdD, hn⟩
        have hi : i < rs.length := by rw [← hlen]; exact (List.getElem?_eq_some_iff.mp hv).1
        have hr2 : rs[i]? = some rs[i] := List.getElem?_eq_getElem hi
        obtain ⟨d, e1, e2⟩ := dps_get hd2 hv
        rw [List.getElem?_map, hr2] at e1
        cases e1
        have vl : ws.length = i := by rw [hn.1, List.length_take]; omega
        obtain ⟨ra, rx, rfl, rt⟩ := dp_head (dpS g.s (dpS g.v e2))
        -- what the turn leaves
        have fin : ∀ (v' : V) (U3 H3' : Hp), Gr VW.S0 U' H3 U3 H3' → RowNew K U3 H3 H3' v' rs[i] → ∃ acc, H3' D = some (.lst acc) ∧ acc.length < sizeLine ∧
            ∃ (U' : Hp) (ws : List V), Gr (fun b => b = D) U2 (upd H2 D (.lst [])) U' (upd H3' D (.lst (acc ++ [v']))) ∧ U' D = none ∧ (upd H3' D (.lst (acc ++ [v']))) D = some (.lst ws) ∧ RowsNew K U' (upd H2 D (.lst [])) (upd H3' D (.lst (acc ++ [v']))) ws (rs.take (i + 1)) := by
          intro v' U3 H3' g3 hnew
          have hd3 : H3' D = some (.lst ws) := g3.same _ _ hdD
          have u3D : U3 D = none := g3.out (some_ne hdD) v0
          refine ⟨ws, hd3, by rw [vl]; exact small1000 (by omega), U3, ws ++ [v'], (g.trans g3.of0).mut (.inl rfl) u3D, u3D, upd_same, ?_, fun j z r e1 e2 => ?_⟩
          · rw [List.length_append, List.length_take, vl, List.length_singleton]
            omega
          · by_cases hj : j < i
            · rw [List.getElem?_append_left (by omega)] at e1
              rw [List.getElem?_take_of_lt (by omega)] at e2
              exact RowNew.put (RowNew.mono (hn.2 j z r e1 (by rw [List.getElem?_take_of_lt hj]; exact e2)) g3) hDn
            · have ej : j = i := by
                have := (List.getElem?_eq_some_iff.mp e1).1
                rw [List.length_append, List.length_singleton, vl] at this
                omega
              subst ej
              rw [List.getElem?_append_right (by omega), vl, Nat.sub_self] at e1
              rw [List.getElem?_take_of_lt (by omega), hr2] at e2
              cases e1
              cases e2
              exact RowNew.put (RowNew.lower hnew fun b hb => g.free hb) hDn
        refine ⟨rfl, ?_⟩
        refine ⟨_, rfl, _, _, _, _, rfl, rfl, rt, at_of (j := 0) rfl rfl, ?_⟩
        refine ⟨rfl, _, rfl, ?_⟩
        cases hc : rs[i].isCat with
        | true =>
          refine ifT ((kind_cat _).trans hc) ?_
          obtain ⟨ps, hps⟩ := isCat_of hc
          have e3 := RowIn.of (K := K) g.s (dpS g.v e2)
          rw [hps] at e3 fin
          obtain ⟨a', l', ea, h1, h2⟩ := e3
          cases ea
          refine ⟨_, rfl, _, _, _, _, rfl, rfl, sqtS g.s h1, rfl, _, _, rfl, .inl h2, fun m hm => ?_⟩
          refine ⟨Nat.le_of_ble_eq_true rfl, fun t ht => ?_⟩
          have ga := (Gr.refl (S := VW.S0) g.s).newH (o := .lst (ps.map V.int)) hm
          have gb := ga.new (o := .tup [.str "cat", .ref m]) ht
          have nmt : m ≠ t := ne_of_none upd_same ht
          exact fin _ _ _ gb ⟨t, m, rfl, upd_same, by rw [upd_ne nmt]; exact vfree g.s hm, hm, by rw [upd_ne nmt]; exact upd_same⟩
        | false =>
          refine ifF ((kind_cat _).trans hc) ?_
          exact ⟨_, rfl, fin _ _ _ (Gr.refl g.s) (RowNew.plain hc (dpS g.v e2))⟩
      rintro H3 ⟨U3, ws, g3, v0, hdD, hn⟩
      rw [hlen, List.take_length] at hn
      have S3 : Src U3 H3 p := by
        obtain ⟨z1, z2, z3, e⟩ := S2.h
        have npD : p ≠ D := ne_of_none e hD
        exact ⟨g3.s, (g3.n p (some_ne (by rw [upd_ne npD]; exact e))).2.trans S2.o, z1, z2, z3, g3.k p _ npD (by rw [upd_ne npD]; exact e)⟩
      -- the two documents
      refine ⟨_, rfl, fun x dx hx hdx hne => made_doc hx hdx hne g3.s (sqlO hdD) hn.rin hok n0 (by omega) fun U4 H4 g4 hx4 => ⟨rfl, ?_⟩⟩
      refine ⟨_, rfl, _, _, rfl, .inl (sqlO (g4.s _ _ (g4.v _ _ (g3.v _ _ hu2)))), fun l3 hl3 => ?_⟩
      have S4 := S3.grow g4
      have g5 := (Gr.refl (S := VW.S0) g4.s).new (o := .lst vs) hl3
      have S5 := S4.grow g5
      have d5 : DpAll K (upd U4 l3 (.lst vs)) vs (rs.map Row.data) := dpsS g5.v (dpsS g4.v (dpsS g3.v hd2))
      refine ⟨rfl, rfl, fun y dy hy hdy hne' => made_doc hy hdy hne' g5.s (sqlO upd_same) (.of g5.s d5) hok n0 (by omega) fun U6 H6 g6 hy6 => ⟨rfl, ?_⟩⟩
      refine ⟨_, _, rfl, ?_⟩
      have g36 := g4.trans (g5.trans g6)
      have sta : Sta K W.c_Doc Ht U6 H6 p q x y vs rs := ⟨g2.v.trans (g3.v.trans g36.v), S3.grow g36, g36.v _ _ (g3.v _ _ hu2), dpsS g36.v (dpsS g3.v hd2), hok, n0, n25, hx4.mono (g5.v.trans g6.v), hy6⟩
      have hpn : (upd H2 D (.lst [])) p ≠ none := by
        obtain ⟨z1, z2, z3, e⟩ := S2.h
        have npD : p ≠ D := ne_of_none e hD
        rw [upd_ne npD]
        exact some_ne e
      have hd6 : H6 D = some (.lst ws) := g36.same _ _ hdD
      have u6D : U6 D = none := g36.out (some_ne hdD) v0
      refine ⟨_, rfl, D, rfl, ⟨_, sqlO hd6⟩, ?_⟩
      refine for_list (xs := ws) (fun j σ H' => ∃ z, σ = [some (.ref a), some (.int c), some (.ref p), some (.ref q), some (.ref D), some (.ref x), some (.ref y), z, v8, v9, v10, v11] ∧ Src U6 H' p ∧ H' D = some (.lst ws) ∧
        ∀ (i : Nat) (v : V) (r : Row), ws[i]? = some v → rs[i]? = some r → RowMut K U6 (upd H2 D (.lst [])) H' (8 + j) v r) ?_ (fun j σ H' _ ⟨z, _, _, e, _⟩ => sqlO e) ?_ ?_
      · exact ⟨_, rfl, sta.src, hd6, fun i v r e1 e2 => ((hn.2 i v r e1 e2).mut (hok i r e2)).grow g36⟩
      · rintro j v σ H7 hv ⟨z, rfl, S7, hd7, hm⟩
        have hj : j < rs.length := by rw [← hn.1]; exact (List.getElem?_eq_some_iff.mp hv).1
        have hr2 : rs[j]? = some rs[j] := List.getElem?_eq_getElem hj
        have hmj := hm j v _ hv hr2
        obtain ⟨ra, rx, rfl, rt⟩ := hmj.head S7.v
        refine ⟨_, rfl, _, _, _, _, rfl, rfl, rt, at_of (j := 0) rfl rfl, ?_⟩
        refine ⟨rfl, _, rfl, ?_⟩
        cases hc : rs[j].isCat with
        | true =>
          refine ifT ((kind_cat _).trans hc) ?_
          obtain ⟨ps, hps⟩ := isCat_of hc
          rw [hps] at hmj
          obtain ⟨a', l', xs', ea, h1, h2, h3, h4, h5⟩ := hmj
          cases ea
          have nlp : l' ≠ p := fun e => hpn (by rw [← e]; exact h3)
          have nlD : l' ≠ D := fun e => by rw [e, upd_same] at h3; cases h3
          refine ⟨_, rfl, _, _, _, _, rfl, rfl, sqtO (S7.v _ _ h1), rfl, .inl ⟨rfl, _, sqlO h4⟩, l', xs', _, rfl, rfl, h4, small1000 (by omega), ?_⟩
          refine ⟨_, rfl, S7.mut nlp h2, by rw [upd_ne (Ne.symm nlD)]; exact hd7, fun i v r e1 e2 => (hm i v r e1 e2).put (by rw [List.length_append, List.length_singleton]; omega) (by omega)⟩
        | false =>
          refine ifF ((kind_cat _).trans hc) ?_
          exact ⟨_, rfl, S7, hd7, fun i v r e1 e2 => (hm i v r e1 e2).more (by omega)⟩
      rintro σ H7 ⟨z, rfl, S7, hd7, hm⟩
      have sta7 := sta.grow (Same.refl _) S7
      -- handed.append
      refine ⟨fun σ' H' => ∃ z4 z7 z8 z9 z10 z11 U, σ' = [some (.ref a), some (.int c), some (.ref p), some (.ref q), z4, some (.ref x), some (.ref y), z7, z8, z9, z10, z11] ∧ Sta K W.c_Doc Ht U H' p q x y vs rs, ?_, ?_⟩
      · refine ⟨_, rfl, .inl ⟨rfl, _, sqlO hd7⟩, Nat.le_of_ble_eq_true rfl, fun t ht => ?_⟩
        have nDt : D ≠ t := ne_of_none hd7 ht
        have ga := (Gr.refl (S := VW.S0) S7.v).newH (o := .tup [.str "hard"]) ht
        have npD : D ≠ p := fun e => by
          obtain ⟨z1, z2, z3, q⟩ := S2.h
          rw [← e, hD] at q
          cases q
        refine ⟨D, ws, _, rfl, rfl, by rw [upd_ne nDt]; exact hd7, by rw [hn.1]; exact small1000 (by omega), ?_⟩
        exact ⟨_, _, _, _, _, _, U6, rfl, sta7.grow (Same.refl _) ((S7.grow ga).mut npD u6D)⟩
      rintro σ H8 ⟨z4, z7, z8, z9, z10, z11, U8, rfl, sta8⟩
      obtain ⟨dx8, lx8, hX⟩ := sta8.insX
      obtain ⟨dy8, ly8, hY⟩ := sta8.insY
      refine ⟨_, rfl, _, rfl, x, y, _, _, _, _, rfl, rfl, hX, hY, sta8.eqXY ⟨true, rfl, _, rfl, iteF ?_⟩⟩
      refine ⟨_, rfl, _, rfl, x, _, _, _, rfl, hX, .ins hY, T.i_Doc.nSelf, sta8.eqXY ⟨true, rfl, _, rfl, iteF ?_⟩⟩
      refine ⟨_, rfl, x, _, _, rfl, hX, lk_no _ (by decide +kernel) (by decide +kernel) (by decide +kernel), nilA (tell sta8 fun p9 w9 U9 H9 Hb9 g9 u9 hw9 hb9 hp9 hn9 sta9 dp9 => ?_)⟩
      refine ⟨_, rfl, dat rs, dat rs, dp9, sta9.dpS, shaped_rows hok, shaped_rows hok, _, rfl, ifF (by rw [eqv_rows hok]; rfl) ?_⟩
      obtain ⟨dx9, lx9, hX9⟩ := sta9.insX
      obtain ⟨sh1, sh2, sh3, sh4⟩ := shown_rows hok (Nat.le_trans n25 (by decide))
      refine ⟨_, rfl, x, _, _, rfl, hX9, lk_no _ (by decide +kernel) (by decide +kernel) (by decide +kernel), nilA (tell sta9 fun p10 w10 U10 H10 Hb10 g10 u10 hw10 hb10 hp10 hn10 sta10 dp10 => ?_)⟩
      refine ⟨p10, dat rs, rfl, dp10, sh2, sh3, sh4, sh1, _, rfl, q, dat rs, rfl, sta10.dpS, sh2, sh3, sh4, sh1, rfl, _, rfl, ifF (by rw [decide_eq_true rfl]; rfl) ?_⟩
      -- told
      obtain ⟨dx10, lx10, hX10⟩ := sta10.insX
      refine ⟨_, rfl, x, _, _, rfl, hX10, lk_no _ (by decide +kernel) (by decide +kernel) (by decide +kernel), nilA (tell sta10 fun p11 w11 U11 H11 Hb11 g11 u11 hw11 hb11 hp11 hn11 sta11 dp11 => ?_)⟩
      refine ⟨_, rfl, p11, rfl, ⟨_, sqlO hw11⟩, ?_⟩
      have hlow : ∀ b, Hb11 b = none → H10 b = none := hb11
      have p10n : H10 p ≠ none := by
        obtain ⟨z1, z2, z3, e⟩ := sta10.src.h
        exact some_ne e
      refine for_list (xs := w11) (fun j σ H' => ∃ z, σ = [some (.ref a), some (.int c), some (.ref p), some (.ref q), z4, some (.ref x), some (.ref y), z, some (.ref p11), z9, z10, z11] ∧ Src U11 H' p ∧ H' p11 = some (.lst w11) ∧
        ∀ (i : Nat) (v : V) (r : Row), w11[i]? = some v → rs[i]? = some r → RowMut K U11 Hb11 H' 8 v r) ?_ (fun j σ H' _ ⟨z, _, _, e, _⟩ => sqlO e) ?_ ?_
      · exact ⟨_, rfl, sta11.src, hw11, fun i v r e1 e2 => (hn11.2 i v r e1 e2).mut (hok i r e2)⟩
      · rintro j v σ H12 hv ⟨z, rfl, S12, hd12, hm⟩
        have hj : j < rs.length := by rw [← hn11.1]; exact (List.getElem?_eq_some_iff.mp hv).1
        have hr2 : rs[j]? = some rs[j] := List.getElem?_eq_getElem hj
        have hmj := hm j v _ hv hr2
        obtain ⟨ra, rx, rfl, rt⟩ := hmj.head S12.v
        refine ⟨_, rfl, _, _, _, _, rfl, rfl, rt, at_of (j := 0) rfl rfl, ?_⟩
        refine ⟨rfl, _, rfl, ?_⟩
        cases hc : rs[j].isCat with
        | true =>
          refine ifT ((kind_cat _).trans hc) ?_
          obtain ⟨ps, hps⟩ := isCat_of hc
          rw [hps] at hmj
          obtain ⟨a', l', xs', ea, h1, h2, h3, h4, h5⟩ := hmj
          cases ea
          have nlp : l' ≠ p := fun e => p10n (by rw [← e]; exact hlow _ h3)
          have nlD : l' ≠ p11 := fun e => hp11 (by rw [← e]; exact h3)
          refine ⟨_, rfl, _, _, _, _, rfl, rfl, sqtO (S12.v _ _ h1), rfl, .inl ⟨rfl, _, sqlO h4⟩, l', xs', rfl, rfl, h4, ?_⟩
          refine ⟨_, rfl, S12.mut nlp h2, by rw [upd_ne (Ne.symm nlD)]; exact hd12, fun i v r e1 e2 => (hm i v r e1 e2).put (Nat.zero_le _) (by omega)⟩
        | false =>
          refine ifF ((kind_cat _).trans hc) ?_
          exact ⟨_, rfl, S12, hd12, hm⟩
      rintro σ H12 ⟨z, rfl, S12, hd12, hm⟩
      have sta12 := sta11.grow (Same.refl _) S12
      -- told.pop
      refine ⟨fun σ' H' => ∃ z4 z7 z8 z9 z10 z11 U, σ' = [some (.ref a), some (.int c), some (.ref p), some (.ref q), z4, some (.ref x), some (.ref y), z7, z8, z9, z10, z11] ∧ Sta K W.c_Doc Ht U H' p q x y vs rs, ?_, ?_⟩
      · have npp : p11 ≠ p := fun e => by
          obtain ⟨z1, z2, z3, q⟩ := sta12.src.h
          rw [← e, hd12] at q
          cases q
          have hr0 : rs[0]? = some rs[0] := List.getElem?_eq_getElem n0
          obtain ⟨_, _, ev, _⟩ := (hm 0 _ _ rfl hr0).head S12.v
          cases ev
        have hl : w11.length - 1 < w11.length := by have := hn11.1; omega
        refine ⟨_, rfl, .inl ⟨rfl, _, sqlO hd12⟩, p11, w11, _, rfl, rfl, hd12, List.getElem?_eq_getElem hl, ?_⟩
        exact ⟨_, _, _, _, _, _, U11, rfl, sta12.grow (Same.refl _) (S12.mut npp u11)⟩
      rintro σ H13 ⟨y4, y7, y8, y9, y10, y11, U13, rfl, sta13⟩
      clear sta12 sta11 sta10 sta9 sta8
      obtain ⟨dx13, lx13, hX13⟩ := sta13.insX
      obtain ⟨dy13, ly13, hY13⟩ := sta13.insY
      refine ⟨_, rfl, _, rfl, x, y, _, _, _, _, rfl, rfl, hX13, hY13, sta13.eqXY ⟨true, rfl, _, rfl, iteF ?_⟩⟩
      refine ⟨_, rfl, x, _, _, rfl, hX13, lk_no _ (by decide +kernel) (by decide +kernel) (by decide +kernel), nilA (tell sta13 fun p14 w14 U14 H14 Hb14 g14 u14 hw14 hb14 hp14 hn14 sta14 dp14 => ?_)⟩
      refine ⟨_, rfl, dat rs, dat rs, dp14, sta14.dpS, shaped_rows hok, shaped_rows hok, _, rfl, ifF (by rw [eqv_rows hok]; rfl) ?_⟩
      clear sta13
      -- at
      refine ⟨_, rfl, _, rfl, _, _, rfl, .inl ⟨_, sqlO (sta14.src.v _ _ sta14.stk), rfl⟩, p, U14, _, rfl, sta14.src, by omega, by omega, fun at_ H15 g15 S15 t0 t1 => ?_⟩
      have sta15 := sta14.grow (Same.refl _) S15
      clear sta14
      obtain ⟨m, rfl⟩ : ∃ m : Nat, at_ = (m : Int) := ⟨at_.toNat, by omega⟩
      have hm25 : m < rs.length := by omega
      -- bent
      refine ⟨_, rfl, _, rfl, _, rfl, q, vs, rfl, sqlO (S15.v _ _ sta15.stk), fun l16 hl16 => ?_⟩
      have ga := (Gr.refl (S := VW.S0) S15.v).new (o := .lst (cutV vs none (some (m : Int)))) hl16
      have sta16 := sta15.grow ga.v (S15.grow ga)
      have cu1 : cutV vs none (some (m : Int)) = vs.take m := by
        unfold cutV
        rw [HT.sIx_none, HT.sIx_nat]
        simp
      have cu2 : cutV vs (some ((m : Int) + 1)) none = vs.drop (m + 1) := by
        unfold cutV
        rw [HT.sIx_none, show (m : Int) + 1 = ((m + 1 : Nat) : Int) from rfl, HT.sIx_nat, Nat.min_eq_left (by omega)]
        rw [List.take_of_length_le]
        rw [List.length_drop]
        exact Nat.le_refl _
      refine ⟨_, rfl, _, rfl, p, _, m, rfl, sta16.src, by omega, fun v17 r17 U17 H17 g17 S17 hr17 hd17 => ?_⟩
      have sta17 := sta16.grow g17.v S17
      refine ⟨Nat.le_of_ble_eq_true rfl, fun l18 hl18 => ?_⟩
      have gb := (Gr.refl (S := VW.S0) S17.v).new (o := .lst [v17]) hl18
      have sta18 := sta17.grow gb.v (S17.grow gb)
      have e16 : (upd U17 l18 (.lst [v17])) l16 = some (.lst (cutV vs none (some (m : Int)))) := gb.v _ _ (g17.v _ _ upd_same)
      have szA : (cutV vs none (some (m : Int))).length ≤ 25 := by
        rw [cu1, List.length_take]
        omega
      refine ⟨l16, l18, _, _, rfl, rfl, sta18.src.v _ _ e16, upd_same, small (by rw [List.length_singleton]; omega), fun l19 hl19 => ?_⟩
      have gc := (Gr.refl (S := VW.S0) sta18.src.v).new (o := .lst (cutV vs none (some (m : Int)) ++ [v17])) hl19
      have sta19 := sta18.grow gc.v (sta18.src.grow gc)
      refine ⟨_, rfl, _, rfl, _, _, rfl, rfl, _, rfl, q, vs, rfl, sqlO (sta19.src.v _ _ sta19.stk), fun l20 hl20 => ?_⟩
      have gd := (Gr.refl (S := VW.S0) sta19.src.v).new (o := .lst (cutV vs (some ((m : Int) + 1)) none)) hl20
      have sta20 := sta19.grow gd.v (sta19.src.grow gd)
      have szB : (cutV vs (some ((m : Int) + 1)) none).length ≤ 25 := by
        rw [cu2, List.length_drop]
        omega
      refine ⟨l19, l20, _, _, rfl, rfl, sta20.src.v _ _ (gd.v _ _ upd_same), upd_same, small (by rw [List.length_append, List.length_singleton]; omega), fun l21 hl21 => ?_⟩
      have ge := (Gr.refl (S := VW.S0) sta20.src.v).new (o := .lst ((cutV vs none (some (m : Int)) ++ [v17]) ++ cutV vs (some ((m : Int) + 1)) none)) hl21
      have sta21 := sta20.grow ge.v (sta20.src.grow ge)
      -- what bent holds
      have db : DpAll K (upd (upd (upd (upd U17 l18 (.lst [v17])) l19 (.lst (cutV vs none (some (m : Int)) ++ [v17]))) l20 (.lst (cutV vs (some ((m : Int) + 1)) none))) l21 (.lst ((cutV vs none (some (m : Int)) ++ [v17]) ++ cutV vs (some ((m : Int) + 1)) none)))
          ((cutV vs none (some (m : Int)) ++ [v17]) ++ cutV vs (some ((m : Int) + 1)) none) ((rs.take m ++ [r17] ++ rs.drop (m + 1)).map Row.data) := by
        have dA : ∀ Hx : Hp, DpAll K Hx vs (rs.map Row.data) → DpAll K Hx (cutV vs none (some (m : Int))) ((rs.take m).map Row.data) := fun Hx h => by
          rw [cu1, List.map_take]
          exact dps_take m h
        have dB : ∀ Hx : Hp, DpAll K Hx vs (rs.map Row.data) → DpAll K Hx (cutV vs (some ((m : Int) + 1)) none) ((rs.drop (m + 1)).map Row.data) := fun Hx h => by
          rw [cu2, List.map_drop]
          exact dps_drop (m + 1) h
        rw [List.map_append, List.map_append]
        exact dps_append (dps_append (dA _ sta21.dp) (.cons (dpS ge.v (dpS gd.v (dpS gc.v (dpS gb.v hd17)))) .nil)) (dB _ sta21.dp)
      have okb : OkRows (rs.take m ++ [r17] ++ rs.drop (m + 1)) := by
        intro i r e
        by_cases h1 : i < m
        · rw [List.append_assoc, List.getElem?_append_left (by rw [List.length_take]; omega), List.getElem?_take_of_lt h1] at e
          exact hok i r e
        · rw [List.append_assoc, List.getElem?_append_right (by rw [List.length_take]; omega), List.length_take, Nat.min_eq_left (by omega)] at e
          by_cases h2 : i = m
          · subst h2
            rw [Nat.sub_self] at e
            cases e
            exact hr17
          · obtain ⟨t, rfl⟩ : ∃ t, i = m + 1 + t := ⟨i - m - 1, by omega⟩
            rw [show m + 1 + t - m = t + 1 by omega] at e
            have e' : (rs.drop (m + 1))[t]? = some r := e
            rw [List.getElem?_drop] at e'
            exact hok _ r e'
      have lenb : (rs.take m ++ [r17] ++ rs.drop (m + 1)).length = rs.length := by
        simp
        omega
      have elb : (upd (upd (upd (upd U17 l18 (.lst [v17])) l19 (.lst (cutV vs none (some (m : Int)) ++ [v17]))) l20 (.lst (cutV vs (some ((m : Int) + 1)) none))) l21 (.lst ((cutV vs none (some (m : Int)) ++ [v17]) ++ cutV vs (some ((m : Int) + 1)) none))) l21 = some (.lst ((cutV vs none (some (m : Int)) ++ [v17]) ++ cutV vs (some ((m : Int) + 1)) none)) := upd_same
      generalize (cutV vs none (some (m : Int)) ++ [v17]) ++ cutV vs (some ((m : Int) + 1)) none = bv at db elb sta21 ⊢
      generalize rs.take m ++ [r17] ++ rs.drop (m + 1) = br at db okb lenb
      generalize upd (upd (upd (upd U17 l18 (.lst [v17])) l19 (.lst (cutV vs none (some (m : Int)) ++ [v17]))) l20 (.lst (cutV vs (some ((m : Int) + 1)) none))) l21 (.lst bv) = U21 at db elb sta21
      generalize upd (upd (upd (upd H17 l18 (.lst [v17])) l19 (.lst (cutV vs none (some (m : Int)) ++ [v17]))) l20 (.lst (cutV vs (some ((m : Int) + 1)) none))) l21 (.lst bv) = H21 at sta21 ⊢
      clear ge gd gc gb sta20 sta19 sta18 sta17 sta16 sta15
      -- more
      refine ⟨_, rfl, _, rfl, _, rfl, _, _, rfl, .inl ⟨_, sqlO (sta21.src.v _ _ sta21.stk), rfl⟩, p, U21, vs.length, rfl, sta21.src, by omega, fun v22 r22 U22 H22 g22 S22 hr22 hd22 => ?_⟩
      have sta22 := sta21.grow g22.v S22
      refine ⟨Nat.le_of_ble_eq_true rfl, fun l23 hl23 => ?_⟩
      have gf := (Gr.refl (S := VW.S0) S22.v).new (o := .lst [v22]) hl23
      have sta23 := sta22.grow gf.v (S22.grow gf)
      refine ⟨q, l23, _, _, rfl, rfl, sta23.src.v _ _ sta23.stk, upd_same, small (by rw [List.length_singleton]; omega), fun l24 hl24 => ?_⟩
      have gg := (Gr.refl (S := VW.S0) sta23.src.v).new (o := .lst (vs ++ [v22])) hl24
      have sta24 := sta23.grow gg.v (sta23.src.grow gg)
      have dm : DpAll K (upd (upd U22 l23 (.lst [v22])) l24 (.lst (vs ++ [v22]))) (vs ++ [v22]) ((rs ++ [r22]).map Row.data) := by
        rw [List.map_append]
        exact dps_append sta24.dp (.cons (dpS gg.v (dpS gf.v hd22)) .nil)
      have okm : OkRows (rs ++ [r22]) := hok.snoc (by rw [← hlen]; exact hr22)
      have db24 := dpsS gg.v (dpsS gf.v (dpsS g22.v db))
      have elb24 := gg.v _ _ (gf.v _ _ (g22.v _ _ elb))
      have elm : (upd (upd U22 l23 (.lst [v22])) l24 (.lst (vs ++ [v22]))) l24 = some (.lst (vs ++ [v22])) := upd_same
      generalize upd (upd U22 l23 (.lst [v22])) l24 (.lst (vs ++ [v22])) = U24 at dm db24 elb24 elm sta24
      generalize upd (upd H22 l23 (.lst [v22])) l24 (.lst (vs ++ [v22])) = H24 at sta24 ⊢
      clear gg gf sta23 sta22 sta21 db elb
      obtain ⟨dx24, lx24, hX24⟩ := sta24.insX
      -- (Doc(bent) == one) != (bent == stack)
      refine ⟨_, rfl, fun x25 dx25 hx25 hdx25 hne25 => made_doc hx25 hdx25 hne25 sta24.src.v (sqlO (sta24.src.v _ _ elb24)) (.of sta24.src.v db24) okb (by omega) (by omega) fun U25 H25 g25 d25 => ⟨rfl, ?_⟩⟩
      have sta25 := sta24.grow g25.v (sta24.src.grow g25)
      obtain ⟨dx25', lx25, hX25⟩ := sta25.insX
      obtain ⟨dxn, lxn, wsn, hxn, _⟩ := id d25
      refine ⟨_, rfl, x25, _, _, _, rfl, sta25.src.v _ _ hxn, .ins hX25, T.i_Doc.nSelf, ⟨x25, _, br, U25, rfl, sta25.src.v, d25, okb, .inl ⟨x, rs, rfl, sta25.one, hok, _, rfl, ?_⟩⟩⟩
      refine ⟨_, rfl, _, rfl, dat br, dat rs, .lst (sqlO (sta25.src.v _ _ (g25.v _ _ elb24))) (dpsS sta25.src.v (dpsS g25.v db24)), sta25.dpS, shaped_rows okb, shaped_rows hok, rfl, _, rfl, ifF (by rw [decide_eq_true rfl]; rfl) ?_⟩
      -- Doc(more) == one
      refine ⟨_, rfl, fun x26 dx26 hx26 hdx26 hne26 => made_doc hx26 hdx26 hne26 sta25.src.v (sqlO (sta25.src.v _ _ (g25.v _ _ elm))) (.of sta25.src.v (dpsS g25.v dm)) okm (by rw [List.length_append, List.length_singleton]; omega) (by rw [List.length_append, List.length_singleton]; omega) fun U26 H26 g26 d26 => ⟨rfl, ?_⟩⟩
      have sta26 := sta25.grow g26.v (sta25.src.grow g26)
      obtain ⟨dx26', lx26, hX26⟩ := sta26.insX
      obtain ⟨dxn6, lxn6, wsn6, hxn6, _⟩ := id d26
      refine ⟨_, rfl, x26, _, _, _, rfl, sta26.src.v _ _ hxn6, .ins hX26, T.i_Doc.nSelf, ⟨x26, _, _, U26, rfl, sta26.src.v, d26, okm, .inl ⟨x, rs, rfl, sta26.one, hok, _, rfl, _, rfl, ifF (eqv_len (by rw [List.length_append, List.length_singleton]; omega)) ?_⟩⟩⟩
      -- one == stack
      refine ⟨_, rfl, _, rfl, x, _, _, _, rfl, hX26, .lst (sta26.src.v _ _ sta26.stk), T.i_Doc.nLst, ⟨x, _, rs, U26, rfl, sta26.src.v, sta26.one, hok, .inr ⟨.inr (.inr ⟨q, vs, rfl, sqlO (sta26.src.v _ _ sta26.stk)⟩), false, rfl, _, rfl, iteF ?_⟩⟩⟩
      -- [one] == [None]
      refine ⟨_, rfl, Nat.le_of_ble_eq_true rfl, fun l27 hl27 => ⟨Nat.le_of_ble_eq_true rfl, fun l28 hl28 => ?_⟩⟩
      have gh := (Gr.refl (S := VW.S0) sta26.src.v).new (o := .lst [.ref x]) hl27
      have sta27 := sta26.grow gh.v (sta26.src.grow gh)
      have gi := (Gr.refl (S := VW.S0) sta27.src.v).new (o := .lst [.non]) hl28
      have sta28 := sta27.grow gi.v (sta27.src.grow gi)
      obtain ⟨dx28, lx28, hX28⟩ := sta28.insX
      refine ⟨l27, l28, x, _, _, rfl, rfl, sta28.src.v _ _ (gi.v _ _ upd_same), upd_same, hX28, T.i_Doc.nNon, ⟨x, _, rs, _, rfl, sta28.src.v, sta28.one, hok, .inr ⟨.inr (.inl rfl), rfl, rfl⟩⟩, _, rfl, iteF ?_⟩
      -- one == 5
      refine ⟨_, rfl, x, _, _, _, rfl, hX28, .int 5, T.i_Doc.nInt, ⟨x, _, rs, _, rfl, sta28.src.v, sta28.one, hok, .inr ⟨.inl ⟨5, rfl⟩, false, rfl, _, rfl, iteF ?_⟩⟩⟩
      -- Doc([text 1]) == Doc([line 1])
      have okt : ∀ (k : Str → Row), (k = .text ∨ k = .line) → OkRows [k "1"] := fun k hk i r e => by
        have hi := (List.getElem?_eq_some_iff.mp e).1
        have : i = 0 := by simpa using hi
        subst this
        cases e
        rcases hk with rfl | rfl
        · exact ⟨by decide +kernel, by decide +kernel⟩
        · exact ⟨by decide +kernel, by decide +kernel⟩
      refine ⟨Nat.le_of_ble_eq_true rfl, fun l29 hl29 => ⟨Nat.le_of_ble_eq_true rfl, fun l30 hl30 => ?_⟩⟩
      have gj := (Gr.refl (S := VW.S0) sta28.src.v).new (o := .tup [.str "text", .str "1"]) hl29
      have sta29 := sta28.grow gj.v (sta28.src.grow gj)
      have gk := (Gr.refl (S := VW.S0) sta29.src.v).new (o := .lst [.ref l29]) hl30
      have sta30 := sta29.grow gk.v (sta29.src.grow gk)
      refine fun x31 dx31 hx31 hdx31 hne31 => made_doc (rs := [.text "1"]) hx31 hdx31 hne31 sta30.src.v (sqlO upd_same) (.of sta30.src.v (.cons (dp_tup (gk.v _ _ upd_same) (.cons (.str _) (.cons (.str _) .nil))) .nil)) (okt .text (.inl rfl)) (by decide) (by decide) fun U31 H31 g31 d31 => ⟨rfl, ?_⟩
      have sta31 := sta30.grow g31.v (sta30.src.grow g31)
      refine ⟨Nat.le_of_ble_eq_true rfl, fun l32 hl32 => ⟨Nat.le_of_ble_eq_true rfl, fun l33 hl33 => ?_⟩⟩
      have gl := (Gr.refl (S := VW.S0) sta31.src.v).new (o := .tup [.str "line", .str "1"]) hl32
      have sta32 := sta31.grow gl.v (sta31.src.grow gl)
      have gm := (Gr.refl (S := VW.S0) sta32.src.v).new (o := .lst [.ref l32]) hl33
      have sta33 := sta32.grow gm.v (sta32.src.grow gm)
      refine fun x34 dx34 hx34 hdx34 hne34 => made_doc (rs := [.line "1"]) hx34 hdx34 hne34 sta33.src.v (sqlO upd_same) (.of sta33.src.v (.cons (dp_tup (gm.v _ _ upd_same) (.cons (.str _) (.cons (.str _) .nil))) .nil)) (okt .line (.inr rfl)) (by decide) (by decide) fun U34 H34 g34 d34 => ⟨rfl, ?_⟩
      have sta34 := sta33.grow g34.v (sta33.src.grow g34)
      have d31' := d31.mono (gl.v.trans (gm.v.trans g34.v))
      obtain ⟨da, la, wa, hda, _⟩ := id d31'
      obtain ⟨db, lb, wb, hdb, _⟩ := id d34
      refine ⟨x31, _, _, _, rfl, sta34.src.v _ _ hda, .ins (sta34.src.v _ _ hdb), T.i_Doc.nSelf, ⟨x31, _, [.text "1"], U34, rfl, sta34.src.v, d31', okt .text (.inl rfl), .inl ⟨x34, [.line "1"], rfl, d34, okt .line (.inr rfl), _, rfl, _, rfl, ifF (by decide +kernel) ?_⟩⟩⟩
      exact ⟨smt.trans (sta34.hs.trans sta34.src.v), _, _, _, _, _, _, _, _, _, _, _, rfl⟩
    · rintro σ H' ⟨sm, v1, v2, v3, v4, v5, v6, v7, v8, v9, v10, v11, rfl⟩
      have oka : ∀ n : Nat, n ≤ 2 → OkRows (List.replicate n (.text "a")) := fun n hn i r e => by
        rw [List.getElem?_replicate] at e
        split at e
        · cases e
          exact ⟨by decide +kernel, by decide +kernel⟩
        · cases e
      refine ⟨Nat.le_of_ble_eq_true rfl, fun l1 hl1 => ⟨Nat.le_of_ble_eq_true rfl, fun l2 hl2 => ?_⟩⟩
      have ga := (Gr.refl (S := VW.S0) (Same.refl H')).new (o := .tup [.str "text", .str "a"]) hl1
      have gb := ga.new (o := .lst [.ref l1]) hl2
      have da : Dp K (upd (upd H' l1 (.tup [.str "text", .str "a"])) l2 (.lst [.ref l1])) (.ref l1) (Row.data (.text "a")) := dp_tup (by rw [upd_ne (ne_of_none upd_same hl2)]; exact upd_same) (.cons (.str _) (.cons (.str _) .nil))
      refine ⟨l2, 2, _, rfl, rfl, upd_same, by decide, by decide, Nat.le_of_ble_eq_true rfl, fun l3 hl3 => ?_⟩
      have gc := gb.new (o := .lst [.ref l1, .ref l1]) hl3
      have s3 : Same (upd (upd H' l1 (.tup [.str "text", .str "a"])) l2 (.lst [.ref l1])) (upd (upd (upd H' l1 (.tup [.str "text", .str "a"])) l2 (.lst [.ref l1])) l3 (.lst [.ref l1, .ref l1])) := fun b o e => by
        rw [upd_ne (ne_of_none e hl3)]
        exact e
      have da3 := dpS s3 da
      refine fun x4 dx4 hx4 hdx4 hne4 => made_doc (rs := [.text "a", .text "a"]) hx4 hdx4 hne4 (Same.refl _) (sqlO upd_same) (.of (Same.refl _) (.cons da3 (.cons da3 .nil))) (oka 2 (by decide)) (by decide) (by decide) fun U4 H4 g4 d4 => ⟨rfl, ?_⟩
      refine ⟨Nat.le_of_ble_eq_true rfl, fun l5 hl5 => ⟨Nat.le_of_ble_eq_true rfl, fun l6 hl6 => ?_⟩⟩
      have gd := (Gr.refl (S := VW.S0) g4.s).new (o := .tup [.str "text", .str "a"]) hl5
      have ge := (Gr.refl (S := VW.S0) gd.s).new (o := .lst [.ref l5]) hl6
      refine fun x7 dx7 hx7 hdx7 hne7 => made_doc (rs := [.text "a"]) hx7 hdx7 hne7 ge.s (sqlO upd_same) (.of ge.s (.cons (dp_tup (ge.v _ _ upd_same) (.cons (.str _) (.cons (.str _) .nil))) .nil)) (oka 1 (by decide)) (by decide) (by decide) fun U7 H7 g7 d7 => ⟨rfl, ?_⟩
      have d4' := d4.mono (gd.v.trans (ge.v.trans g7.v))
      obtain ⟨da, la, wa, hda, _⟩ := id d4'
      obtain ⟨db, lb, wb, hdb, _⟩ := id d7
      refine ⟨x4, x7, _, _, _, _, rfl, rfl, g7.s _ _ hda, g7.s _ _ hdb, ⟨x4, _, [.text "a", .text "a"], U7, rfl, g7.s, d4', oka 2 (by decide), .inl ⟨x7, [.text "a"], rfl, d7, oka 1 (by decide), _, rfl, ?_⟩⟩⟩
      have e : PyData.eqv (dat [.text "a", .text "a"]) (dat [.text "a"]) = false := eqv_len (by decide)
      rw [e]
      exact k _
end
end Lw

namespace Lw
open PySem PySem.Spec PyProof.Rows L2 VW TL
theorem all_mk {w : World} {K : PySem.W.Frag} {h : Heap} {mg : Str → Option Value} (X : K.In h) (G : h.Ns mainGlobals mg)
    {C_LayoutError : Addr} {C_InvalidDoc : Addr} {C_Doc : Addr} {nm_Doc q_Doc : Str} {N_Doc : Addr} {bs_Doc sub_Doc : List Value} {sn_Doc : List Str} {ab_Doc : Bool} {col_Doc : Option Bool} {dd_Doc : Option Addr} {k0_Doc k1_Doc k2_Doc k3_Doc k5_Doc : Option Value} {oc_Doc : Value} {od_Doc : Option Addr} {es_Doc : Array DictEntry} {n_Doc : Nat} {sl_Doc : Array (Option Value)} {f_Doc___init__ : Addr} {oc_Doc___init__ kV_Doc___init__ dc_Doc___init__ pm_Doc___init__ cd_Doc___init__ ct_Doc___init__ : Value} {od_Doc___init__ an_Doc___init__ : Option Addr} {sl_Doc___init__ : Array (Option Value)} {f_Doc___eq__ : Addr} {oc_Doc___eq__ kV_Doc___eq__ dc_Doc___eq__ pm_Doc___eq__ cd_Doc___eq__ ct_Doc___eq__ : Value} {od_Doc___eq__ an_Doc___eq__ : Option Addr} {sl_Doc___eq__ : Array (Option Value)} {f_Doc_row_list : Addr} {oc_Doc_row_list kV_Doc_row_list dc_Doc_row_list pm_Doc_row_list cd_Doc_row_list ct_Doc_row_list : Value} {od_Doc_row_list an_Doc_row_list : Option Addr} {sl_Doc_row_list : Array (Option Value)} {f__shown : Addr} {oc__shown kV__shown dc__shown pm__shown cd__shown ct__shown : Value} {od__shown an__shown : Option Addr} {sl__shown : Array (Option Value)} {f_is_integer : Addr} {oc_is_integer kV_is_integer dc_is_integer pm_is_integer cd_is_integer ct_is_integer : Value} {od_is_integer an_is_integer : Option Addr} {sl_is_integer : Array (Option Value)} {f_is_between : Addr} {oc_is_between kV_is_between dc_is_between pm_is_between cd_is_between ct_is_between : Value} {od_is_between an_is_between : Option Addr} {sl_is_between : Array (Option Value)} {f_copied_row : Addr} {oc_copied_row kV_copied_row dc_copied_row pm_copied_row cd_copied_row ct_copied_row : Value} {od_copied_row an_copied_row : Option Addr} {sl_copied_row : Array (Option Value)} {f_is_row : Addr} {oc_is_row kV_is_row dc_is_row pm_is_row cd_is_row ct_is_row : Value} {od_is_row an_is_row : Option Addr} {sl_is_row : Array (Option Value)} {f__checked_rows : Addr} {oc__checked_rows kV__checked_rows dc__checked_rows pm__checked_rows cd__checked_rows ct__checked_rows : Value} {od__checked_rows an__checked_rows : Option Addr} {sl__checked_rows : Array (Option Value)} {f__is_signs : Addr} {oc__is_signs kV__is_signs dc__is_signs pm__is_signs cd__is_signs ct__is_signs : Value} {od__is_signs an__is_signs : Option Addr} {sl__is_signs : Array (Option Value)} {f__is_parts : Addr} {oc__is_parts kV__is_parts dc__is_parts pm__is_parts cd__is_parts ct__is_parts : Value} {od__is_parts an__is_parts : Option Addr} {sl__is_parts : Array (Option Value)} {f__law_cell_at : Addr} {oc__law_cell_at kV__law_cell_at dc__law_cell_at pm__law_cell_at cd__law_cell_at ct__law_cell_at : Value} {od__law_cell_at an__law_cell_at : Option Addr} {sl__law_cell_at : Array (Option Value)} {f__law_source_of : Addr} {oc__law_source_of kV__law_source_of dc__law_source_of pm__law_source_of cd__law_source_of ct__law_source_of : Value} {od__law_source_of an__law_source_of : Option Addr} {sl__law_source_of : Array (Option Value)} {f__law_next : Addr} {oc__law_next kV__law_next dc__law_next pm__law_next cd__law_next ct__law_next : Value} {od__law_next an__law_next : Option Addr} {sl__law_next : Array (Option Value)} {f__law_one : Addr} {oc__law_one kV__law_one dc__law_one pm__law_one cd__law_one ct__law_one : Value} {od__law_one an__law_one : Option Addr} {sl__law_one : Array (Option Value)} {f__law_signs : Addr} {oc__law_signs kV__law_signs dc__law_signs pm__law_signs cd__law_signs ct__law_signs : Value} {od__law_signs an__law_signs : Option Addr} {sl__law_signs : Array (Option Value)} {f__law_row : Addr} {oc__law_row kV__law_row dc__law_row pm__law_row cd__law_row ct__law_row : Value} {od__law_row an__law_row : Option Addr} {sl__law_row : Array (Option Value)} {f__law_rows : Addr} {oc__law_rows kV__law_rows dc__law_rows pm__law_rows cd__law_rows ct__law_rows : Value} {od__law_rows an__law_rows : Option Addr} {sl__law_rows : Array (Option Value)} {f_law : Addr} {oc_law kV_law dc_law pm_law cd_law ct_law : Value} {od_law an_law : Option Addr} {sl_law : Array (Option Value)} {t_MOST_ROWS : Tok} {t_MOST_PARTS : Tok} {t_MOST_NEST : Tok} {t_MOST_TEXT_SIGNS : Tok} {t_MOST_LINE_SIGNS : Tok} {D_ROW_LENGTHS : Addr} {es_ROW_LENGTHS : Array DictEntry} {n_ROW_LENGTHS : Nat} {t_ROW_LENGTHS_text : Tok} {t_ROW_LENGTHS_line : Tok} {t_ROW_LENGTHS_hard : Tok} {t_ROW_LENGTHS_cat : Tok} {t_ROW_LENGTHS_nest : Tok} {t_ROW_LENGTHS_align : Tok} {t_ROW_LENGTHS_group : Tok}
    (a_LayoutError : PySem.W.nsIn K mainGlobals "LayoutError" = some (some (.ref C_LayoutError)))
    (a_InvalidDoc : PySem.W.nsIn K mainGlobals "InvalidDoc" = some (some (.ref C_InvalidDoc)))
    (a_Doc : PySem.W.nsIn K mainGlobals "Doc" = some (some (.ref C_Doc)))
    (fi_Doc___init__ : PySem.W.findIn K (.ref C_Doc) "__init__" = some (some (.ref f_Doc___init__)))
    (fi_Doc___eq__ : PySem.W.findIn K (.ref C_Doc) "__eq__" = some (some (.ref f_Doc___eq__)))
    (fi_Doc_row_list : PySem.W.findIn K (.ref C_Doc) "row_list" = some (some (.ref f_Doc_row_list)))
    (fi__shown : PySem.W.nsIn K mainGlobals "_shown" = some (some (.ref f__shown)))
    (fi_is_integer : PySem.W.nsIn K mainGlobals "is_integer" = some (some (.ref f_is_integer)))
    (fi_is_between : PySem.W.nsIn K mainGlobals "is_between" = some (some (.ref f_is_between)))
    (fi_copied_row : PySem.W.nsIn K mainGlobals "copied_row" = some (some (.ref f_copied_row)))
    (fi_is_row : PySem.W.nsIn K mainGlobals "is_row" = some (some (.ref f_is_row)))
    (fi__checked_rows : PySem.W.nsIn K mainGlobals "_checked_rows" = some (some (.ref f__checked_rows)))
    (fi__is_signs : PySem.W.nsIn K mainGlobals "_is_signs" = some (some (.ref f__is_signs)))
    (fi__is_parts : PySem.W.nsIn K mainGlobals "_is_parts" = some (some (.ref f__is_parts)))
    (fi__law_cell_at : PySem.W.nsIn K mainGlobals "_law_cell_at" = some (some (.ref f__law_cell_at)))
    (fi__law_source_of : PySem.W.nsIn K mainGlobals "_law_source_of" = some (some (.ref f__law_source_of)))
    (fi__law_next : PySem.W.nsIn K mainGlobals "_law_next" = some (some (.ref f__law_next)))
    (fi__law_one : PySem.W.nsIn K mainGlobals "_law_one" = some (some (.ref f__law_one)))
    (fi__law_signs : PySem.W.nsIn K mainGlobals "_law_signs" = some (some (.ref f__law_signs)))
    (fi__law_row : PySem.W.nsIn K mainGlobals "_law_row" = some (some (.ref f__law_row)))
    (fi__law_rows : PySem.W.nsIn K mainGlobals "_law_rows" = some (some (.ref f__law_rows)))
    (fi_law : PySem.W.nsIn K mainGlobals "law" = some (some (.ref f_law)))
    (pg_Doc : PySem.W.plainGet K C_Doc Str.empty = true)
    (hd_Doc : PySem.W.hasDictIn K C_Doc = true)
    (po_Doc : PySem.W.plainOver K C_Doc = true)
    (sa_Doc : PySem.W.findIn K (.ref C_Doc) "__setattr__" = some (some (.builtin "object.__setattr__")))
    (mk_Doc : PySem.W.makesIn K C_Doc = true)
    (kc_Doc : PySem.W.keepIn K (.ref C_Doc) = true)
    (na_Doc__rows : PySem.W.findIn K (.ref C_Doc) "_rows" = some none)
    (na_Doc_facts : PySem.W.findIn K (.ref C_Doc) "facts" = some none)
    (na_Doc_group_facts : PySem.W.findIn K (.ref C_Doc) "group_facts" = some none)
    (i_Doc_1 : PySem.W.findIn K (.ref C_Doc) "__class__" = some (some (.builtin "object.__class__")))
    (i_Doc_2 : PySem.W.specialIn K (.builtin "object.__class__") "__get__" = some (some (.builtin "getset_descriptor.__get__")))
    (i_Doc_3 : PySem.W.takesIn K (.builtin "object.__class__") = some true)
    (i_Doc_4 : PySem.W.mroIn K C_Doc (.type "object") = some true)
    (ic_Doc : PySem.W.isClsIn K C_Doc = true)
    (tc_Doc : PySem.W.typeIn K (.ref C_Doc) = some (.type "type"))
    (i_Doc_6 : PySem.W.subIn K (.type "int") (.ref C_Doc) = some false)
    (i_Doc_7 : PySem.W.subIn K (.type "NoneType") (.ref C_Doc) = some false)
    (i_Doc_8 : PySem.W.subIn K (.type "list") (.ref C_Doc) = some false)
    (i_Doc_9 : PySem.W.notFirst K C_Doc (.ref C_Doc) = true)
    (i_Doc_10 : PySem.W.notFirst K C_Doc (.type "int") = true)
    (i_Doc_11 : PySem.W.notFirst K C_Doc (.type "NoneType") = true)
    (i_Doc_12 : PySem.W.notFirst K C_Doc (.type "list") = true)
    (ne_Doc_1 : K.lookup C_Doc = some (excClassObj nm_Doc q_Doc C_Doc N_Doc bs_Doc [.type "object"] true sn_Doc sub_Doc ab_Doc col_Doc dd_Doc k0_Doc k1_Doc k2_Doc k3_Doc k5_Doc "object.__new__"))
    (ne_Doc_2 : K.lookup N_Doc = some ⟨oc_Doc, od_Doc, .dict es_Doc n_Doc, sl_Doc⟩)
    (ne_Doc_3 : PySem.W.KeysLit w.params es_Doc.toList)
    (ne_Doc_4 : PySem.W.nsIn K N_Doc "__eq__" = some (some (.ref f_Doc___eq__)))
    (ne_Doc_5 : PySem.W.nsIn K N_Doc "__ne__" = some none)
    (is_Doc___init__ : PySem.W.isFn K (.ref f_Doc___init__) = true)
    (l_Doc___init__ : K.lookup f_Doc___init__ = some ⟨oc_Doc___init__, od_Doc___init__, .func (PySem.W.fnOf "__init__" "Doc.__init__" (defArgs s_Doc___init__) (defBody s_Doc___init__) (defScope s_Doc___init__) .none kV_Doc___init__ dc_Doc___init__ pm_Doc___init__ an_Doc___init__ cd_Doc___init__ ct_Doc___init__), sl_Doc___init__⟩)
    (cn_Doc___init__ : PySem.W.codeIn K cd_Doc___init__ "Doc.__init__" = true)
    (kp_Doc___init__ : PySem.W.keepIn K (.ref f_Doc___init__) = true)
    (is_Doc___eq__ : PySem.W.isFn K (.ref f_Doc___eq__) = true)
    (l_Doc___eq__ : K.lookup f_Doc___eq__ = some ⟨oc_Doc___eq__, od_Doc___eq__, .func (PySem.W.fnOf "__eq__" "Doc.__eq__" (defArgs s_Doc___eq__) (defBody s_Doc___eq__) (defScope s_Doc___eq__) .none kV_Doc___eq__ dc_Doc___eq__ pm_Doc___eq__ an_Doc___eq__ cd_Doc___eq__ ct_Doc___eq__), sl_Doc___eq__⟩)
    (cn_Doc___eq__ : PySem.W.codeIn K cd_Doc___eq__ "Doc.__eq__" = true)
    (kp_Doc___eq__ : PySem.W.keepIn K (.ref f_Doc___eq__) = true)
    (is_Doc_row_list : PySem.W.isFn K (.ref f_Doc_row_list) = true)
    (l_Doc_row_list : K.lookup f_Doc_row_list = some ⟨oc_Doc_row_list, od_Doc_row_list, .func (PySem.W.fnOf "row_list" "Doc.row_list" (defArgs s_Doc_row_list) (defBody s_Doc_row_list) (defScope s_Doc_row_list) .none kV_Doc_row_list dc_Doc_row_list pm_Doc_row_list an_Doc_row_list cd_Doc_row_list ct_Doc_row_list), sl_Doc_row_list⟩)
    (cn_Doc_row_list : PySem.W.codeIn K cd_Doc_row_list "Doc.row_list" = true)
    (kp_Doc_row_list : PySem.W.keepIn K (.ref f_Doc_row_list) = true)
    (l__shown : K.lookup f__shown = some ⟨oc__shown, od__shown, .func (PySem.W.fnOf "_shown" "_shown" (defArgs s__shown) (defBody s__shown) (defScope s__shown) .none kV__shown dc__shown pm__shown an__shown cd__shown ct__shown), sl__shown⟩)
    (cn__shown : PySem.W.codeIn K cd__shown "_shown" = true)
    (kp__shown : PySem.W.keepIn K (.ref f__shown) = true)
    (l_is_integer : K.lookup f_is_integer = some ⟨oc_is_integer, od_is_integer, .func (PySem.W.fnOf "is_integer" "is_integer" (defArgs s_is_integer) (defBody s_is_integer) (defScope s_is_integer) .none kV_is_integer dc_is_integer pm_is_integer an_is_integer cd_is_integer ct_is_integer), sl_is_integer⟩)
    (cn_is_integer : PySem.W.codeIn K cd_is_integer "is_integer" = true)
    (kp_is_integer : PySem.W.keepIn K (.ref f_is_integer) = true)
    (l_is_between : K.lookup f_is_between = some ⟨oc_is_between, od_is_between, .func (PySem.W.fnOf "is_between" "is_between" (defArgs s_is_between) (defBody s_is_between) (defScope s_is_between) .none kV_is_between dc_is_between pm_is_between an_is_between cd_is_between ct_is_between), sl_is_between⟩)
    (cn_is_between : PySem.W.codeIn K cd_is_between "is_between" = true)
    (kp_is_between : PySem.W.keepIn K (.ref f_is_between) = true)
    (l_copied_row : K.lookup f_copied_row = some ⟨oc_copied_row, od_copied_row, .func (PySem.W.fnOf "copied_row" "copied_row" (defArgs s_copied_row) (defBody s_copied_row) (defScope s_copied_row) .none kV_copied_row dc_copied_row pm_copied_row an_copied_row cd_copied_row ct_copied_row), sl_copied_row⟩)
    (cn_copied_row : PySem.W.codeIn K cd_copied_row "copied_row" = true)
    (kp_copied_row : PySem.W.keepIn K (.ref f_copied_row) = true)
    (l_is_row : K.lookup f_is_row = some ⟨oc_is_row, od_is_row, .func (PySem.W.fnOf "is_row" "is_row" (defArgs s_is_row) (defBody s_is_row) (defScope s_is_row) .none kV_is_row dc_is_row pm_is_row an_is_row cd_is_row ct_is_row), sl_is_row⟩)
    (cn_is_row : PySem.W.codeIn K cd_is_row "is_row" = true)
    (kp_is_row : PySem.W.keepIn K (.ref f_is_row) = true)
    (l__checked_rows : K.lookup f__checked_rows = some ⟨oc__checked_rows, od__checked_rows, .func (PySem.W.fnOf "_checked_rows" "_checked_rows" (defArgs s__checked_rows) (defBody s__checked_rows) (defScope s__checked_rows) .none kV__checked_rows dc__checked_rows pm__checked_rows an__checked_rows cd__checked_rows ct__checked_rows), sl__checked_rows⟩)
    (cn__checked_rows : PySem.W.codeIn K cd__checked_rows "_checked_rows" = true)
    (kp__checked_rows : PySem.W.keepIn K (.ref f__checked_rows) = true)
    (l__is_signs : K.lookup f__is_signs = some ⟨oc__is_signs, od__is_signs, .func (PySem.W.fnOf "_is_signs" "_is_signs" (defArgs s__is_signs) (defBody s__is_signs) (defScope s__is_signs) .none kV__is_signs dc__is_signs pm__is_signs an__is_signs cd__is_signs ct__is_signs), sl__is_signs⟩)
    (cn__is_signs : PySem.W.codeIn K cd__is_signs "_is_signs" = true)
    (kp__is_signs : PySem.W.keepIn K (.ref f__is_signs) = true)
    (l__is_parts : K.lookup f__is_parts = some ⟨oc__is_parts, od__is_parts, .func (PySem.W.fnOf "_is_parts" "_is_parts" (defArgs s__is_parts) (defBody s__is_parts) (defScope s__is_parts) .none kV__is_parts dc__is_parts pm__is_parts an__is_parts cd__is_parts ct__is_parts), sl__is_parts⟩)
    (cn__is_parts : PySem.W.codeIn K cd__is_parts "_is_parts" = true)
    (kp__is_parts : PySem.W.keepIn K (.ref f__is_parts) = true)
    (l__law_cell_at : K.lookup f__law_cell_at = some ⟨oc__law_cell_at, od__law_cell_at, .func (PySem.W.fnOf "_law_cell_at" "_law_cell_at" (defArgs s__law_cell_at) (defBody s__law_cell_at) (defScope s__law_cell_at) .none kV__law_cell_at dc__law_cell_at pm__law_cell_at an__law_cell_at cd__law_cell_at ct__law_cell_at), sl__law_cell_at⟩)
    (cn__law_cell_at : PySem.W.codeIn K cd__law_cell_at "_law_cell_at" = true)
    (kp__law_cell_at : PySem.W.keepIn K (.ref f__law_cell_at) = true)
    (l__law_source_of : K.lookup f__law_source_of = some ⟨oc__law_source_of, od__law_source_of, .func (PySem.W.fnOf "_law_source_of" "_law_source_of" (defArgs s__law_source_of) (defBody s__law_source_of) (defScope s__law_source_of) .none kV__law_source_of dc__law_source_of pm__law_source_of an__law_source_of cd__law_source_of ct__law_source_of), sl__law_source_of⟩)
    (cn__law_source_of : PySem.W.codeIn K cd__law_source_of "_law_source_of" = true)
    (kp__law_source_of : PySem.W.keepIn K (.ref f__law_source_of) = true)
    (l__law_next : K.lookup f__law_next = some ⟨oc__law_next, od__law_next, .func (PySem.W.fnOf "_law_next" "_law_next" (defArgs s__law_next) (defBody s__law_next) (defScope s__law_next) .none kV__law_next dc__law_next pm__law_next an__law_next cd__law_next ct__law_next), sl__law_next⟩)
    (cn__law_next : PySem.W.codeIn K cd__law_next "_law_next" = true)
    (kp__law_next : PySem.W.keepIn K (.ref f__law_next) = true)
    (l__law_one : K.lookup f__law_one = some ⟨oc__law_one, od__law_one, .func (PySem.W.fnOf "_law_one" "_law_one" (defArgs s__law_one) (defBody s__law_one) (defScope s__law_one) .none kV__law_one dc__law_one pm__law_one an__law_one cd__law_one ct__law_one), sl__law_one⟩)
    (cn__law_one : PySem.W.codeIn K cd__law_one "_law_one" = true)
    (kp__law_one : PySem.W.keepIn K (.ref f__law_one) = true)
    (l__law_signs : K.lookup f__law_signs = some ⟨oc__law_signs, od__law_signs, .func (PySem.W.fnOf "_law_signs" "_law_signs" (defArgs s__law_signs) (defBody s__law_signs) (defScope s__law_signs) .none kV__law_signs dc__law_signs pm__law_signs an__law_signs cd__law_signs ct__law_signs), sl__law_signs⟩)
    (cn__law_signs : PySem.W.codeIn K cd__law_signs "_law_signs" = true)
    (kp__law_signs : PySem.W.keepIn K (.ref f__law_signs) = true)
    (l__law_row : K.lookup f__law_row = some ⟨oc__law_row, od__law_row, .func (PySem.W.fnOf "_law_row" "_law_row" (defArgs s__law_row) (defBody s__law_row) (defScope s__law_row) .none kV__law_row dc__law_row pm__law_row an__law_row cd__law_row ct__law_row), sl__law_row⟩)
    (cn__law_row : PySem.W.codeIn K cd__law_row "_law_row" = true)
    (kp__law_row : PySem.W.keepIn K (.ref f__law_row) = true)
    (l__law_rows : K.lookup f__law_rows = some ⟨oc__law_rows, od__law_rows, .func (PySem.W.fnOf "_law_rows" "_law_rows" (defArgs s__law_rows) (defBody s__law_rows) (defScope s__law_rows) .none kV__law_rows dc__law_rows pm__law_rows an__law_rows cd__law_rows ct__law_rows), sl__law_rows⟩)
    (cn__law_rows : PySem.W.codeIn K cd__law_rows "_law_rows" = true)
    (kp__law_rows : PySem.W.keepIn K (.ref f__law_rows) = true)
    (l_law : K.lookup f_law = some ⟨oc_law, od_law, .func (PySem.W.fnOf "law" "law" (defArgs s_law) (defBody s_law) (defScope s_law) .none kV_law dc_law pm_law an_law cd_law ct_law), sl_law⟩)
    (cn_law : PySem.W.codeIn K cd_law "law" = true)
    (kp_law : PySem.W.keepIn K (.ref f_law) = true)
    (g_MOST_ROWS : PySem.W.nsIn K mainGlobals "MOST_ROWS" = some (some (.int 200 t_MOST_ROWS)))
    (g_MOST_PARTS : PySem.W.nsIn K mainGlobals "MOST_PARTS" = some (some (.int 8 t_MOST_PARTS)))
    (g_MOST_NEST : PySem.W.nsIn K mainGlobals "MOST_NEST" = some (some (.int 8 t_MOST_NEST)))
    (g_MOST_TEXT_SIGNS : PySem.W.nsIn K mainGlobals "MOST_TEXT_SIGNS" = some (some (.int 20 t_MOST_TEXT_SIGNS)))
    (g_MOST_LINE_SIGNS : PySem.W.nsIn K mainGlobals "MOST_LINE_SIGNS" = some (some (.int 3 t_MOST_LINE_SIGNS)))
    (g_ROW_LENGTHS : PySem.W.nsIn K mainGlobals "ROW_LENGTHS" = some (some (.ref D_ROW_LENGTHS)))
    (kl_ROW_LENGTHS : K.lookup D_ROW_LENGTHS = some ⟨.type "dict", none, .dict es_ROW_LENGTHS n_ROW_LENGTHS, #[]⟩)
    (kk_ROW_LENGTHS : PySem.W.KeysLit w.params es_ROW_LENGTHS.toList)
    (kw_ROW_LENGTHS : (D_ROW_LENGTHS == sysModules) = false)
    (ks_ROW_LENGTHS : L2.keysL es_ROW_LENGTHS.toList = some (["text", "line", "hard", "cat", "nest", "align", "group"] : List Str))
    (k_ROW_LENGTHS_text : PySem.W.nsIn K D_ROW_LENGTHS "text" = some (some (.int 2 t_ROW_LENGTHS_text)))
    (k_ROW_LENGTHS_line : PySem.W.nsIn K D_ROW_LENGTHS "line" = some (some (.int 2 t_ROW_LENGTHS_line)))
    (k_ROW_LENGTHS_hard : PySem.W.nsIn K D_ROW_LENGTHS "hard" = some (some (.int 1 t_ROW_LENGTHS_hard)))
    (k_ROW_LENGTHS_cat : PySem.W.nsIn K D_ROW_LENGTHS "cat" = some (some (.int 2 t_ROW_LENGTHS_cat)))
    (k_ROW_LENGTHS_nest : PySem.W.nsIn K D_ROW_LENGTHS "nest" = some (some (.int 3 t_ROW_LENGTHS_nest)))
    (k_ROW_LENGTHS_align : PySem.W.nsIn K D_ROW_LENGTHS "align" = some (some (.int 2 t_ROW_LENGTHS_align)))
    (k_ROW_LENGTHS_group : PySem.W.nsIn K D_ROW_LENGTHS "group" = some (some (.int 2 t_ROW_LENGTHS_group)))
    (z_bool : PySem.W.nsIn K mainGlobals "bool" = some none)
    (z_enumerate : PySem.W.nsIn K mainGlobals "enumerate" = some none)
    (z_int : PySem.W.nsIn K mainGlobals "int" = some none)
    (z_isinstance : PySem.W.nsIn K mainGlobals "isinstance" = some none)
    (z_len : PySem.W.nsIn K mainGlobals "len" = some none)
    (z_list : PySem.W.nsIn K mainGlobals "list" = some none)
    (z_max : PySem.W.nsIn K mainGlobals "max" = some none)
    (z_range : PySem.W.nsIn K mainGlobals "range" = some none)
    (z_repr : PySem.W.nsIn K mainGlobals "repr" = some none)
    (z_str : PySem.W.nsIn K mainGlobals "str" = some none)
    (z_tuple : PySem.W.nsIn K mainGlobals "tuple" = some none)
    : ∃ W fl, Txt w K mg W ∧ ∃ fd, mg "law" = some (.ref fl) ∧ Fun K "law" "law" s_law fl fd ∧ Binds K fd ["_law_script"] [] := by
  have F_law := fun_mk (st := s_law) l_law cn_law kp_law
  refine ⟨{ c_LayoutError := C_LayoutError, c_InvalidDoc := C_InvalidDoc, c_Doc := C_Doc, ROW_LENGTHS := D_ROW_LENGTHS }, f_law, {
      n_bool := PySem.W.mg_none_of X G z_bool,
      n_enumerate := PySem.W.mg_none_of X G z_enumerate,
      n_int := PySem.W.mg_none_of X G z_int,
      n_isinstance := PySem.W.mg_none_of X G z_isinstance,
      n_len := PySem.W.mg_none_of X G z_len,
      n_list := PySem.W.mg_none_of X G z_list,
      n_max := PySem.W.mg_none_of X G z_max,
      n_range := PySem.W.mg_none_of X G z_range,
      n_repr := PySem.W.mg_none_of X G z_repr,
      n_str := PySem.W.mg_none_of X G z_str,
      n_tuple := PySem.W.mg_none_of X G z_tuple,
      g_MOST_ROWS := ⟨t_MOST_ROWS, PySem.W.mg_of X G g_MOST_ROWS⟩,
      g_MOST_PARTS := ⟨t_MOST_PARTS, PySem.W.mg_of X G g_MOST_PARTS⟩,
      g_MOST_NEST := ⟨t_MOST_NEST, PySem.W.mg_of X G g_MOST_NEST⟩,
      g_MOST_TEXT_SIGNS := ⟨t_MOST_TEXT_SIGNS, PySem.W.mg_of X G g_MOST_TEXT_SIGNS⟩,
      g_MOST_LINE_SIGNS := ⟨t_MOST_LINE_SIGNS, PySem.W.mg_of X G g_MOST_LINE_SIGNS⟩,
      g_ROW_LENGTHS := PySem.W.mg_of X G g_ROW_LENGTHS,
      k_ROW_LENGTHS := ⟨_, _, kl_ROW_LENGTHS, kk_ROW_LENGTHS, kw_ROW_LENGTHS⟩,
      kt_ROW_LENGTHS := ⟨_, _, kl_ROW_LENGTHS, kw_ROW_LENGTHS, ks_ROW_LENGTHS⟩,
      k_ROW_LENGTHS_text := ⟨_, k_ROW_LENGTHS_text⟩,
      k_ROW_LENGTHS_line := ⟨_, k_ROW_LENGTHS_line⟩,
      k_ROW_LENGTHS_hard := ⟨_, k_ROW_LENGTHS_hard⟩,
      k_ROW_LENGTHS_cat := ⟨_, k_ROW_LENGTHS_cat⟩,
      k_ROW_LENGTHS_nest := ⟨_, k_ROW_LENGTHS_nest⟩,
      k_ROW_LENGTHS_align := ⟨_, k_ROW_LENGTHS_align⟩,
      k_ROW_LENGTHS_group := ⟨_, k_ROW_LENGTHS_group⟩,
      c_LayoutError := PySem.W.mg_of X G a_LayoutError,
      c_InvalidDoc := PySem.W.mg_of X G a_InvalidDoc,
      c_Doc := PySem.W.mg_of X G a_Doc,
      cl_Doc := ⟨pg_Doc, hd_Doc, po_Doc, sa_Doc⟩,
      i_Doc := ⟨i_Doc_1, i_Doc_2, i_Doc_3, i_Doc_4, kit_self, kit_not (by decide) ic_Doc tc_Doc i_Doc_6, kit_not (by decide) ic_Doc tc_Doc i_Doc_7, kit_not (by decide) ic_Doc tc_Doc i_Doc_8, i_Doc_9, i_Doc_10, i_Doc_11, i_Doc_12⟩,
      ne_Doc := ⟨f_Doc___eq__, nm_Doc, q_Doc, N_Doc, bs_Doc, sn_Doc, sub_Doc, ab_Doc, col_Doc, dd_Doc, k0_Doc, k1_Doc, k2_Doc, k3_Doc, k5_Doc, oc_Doc, od_Doc, es_Doc, n_Doc, sl_Doc, ne_Doc_1, ne_Doc_2, strKeys_of ne_Doc_3, ne_Doc_4, ne_Doc_5, fi_Doc___eq__⟩,
      na_Doc__rows := na_Doc__rows,
      na_Doc_facts := na_Doc_facts,
      na_Doc_group_facts := na_Doc_group_facts,
      f_Doc___init__ := methDef_mk (st := s_Doc___init__) fi_Doc___init__ is_Doc___init__ l_Doc___init__ cn_Doc___init__ kp_Doc___init__ (fun _ _ _ _ _ _ us hl => match us, hl with | [_, _], _ => rfl),
      f_Doc___eq__ := methDef_mk (st := s_Doc___eq__) fi_Doc___eq__ is_Doc___eq__ l_Doc___eq__ cn_Doc___eq__ kp_Doc___eq__ (fun _ _ _ _ _ _ us hl => match us, hl with | [_, _], _ => rfl),
      f_Doc_row_list := methDef_mk (st := s_Doc_row_list) fi_Doc_row_list is_Doc_row_list l_Doc_row_list cn_Doc_row_list kp_Doc_row_list (fun _ _ _ _ _ _ us hl => match us, hl with | [_], _ => rfl),
      mk_Doc := ⟨mk_Doc, kc_Doc⟩,
      f__shown := topDef_mk (st := s__shown) X G fi__shown l__shown cn__shown kp__shown (fun _ _ _ _ _ _ us hl => match us, hl with | [_], _ => rfl),
      f_is_integer := topDef_mk (st := s_is_integer) X G fi_is_integer l_is_integer cn_is_integer kp_is_integer (fun _ _ _ _ _ _ us hl => match us, hl with | [_], _ => rfl),
      f_is_between := topDef_mk (st := s_is_between) X G fi_is_between l_is_between cn_is_between kp_is_between (fun _ _ _ _ _ _ us hl => match us, hl with | [_, _, _], _ => rfl),
      f_copied_row := topDef_mk (st := s_copied_row) X G fi_copied_row l_copied_row cn_copied_row kp_copied_row (fun _ _ _ _ _ _ us hl => match us, hl with | [_], _ => rfl),
      f_is_row := topDef_mk (st := s_is_row) X G fi_is_row l_is_row cn_is_row kp_is_row (fun _ _ _ _ _ _ us hl => match us, hl with | [_, _], _ => rfl),
      f__checked_rows := topDef_mk (st := s__checked_rows) X G fi__checked_rows l__checked_rows cn__checked_rows kp__checked_rows (fun _ _ _ _ _ _ us hl => match us, hl with | [_], _ => rfl),
      f__is_signs := topDef_mk (st := s__is_signs) X G fi__is_signs l__is_signs cn__is_signs kp__is_signs (fun _ _ _ _ _ _ us hl => match us, hl with | [_, _], _ => rfl),
      f__is_parts := topDef_mk (st := s__is_parts) X G fi__is_parts l__is_parts cn__is_parts kp__is_parts (fun _ _ _ _ _ _ us hl => match us, hl with | [_, _], _ => rfl),
      f__law_cell_at := topDef_mk (st := s__law_cell_at) X G fi__law_cell_at l__law_cell_at cn__law_cell_at kp__law_cell_at (fun _ _ _ _ _ _ us hl => match us, hl with | [_, _], _ => rfl),
      f__law_source_of := topDef_mk (st := s__law_source_of) X G fi__law_source_of l__law_source_of cn__law_source_of kp__law_source_of (fun _ _ _ _ _ _ us hl => match us, hl with | [_], _ => rfl),
      f__law_next := topDef_mk (st := s__law_next) X G fi__law_next l__law_next cn__law_next kp__law_next (fun _ _ _ _ _ _ us hl => match us, hl with | [_, _], _ => rfl),
      f__law_one := topDef_mk (st := s__law_one) X G fi__law_one l__law_one cn__law_one kp__law_one (fun _ _ _ _ _ _ us hl => match us, hl with | [_, _], _ => rfl),
      f__law_signs := topDef_mk (st := s__law_signs) X G fi__law_signs l__law_signs cn__law_signs kp__law_signs (fun _ _ _ _ _ _ us hl => match us, hl with | [_, _], _ => rfl),
      f__law_row := topDef_mk (st := s__law_row) X G fi__law_row l__law_row cn__law_row kp__law_row (fun _ _ _ _ _ _ us hl => match us, hl with | [_, _], _ => rfl),
      f__law_rows := topDef_mk (st := s__law_rows) X G fi__law_rows l__law_rows cn__law_rows kp__law_rows (fun _ _ _ _ _ _ us hl => match us, hl with | [_, _], _ => rfl),
      f_law := topDef_mk (st := s_law) X G fi_law l_law cn_law kp_law (fun _ _ _ _ _ _ us hl => match us, hl with | [_], _ => rfl) }, _, PySem.W.mg_of X G fi_law, F_law, F_law.binds (fun _ _ _ _ _ _ us hl => match us, hl with | [_], _ => rfl)⟩
theorem walk {l : PySem.W.OpenLaw} {q : Program} {loose : List Str} {XP : (Str → Option Value) → Heap → Prop} {YP : World → Heap → Prop} {d : DefRec} {KK : Params → PySem.W.Frag} (hn : l.most = some 63) (hdf : d.params.defaults = []) (hname : d.name = "law")
    (hY : ∀ (w : World) (h : Heap), YP w h → (KK w.params).In h)
    (F : ∀ (w : World) (mg : Str → Option Value) (h : Heap), (KK w.params).In h → h.Ns mainGlobals mg → ∃ W fl, Txt w (KK w.params) mg W ∧ ∃ fd, mg "law" = some (.ref fl) ∧ Fun (KK w.params) "law" "law" s_law fl fd ∧ Binds (KK w.params) fd ["_law_script"] []) :
    PySem.W.WalkO q loose XP YP l.row.toRowW d [] (fun f vs => PySem.call f vs) :=
  walk_G (n := 63) (k := 9) (x := "_law_script") (sp := fun w => sp_law (KK w.params)) hn (by decide) hdf ⟨rfl, by decide, by decide⟩ hY (fun w mg fa h KX G hmg => by
    obtain ⟨W, fl, T, fd, h1, h2, h3⟩ := F w mg h KX G
    rw [hname, h1] at hmg
    cases hmg
    refine ⟨fd, fun s u => ?_, fun base _ _ => fn_law T h2⟩
    obtain ⟨oc, od, kV, doc, pm, an, cdv, ct, osl, rfl, _, _⟩ := h2.ex
    exact .of_eq rfl)
    fun w H a ns hl hS => ⟨a, ns, rfl, hS, hl, fun _ => rfl⟩
end Lw

open PySem PySem.W PyProof.Rows in
set_option maxRecDepth 100000 in
set_option maxHeartbeats 0 in
theorem PySem.Challenge.cw_farlayout_k02_rows_that_are_kept_holds : PySem.Challenge.rw_farlayout_k02_rows_that_are_kept.Holds := by
  w_on; o_law; k_head; (case hw => w_witness2)
  k_fill
  refine Lw.walk (l := PySem.Challenge.rw_farlayout_k02_rows_that_are_kept) rfl rfl rfl (fun w h Y => PySem.W.kIn_of Y) ?F
  case F =>
    intro w mg h KX G
    refine' Lw.all_mk (w := w) KX G ?a_LayoutError ?a_InvalidDoc ?a_Doc ?fi_Doc___init__ ?fi_Doc___eq__ ?fi_Doc_row_list ?fi__shown ?fi_is_integer ?fi_is_between ?fi_copied_row ?fi_is_row ?fi__checked_rows ?fi__is_signs ?fi__is_parts ?fi__law_cell_at ?fi__law_source_of ?fi__law_next ?fi__law_one ?fi__law_signs ?fi__law_row ?fi__law_rows ?fi_law ?pg_Doc ?hd_Doc ?po_Doc ?sa_Doc ?mk_Doc ?kc_Doc ?na_Doc__rows ?na_Doc_facts ?na_Doc_group_facts ?i_Doc_1 ?i_Doc_2 ?i_Doc_3 ?i_Doc_4 ?ic_Doc ?tc_Doc ?i_Doc_6 ?i_Doc_7 ?i_Doc_8 ?i_Doc_9 ?i_Doc_10 ?i_Doc_11 ?i_Doc_12 ?ne_Doc_1 ?ne_Doc_2 ?ne_Doc_3 ?ne_Doc_4 ?ne_Doc_5 ?is_Doc___init__ ?l_Doc___init__ ?cn_Doc___init__ ?kp_Doc___init__ ?is_Doc___eq__ ?l_Doc___eq__ ?cn_Doc___eq__ ?kp_Doc___eq__ ?is_Doc_row_list ?l_Doc_row_list ?cn_Doc_row_list ?kp_Doc_row_list ?l__shown ?cn__shown ?kp__shown ?l_is_integer ?cn_is_integer ?kp_is_integer ?l_is_between ?cn_is_between ?kp_is_between ?l_copied_row ?cn_copied_row ?kp_copied_row ?l_is_row ?cn_is_row ?kp_is_row ?l__checked_rows ?cn__checked_rows ?kp__checked_rows ?l__is_signs ?cn__is_signs ?kp__is_signs ?l__is_parts ?cn__is_parts ?kp__is_parts ?l__law_cell_at ?cn__law_cell_at ?kp__law_cell_at ?l__law_source_of ?cn__law_source_of ?kp__law_source_of ?l__law_next ?cn__law_next ?kp__law_next ?l__law_one ?cn__law_one ?kp__law_one ?l__law_signs ?cn__law_signs ?kp__law_signs ?l__law_row ?cn__law_row ?kp__law_row ?l__law_rows ?cn__law_rows ?kp__law_rows ?l_law ?cn_law ?kp_law ?g_MOST_ROWS ?g_MOST_PARTS ?g_MOST_NEST ?g_MOST_TEXT_SIGNS ?g_MOST_LINE_SIGNS ?g_ROW_LENGTHS ?kl_ROW_LENGTHS ?kk_ROW_LENGTHS ?kw_ROW_LENGTHS ?ks_ROW_LENGTHS ?k_ROW_LENGTHS_text ?k_ROW_LENGTHS_line ?k_ROW_LENGTHS_hard ?k_ROW_LENGTHS_cat ?k_ROW_LENGTHS_nest ?k_ROW_LENGTHS_align ?k_ROW_LENGTHS_group ?z_bool ?z_enumerate ?z_int ?z_isinstance ?z_len ?z_list ?z_max ?z_range ?z_repr ?z_str ?z_tuple
    (case a_LayoutError => k_is)
    (case a_InvalidDoc => k_is)
    (case a_Doc => k_is)
    (case fi_Doc___init__ => k_is)
    (case fi_Doc___eq__ => k_is)
    (case fi_Doc_row_list => k_is)
    (case fi__shown => k_is)
    (case fi_is_integer => k_is)
    (case fi_is_between => k_is)
    (case fi_copied_row => k_is)
    (case fi_is_row => k_is)
    (case fi__checked_rows => k_is)
    (case fi__is_signs => k_is)
    (case fi__is_parts => k_is)
    (case fi__law_cell_at => k_is)
    (case fi__law_source_of => k_is)
    (case fi__law_next => k_is)
    (case fi__law_one => k_is)
    (case fi__law_signs => k_is)
    (case fi__law_row => k_is)
    (case fi__law_rows => k_is)
    (case fi_law => k_is)
    (case pg_Doc => k_is)
    (case hd_Doc => k_is)
    (case po_Doc => k_is)
    (case sa_Doc => k_is)
    (case mk_Doc => k_is)
    (case kc_Doc => k_is)
    (case na_Doc__rows => k_is)
    (case na_Doc_facts => k_is)
    (case na_Doc_group_facts => k_is)
    (case i_Doc_1 => k_is)
    (case i_Doc_2 => k_is)
    (case i_Doc_3 => k_is)
    (case i_Doc_4 => k_is)
    (case ic_Doc => k_is)
    (case tc_Doc => k_is)
    (case i_Doc_6 => k_is)
    (case i_Doc_7 => k_is)
    (case i_Doc_8 => k_is)
    (case i_Doc_9 => k_is)
    (case i_Doc_10 => k_is)
    (case i_Doc_11 => k_is)
    (case i_Doc_12 => k_is)
    (case ne_Doc_1 => k_is)
    (case ne_Doc_2 => k_is)
    (case ne_Doc_3 => k_keys)
    (case ne_Doc_4 => k_is)
    (case ne_Doc_5 => k_is)
    (case is_Doc___init__ => k_is)
    (case l_Doc___init__ => k_is)
    (case cn_Doc___init__ => k_is)
    (case kp_Doc___init__ => k_is)
    (case is_Doc___eq__ => k_is)
    (case l_Doc___eq__ => k_is)
    (case cn_Doc___eq__ => k_is)
    (case kp_Doc___eq__ => k_is)
    (case is_Doc_row_list => k_is)
    (case l_Doc_row_list => k_is)
    (case cn_Doc_row_list => k_is)
    (case kp_Doc_row_list => k_is)
    (case l__shown => k_is)
    (case cn__shown => k_is)
    (case kp__shown => k_is)
    (case l_is_integer => k_is)
    (case cn_is_integer => k_is)
    (case kp_is_integer => k_is)
    (case l_is_between => k_is)
    (case cn_is_between => k_is)
    (case kp_is_between => k_is)
    (case l_copied_row => k_is)
    (case cn_copied_row => k_is)
    (case kp_copied_row => k_is)
    (case l_is_row => k_is)
    (case cn_is_row => k_is)
    (case kp_is_row => k_is)
    (case l__checked_rows => k_is)
    (case cn__checked_rows => k_is)
    (case kp__checked_rows => k_is)
    (case l__is_signs => k_is)
    (case cn__is_signs => k_is)
    (case kp__is_signs => k_is)
    (case l__is_parts => k_is)
    (case cn__is_parts => k_is)
    (case kp__is_parts => k_is)
    (case l__law_cell_at => k_is)
    (case cn__law_cell_at => k_is)
    (case kp__law_cell_at => k_is)
    (case l__law_source_of => k_is)
    (case cn__law_source_of => k_is)
    (case kp__law_source_of => k_is)
    (case l__law_next => k_is)
    (case cn__law_next => k_is)
    (case kp__law_next => k_is)
    (case l__law_one => k_is)
    (case cn__law_one => k_is)
    (case kp__law_one => k_is)
    (case l__law_signs => k_is)
    (case cn__law_signs => k_is)
    (case kp__law_signs => k_is)
    (case l__law_row => k_is)
    (case cn__law_row => k_is)
    (case kp__law_row => k_is)
    (case l__law_rows => k_is)
    (case cn__law_rows => k_is)
    (case kp__law_rows => k_is)
    (case l_law => k_is)
    (case cn_law => k_is)
    (case kp_law => k_is)
    (case g_MOST_ROWS => k_is)
    (case g_MOST_PARTS => k_is)
    (case g_MOST_NEST => k_is)
    (case g_MOST_TEXT_SIGNS => k_is)
    (case g_MOST_LINE_SIGNS => k_is)
    (case g_ROW_LENGTHS => k_is)
    (case kl_ROW_LENGTHS => k_is)
    (case kk_ROW_LENGTHS => k_keys)
    (case kw_ROW_LENGTHS => decide)
    (case ks_ROW_LENGTHS => rfl)
    (case k_ROW_LENGTHS_text => k_is)
    (case k_ROW_LENGTHS_line => k_is)
    (case k_ROW_LENGTHS_hard => k_is)
    (case k_ROW_LENGTHS_cat => k_is)
    (case k_ROW_LENGTHS_nest => k_is)
    (case k_ROW_LENGTHS_align => k_is)
    (case k_ROW_LENGTHS_group => k_is)
    (case z_bool => k_is)
    (case z_enumerate => k_is)
    (case z_int => k_is)
    (case z_isinstance => k_is)
    (case z_len => k_is)
    (case z_list => k_is)
    (case z_max => k_is)
    (case z_range => k_is)
    (case z_repr => k_is)
    (case z_str => k_is)
    (case z_tuple => k_is)
