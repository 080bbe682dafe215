import PyProof.Rows.All
import Wide.All
import OpenK.AllK
import Wide.FinOn
import HandS.ForMost
import HandS.IsInst
import HandS.OwnEq
import HandS.More
import HandS.Text
import HandS.Conv
import HandS.Evl
import HandS.MakeKwOnly
import PyProof.ListStr
import PyProof.ReprRoads
import PyProof.Rows.PlainNe
import PyProof.InstNe
import HandS.Walk
import HandS.Iter
import HandS.RaiseMore
import HandS.Defaults
import HandS.ForExc
import HandS.ExcInit
import HandS.ExcIs
import HandS.ExcField
import HandS.ClsMeth
import HandS.FStr
import KE.KExcInit
import HandS.Lambda
import HandS.EndTab
import HandS.SetFor
import KE.KNestM
import HandS.StrMore
import PySem.Challenge.RW_farlayout_k01_what_is_a_document
set_option Elab.async false
set_option linter.all false
set_option maxRecDepth 100000
/-! Views: a part of the abstract heap of which facts are told; what is made is added to it, what is changed lies outside. -/
namespace VW
open PySem L2

structure Gr (S : Addr → Prop) (V H V' H' : Hp) : Prop where
  v : Same V V'
  s : Same V' H'
  k : ∀ b o, ¬ S b → H b = some o → H' b = some o
  n : ∀ b, H b ≠ none → H' b ≠ none ∧ V' b = V b

abbrev S0 : Addr → Prop := fun _ => False

theorem some_ne {x : Option HO} {o : HO} (h : x = some o) : x ≠ none := by rw [h]; exact fun z => nomatch z
section
variable {S S' : Addr → Prop} {V H V' H' V2 H2 : Hp} {p a : Addr} {o : HO}

theorem Gr.refl (h : Same V H) : Gr S V H V H := ⟨Same.refl _, h, fun _ _ _ e => e, fun _ e => ⟨e, rfl⟩⟩
theorem Gr.trans (a : Gr S V H V' H') (b : Gr S V' H' V2 H2) : Gr S V H V2 H2 :=
  ⟨a.v.trans b.v, b.s, fun x o hx e => b.k x o hx (a.k x o hx e), fun x e => ⟨(b.n x (a.n x e).1).1, ((b.n x (a.n x e).1).2).trans (a.n x e).2⟩⟩
theorem Gr.back (g : Gr S V H V' H') : Gr S V H V H' := ⟨Same.refl _, g.v.trans g.s, g.k, fun x e => ⟨(g.n x e).1, rfl⟩⟩
theorem Gr.weak (hS : ∀ b, S b → S' b) (g : Gr S V H V' H') : Gr S' V H V' H' := ⟨g.v, g.s, fun b o hb e => g.k b o (fun z => hb (hS b z)) e, g.n⟩
theorem Gr.of0 (g : Gr S0 V H V' H') : Gr S V H V' H' := g.weak fun _ z => z.elim
theorem Gr.same (g : Gr S0 V H V' H') : Same H H' := fun b o e => g.k b o (fun z => z) e
theorem Gr.free (g : Gr S V H V' H') (h : H' p = none) : H p = none := by
  cases e : H p with
  | none => rfl
  | some o => exact absurd h (g.n p (by rw [e]; exact fun z => nomatch z)).1
theorem vfree (s : Same V H) (h : H p = none) : V p = none := s.free h
/-- a new object, told of -/
theorem Gr.new (g : Gr S V H V' H') (h : H' p = none) : Gr S V H (upd V' p o) (upd H' p o) := by
  refine ⟨fun b u e => ?_, fun b u e => ?_, fun b u hb e => ?_, fun b e => ?_⟩
  · have q := g.v b u e
    rw [upd_ne (ne_of_none (g.s b u q) h)]
    exact q
  · by_cases hb : b = p
    · subst hb
      rw [upd_same] at e ⊢
      exact e
    · rw [upd_ne hb] at e ⊢
      exact g.s b u e
  · have q := g.k b u hb e
    rw [upd_ne (ne_of_none q h)]
    exact q
  · have hb : b ≠ p := fun z => by
      subst z
      exact e (g.free h)
    rw [upd_ne hb, upd_ne hb]
    exact g.n b e
/-- a new object, not told of -/
theorem Gr.newH (g : Gr S V H V' H') (h : H' p = none) : Gr S V H V' (upd H' p o) := by
  refine ⟨g.v, fun b u e => ?_, fun b u hb e => ?_, fun b e => ?_⟩
  · have q := g.s b u e
    rw [upd_ne (ne_of_none q h)]
    exact q
  · have q := g.k b u hb e
    rw [upd_ne (ne_of_none q h)]
    exact q
  · have hb : b ≠ p := fun z => by
      subst z
      exact e (g.free h)
    rw [upd_ne hb]
    exact g.n b e
/-- what is outside of the view is changed -/
theorem Gr.mut (g : Gr S V H V' H') (hS : S p ∨ H p = none) (hv : V' p = none) : Gr S V H V' (upd H' p o) := by
  refine ⟨g.v, fun b u e => ?_, fun b u hb e => ?_, fun b e => ⟨?_, (g.n b e).2⟩⟩
  · have hb : b ≠ p := fun z => by
      subst z
      rw [hv] at e
      cases e
    rw [upd_ne hb]
    exact g.s b u e
  · have hbp : b ≠ p := fun z => by
      subst z
      rcases hS with hS | hS
      · exact hb hS
      · rw [hS] at e
        cases e
    rw [upd_ne hbp]
    exact g.k b u hb e
  · by_cases hb : b = p
    · subst hb
      rw [upd_same]
      exact fun z => nomatch z
    · rw [upd_ne hb]
      exact (g.n b e).1
/-- what was outside is told of from now on: p is new since H -/
theorem Gr.tell (g : Gr S V H V' H') (h0 : H p = none) (h : H' p = some o) (hv : V' p = none) : Gr S V H (upd V' p o) H' := by
  refine ⟨fun b u e => ?_, fun b u e => ?_, g.k, fun b e => ⟨(g.n b e).1, ?_⟩⟩
  · have q := g.v b u e
    rw [upd_ne (ne_of_none q hv)]
    exact q
  · by_cases hb : b = p
    · subst hb
      rw [upd_same] at e
      rw [h]
      exact e
    · rw [upd_ne hb] at e
      exact g.s b u e
  · have hb : b ≠ p := fun z => by
      subst z
      exact e h0
    rw [upd_ne hb]
    exact (g.n b e).2
theorem Gr.grow (g : Gr S V H V' H') (e : Same H' H2) : Gr S V H V' H2 :=
  ⟨g.v, g.s.trans e, fun b o hb q => e b o (g.k b o hb q), fun b q => ⟨(by
    cases z : H' b with
    | none => exact absurd z (g.n b q).1
    | some o => exact some_ne (e b o z)), (g.n b q).2⟩⟩
/-- all that is new is told of, but for M -/
noncomputable def allU (M : Addr → Prop) (H H' V' : Hp) : Hp := by
  classical exact fun b => if H b = none ∧ ¬ M b then H' b else V' b
theorem allU_new {M : Addr → Prop} (h : H p = none) (hM : ¬ M p) : allU M H H' V' p = H' p := by
  unfold allU
  exact if_pos ⟨h, hM⟩
theorem allU_old {M : Addr → Prop} (h : H p ≠ none) : allU M H H' V' p = V' p := by
  unfold allU
  exact if_neg fun z => h z.1
theorem allU_M {M : Addr → Prop} (h : M p) : allU M H H' V' p = V' p := by
  unfold allU
  exact if_neg fun z => z.2 h
theorem Gr.all (M : Addr → Prop) (h0 : Same V H) (g : Gr S V H V' H') : Gr S V H (allU M H H' V') H' := by
  refine ⟨fun b o e => ?_, fun b o e => ?_, g.k, fun b e => ⟨(g.n b e).1, (allU_old e).trans (g.n b e).2⟩⟩
  · rw [allU_old (some_ne (h0 b o e))]
    exact g.v b o e
  · by_cases hb : H b = none
    · by_cases hM : M b
      · rw [allU_M hM] at e
        exact g.s b o e
      · rw [allU_new hb hM] at e
        exact e
    · rw [allU_old hb] at e
      exact g.s b o e
theorem Gr.allSame (M : Addr → Prop) (g : Gr S V H V' H') : Same V' (allU M H H' V') := fun b o e => by
  by_cases hb : H b = none
  · by_cases hM : M b
    · rw [allU_M hM]
      exact e
    · rw [allU_new hb hM]
      exact g.s b o e
  · rw [allU_old hb]
    exact e
/-- what was made first and changed afterwards is new -/
theorem Gr.under (hD : H p = none) (g : Gr (fun b => b = p) V (upd H p o) V' H') : Gr S V H V' H' := by
  refine ⟨g.v, g.s, fun b u _ e => ?_, fun b e => ?_⟩
  · have hb := ne_of_none e hD
    exact g.k b u hb (by rw [upd_ne hb]; exact e)
  · have hb : b ≠ p := fun z => e (by rw [z]; exact hD)
    exact g.n b (by rw [upd_ne hb]; exact e)
theorem Gr.out (g : Gr S V H V' H') (h : H p ≠ none) (hv : V p = none) : V' p = none := (g.n p h).2.trans hv
theorem Gr.there (g : Gr S V H V' H') (h : H p ≠ none) : H' p ≠ none := (g.n p h).1
end

section
variable {K : PySem.W.Frag} {H H' : Hp}
theorem rdS {a : Addr} {u : HO} (e : Same H H') (h : Rd H a u) : Rd H' a u := by
  rcases h with h | ⟨o, h⟩
  · exact Or.inl (e a _ h)
  · exact Or.inr ⟨o, e a _ h⟩
theorem sqlS {a : Addr} {xs : List V} (e : Same H H') (h : SqL K H a xs) : SqL K H' a xs := e.seq h
theorem sqtS {a : Addr} {xs : List V} (e : Same H H') (h : SqT K H a xs) : SqT K H' a xs := by
  rcases h with h | h
  · exact Or.inl (rdS e h)
  · exact Or.inr h
theorem sqlO {a : Addr} {xs : List V} (h : H a = some (.lst xs)) : SqL K H a xs := Or.inl (Or.inl h)
theorem sqtO {a : Addr} {xs : List V} (h : H a = some (.tup xs)) : SqT K H a xs := Or.inl (Or.inl h)
mutual
theorem dpS (e : Same H H') : ∀ {d : PyData} {v : V}, Dp K H v d → Dp K H' v d
  | .none, _, h => by cases h; exact .non
  | .bool _, _, h => by cases h; exact .bl _
  | .int _, _, h => by cases h; exact .int _
  | .str _, _, h => by cases h; exact .str _
  | .list _, _, h => by
    cases h with
    | lst hs ha => exact .lst (sqlS e hs) (dpsS e ha)
  | .tuple _, _, h => by
    cases h with
    | tup hs ha => exact .tup (sqtS e hs) (dpsS e ha)
  | .dict _, _, h => by cases h
theorem dpsS (e : Same H H') : ∀ {ds : List PyData} {vs : List V}, DpAll K H vs ds → DpAll K H' vs ds
  | [], _, h => by cases h; exact .nil
  | _ :: _, _, h => by
    cases h with
    | cons h1 h2 => exact .cons (dpS e h1) (dpsS e h2)
end
theorem dps_length : ∀ {ds : List PyData} {vs : List V}, DpAll K H vs ds → vs.length = ds.length
  | [], _, h => by cases h; rfl
  | _ :: _, _, h => by
    cases h with
    | cons h1 h2 => rw [List.length_cons, List.length_cons, dps_length h2]
theorem dps_get : ∀ {ds : List PyData} {vs : List V} {i : Nat} {v : V}, DpAll K H vs ds → vs[i]? = some v → ∃ d, ds[i]? = some d ∧ Dp K H v d
  | [], _, i, v, h, e => by cases h; simp at e
  | d :: ds, _, 0, v, h, e => by
    cases h with
    | cons h1 h2 =>
      simp at e
      subst e
      exact ⟨d, by simp, h1⟩
  | d :: ds, _, i + 1, v, h, e => by
    cases h with
    | cons h1 h2 =>
      simp at e
      obtain ⟨d', q1, q2⟩ := dps_get h2 e
      exact ⟨d', by simpa using q1, q2⟩
theorem dps_append {vs ws : List V} {ds es : List PyData} (h : DpAll K H vs ds) (h2 : DpAll K H ws es) : DpAll K H (vs ++ ws) (ds ++ es) := by
  induction vs generalizing ds with
  | nil => cases h; exact h2
  | cons v vs ih =>
    cases h with
    | cons h1 h3 => exact .cons h1 (ih h3)
theorem dps_take {vs : List V} {ds : List PyData} (n : Nat) (h : DpAll K H vs ds) : DpAll K H (vs.take n) (ds.take n) := by
  induction vs generalizing ds n with
  | nil => cases h; simp; exact .nil
  | cons v vs ih =>
    cases h with
    | cons h1 h3 =>
      cases n with
      | zero => exact .nil
      | succ n => exact .cons h1 (ih n h3)
theorem dps_drop {vs : List V} {ds : List PyData} (n : Nat) (h : DpAll K H vs ds) : DpAll K H (vs.drop n) (ds.drop n) := by
  induction vs generalizing ds n with
  | nil => cases h; simp; exact .nil
  | cons v vs ih =>
    cases h with
    | cons h1 h3 =>
      cases n with
      | zero => exact .cons h1 h3
      | succ n => exact ih n h3
theorem dps_ints (ns : List Int) : DpAll K H (ns.map V.int) (ns.map PyData.int) := by
  induction ns with
  | nil => exact .nil
  | cons n ns ih => exact .cons (.int n) ih
theorem dps_of_ints {vs : List V} {ns : List Int} (h : DpAll K H vs (ns.map PyData.int)) : vs = ns.map V.int := by
  induction ns generalizing vs with
  | nil => cases h; rfl
  | cons n ns ih =>
    cases h with
    | cons h1 h2 =>
      cases h1
      rw [ih h2]
      rfl
end
theorem same_new {H : Hp} {p : Addr} {o : HO} (h : H p = none) : Same H (upd H p o) := fun b u e => by rw [upd_ne (ne_of_none e h)]; exact e
/-- all but s -/
noncomputable def hide (s : Addr) (H : Hp) : Hp := by
  classical exact fun b => if b = s then none else H b
theorem hide_at {s : Addr} {H : Hp} : hide s H s = none := by
  unfold hide
  exact if_pos rfl
theorem hide_ne {s b : Addr} {H : Hp} (h : b ≠ s) : hide s H b = H b := by
  unfold hide
  exact if_neg h
theorem hide_same {s : Addr} {H : Hp} : Same (hide s H) H := fun b o e => by
  by_cases h : b = s
  · rw [h, hide_at] at e
    cases e
  · rw [hide_ne h] at e
    exact e
theorem hide_in {s : Addr} {U H : Hp} (h : Same U H) (hs : U s = none) : Same U (hide s H) := fun b o e => by
  have hb : b ≠ s := fun z => by
    rw [z, hs] at e
    cases e
  rw [hide_ne hb]
  exact h b o e
end VW

/-! More rules over the hand layer: a def by its name, list(text), repr(data), w.get(k) of a written dict, == and != by an own __eq__. -/
namespace L2
open PySem PySem.Spec PyProof.Rows

/-! ### a def of the text, by its name -/
structure DefOk (P : Program) (w : World) (K : PySem.W.Frag) (mg : Str → Option Value) (base : Heap) (x : Str) (st : Stmt) (ps : List Str) (k : Nat) (sp : Sp) : Prop where
  ex : ∃ f fd, mg x = some (.ref f) ∧ Fun K x x st f fd ∧ Binds K fd ps [] ∧ FnOk P w K mg base CX0 k f fd ps sp
structure TopDef (K : PySem.W.Frag) (mg : Str → Option Value) (x : Str) (st : Stmt) (ps : List Str) : Prop where
  ex : ∃ f fd, mg x = some (.ref f) ∧ Fun K x x st f fd ∧ Binds K fd ps []
section
variable {X : Cx}
theorem pe_callD {x : Str} {st : Stmt} {ps : List Str} {k : Nat} {sp : Sp} {e : Expr} {es : List Expr} {t : TA} {p pos : Pos} (D : DefOk X.prog X.w X.K X.mg X.base x st ps k sp) (hr : Room k X.A) (ha : PA X (e :: es) t) (hg : Gl X x := by rfl)
    (hdb : (x == ("__debug__" : Str)) = false := by decide) (he : starEach (e :: es) X.env = (false, eval e X.env) :: starEach es X.env := by rfl) (hpl : (backTo pos (starEach es X.env)).any (·.1) = false := by rfl) :
    PE X (.Call (.Name x p) (e :: es) [] pos) (tCall sp [] E0 t) := by
  obtain ⟨f, fd, hm, hk, hb, F⟩ := D.ex
  exact pe_call F hr hg hm hk.kp hb .nil pass0 ha hdb he hpl
theorem pe_callD0 {x : Str} {st : Stmt} {ps : List Str} {k : Nat} {sp : Sp} {p pos : Pos} (D : DefOk X.prog X.w X.K X.mg X.base x st ps k sp) (hr : Room k X.A) (hg : Gl X x := by rfl) (hdb : (x == ("__debug__" : Str)) = false := by decide) :
    PE X (.Call (.Name x p) [] [] pos) (tCall sp [] E0 tNil) := by
  obtain ⟨f, fd, hm, hk, hb, F⟩ := D.ex
  exact pe_call0 F hr hg hm hk.kp hb .nil pass0 hdb
theorem pe_globI {x : Str} {i : Int} {pos : Pos} (h : ∃ t, X.mg x = some (.int i t)) (hg : Gl X x := by rfl) (hd : (x == ("__debug__" : Str)) = false := by decide) : PE X (.Name x pos) (tC (.int i)) := by
  obtain ⟨t, h⟩ := h
  exact pe_glob hg h ⟨t, rfl⟩ hd
/-- the body of a def, as a rule for its promise -/
theorem TopDef.ok {P : Program} {w : World} {K : PySem.W.Frag} {mg : Str → Option Value} {base : Heap} {x : Str} {st : Stmt} {N ps : List Str} {k : Nat} {sp : Sp} (T : TopDef K mg x st ps) (S : FnScope N ps (defScope st)) (len : ∀ vs H Q E, sp vs H Q E → vs.length = ps.length)
    (hbody : ∀ (f : Addr) (cdv : Value) (A : Around) (outer : List Env) (s : Shared) (H : Hp) (vs : List V) (Q : VK) (E : XK), Room k (A.deeper (envOfC x (defScope st) s.heap.objs.size f cdv)) → sp vs H Q E →
      ∃ t, PSs (cxOf CX0 P w K mg base N x (defScope st) f cdv A outer s H E).nox (defBody st) t ∧ t { nx := fun _ H' => Q .non H', rt := Q } (start N vs) H) : DefOk P w K mg base x st ps (k + 1) sp := by
  obtain ⟨f, fd, hm, F, hb⟩ := T.ex
  exact ⟨f, fd, hm, F, hb, F.ok S len (hbody f)⟩
end
theorem topDef_mk {K : PySem.W.Frag} {mg : Str → Option Value} {h : Heap} {f : Addr} {x : Str} {st : Stmt} {ps : List Str} {oc : Value} {od an : Option Addr} {osl : Array (Option Value)} {kV doc pm cdv ct : Value} (X : K.In h) (G : h.Ns mainGlobals mg)
    (a : PySem.W.nsIn K mainGlobals x = some (some (.ref f)))
    (l : K.lookup f = some ⟨oc, od, .func (PySem.W.fnOf x x (defArgs st) (defBody st) (defScope st) .none kV doc pm an cdv ct), osl⟩)
    (c : PySem.W.codeIn K cdv x = true) (k : PySem.W.keepIn K (.ref f) = true)
    (hb : ∀ (kV doc pm : Value) (an : Option Addr) (cdv ct : Value) (us : List Value), us.length = ps.length → bindArgs (PySem.W.fnOf x x (defArgs st) (defBody st) (defScope st) .none kV doc pm an cdv ct) ⟨us, []⟩ = pure (ps.zip us)) : TopDef K mg x st ps :=
  have F := fun_mk (st := st) l c k
  ⟨f, _, PySem.W.mg_of X G a, F, F.binds hb⟩

/-! ### list(text) -/
theorem call_list_text {X : Cx} (hc : X.calm = true) : CallR X (.type "list") (fun xs H Q => ∃ z : Str, xs = [.str z] ∧ z.cps.size ≤ sizeLine ∧ ∀ l, H l = none → Q (.ref l) (upd H l (.lst (z.cps.toList.map fun c => V.str ⟨#[c]⟩)))) := by
  intro pins s σ H xs us Q I r h
  obtain ⟨z, rfl, hz, q⟩ := h
  obtain ⟨u, rfl, t, rfl⟩ := vals1 r
  refine PySem.call_list_str (I.ok.hd hc) z t (fun h' tk acc' c' hk hS hacc => ?_) hz
  refine ⟨.ref s.heap.objs.size, _, I.laid (t' := tk) hk (Nat.le_refl _) (show ObjOk X.prog X.w _ h' _ (.lst (z.cps.toList.map fun c => V.str ⟨#[c]⟩)) from ⟨?_, acc'.toList, c', ?_, ?_⟩), rfl, q _ (I.hok.fresh (Nat.le_refl _))⟩
  · rw [List.length_map, Array.length_toList]
    exact hz
  · refine vals_of_at (by rw [List.length_map, Array.length_toList, Array.length_toList]; exact hacc.1.symm) fun j x w h1 h2 => ?_
    have h3 := hacc.2 j w (by rw [← Array.getElem?_toList]; exact h2)
    obtain ⟨c, t', e1, e2⟩ := h3
    have e3 : z.cps.toList[j]? = some c := by rw [Array.getElem?_toList]; exact e1
    rw [List.getElem?_map, e3] at h1
    cases h1
    exact ⟨t', e2⟩
  · rw [Array.toArray_toList]
    exact hS

/-! ### repr of data -/
theorem call_reprD {X : Cx} (hu : X.A.units + 65 < cLine) (hg : X.A.guards = some []) : CallR X (.builtin "repr") (fun xs H Q => ∃ a d, xs = [.ref a] ∧ Dp X.K H (.ref a) d ∧ d.showable = true ∧ d.hasDict = false ∧ d.depth ≤ 64 ∧ d.shown.length ≤ sizeLine ∧ Q (.str d.shown) H) := by
  intro pins s σ H xs us Q I r h
  obtain ⟨a, d, rfl, hd, h1, h2, h3, h4, q⟩ := h
  obtain ⟨u, rfl, rx⟩ := vals1 r
  obtain ⟨as, hr⟩ := Dp.reads I d _ u hd rx
  cases rx
  refine PySem.repr_of_reads' (h₀ := s.heap) hr h1 (PyData.noDict_hsm h2) hg (by omega) (fun _ _ e => e) (fun h' u tk hk => ?_) h4
  exact ⟨.str d.shown, H, I.kept (t' := tk) hk, ⟨u, rfl⟩, q⟩

/-! ### w.get(k), w a dict of the module whose keys are texts -/
def tKGet (K : PySem.W.Frag) (w : World) (td ty : TE) : TE := fun σ H Q => td σ H fun x H1 => ∃ a es n, x = .ref a ∧ K.lookup a = some ⟨.type "dict", none, .dict es n, #[]⟩ ∧ PySem.W.KeysLit w.params es.toList ∧ (a == sysModules) = false ∧
  ty σ H1 fun y H2 => ∃ z r v, y = .str z ∧ PySem.W.nsIn K a z = some r ∧ RelV v (r.getD .none) ∧ Q v H2
theorem pe_dgetK {X : Cx} {o e : Expr} {apos cpos : Pos} {td ty : TE} (ho : PE X o td) (he : PE X e ty) (m : M1 X o "get" apos e cpos) : PE X (.Call (.Attribute o "get" apos) [e] [] cpos) (tKGet X.K X.w td ty) := by
  refine ⟨fun pins s σ H Q I h => ?_⟩
  refine wpAny_Call_method m.base m.few m.line PySem.F.plainAttrs_dict PySem.F.slot_dict_get PySem.F.type_dict_get (thn (ho.run pins s σ H _ I h) fun u s1 ⟨x, H1, I1, rx, a, es, n, ex, hl, hk, low, q1⟩ => ?_)
  subst ex
  obtain rfl : u = Value.ref a := rx
  have hm := PySem.W.mapOf_K (prog := X.prog) (w := X.w) I1.kIn hl hk
  refine ⟨hm.typeIs, hm.noDict, ?_⟩
  rw [m.trees]
  refine Calls.callWith_builtin rfl (Calls.evalArgs_plain (Calls.spliced_cons (thn (he.run pins s1 σ H1 _ I1 q1) fun iv s2 ⟨y, H2, I2, ry, z, r, v, ey, e, rv, q2⟩ => Calls.spliced_nil ?_)))
  subst ey
  obtain ⟨t, rfl⟩ := (show ∃ t, iv = Value.str z t from ry)
  have hm2 := PySem.W.mapOf_K (prog := X.prog) (w := X.w) I2.kIn hl hk
  refine call_meetsIn PySem.F.slot_dict_get hm2.typeIs PySem.F.entry_dict_get (PySem.F.args_dict_get_2 _ _) (meets_dict_get (strKind X.prog X.w) a (strKind_is X.prog X.w z t) low) ⟨_, hm2, ?_⟩
  rw [PySem.W.find_K hl e]
  exact ⟨v, H2, I2.tok _, rv, q2⟩

/-! ### == and != of an instance whose class has an own __eq__ (and no __ne__) -/
/-- what the right side is -/
inductive Rhs (K : PySem.W.Frag) (H : Hp) : V → Value → Prop where
  | int (i : Int) : Rhs K H (.int i) (.type "int")
  | non : Rhs K H .non (.type "NoneType")
  | lst {a : Addr} {xs : List V} (e : H a = some (.lst xs)) : Rhs K H (.ref a) (.type "list")
  | ins {a C dx : Addr} {fs : List (Str × V)} (e : H a = some (.ins C dx fs)) : Rhs K H (.ref a) (.ref C)
theorem Rhs.looks {X : Cx} {pins : List (Addr × Obj)} {σ : St} {H : Hp} {s : Shared} {y : V} {u t : Value} {M : Model} (I : Inv X pins σ H s) (r : RelV y u) (h : Rhs X.K H y t) : PySem.W.Looks M s.heap (typeOf u) t := by
  cases h with
  | int i =>
    obtain ⟨tk, rfl⟩ := r
    exact PySem.W.Looks.of_pure rfl
  | non =>
    cases r
    exact PySem.W.Looks.of_pure rfl
  | @lst a xs e =>
    cases r
    obtain ⟨_, its, n, _, h1⟩ := (show ObjOk X.prog X.w H s.heap a (.lst xs) from I.hok a _ e)
    exact (PySem.W.Looks.ld h1).andThen .now
  | @ins a C dx fs e =>
    cases r
    obtain ⟨mA, J, _⟩ := ins_get I.hok e
    obtain ⟨od, J, _⟩ := J.look
    exact J.type
/-- the class at C has the own __eq__ that keeps sp -/
structure EqOk (P : Program) (w : World) (K : PySem.W.Frag) (mg : Str → Option Value) (base : Heap) (C : Addr) (k : Nat) (sp : Sp) : Prop where
  ex : ∃ f fd, PySem.W.findIn K (.ref C) "__eq__" = some (some (.ref f)) ∧ PySem.W.isFn K (.ref f) = true ∧ Binds K fd ["self", "other"] [] ∧ FnOk P w K mg base CX0 k f fd ["self", "other"] sp
def rEqO (K : PySem.W.Frag) (C : Addr) (sp : Sp) : R2 := fun x y H Q => ∃ a dx fs t, x = .ref a ∧ H a = some (.ins C dx fs) ∧ Rhs K H y t ∧ PySem.W.notFirst K C t = true ∧ sp [x, y] H (fun v H' => ∃ b, v = .bl b ∧ Q (.bl b) H') E0
section
variable {X : Cx} {C : Addr} {k : Nat} {sp : Sp}
theorem run_eqO (D : EqOk X.prog X.w X.K X.mg X.base C k sp) {A : Around} {pins : List (Addr × Obj)} {σ : St} {H : Hp} {s : Shared} {a dx : Addr} {fs : List (Str × V)} {y : V} {v t : Value} {R : Bool → Shared → Prop} (hr : Room k A) (hf : A.frames = X.A.frames)
    (I : Inv X pins σ H s) (e : H a = some (.ins C dx fs)) (ry : RelV y v) (hR : Rhs X.K H y t) (hn : PySem.W.notFirst X.K C t = true)
    (hs : sp [.ref a, y] H (fun v H' => ∃ b, v = .bl b ∧ ∀ s', Inv X pins σ H' s' → R b s') E0) :
    wpAny (model X.prog X.w) A (richCompare .Eq (.ref a) v) (fun r s' => ∃ b, r = .bool b ∧ R b s') X.xe s := by
  obtain ⟨f, fd, h1, h2, hb, F⟩ := D.ex
  obtain ⟨mA, J, _⟩ := ins_get I.hok e
  obtain ⟨od, J, _⟩ := J.look
  obtain ⟨m, hF⟩ := I.fr
  refine PySem.W.cmp_K (op := .Eq) (tb := t) hr.units0 hF I.ok.mod.kin J (hR.looks I ry) hn h1 h2 ?_
  have e0 : Env0 X.prog X.w X.K X.mg X.base A X.stack s H := by
    have e := I.env0
    exact ⟨by rw [hf]; exact e.frames, e.mod, e.bs, e.bsz, e.funs, e.frf, e.hok, e.bare⟩
  have hl := F.len _ _ _ _ hs
  have r2 : Vals [V.ref a, y] [Value.ref a, v] := .cons rfl (.cons ry .nil)
  refine wpAny_call (codeAny_mono (F.run A X.stack s H ⟨[.ref a, v], []⟩ [.ref a, v] [.ref a, y] _ E0 hr e0 (by
    have := hb s [.ref a, v] I.kIn (by simpa using hl)
    simpa using this) r2 hs) fun r s' hq => ?_)
  cases r with
  | error e => exact False.elim hq
  | ok fl =>
    cases fl with
    | ret w =>
      obtain ⟨z, H', I', rz, b, ez, ex⟩ := I.after hq
      subst ez
      cases rz
      exact ⟨b, rfl, ex s' I'⟩
    | next => exact False.elim hq
    | brk => exact False.elim hq
    | cont => exact False.elim hq
theorem op_eqO (D : EqOk X.prog X.w X.K X.mg X.base C k sp) (hr : Room k X.A) (mono : ∀ vs H Q Q' E, (∀ v H', Q v H' → Q' v H') → sp vs H Q E → sp vs H Q' E) : OpR X (compareOp .Eq) (rEqO X.K C sp) := by
  intro pins s σ H x y v u Q I rx ry h
  obtain ⟨a, dx, fs, t, rfl, e, hR, hn, hs⟩ := h
  cases rx
  show wpAny (model X.prog X.w) X.A (richCompare .Eq (.ref a) u) (EP X pins σ Q) X.xe s
  refine wpAny_mono (run_eqO D (R := fun b s' => ∃ H', Inv X pins σ H' s' ∧ Q (.bl b) H') hr rfl I e ry hR hn (mono _ _ _ _ _ (fun v H' z => ?_) hs)) (fun r s' z => ?_) fun _ _ z => z
  · obtain ⟨b, ev, q⟩ := z
    exact ⟨b, ev, fun s' I' => ⟨H', I', q⟩⟩
  · obtain ⟨b, rfl, H', I', q⟩ := z
    exact ⟨.bl b, H', I', rfl, q⟩
end

/-! ### a method of a class, by its name -/
structure MethDef (K : PySem.W.Frag) (C : Addr) (m qual : Str) (st : Stmt) (ps : List Str) : Prop where
  ex : ∃ f fd, PySem.W.findIn K (.ref C) m = some (some (.ref f)) ∧ PySem.W.isFn K (.ref f) = true ∧ Fun K m qual st f fd ∧ Binds K fd ps []
theorem methDef_mk {K : PySem.W.Frag} {C f : Addr} {x q : Str} {st : Stmt} {ps : List Str} {oc : Value} {od an : Option Addr} {osl : Array (Option Value)} {kV doc pm cdv ct : Value}
    (a : PySem.W.findIn K (.ref C) x = some (some (.ref f))) (i : PySem.W.isFn K (.ref f) = true)
    (l : K.lookup f = some ⟨oc, od, .func (PySem.W.fnOf x q (defArgs st) (defBody st) (defScope st) .none kV doc pm an cdv ct), osl⟩)
    (c : PySem.W.codeIn K cdv q = true) (k : PySem.W.keepIn K (.ref f) = true)
    (hb : ∀ (kV doc pm : Value) (an : Option Addr) (cdv ct : Value) (us : List Value), us.length = ps.length → bindArgs (PySem.W.fnOf x q (defArgs st) (defBody st) (defScope st) .none kV doc pm an cdv ct) ⟨us, []⟩ = pure (ps.zip us)) : MethDef K C x q st ps :=
  have F := fun_mk (st := st) l c k
  ⟨f, _, a, i, F, F.binds hb⟩
/-- a method that keeps its promise -/
structure MethOk (P : Program) (w : World) (K : PySem.W.Frag) (mg : Str → Option Value) (base : Heap) (C : Addr) (m q : Str) (st : Stmt) (ps : List Str) (k : Nat) (sp : Sp) : Prop where
  ex : ∃ f fd, PySem.W.findIn K (.ref C) m = some (some (.ref f)) ∧ PySem.W.isFn K (.ref f) = true ∧ Fun K m q st f fd ∧ Binds K fd ps [] ∧ FnOk P w K mg base CX0 k f fd ps sp
theorem MethDef.ok {P : Program} {w : World} {K : PySem.W.Frag} {mg : Str → Option Value} {base : Heap} {C : Addr} {m q : Str} {st : Stmt} {N ps : List Str} {k : Nat} {sp : Sp} (T : MethDef K C m q st ps) (S : FnScope N ps (defScope st)) (len : ∀ vs H Q E, sp vs H Q E → vs.length = ps.length)
    (hbody : ∀ (f : Addr) (cdv : Value) (A : Around) (outer : List Env) (s : Shared) (H : Hp) (vs : List V) (Q : VK) (E : XK), Room k (A.deeper (envOfC q (defScope st) s.heap.objs.size f cdv)) → sp vs H Q E →
      ∃ t, PSs (cxOf CX0 P w K mg base N q (defScope st) f cdv A outer s H E).nox (defBody st) t ∧ t { nx := fun _ H' => Q .non H', rt := Q } (start N vs) H) : MethOk P w K mg base C m q st ps (k + 1) sp := by
  obtain ⟨f, fd, h1, h2, F, hb⟩ := T.ex
  exact ⟨f, fd, h1, h2, F, hb, F.ok S len (hbody f)⟩
section
variable {X : Cx} {C : Addr} {m q : Str} {st : Stmt} {ps : List Str} {k : Nat} {sp : Sp} {o e : Expr} {es : List Expr} {ta : TE} {t tk : TA} {apos pos p : Pos} {pl : Sem Bool} {x : Str}
theorem pe_methD (D : MethOk X.prog X.w X.K X.mg X.base C m q st ps k sp) (c : Cls X.K C) (hr : Room k X.A) (he : PE X o ta) (ha : PA X (e :: es) t)
    (hst : starEach (e :: es) X.env = (false, eval e X.env) :: starEach es X.env := by rfl) (hpl : (backTo pos (starEach es X.env)).any (·.1) = false := by rfl)
    (ht : eval (.Call (.Attribute o m apos) (e :: es) [] pos) X.env = (do
      let ov ← eval o X.env
      standAt apos.atName
      let (f, first) ← holding [ov] (getMethod ov m pl)
      callWith pos f first (backTo pos (starEach (e :: es) X.env)) (backToKw pos (keywordEach [] X.env))) := by rfl) :
    PE X (.Call (.Attribute o m apos) (e :: es) [] pos) (tMeth C m sp [] E0 ta t) := by
  obtain ⟨f, fd, h1, h2, h3, hb, F⟩ := D.ex
  exact pe_meth he c ⟨h1, h2, h3.kp⟩ F hr hb .nil pass0 ha hst hpl ht
theorem pe_methD0 (D : MethOk X.prog X.w X.K X.mg X.base C m q st ps k sp) (c : Cls X.K C) (hr : Room k X.A) (he : PE X o ta)
    (ht : eval (.Call (.Attribute o m apos) [] [] pos) X.env = (do
      let ov ← eval o X.env
      standAt apos.atName
      let (f, first) ← holding [ov] (getMethod ov m pl)
      callWith pos f first (backTo pos (starEach [] X.env)) (backToKw pos (keywordEach [] X.env))) := by rfl) :
    PE X (.Call (.Attribute o m apos) [] [] pos) (tMeth C m sp [] E0 ta tNil) := by
  obtain ⟨f, fd, h1, h2, h3, hb, F⟩ := D.ex
  exact pe_meth0 he c ⟨h1, h2, h3.kp⟩ F hr hb .nil pass0 ht
/-- C(e, ..) -/
theorem pe_makeD (D : MethOk X.prog X.w X.K X.mg X.base C "__init__" q st ps k sp) (hmk : PySem.W.makesIn X.K C = true ∧ PySem.W.keepIn X.K (.ref C) = true) (hm : X.mg x = some (.ref C)) (hr : Room (k + 1) X.A) (ha : PA X (e :: es) t) (hg : Gl X x := by rfl)
    (hdb : (x == ("__debug__" : Str)) = false := by decide) (he : starEach (e :: es) X.env = (false, eval e X.env) :: starEach es X.env := by rfl) (hpl : (backTo pos (starEach es X.env)).any (·.1) = false := by rfl) :
    PE X (.Call (.Name x p) (e :: es) [] pos) (tMake C sp [] E0 t) := by
  obtain ⟨f, fd, h1, h2, h3, hb, F⟩ := D.ex
  exact pe_make ⟨hmk.1, h1, h2, hmk.2⟩ F hr hg hm hb .nil pass0 ha hdb he hpl
/-- C(k = e, ..): all by keywords in their order -/
theorem Fun.kbn {K : PySem.W.Frag} {x q : Str} {st : Stmt} {f : Addr} {fd : FuncData} {ps ks : List Str} {n : Nat} (F : Fun K x q st f fd)
    (h : ∀ (kV doc pm : Value) (an : Option Addr) (cdv ct : Value) (us ws : List Value), us.length = n → ws.length = ks.length → bindArgs (PySem.W.fnOf x q (defArgs st) (defBody st) (defScope st) .none kV doc pm an cdv ct) ⟨us, ks.zip ws⟩ = pure (ps.zip (us ++ ws))) :
    KBn K fd ps n ks (fun us ws => us ++ ws) (fun vs zs => vs ++ zs) := by
  obtain ⟨oc, od, kV, doc, pm, an, cdv, ct, osl, rfl, lk, hcd⟩ := F.ex
  exact ⟨fun s us ws _ l1 l2 => .of_eq (h kV doc pm an cdv ct us ws l1 l2), fun a b => a.append b⟩
theorem pe_makeD_kw {kws : List Keyword} {ks : List Str} (D : MethOk X.prog X.w X.K X.mg X.base C "__init__" q st ps k sp) (hmk : PySem.W.makesIn X.K C = true ∧ PySem.W.keepIn X.K (.ref C) = true) (hm : X.mg x = some (.ref C)) (hr : Room (k + 1) X.A)
    (h : ∀ (kV doc pm : Value) (an : Option Addr) (cdv ct : Value) (us ws : List Value), us.length = 1 → ws.length = ks.length → bindArgs (PySem.W.fnOf "__init__" q (defArgs st) (defBody st) (defScope st) .none kV doc pm an cdv ct) ⟨us, ks.zip ws⟩ = pure (ps.zip (us ++ ws)))
    (hkw : PK X kws tk) (hg : Gl X x := by rfl)
    (hall : (backToKw pos (keywordEach kws X.env)).all (·.1.isSome) = true := by rfl) (hks : (backToKw pos (keywordEach kws X.env)).filterMap (·.1) = ks := by rfl) (hdb : (x == ("__debug__" : Str)) = false := by decide)
    (hpl : ((backTo pos (starEach [] X.env)).any (·.1) || (backToKw pos (keywordEach kws X.env)).any (·.1.isNone)) = false := by rfl) :
    PE X (.Call (.Name x p) [] kws pos) (tMakeK C 0 ks.length sp (fun vs zs => vs ++ zs) E0 tNil tk) := by
  obtain ⟨f, fd, h1, h2, h3, hb, F⟩ := D.ex
  exact pe_makeK0 ⟨hmk.1, h1, h2, hmk.2⟩ F hr hg hm (h3.kbn h) pass0 hkw hall hks hdb hpl
end
/-- what isinstance and == ask of a class of the text -/
structure ClsIsi (K : PySem.W.Frag) (C : Addr) : Prop where
  ha : PySem.W.findIn K (.ref C) "__class__" = some (some (.builtin "object.__class__"))
  hn : PySem.W.specialIn K (.builtin "object.__class__") "__get__" = some (some (.builtin "getset_descriptor.__get__"))
  htk : PySem.W.takesIn K (.builtin "object.__class__") = some true
  hm : PySem.W.mroIn K C (.type "object") = some true
  self_ : PySem.W.kitOne K (.ref C) (.ref C) = some true
  int_ : PySem.W.kitOne K (.type "int") (.ref C) = some false
  non_ : PySem.W.kitOne K (.type "NoneType") (.ref C) = some false
  lst_ : PySem.W.kitOne K (.type "list") (.ref C) = some false
  nSelf : PySem.W.notFirst K C (.ref C) = true
  nInt : PySem.W.notFirst K C (.type "int") = true
  nNon : PySem.W.notFirst K C (.type "NoneType") = true
  nLst : PySem.W.notFirst K C (.type "list") = true
/-! ### the same rules with the written part named (within a comprehension) -/
section
variable {X : Cx} {K : PySem.W.Frag}
theorem ix_tupK (h : X.K = K := by rfl) : IxR X (rIxT K) := by
  subst h
  exact ix_tup
theorem ix_listK (h : X.K = K := by rfl) : IxR X (rIxL K) := by
  subst h
  exact ix_list
theorem call_lenK (h : X.K = K := by rfl) : CallR X (.builtin "len") (fun xs H Q => ∃ x n, xs = [x] ∧ LenV K x H n ∧ Q (.int n) H) := by
  subst h
  exact call_len
theorem call_isiK' (h : X.K = K := by rfl) : CallR X (.builtin "isinstance") (rIsi K) := by
  subst h
  exact call_isi
theorem call_list_ofK (h : X.K = K := by rfl) : CallR X (.type "list") (fun xs H Q => ∃ p ys, xs = [.ref p] ∧ (SqL K H p ys ∨ SqT K H p ys) ∧ ∀ l, H l = none → Q (.ref l) (upd H l (.lst ys))) := by
  subst h
  exact call_list_of
end
end L2

/-! The law's own def where it asks repr: its promise for the claim's caller alone (nothing is being shown around it), and its end. -/
namespace L2
open PySem PySem.Spec PyProof.Rows
/-- a promise that holds where nothing is being shown around the call -/
structure FnOkG (P : Program) (w : World) (K : PySem.W.Frag) (mg : Str → Option Value) (base : Heap) (k : Nat) (f : Addr) (fd : FuncData) (ps : List Str) (sp : Sp) : Prop where
  len : ∀ vs H Q E, sp vs H Q E → vs.length = ps.length
  go : ∀ (A : Around) (outer : List Env) (st : Shared) (H : Hp) (args : Args) (us : List Value) (vs : List V) (Q : VK) (E : XK), A.guards = some [] → Room k A → Env0 P w K mg base A outer st H → BindsTo st fd args (ps.zip us) →
    Vals vs us → sp vs H Q E → codeAny (model P w) A (.call (.ref f) args) (CR CX0 outer P w H st Q E) st
theorem some_neq {α : Type} {x : Option α} {o : α} (h : x = some o) : x ≠ none := by
  rw [h]
  exact fun z => nomatch z
section
variable {P : Program} {w : World} {K : PySem.W.Frag} {mg : Str → Option Value} {base : Heap}
theorem Fun.okG {x qual : Str} {d : Stmt} {f : Addr} {fd : FuncData} {N ps : List Str} {k : Nat} {sp : Sp} (F : Fun K x qual d f fd) (S : FnScope N ps (defScope d)) (len : ∀ vs H Q E, sp vs H Q E → vs.length = ps.length)
    (body : ∀ (cdv : Value) (A : Around) (outer : List Env) (st : Shared) (H : Hp) (vs : List V) (Q : VK) (E : XK), (A.deeper (envOfC qual (defScope d) st.heap.objs.size f cdv)).guards = some [] →
      Room k (A.deeper (envOfC qual (defScope d) st.heap.objs.size f cdv)) → sp vs H Q E →
      ∃ t, PSs (cxOf CX0 P w K mg base N qual (defScope d) f cdv A outer st H E).nox (defBody d) t ∧ t { nx := fun _ H' => Q .non H', rt := Q } (start N vs) H) : FnOkG P w K mg base (k + 1) f fd ps sp := by
  obtain ⟨oc, od, kV, doc, pm, an, cdv, ct, osl, rfl, at_f, cod⟩ := F.ex
  refine ⟨len, fun A outer st H args us vs Q E hgd room e0 hbd rel ask => ?_⟩
  have n_args := len _ _ _ _ ask
  have inK : K.In st.heap := e0.mod.kin.keeps fun b o q => (e0.bs b o q).1
  have noLim : st.heap.NoLimit := e0.mod.nolimit.keeps fun b o q => (e0.bs b o q).1
  have kinds : ∀ y ∈ ps.zip us, (defScope d).names.lookup y.1 = some .local ∨ ((defScope d).names.lookup y.1 = some .cell ∧ ((cellsFrom (st.heap.objs.size + 1) (defScope d).names []).lookup y.1).isSome = true) :=
    fun ⟨nm, u⟩ hy => (S.par nm (List.of_mem_zip hy).1).elim (fun q => .inl q) fun q => .inr ⟨q, PySem.W.cellsFrom_some _ _ _ (.inl q)⟩
  refine codeAny_call_function room.depth (inK _ _ at_f) rfl S.co S.gen rfl (PySem.W.codeRec_of inK cod) (hbd _ _ _ _ (wpAny_newFunctionEnv_cells S.kind kinds fun env he s1 x => ?_))
  subst he
  refine ⟨noLim.keeps x.toInCall.keep, codeAny_func ?_⟩
  obtain ⟨t, ht, hq⟩ := body cdv A outer st H vs Q E hgd (room.deeper _) ask
  refine wpAny_mono (ht.nox.run [] s1 (start N vs) H _ (inv_start S room.hd e0 n_args rel x) hq) (fun fl s' z => ?_) fun e s' z => z
  cases fl with
  | ret u =>
    obtain ⟨v, σ', H', J, rv, q⟩ := z
    exact ⟨v, H', J.os, J.bare, J.base, J.hok, rv, q⟩
  | next =>
    obtain ⟨σ', H', J, q⟩ := z
    exact ⟨V.non, H', J.os, J.bare, J.base, J.hok, rfl, q⟩
  | brk => exact z.elim fun _ z => z.elim fun _ z => z.2.elim
  | cont => exact z.elim fun _ z => z.elim fun _ z => z.2.elim
/-- the end: the law's call from the claim's caller -/
theorem law_callG {mb : Str → Option Value} {k : Nat} {fa a : Addr} {fd : FuncData} {x : Str} {sp : Sp} {st : Shared} {vs : List Value} {ns : List Int}
    (inK : K.In st.heap) (gl : st.heap.Ns mainGlobals mg) (bl : st.heap.Ns builtinsNs mb) (bb : ∀ x : Str, x ≠ "__name__" → mb x = bootBuiltins x) (lim : st.heap.NoLimit) (gens : st.gens = #[])
    (obj : st.heap.get? a = some { cls := .type "list", data := .seq vs.toArray }) (areInts : IntsAre vs ns) (short : ns.length ≤ sizeLine) (room : Room k callerA)
    (F : ∀ base : Heap, K.In base → base.Ns mainGlobals mg → FnOkG P w K mg base k fa fd [x] sp) (binds : ∀ (s : Shared) (u : Value), BindsTo s fd ⟨[u], []⟩ [(x, u)])
    (ask : ∀ H : Hp, SqL K H a (ns.map V.int) → sp [.ref a] H (fun v _ => v = .bl true) fun _ _ _ => False) :
    codeAny (model P w) callerA (.call (.ref fa) ⟨[.ref a], []⟩) (fun r s' => r = .ok (.ret (.bool true)) ∧ OldK st.heap s'.heap ∧ s'.os = st.os ∧ AllBare s'.gens) st := by
  have rel := vals_ints areInts
  have n_vs := areInts.length
  -- H: nothing is told of, or the script alone, as a thing that stays
  have core : ∀ H : Hp, (∀ b, H b = none ∨ ∃ ob xs, H b = some (.frz ob (.lst xs))) → SqL K H a (ns.map V.int) → HOk P w H st.heap → (∀ b, H b ≠ none → b = a) → (H a ≠ none → K.lookup a = none) →
      codeAny (model P w) callerA (.call (.ref fa) ⟨[.ref a], []⟩) (fun r s' => r = .ok (.ret (.bool true)) ∧ OldK st.heap s'.heap ∧ s'.os = st.os ∧ AllBare s'.gens) st := by
    intro H hO hS hok only_a notK
    have stands : ∀ {b : Addr} {o : Obj}, st.heap.get? b = some o → H b = none → (hidT st.heap H).get? b = some o := fun e n => hidT_get e n
    have free_of : ∀ {b : Addr}, b ≠ a → H b = none := fun {b} hb => by
      cases q : H b with
      | none => rfl
      | some u => exact absurd (only_a b (some_neq q)) hb
    have keepNs : ∀ {b : Addr} {m : Str → Option Value}, st.heap.Ns b m → (hidT st.heap H).Ns b m := fun {b m} ⟨o, es, ep, e, hdat, more⟩ => ⟨o, es, ep, stands e (free_of fun eq => by
      rw [eq, obj] at e
      cases e
      cases hdat), hdat, more⟩
    have inB : K.In (hidT st.heap H) := fun b o e => stands (inK b o e) (by
      cases q : H b with
      | none => rfl
      | some u =>
        have eq := only_a b (some_neq q)
        subst eq
        rw [notK (some_neq q)] at e
        cases e)
    have md : Mod K mg (hidT st.heap H) := ⟨inB, keepNs gl, ⟨mb, keepNs bl, bb⟩, lim.elim fun mc h => ⟨mc, keepNs h.1, h.2⟩⟩
    have e0 : Env0 P w K mg (hidT st.heap H) callerA [] st H := ⟨rfl, md, fun b o e => of_hidT e, Nat.le_of_eq (hidT_size _ _), trivial, fun b hb => (List.not_mem_nil (a := b) hb).elim, hok, .of_eq gens⟩
    refine codeAny_mono ((F _ inB (keepNs gl)).go callerA [] st H ⟨[.ref a], []⟩ [.ref a] [.ref a] _ _ rfl room e0 (binds st (.ref a)) (.cons rfl .nil) (ask H hS)) fun r s' z => ?_
    cases r with
    | error e => exact False.elim z
    | ok fl =>
      cases fl with
      | next => exact False.elim z
      | brk => exact False.elim z
      | cont => exact False.elim z
      | ret u =>
        obtain ⟨v, H', eos, br, un, ok2, rv, (ev : v = .bl true)⟩ := z
        subst ev
        cases rv
        refine ⟨rfl, OldK.of_keep fun b o e => ?_, eos, br⟩
        rcases hO b with q | ⟨ob, xs, q⟩
        · exact un.keep b o e q (fun z => (List.not_mem_nil (a := b) z).elim) (by simp)
        · have h1 := (hok b _ q).1
          have h2 := (ok2 b _ (un.frzs b ob _ q)).1
          rw [e] at h1
          cases h1
          exact h2
  cases at_a : K.lookup a with
  | some o =>
    have e := inK a o at_a
    rw [obj] at e
    cases e
    exact core (fun _ => none) (fun _ => .inl rfl) (.inr ⟨_, vs.toArray, _, at_a, rfl, rfl, rfl, by rw [List.size_toArray, n_vs]; exact short, by simpa using rel⟩) (fun b u z => nomatch z) (fun b z => absurd rfl z) fun z => absurd rfl z
  | none =>
    have yes : ∀ {b : Addr} {u : HO}, (if b = a then some (HO.frz { cls := .type "list", data := .seq vs.toArray } (.lst (ns.map V.int))) else none) = some u → b = a ∧ u = .frz { cls := .type "list", data := .seq vs.toArray } (.lst (ns.map V.int)) := fun {b u} z => by
      by_cases hb : b = a
      · rw [if_pos hb] at z
        exact ⟨hb, (Option.some.inj z).symm⟩
      · rw [if_neg hb] at z
        cases z
    refine core (fun b => if b = a then some (.frz { cls := .type "list", data := .seq vs.toArray } (.lst (ns.map V.int))) else none) (fun b => ?_) (.inl (.inr ⟨{ cls := .type "list", data := .seq vs.toArray }, if_pos rfl⟩)) (fun b u z => ?_) (fun b z => ?_) fun _ => at_a
    · by_cases hb : b = a
      · exact .inr ⟨_, _, if_pos hb⟩
      · exact .inl (if_neg hb)
    · obtain ⟨rfl, rfl⟩ := yes z
      exact ⟨obj, by rw [List.length_map]; exact short, vs, _, rel, obj⟩
    · by_cases hb : b = a
      · exact hb
      · exact absurd (if_neg hb) z
theorem walk_G {l : PySem.W.OpenLaw} {n k : Nat} {q : Program} {loose : List Str} {XP : (Str → Option Value) → Heap → Prop} {YP : World → Heap → Prop} {d : DefRec} {KK : Params → PySem.W.Frag} {sp : World → Sp} {x : Str}
    (hn : l.most = some n) (hn2 : n ≤ sizeLine) (hdf : d.params.defaults = []) (room : Room k callerA) (hY : ∀ (w : World) (h : Heap), YP w h → (KK w.params).In h)
    (F : ∀ (w : World) (mg : Str → Option Value) (fa : Addr) (h : Heap), (KK w.params).In h → h.Ns mainGlobals mg → mg d.name = some (.ref fa) →
      ∃ fd : FuncData, (∀ (s : Shared) (u : Value), BindsTo s fd ⟨[u], []⟩ [(x, u)]) ∧ ∀ base : Heap, (KK w.params).In base → base.Ns mainGlobals mg → FnOkG l.prog w (KK w.params) mg base k fa fd [x] (sp w))
    (ask : ∀ (w : World) (H : Hp) (a : Addr) (ns : List Int), ns.length ≤ n → SqL (KK w.params) H a (ns.map V.int) → sp w [.ref a] H (fun v _ => v = .bl true) fun _ _ _ => False) :
    PySem.W.WalkO q loose XP YP l.row.toRowW d [] (fun f vs => PySem.call f vs) :=
  Att.attach_call hn hdf fun w s₀ s₁ mg mb fa o pm cd doc a vs ns G Y ho hd hcd hmg hobj hints hlen hgens => by
    obtain ⟨fd, hb, hF⟩ := F w mg fa _ (hY w _ Y) G.T.g hmg
    exact law_callG (hY w _ Y) G.T.g G.T.b G.T.builtins G.T.nolimit hgens hobj hints (Nat.le_trans hlen hn2) room hF hb fun H hS => ask w H a ns hlen hS
end
end L2

/-! != by an own __eq__ without __ne__; a list of one such instance == a list of one other value. -/
namespace L2
open PySem PySem.Spec PyProof.Rows
/-- the class at C has an own __eq__ at f, and no __ne__; it stands on object alone -/
structure ClsNe (K : PySem.W.Frag) (C : Addr) : Prop where
  ex : ∃ (f : Addr) (nm q : Str) (N : Addr) (bs : List Value) (sn : List Str) (sub : List Value) (ab : Bool) (col : Option Bool) (dd : Option Addr) (k0 k1 k2 k3 k5 : Option Value) (oc : Value) (od : Option Addr) (es : Array DictEntry) (n : Nat) (sl : Array (Option Value)),
    K.lookup C = some (excClassObj nm q C N bs [.type "object"] true sn sub ab col dd k0 k1 k2 k3 k5 "object.__new__") ∧ K.lookup N = some ⟨oc, od, .dict es n, sl⟩ ∧ StrKeys es ∧ PySem.W.nsIn K N "__eq__" = some (some (.ref f)) ∧ PySem.W.nsIn K N "__ne__" = some none ∧
    PySem.W.findIn K (.ref C) "__eq__" = some (some (.ref f))
theorem find_of_nsIn {K : PySem.W.Frag} {N : Addr} {oc : Value} {od : Option Addr} {es : Array DictEntry} {n : Nat} {sl : Array (Option Value)} {x : Str} {r : Option Value} (h : K.lookup N = some ⟨oc, od, .dict es n, sl⟩) (e : PySem.W.nsIn K N x = some r) : nsFind es x = r := by
  unfold PySem.W.nsIn at e
  rw [h] at e
  dsimp only at e
  unfold nsFind findBy
  rw [← Array.find?_toList]
  have alt : ∀ en : DictEntry, Value.isStr en.key x = en.key.isStr x := fun _ => rfl
  cases q : es.toList.find? (·.key.isStr x) with
  | some en =>
    rw [q] at e
    simp only [Option.some.injEq] at e
    rw [← e]
    rfl
  | none =>
    rw [q] at e
    dsimp only at e
    split at e
    · cases e
    · cases e
      rfl
theorem strKeys_of {P : Params} {es : Array DictEntry} (h : PySem.W.KeysLit P es.toList) : StrKeys es := fun e he => by
  obtain ⟨x, t, e1, _⟩ := h.all e (Array.mem_toList_iff.mpr he)
  exact ⟨x, t, e1⟩
theorem kit_self {K : PySem.W.Frag} {C : Addr} : PySem.W.kitOne K (.ref C) (.ref C) = some true := if_pos (beq_self_eq_true _)
theorem kit_not {K : PySem.W.Frag} {C : Addr} {t : Value} {b : Bool} (hne : (match t with | .ref _ => false | _ => true) = true) (h1 : PySem.W.isClsIn K C = true) (h2 : PySem.W.typeIn K (.ref C) = some (.type "type")) (h3 : PySem.W.subIn K t (.ref C) = some b) : PySem.W.kitOne K t (.ref C) = some b := by
  have e : (t == Value.ref C) = false := by
    cases q : t == Value.ref C with
    | false => rfl
    | true =>
      have := eq_of_beq q
      subst this
      cases hne
  have h1' : (PySem.W.clsIn K C).isSome = true := h1
  show (if (t == Value.ref C) = true then some true else if ((PySem.W.clsIn K C).isSome && PySem.W.typeIn K (.ref C) == some (.type "type")) = true then PySem.W.subIn K t (.ref C) else none) = some b
  rw [e, if_neg Bool.false_ne_true, if_pos (by rw [h1', h2]; rfl)]
  exact h3
theorem isFn_obj {K : PySem.W.Frag} {f : Addr} (h : PySem.W.isFn K (.ref f) = true) : ∃ o, K.lookup f = some o ∧ o.cls = .type "function" := by
  unfold PySem.W.isFn at h
  exact Option.map_eq_some_iff.mp (beq_iff_eq.mp h)
def rNeO (C : Addr) (sp : Sp) : R2 := fun x y H Q => ∃ a b dx fs dy gs, x = .ref a ∧ y = .ref b ∧ H a = some (.ins C dx fs) ∧ H b = some (.ins C dy gs) ∧ sp [x, y] H (fun v H' => ∃ k, v = .bl k ∧ Q (.bl (!k)) H') E0
section
variable {X : Cx} {C : Addr} {k : Nat} {sp : Sp}
theorem op_neO (D : EqOk X.prog X.w X.K X.mg X.base C k sp) (N : ClsNe X.K C) (hr : Room (k + 1) X.A) (mono : ∀ vs H Q Q' E, (∀ v H', Q v H' → Q' v H') → sp vs H Q E → sp vs H Q' E) : OpR X (compareOp .NotEq) (rNeO C sp) := by
  intro pins s σ H x y v u Q I rx ry h
  obtain ⟨a, b, dx, fs, dy, gs, rfl, rfl, ea, eb, hs⟩ := h
  cases rx
  cases ry
  obtain ⟨f, fd, h1, h2, hb, F⟩ := D.ex
  obtain ⟨f', nm, q, NN, bs, sn, sub, ab, col, dd, k0, k1, k2, k3, k5, oc, od, es, n, sl, l1, l2, sk, e1, e2, e3⟩ := N.ex
  obtain rfl : f = f' := by
    have z := h1.symm.trans e3
    cases z
    rfl
  obtain ⟨mA, J, _⟩ := ins_get I.hok ea
  obtain ⟨oA, J, _⟩ := J.look
  obtain ⟨mB, J2, _⟩ := ins_get I.hok eb
  obtain ⟨oB, J2, _⟩ := J2.look
  obtain ⟨of, lf, cf⟩ := isFn_obj h2
  have base : s.heap.OwnEqNoNe a C f "object" [.type "object"] :=
    ⟨_, of, nm, q, NN, bs, true, sn, sub, ab, col, dd, k0, k1, k2, k3, k5, "object.__new__", nsFind es, _, J.at_, J.cls, I.kIn _ _ l1, ⟨_, es, n, I.kIn _ _ l2, rfl, sk, fun _ => rfl⟩, find_of_nsIn l2 e1, I.kIn _ _ lf, cf, PySem.F.mro_object, PySem.F.cmp_object.eq.lookup, find_of_nsIn l2 e2⟩
  have e0 : Env0 X.prog X.w X.K X.mg X.base X.A.in1 X.stack s H := I.env0.in1
  have hl := F.len _ _ _ _ hs
  have r2 : Vals [V.ref a, V.ref b] [Value.ref a, Value.ref b] := .cons rfl (.cons rfl .nil)
  have run := F.run X.A.in1 X.stack s H ⟨[.ref a, .ref b], []⟩ [.ref a, .ref b] [.ref a, .ref b] _ E0 hr.in1 e0 (by
    have := hb s [.ref a, .ref b] I.kIn (by simpa using hl)
    simpa using this) r2 hs
  obtain ⟨hp, g, d, t, os⟩ := s
  refine compareOp_ne_ownEq PySem.F.cmp_object base J2.at_ J2.cls (by have := hr.un; omega) (wpAny_call (codeAny_mono run fun r s' hq => ?_))
  cases r with
  | error e => exact False.elim hq
  | ok fl =>
    cases fl with
    | ret w =>
      obtain ⟨z, H', I', rz, b', ez, ex⟩ := I.after hq
      subst ez
      cases rz
      exact ⟨b', rfl, .bl (!b'), H', I', rfl, ex⟩
    | next => exact False.elim hq
    | brk => exact False.elim hq
    | cont => exact False.elim hq
end
end L2
namespace GQ1
open PySem PySem.SeqAt GQ
open AutoSeq1 (wpAny_loadPart')
open MeetsSeq MeetsSeq2 MeetsSeq3 SeqRoads2
section
variable {prog : Program} {w : World} {A : Around} {E : Value → Shared → Prop}
/-- two lists of one item each, whose items are not equal -/
theorem one_ne {l b : Addr} {x y : Value} {xs ys : Array Value} {n m : Nat} {st : Shared} {Q : Value → Shared → Prop} (hu : A.units < cLine) (hl : st.heap.get? l = some { cls := .type "list", data := .seq xs n }) (hb : st.heap.get? b = some { cls := .type "list", data := .seq ys m })
    (sx : xs.size = 1) (sy : ys.size = 1) (ex : xs[((0 : Int)).toNat]? = some x) (ey : ys[((0 : Int)).toNat]? = some y)
    (item : wpAny (model prog w) A.in1 (eqBool x y) (fun r s' => r = false ∧ (∃ zs us n' m', s'.heap.get? l = some { cls := .type "list", data := .seq zs n' } ∧ s'.heap.get? b = some { cls := .type "list", data := .seq us m' } ∧ zs[((0 : Int)).toNat]?.isSome = true ∧ us[((0 : Int)).toNat]?.isSome = true) ∧ Q (.bool false) s') E st) :
    wpAny (model prog w) A (richCompare .Eq (.ref l) (.ref b)) Q E st := by
  refine wpAny_richCompare_same_room (op := .Eq) ⟨_, hl, rfl⟩ ⟨_, hb, rfl⟩ F.slot_list_eq (call_here F.slot_list_eq ⟨_, hl, rfl⟩ F.entry_list_eq (F.args_list_eq_2 _ _) ?_) hu
  have sub := AutoSeq1.sub_list_list
  have turn : wpAny (model prog w) A.in1 (Builtin.«list.__eq__.loop» ⟨[.ref l, .ref b, rawInt 0, rawInt 2], []⟩) (FinOf prog w A (wants (fun v s' => v ≠ .notImplemented ∧ Q v s') E)) (fun e s' => wants (fun v s' => v ≠ .notImplemented ∧ Q v s') E (.error e) s') st := by
    obtain ⟨hp, g, d, tk, os⟩ := st
    wp_walk using wpAny_loadPart' hl, wpAny_loadPart' hb
    rw [ex, ey]
    refine wpAny_bind (wpAny_mono item (fun r s2 q => ?_) fun _ _ z => z)
    obtain ⟨hr, ⟨zs, us, n', m', hl2, hb2, i1, i2⟩, q⟩ := q
    subst hr
    obtain ⟨z, e1⟩ := Option.isSome_iff_exists.mp i1
    obtain ⟨u, e2⟩ := Option.isSome_iff_exists.mp i2
    obtain ⟨hp2, g2, d2, tk2, os2⟩ := s2
    wp_walk using wpAny_loadPart' hl2, wpAny_loadPart' hb2
    rw [e1, e2]
    wp_walk
    exact ⟨(fun z => nomatch z), q⟩
  have same : ¬ (xs.size != ys.size) = true := by simp [sx, sy]
  obtain ⟨hp, g, d, tk, os⟩ := st
  wp_walk using wpAny_loadPart' hl, wpAny_loadPart' hb
  exact ⟨plainId_quiet plain_eq_loop _, codeAny_builtin entry_eq_loop (by
    rw [Around.under_plainId plain_eq_loop _]
    exact turn)⟩
theorem eq_other {a : Addr} {y : Value} {st : Shared} {Q : Bool → Shared → Prop} (hy : y = .none) (h : wpAny (model prog w) A (richCompare .Eq (.ref a) y) (fun v s' => ∃ r, v = .bool r ∧ Q r s') E st) : wpAny (model prog w) A (eqBool (.ref a) y) Q E st := by
  subst hy
  unfold eqBool
  refine wpAny_holding ?_
  refine wpAny_ite_split (fun z => absurd (eq_of_beq z) (fun z => nomatch z)) fun _ => ?_
  refine wpAny_bind (wpAny_mono h (fun v s' hv => ?_) fun _ _ z => z)
  obtain ⟨r, rfl, q⟩ := hv
  exact wpAny_truthy_bool q
end
end GQ1
namespace L2
open PySem PySem.Spec PyProof.Rows
section
variable {X : Cx} {C : Addr} {k : Nat} {sp : Sp}
/-- [a] == [None], a an instance that is not equal to None -/
def rEq1 (K : PySem.W.Frag) (C : Addr) (sp : Sp) : R2 := fun x y H Q => ∃ l b a dx fs, x = .ref l ∧ y = .ref b ∧ H l = some (.lst [.ref a]) ∧ H b = some (.lst [.non]) ∧ H a = some (.ins C dx fs) ∧ PySem.W.notFirst K C (.type "NoneType") = true ∧ sp [.ref a, .non] H (fun v H' => v = .bl false ∧ H' = H) E0 ∧ Q (.bl false) H
theorem op_eq1 (D : EqOk X.prog X.w X.K X.mg X.base C k sp) (hr : Room (k + 1) X.A) (mono : ∀ vs H Q Q' E, (∀ v H', Q v H' → Q' v H') → sp vs H Q E → sp vs H Q' E) : OpR X (compareOp .Eq) (rEq1 X.K C sp) := by
  intro pins s σ H x y v u Q I rx ry h
  obtain ⟨l, b, a, dx, fs, rfl, rfl, hl, hb, ha, hn, hs, q⟩ := h
  cases rx
  cases ry
  obtain ⟨_, its, n, r1, h1⟩ := (show ObjOk X.prog X.w H s.heap l (.lst [.ref a]) from I.hok l _ hl)
  obtain ⟨_, its2, m, r2, h2⟩ := (show ObjOk X.prog X.w H s.heap b (.lst [.non]) from I.hok b _ hb)
  cases r1 with | cons q1 t1 =>
  cases t1
  cases q1
  cases r2 with | cons q2 t2 =>
  cases t2
  cases q2
  show wpAny (model X.prog X.w) X.A (richCompare .Eq (.ref l) (.ref b)) (EP X pins σ Q) X.xe s
  refine GQ1.one_ne (x := .ref a) (y := .none) hr.units0 h1 h2 rfl rfl rfl rfl (GQ1.eq_other rfl (wpAny_mono (run_eqO D (R := fun c s' => c = false ∧ Inv X pins σ H s' ∧ True) (hr.in1) rfl I ha (show RelV .non Value.none from rfl) .non hn (mono _ _ _ _ _ (fun v H' z => ?_) hs)) (fun r s' z => ?_) fun _ _ z => z))
  · obtain ⟨rfl, rfl⟩ := z
    exact ⟨false, rfl, fun s' I' => ⟨rfl, I', True.intro⟩⟩
  · obtain ⟨c, rfl, rfl, I', _⟩ := z
    obtain ⟨_, jts, n', r1, g1⟩ := (show ObjOk X.prog X.w H s'.heap l (.lst [.ref a]) from I'.hok l _ hl)
    obtain ⟨_, jts2, m', r2, g2⟩ := (show ObjOk X.prog X.w H s'.heap b (.lst [.non]) from I'.hok b _ hb)
    cases r1 with | cons q1 t1 =>
    cases t1
    cases q1
    cases r2 with | cons q2 t2 =>
    cases t2
    cases q2
    exact ⟨false, rfl, rfl, ⟨_, _, n', m', g1, g2, rfl, rfl⟩, .bl false, H, I', rfl, q⟩
end
end L2

/-! for k in w, w a dict of the module whose keys are texts. -/
namespace L2
open PySem PySem.Spec PyProof.Rows
/-- the keys of such a dict -/
def keysL : List DictEntry → Option (List Str)
  | [] => some []
  | e :: r => match e.key, keysL r with
    | .str z _, some zs => some (z :: zs)
    | _, _ => none
theorem keysL_cons {e : DictEntry} {r : List DictEntry} {ks : List Str} (h : keysL (e :: r) = some ks) : ∃ z t zs, e.key = .str z t ∧ keysL r = some zs ∧ ks = z :: zs := by
  unfold keysL at h
  split at h
  · rename_i z t zs e1 e2
    cases h
    exact ⟨z, t, zs, e1, e2, rfl⟩
  · cases h
theorem keysL_len : ∀ {es : List DictEntry} {ks : List Str}, keysL es = some ks → ks.length = es.length
  | [], ks, h => by
    cases h
    rfl
  | e :: r, ks, h => by
    obtain ⟨z, t, zs, _, h2, rfl⟩ := keysL_cons h
    rw [List.length_cons, List.length_cons, keysL_len h2]
theorem keysL_get : ∀ {es : List DictEntry} {ks : List Str} {i : Nat}, keysL es = some ks → i < ks.length → ∃ e z t, es[i]? = some e ∧ e.key = .str z t ∧ ks[i]? = some z
  | [], ks, i, h, hi => by
    cases h
    exact absurd hi (Nat.not_lt_zero _)
  | e :: r, ks, i, h, hi => by
    obtain ⟨z, t, zs, h1, h2, rfl⟩ := keysL_cons h
    cases i with
    | zero => exact ⟨e, z, t, rfl, h1, rfl⟩
    | succ i =>
      obtain ⟨e', z', t', a, b, c⟩ := keysL_get h2 (i := i) (by simpa using hi)
      exact ⟨e', z', t', by simpa using a, b, by simpa using c⟩
/-- turns over the texts ks -/
def Iwk (ks : List Str) : It := ⟨fun i _ => i < ks.length, fun i H x H' => H' = H ∧ ∃ z, ks[i]? = some z ∧ x = .str z, fun i _ => ks.length ≤ i⟩
theorem walk_wk {ks : List Str} : Walk (Iwk ks) ks.length (fun _ => True) (fun i H x H' => H' = H ∧ ∃ z, ks[i]? = some z ∧ x = .str z) :=
  ⟨fun _ _ h _ => h, fun _ _ => Nat.le_refl _, fun _ _ _ _ _ _ y => y⟩
section
variable {P : Program} {w : World} {K : PySem.W.Frag} {tg : Expr}
theorem turn_wk {a : Addr} {es : Array DictEntry} {n : Nat} {ks : List Str} (it : Addr) (hl : K.lookup a = some ⟨.type "dict", none, .dict es n, #[]⟩) (hk : keysL es.toList = some ks) :
    Turn P w K tg (Iwk ks) [it] it (fun i h => h.IsKeyIter it a i ks.length n) where
  mem := List.mem_singleton.mpr rfl
  obj := fun i h st b hb => by
    obtain rfl : b = it := List.mem_singleton.mp hb
    obtain ⟨o, e1, _, e3⟩ := st
    exact ⟨o, e1, fun v z => by rw [e3] at z; cases z⟩
  keep := fun i h h' st k => st.at fun o e => k it (List.mem_singleton.mpr rfl) o e
  item := by
    intro X eP ew eK hc i pins s σ H E I hf st hg
    subst eP ew eK
    obtain ⟨f0, f1, f2, f3, f4, f5⟩ := hf it (List.mem_singleton.mpr rfl)
    obtain ⟨en, z, tk, e1, e2, e3⟩ := keysL_get hk hg
    have hsz : es.size = ks.length := by rw [keysL_len hk, Array.length_toList]
    refine next_key_item st (I.kIn _ _ hl) rfl hsz (by rw [← Array.getElem?_toList]; exact e1) fun h' st' sb => ?_
    have J : Inv X pins σ H { s with heap := h' } := I.turned (t' := s.toks) (fun b o hb q => (sb.2 b hb).trans q) f0 f1 f3 f4 f5
    obtain ⟨o, q1, q2, q3⟩ := id st'
    refine ⟨en.key, rfl, go_of (s := { s with heap := h' }) q1 q2 q3 (by decide) ⟨.str z, H, J, ?_, ⟨rfl, z, e3, rfl⟩, st', fun b hb => (hf b hb).1⟩⟩
    rw [e2]
    exact ⟨tk, rfl⟩
  done := by
    intro X eP ew eK hc i pins s σ H E I hf st hg
    subst eP ew eK
    obtain ⟨f0, f1, f2, f3, f4, f5⟩ := hf it (List.mem_singleton.mpr rfl)
    have hsz : es.size = ks.length := by rw [keysL_len hk, Array.length_toList]
    exact next_key_end (I.ok.hd hc) st (I.kIn _ _ hl) rfl hsz hg fun h' eb => ⟨rfl, I.turned (t' := s.toks) (fun b o hb q => eb b o hb q) f0 f1 f3 f4 f5⟩
  self := fun B j s Q E turned more => by
    have hT := turned.typeIs
    exact wpAny_pyIter_slot hT F.slot_dict_keyiterator_iter (wpAny_call_entry F.slot_dict_keyiterator_iter hT F.entry_dict_keyiterator_iter (wpAny_pure ⟨_, rfl, "dict_keyiterator", _, hT, F.slot_dict_keyiterator_next.lookup, more⟩) (F.args_dict_keyiterator_iter_1 _))
end
def iWk (K : PySem.W.Frag) (td : TE) : TI := fun σ H R => td σ H fun x H1 => ∃ a es n ks, x = .ref a ∧ K.lookup a = some ⟨.type "dict", none, .dict es n, #[]⟩ ∧ (a == sysModules) = false ∧ keysL es.toList = some ks ∧ R (Iwk ks) H1
theorem pi_wk {X : Cx} {tg e : Expr} {td : TE} (he : PE X e td) : PI X tg e (iWk X.K td) := by
  refine ⟨fun pins s σ H R I h => ?_⟩
  refine thn (he.run pins s σ H _ I h) fun u s1 ⟨x, H1, I1, rx, a, es, n, ks, ex, hl, hs, hk, q⟩ => ?_
  subst ex
  obtain rfl : u = Value.ref a := rx
  have hsz : es.size = ks.length := by rw [keysL_len hk, Array.length_toList]
  refine iter_keys hs (I1.kIn _ _ hl) ⟨rfl, rfl, rfl⟩ rfl (pi_one (tk := s1.toks) I1 _ (turn_wk _ hl hk) ⟨_, Heap.get?_push_size _ rfl, rfl, ?_⟩ q)
  rw [hsz] <;> rfl
end L2

/-! Documents as plain data: rows, their texts, and how a text is read. -/
namespace Lw
open PySem L2
def GoodS (n : Nat) (z : Str) : Prop := z.cps.size ≤ n ∧ ∀ c ∈ z.cps.toList, 32 ≤ c ∧ c ≤ 126
inductive Row where
  | text (z : Str) | line (z : Str) | hard | cat (ps : List Int) | nest (n j : Int) | align (j : Int) | group (j : Int)
def Row.data : Row → PyData
  | .text z => .tuple [.str "text", .str z]
  | .line z => .tuple [.str "line", .str z]
  | .hard => .tuple [.str "hard"]
  | .cat ps => .tuple [.str "cat", .list (ps.map .int)]
  | .nest n j => .tuple [.str "nest", .int n, .int j]
  | .align j => .tuple [.str "align", .int j]
  | .group j => .tuple [.str "group", .int j]
def Row.ok (k : Nat) : Row → Prop
  | .text z => GoodS 20 z
  | .line z => GoodS 3 z
  | .hard => True
  | .cat ps => ps.length ≤ 8 ∧ ∀ j ∈ ps, 0 ≤ j ∧ j < k
  | .nest n j => 0 ≤ n ∧ n ≤ 8 ∧ 0 ≤ j ∧ j < k
  | .align j => 0 ≤ j ∧ j < k
  | .group j => 0 ≤ j ∧ j < k
theorem GoodS.mono {n m : Nat} {z : Str} (h : GoodS n z) (hm : n ≤ m) : GoodS m z := ⟨Nat.le_trans h.1 hm, h.2⟩
def OkRows (rs : List Row) : Prop := ∀ (i : Nat) (r : Row), rs[i]? = some r → Row.ok i r
theorem OkRows.snoc {rs : List Row} {r : Row} (h : OkRows rs) (hr : r.ok rs.length) : OkRows (rs ++ [r]) := fun i q e => by
  rcases Nat.lt_trichotomy i rs.length with l | l | l
  · rw [List.getElem?_append_left l] at e
    exact h i q e
  · subst l
    rw [List.getElem?_append_right (Nat.le_refl _), Nat.sub_self] at e
    cases e
    exact hr
  · rw [List.getElem?_eq_none (by rw [List.length_append, List.length_singleton]; omega)] at e
    cases e
def Row.kind : Row → Str
  | .text _ => "text" | .line _ => "line" | .hard => "hard" | .cat _ => "cat" | .nest _ _ => "nest" | .align _ => "align" | .group _ => "group"

/-! ### a line is read -/
def comm : List Nat → List Nat → Nat
  | a :: as, b :: bs => if a = b then comm as bs + 1 else 0
  | _, _ => 0
/-- digits of a number less than e -/
def digs (e : Nat) : List Nat → Option Nat → Nat → Option Nat × Nat
  | [], n, s => (n, s)
  | c :: r, n, s => if 48 ≤ c ∧ c ≤ 57 then (if n = some 0 ∨ e ≤ n.getD 0 * 10 + (c - 48) then (n, s) else digs e r (some (n.getD 0 * 10 + (c - 48))) (s + 1)) else (n, s)
def rdNum (l : List Nat) (s e : Nat) : Option Nat × Nat := if e = 0 ∨ l[s]? ≠ some 32 then (none, s) else digs e (l.drop (s + 1)) none (s + 1)
def good (c : Nat) : Bool := decide (32 ≤ c ∧ c ≤ 126)
def run : Nat → List Nat → Nat
  | 0, _ => 0
  | _ + 1, [] => 0
  | m + 1, c :: r => if good c then run m r + 1 else 0
/-- k: the length of the kind -/
def rdStr (k : Nat) (l : List Nat) (most : Nat) : Option (List Nat) × Nat :=
  if l[k]? ≠ some 32 then (none, k) else if k + 1 + run most (l.drop (k + 1)) < l.length then (none, k + 1 + run most (l.drop (k + 1))) else (some (l.drop (k + 1)), k + 1 + run most (l.drop (k + 1)))
def rdParts (l : List Nat) (k : Nat) : Nat → Nat → List Nat → Option (List Nat) × Nat
  | 0, s, ps => if s < l.length then (none, s) else (some ps, s)
  | m + 1, s, ps => if s < l.length then (match rdNum l s k with | (none, t) => (none, t) | (some p, t) => rdParts l k m t (ps ++ [p])) else (some ps, s)
def rdNums (l : List Nat) : List Nat → Nat → List Nat → Option (List Nat) × Nat
  | [], s, fs => if s < l.length then (none, s) else (some fs, s)
  | e :: es, s, fs => match rdNum l s e with | (none, t) => (none, t) | (some n, t) => rdNums l es t (fs ++ [n])
inductive Kind where
  | text | line | hard | cat | nest | align | group
  deriving DecidableEq
def Kind.str : Kind → Str
  | .text => "text" | .line => "line" | .hard => "hard" | .cat => "cat" | .nest => "nest" | .align => "align" | .group => "group"
def Kind.cps (q : Kind) : List Nat := q.str.cps.toList
def kinds : List Kind := [.text, .line, .hard, .cat, .nest, .align, .group]
def Kind.needs : Kind → Bool
  | .nest => true | .align => true | .group => true | _ => false
def strOf (l : List Nat) : Str := ⟨l.toArray⟩
def rdKind (q : Kind) (l : List Nat) (k : Nat) : Option Row × Nat :=
  if k = 0 ∧ q.needs = true then (none, 0) else
  if comm q.cps l < q.cps.length then (none, comm q.cps l) else
  match q with
  | .text => match rdStr 4 l 20 with | (none, s) => (none, s) | (some z, s) => (some (.text (strOf z)), s)
  | .line => match rdStr 4 l 3 with | (none, s) => (none, s) | (some z, s) => (some (.line (strOf z)), s)
  | .cat => match rdParts l k 8 3 [] with | (none, s) => (none, s) | (some ps, s) => (some (.cat (ps.map Int.ofNat)), s)
  | .nest => match rdNums l [9, k] 4 [] with | (some [n, j], s) => (some (.nest n j), s) | (_, s) => (none, s)
  | .hard => match rdNums l [] 4 [] with | (some _, s) => (some .hard, s) | (none, s) => (none, s)
  | .align => match rdNums l [k] 5 [] with | (some [j], s) => (some (.align j), s) | (_, s) => (none, s)
  | .group => match rdNums l [k] 5 [] with | (some [j], s) => (some (.group j), s) | (_, s) => (none, s)
def rdRow (l : List Nat) (k : Nat) : List Kind → Nat → Option Row × Nat
  | [], m => (none, m)
  | q :: qs, m => match rdKind q l k with | (some r, s) => (some r, s) | (none, s) => rdRow l k qs (max m s)
def rdDoc : List (List Nat) → List Row → Except (Nat × Nat) (List Row)
  | [], rs => .ok rs
  | l :: ls, rs => if rs.length = 200 then .error (200, 0) else match rdRow l rs.length kinds 0 with | (none, s) => .error (rs.length, s) | (some r, _) => rdDoc ls (rs ++ [r])

/-! ### what is read is a row -/
theorem digs_lt {e : Nat} : ∀ {l : List Nat} {n : Option Nat} {s : Nat} {m t : Nat}, digs e l n s = (some m, t) → (∀ a, n = some a → a < e) → m < e
  | [], n, s, m, t, h, hn => by
    cases h
    exact hn m rfl
  | c :: r, n, s, m, t, h, hn => by
    unfold digs at h
    split at h
    · split at h
      · cases h
        exact hn m rfl
      · rename_i h2
        refine digs_lt h fun a ha => ?_
        cases ha
        omega
    · cases h
      exact hn m rfl
theorem rdNum_lt {l : List Nat} {s e m t : Nat} (h : rdNum l s e = (some m, t)) : m < e := by
  unfold rdNum at h
  split at h
  · cases h
  · exact digs_lt h fun a ha => nomatch ha
theorem run_le : ∀ (m : Nat) (l : List Nat), run m l ≤ m ∧ run m l ≤ l.length
  | 0, l => ⟨Nat.le_refl _, Nat.zero_le _⟩
  | m + 1, [] => ⟨Nat.zero_le _, Nat.zero_le _⟩
  | m + 1, c :: r => by
    have := run_le m r
    unfold run
    rw [List.length_cons]
    split <;> omega
theorem run_good : ∀ (m : Nat) (l : List Nat) (i : Nat), i < run m l → ∃ c, l[i]? = some c ∧ good c = true
  | 0, l, i, h => absurd h (Nat.not_lt_zero _)
  | m + 1, [], i, h => absurd h (Nat.not_lt_zero _)
  | m + 1, c :: r, i, h => by
    unfold run at h
    split at h
    · rename_i hc
      cases i with
      | zero => exact ⟨c, rfl, hc⟩
      | succ i => exact run_good m r i (by omega)
    · omega
theorem rdStr_ok {k most s : Nat} {l z : List Nat} (h : rdStr k l most = (some z, s)) : GoodS most (strOf z) := by
  unfold rdStr at h
  split at h
  · cases h
  split at h
  · cases h
  rename_i h2
  cases h
  have r1 := run_le most (l.drop (k + 1))
  rw [List.length_drop] at r1
  refine ⟨?_, fun c hc => ?_⟩
  · show (l.drop (k + 1)).toArray.size ≤ most
    rw [List.size_toArray, List.length_drop]
    omega
  · obtain ⟨i, hi⟩ := List.mem_iff_getElem?.mp (show c ∈ l.drop (k + 1) by simpa [strOf] using hc)
    have hlt : i < (l.drop (k + 1)).length := (List.getElem?_eq_some_iff.mp hi).1
    rw [List.length_drop] at hlt
    obtain ⟨d, h1, h2⟩ := run_good most (l.drop (k + 1)) i (by omega)
    rw [hi] at h1
    cases h1
    exact of_decide_eq_true h2
theorem rdParts_ok {l : List Nat} {k : Nat} : ∀ {m s : Nat} {ps qs : List Nat} {t : Nat}, rdParts l k m s ps = (some qs, t) → (∀ p ∈ ps, p < k) → qs.length ≤ ps.length + m ∧ ∀ p ∈ qs, p < k
  | 0, s, ps, qs, t, h, hp => by
    unfold rdParts at h
    split at h <;> cases h
    exact ⟨Nat.le_refl _, hp⟩
  | m + 1, s, ps, qs, t, h, hp => by
    unfold rdParts at h
    split at h
    · split at h
      · cases h
      · rename_i p t' e
        have := rdParts_ok h fun q hq => by
          rcases List.mem_append.mp hq with hq | hq
          · exact hp q hq
          · rw [List.mem_singleton.mp hq]
            exact rdNum_lt e
        rw [List.length_append, List.length_singleton] at this
        exact ⟨by omega, this.2⟩
    · cases h
      exact ⟨by omega, hp⟩
theorem rdNums1 {l : List Nat} {e s j t : Nat} {fs : List Nat} (h : rdNums l [e] s [] = (some fs, t)) : ∃ j, fs = [j] ∧ j < e := by
  unfold rdNums at h
  split at h
  · cases h
  · rename_i n t' e1
    unfold rdNums at h
    split at h <;> cases h
    exact ⟨n, rfl, rdNum_lt e1⟩
theorem rdNums2 {l : List Nat} {e e' s j t : Nat} {fs : List Nat} (h : rdNums l [e, e'] s [] = (some fs, t)) : ∃ i j, fs = [i, j] ∧ i < e ∧ j < e' := by
  unfold rdNums at h
  split at h
  · cases h
  · rename_i n t' e1
    unfold rdNums at h
    split at h
    · cases h
    · rename_i m t2 e2
      unfold rdNums at h
      split at h <;> cases h
      exact ⟨n, m, rfl, rdNum_lt e1, rdNum_lt e2⟩
theorem rdKind_ok {q : Kind} {l : List Nat} {k s : Nat} {r : Row} (h : rdKind q l k = (some r, s)) : r.ok k := by
  unfold rdKind at h
  split at h
  · cases h
  split at h
  · cases h
  cases q with
  | text =>
    dsimp only at h
    split at h <;> cases h
    exact rdStr_ok (by assumption)
  | line =>
    dsimp only at h
    split at h <;> cases h
    exact rdStr_ok (by assumption)
  | hard =>
    dsimp only at h
    split at h <;> cases h
    exact True.intro
  | cat =>
    dsimp only at h
    split at h <;> cases h
    rename_i ps e
    have := rdParts_ok e fun p hp => nomatch hp
    refine ⟨by rw [List.length_map]; simpa using this.1, fun j hj => ?_⟩
    obtain ⟨n, hn, rfl⟩ := List.mem_map.mp hj
    exact ⟨Int.natCast_nonneg n, Int.ofNat_lt.mpr (this.2 n hn)⟩
  | nest =>
    dsimp only at h
    split at h <;> cases h
    rename_i n j e
    obtain ⟨a, b, e1, h1, h2⟩ := rdNums2 (j := 0) e
    cases e1
    exact ⟨Int.natCast_nonneg _, by omega, Int.natCast_nonneg _, Int.ofNat_lt.mpr h2⟩
  | align =>
    dsimp only at h
    split at h <;> cases h
    rename_i j e
    obtain ⟨a, e1, h1⟩ := rdNums1 (j := 0) e
    cases e1
    exact ⟨Int.natCast_nonneg _, Int.ofNat_lt.mpr h1⟩
  | group =>
    dsimp only at h
    split at h <;> cases h
    rename_i j e
    obtain ⟨a, e1, h1⟩ := rdNums1 (j := 0) e
    cases e1
    exact ⟨Int.natCast_nonneg _, Int.ofNat_lt.mpr h1⟩
theorem rdRow_ok {l : List Nat} {k : Nat} {r : Row} {s : Nat} : ∀ {qs : List Kind} {m : Nat}, rdRow l k qs m = (some r, s) → r.ok k
  | [], m, h => by cases h
  | q :: qs, m, h => by
    unfold rdRow at h
    split at h
    · cases h
      exact rdKind_ok (by assumption)
    · exact rdRow_ok h
theorem rdDoc_ok : ∀ {ls : List (List Nat)} {rs qs : List Row}, rdDoc ls rs = .ok qs → OkRows rs → rs.length ≤ 200 → OkRows qs ∧ qs.length ≤ 200 ∧ qs.length = rs.length + ls.length
  | [], rs, qs, h, ho, hl => by
    cases h
    exact ⟨ho, hl, rfl⟩
  | l :: ls, rs, qs, h, ho, hl => by
    unfold rdDoc at h
    split at h
    · cases h
    split at h
    · cases h
    · rename_i hne r s e
      have := rdDoc_ok h (ho.snoc (rdRow_ok e)) (by rw [List.length_append, List.length_singleton]; omega)
      rw [List.length_append, List.length_singleton] at this
      rw [List.length_cons]
      exact ⟨this.1, this.2.1, by omega⟩

/-! ### the text of a row, and back -/
def dg (n : Nat) : List Nat := if n < 10 then [48 + n] else if n < 100 then [48 + n / 10, 48 + n % 10] else [48 + n / 100, 48 + n / 10 % 10, 48 + n % 10]
/-- the words of a row behind its kind -/
def Row.words : Row → List (List Nat)
  | .text z => [z.cps.toList]
  | .line z => [z.cps.toList]
  | .hard => []
  | .cat ps => ps.map fun p => dg p.toNat
  | .nest n j => [dg n.toNat, dg j.toNat]
  | .align j => [dg j.toNat]
  | .group j => [dg j.toNat]
def tailL (ws : List (List Nat)) : List Nat := ws.flatMap fun w => 32 :: w
def Row.q : Row → Kind
  | .text _ => .text | .line _ => .line | .hard => .hard | .cat _ => .cat | .nest _ _ => .nest | .align _ => .align | .group _ => .group
def Row.codes (r : Row) : List Nat := r.q.cps ++ tailL r.words
theorem digs_dg {e n : Nat} {r : List Nat} {s : Nat} (hn : n < e) (he : e ≤ 1000) (hr : r = [] ∨ ∃ t, r = 32 :: t) : digs e (dg n ++ r) none s = (some n, s + (dg n).length) := by
  have stop : ∀ (m : Nat) (s : Nat), digs e r (some m) s = (some m, s) := fun m s => by
    rcases hr with rfl | ⟨t, rfl⟩
    · rfl
    · unfold digs
      rw [if_neg (by decide)]
  have step : ∀ (o : Option Nat) (d : Nat) (s : Nat) (t : List Nat), d < 10 → o ≠ some 0 → o.getD 0 * 10 + d < e → digs e ((48 + d) :: t) o s = digs e t (some (o.getD 0 * 10 + d)) (s + 1) := fun o d s t hd ho hlt => by
    conv => lhs; unfold digs
    rw [if_pos (by omega), show 48 + d - 48 = d by omega, if_neg (by rintro (h | h) <;> first | exact ho h | omega)]
  unfold dg
  split
  · rename_i h
    rw [List.cons_append, step none n s _ h (fun z => nomatch z) (by simpa using hn)]
    simpa using stop n (s + 1)
  split
  · rename_i h1 h
    rw [List.cons_append, step none (n / 10) s _ (by omega) (fun z => nomatch z) (by simp; omega), List.cons_append, step _ (n % 10) _ _ (by omega) (fun z => by
      have := Option.some.inj z
      simp at this
      omega) (by simp; omega)]
    have e1 : (some (Option.getD none 0 * 10 + n / 10)).getD 0 * 10 + n % 10 = n := by simp; omega
    rw [e1]
    exact stop n (s + 2)
  · rename_i h1 h
    rw [List.cons_append, step none (n / 100) s _ (by omega) (fun z => nomatch z) (by simp; omega), List.cons_append, step _ (n / 10 % 10) _ _ (by omega) (fun z => by
      have := Option.some.inj z
      simp at this
      omega) (by simp; omega), List.cons_append, step _ (n % 10) _ _ (by omega) (fun z => by
      have := Option.some.inj z
      simp at this
      omega) (by simp; omega)]
    have e1 : (some ((some (Option.getD none 0 * 10 + n / 100)).getD 0 * 10 + n / 10 % 10)).getD 0 * 10 + n % 10 = n := by simp; omega
    rw [e1]
    exact stop n (s + 3)
/-- l is p, then w -/
theorem rdNum_dg {p : List Nat} {e n : Nat} {r : List Nat} (hn : n < e) (he : e ≤ 1000) (hr : r = [] ∨ ∃ t, r = 32 :: t) : rdNum (p ++ 32 :: (dg n ++ r)) p.length e = (some n, p.length + (1 + (dg n).length)) := by
  unfold rdNum
  rw [if_neg (by
    rintro (h | h)
    · omega
    · exact h (by rw [List.getElem?_append_right (Nat.le_refl _), Nat.sub_self]; rfl)), show p ++ 32 :: (dg n ++ r) = (p ++ [32]) ++ (dg n ++ r) by simp, List.drop_append_of_le_length (by simp), show List.drop (p.length + 1) (p ++ [32]) = [] from List.drop_eq_nil_of_le (by simp), List.nil_append, digs_dg hn he hr]
  congr 1
  omega
theorem tail_shape (ws : List (List Nat)) : tailL ws = [] ∨ ∃ t, tailL ws = 32 :: t := by
  cases ws with
  | nil => exact .inl rfl
  | cons w ws => exact .inr ⟨w ++ tailL ws, by simp [tailL]⟩
theorem tail_cons (w : List Nat) (ws : List (List Nat)) : tailL (w :: ws) = 32 :: (w ++ tailL ws) := by simp [tailL]
theorem rdParts_back {k : Nat} (hk : k ≤ 1000) : ∀ (ps : List Nat) (p : List Nat) (m : Nat) (qs : List Nat), ps.length ≤ m → (∀ j ∈ ps, j < k) → ∃ t, rdParts (p ++ tailL (ps.map dg)) k m p.length qs = (some (qs ++ ps), t)
  | [], p, 0, qs, hm, hj => ⟨p.length, by
    unfold rdParts
    rw [if_neg (by simp [tailL])]
    simp⟩
  | [], p, m + 1, qs, hm, hj => ⟨p.length, by
    unfold rdParts
    rw [if_neg (by simp [tailL])]
    simp⟩
  | j :: ps, p, 0, qs, hm, hj => absurd hm (by simp)
  | j :: ps, p, m + 1, qs, hm, hj => by
    have e := rdNum_dg (p := p) (hj j List.mem_cons_self) hk (tail_shape (ps.map dg))
    obtain ⟨t, ht⟩ := rdParts_back hk ps (p ++ 32 :: dg j) m (qs ++ [j]) (by simpa using hm) fun i hi => hj i (List.mem_cons_of_mem _ hi)
    refine ⟨t, ?_⟩
    rw [List.map_cons, tail_cons]
    unfold rdParts
    rw [if_pos (by rw [List.length_append, List.length_cons]; omega), e]
    dsimp only
    have e2 : p.length + (1 + (dg j).length) = (p ++ 32 :: dg j).length := by rw [List.length_append, List.length_cons]; omega
    have e3 : p ++ 32 :: (dg j ++ tailL (ps.map dg)) = (p ++ 32 :: dg j) ++ tailL (ps.map dg) := by simp
    rw [e2, e3, ht]
    simp
theorem rdNums_back : ∀ (es ns : List Nat) (p : List Nat) (qs : List Nat), es.length = ns.length → (∀ (i e n : Nat), es[i]? = some e → ns[i]? = some n → n < e ∧ e ≤ 1000) → ∃ t, rdNums (p ++ tailL (ns.map dg)) es p.length qs = (some (qs ++ ns), t)
  | [], [], p, qs, hl, h => ⟨p.length, by
    unfold rdNums
    rw [if_neg (by simp [tailL])]
    simp⟩
  | [], n :: ns, p, qs, hl, h => absurd hl (by simp)
  | e :: es, [], p, qs, hl, h => absurd hl (by simp)
  | e :: es, n :: ns, p, qs, hl, h => by
    obtain ⟨h1, h2⟩ := h 0 e n rfl rfl
    have e1 := rdNum_dg (p := p) h1 h2 (tail_shape (ns.map dg))
    obtain ⟨t, ht⟩ := rdNums_back es ns (p ++ 32 :: dg n) (qs ++ [n]) (by simpa using hl) fun i a b ha hb => h (i + 1) a b ha hb
    refine ⟨t, ?_⟩
    rw [List.map_cons, tail_cons]
    unfold rdNums
    rw [e1]
    dsimp only
    have e2 : p.length + (1 + (dg n).length) = (p ++ 32 :: dg n).length := by rw [List.length_append, List.length_cons]; omega
    have e3 : p ++ 32 :: (dg n ++ tailL (ns.map dg)) = (p ++ 32 :: dg n) ++ tailL (ns.map dg) := by simp
    rw [e2, e3, ht]
    simp
theorem run_all : ∀ (l : List Nat) (m : Nat), l.length ≤ m → (∀ c ∈ l, good c = true) → run m l = l.length
  | [], 0, _, _ => rfl
  | [], _ + 1, _, _ => rfl
  | c :: r, 0, h, _ => absurd h (by simp)
  | c :: r, m + 1, h, hg => by
    unfold run
    rw [if_pos (hg c List.mem_cons_self), run_all r m (by simpa using h) fun d hd => hg d (List.mem_cons_of_mem _ hd)]
    rfl
theorem rdStr_back {p : List Nat} {z : Str} {most : Nat} (h : GoodS most z) : ∃ t, rdStr p.length (p ++ 32 :: z.cps.toList) most = (some z.cps.toList, t) := by
  have e : (p ++ 32 :: z.cps.toList).drop (p.length + 1) = z.cps.toList := by
    rw [show p ++ 32 :: z.cps.toList = (p ++ [32]) ++ z.cps.toList by simp, List.drop_append_of_le_length (by simp), show List.drop (p.length + 1) (p ++ [32]) = [] from List.drop_eq_nil_of_le (by simp), List.nil_append]
  have hr := run_all z.cps.toList most (by simpa using h.1) fun c hc => decide_eq_true (h.2 c hc)
  refine ⟨p.length + 1 + z.cps.toList.length, ?_⟩
  unfold rdStr
  rw [if_neg (by
    intro hne
    exact hne (by rw [List.getElem?_append_right (Nat.le_refl _), Nat.sub_self]; rfl)), e, hr, if_neg (by rw [List.length_append, List.length_cons]; omega)]
theorem comm_self : ∀ (a b : List Nat), comm a (a ++ b) = a.length
  | [], b => by cases b <;> rfl
  | c :: a, b => by
    rw [List.cons_append]
    unfold comm
    rw [if_pos rfl, comm_self a b]
    rfl
theorem cps_text : Kind.cps .text = [116, 101, 120, 116] := by decide +kernel
theorem cps_line : Kind.cps .line = [108, 105, 110, 101] := by decide +kernel
theorem cps_hard : Kind.cps .hard = [104, 97, 114, 100] := by decide +kernel
theorem cps_cat : Kind.cps .cat = [99, 97, 116] := by decide +kernel
theorem cps_nest : Kind.cps .nest = [110, 101, 115, 116] := by decide +kernel
theorem cps_align : Kind.cps .align = [97, 108, 105, 103, 110] := by decide +kernel
theorem cps_group : Kind.cps .group = [103, 114, 111, 117, 112] := by decide +kernel
theorem rdKind_back {r : Row} {k : Nat} (h : r.ok k) (hk : k ≤ 1000) : ∃ t, rdKind r.q r.codes k = (some r, t) := by
  have h0 : ¬ (k = 0 ∧ r.q.needs = true) := by
    rintro ⟨rfl, hn⟩
    cases r with
    | nest n j => exact absurd (show 0 ≤ n ∧ n ≤ 8 ∧ 0 ≤ j ∧ j < (0 : Nat) from h) (by omega)
    | align j => exact absurd (show 0 ≤ j ∧ j < (0 : Nat) from h) (by omega)
    | group j => exact absurd (show 0 ≤ j ∧ j < (0 : Nat) from h) (by omega)
    | _ => cases hn
  unfold rdKind
  rw [if_neg h0, if_neg (by unfold Row.codes; rw [comm_self]; omega)]
  cases r with
  | text z =>
    obtain ⟨t, ht⟩ := rdStr_back (p := Kind.cps .text) (z := z) (most := 20) h
    refine ⟨t, ?_⟩
    have e : Row.codes (.text z) = Kind.cps .text ++ 32 :: z.cps.toList := by simp [Row.codes, Row.words, Row.q, tailL]
    have e4 : (Kind.cps .text).length = 4 := by rw [cps_text]; rfl
    rw [e4] at ht
    show (match rdStr 4 (Row.codes (.text z)) 20 with | (none, s) => (none, s) | (some z, s) => (some (Row.text (strOf z)), s)) = _
    rw [e, ht]
    rfl
  | line z =>
    obtain ⟨t, ht⟩ := rdStr_back (p := Kind.cps .line) (z := z) (most := 3) h
    refine ⟨t, ?_⟩
    have e : Row.codes (.line z) = Kind.cps .line ++ 32 :: z.cps.toList := by simp [Row.codes, Row.words, Row.q, tailL]
    have e4 : (Kind.cps .line).length = 4 := by rw [cps_line]; rfl
    rw [e4] at ht
    show (match rdStr 4 (Row.codes (.line z)) 3 with | (none, s) => (none, s) | (some z, s) => (some (Row.line (strOf z)), s)) = _
    rw [e, ht]
    rfl
  | hard =>
    obtain ⟨t, ht⟩ := rdNums_back [] [] (Kind.cps .hard) [] rfl fun i e n a => by simp at a
    have e4 : (Kind.cps .hard).length = 4 := by rw [cps_hard]; rfl
    rw [e4] at ht
    refine ⟨t, ?_⟩
    show (match rdNums (Row.codes .hard) [] 4 [] with | (some _, s) => (some Row.hard, s) | (none, s) => (none, s)) = _
    rw [show Row.codes .hard = Kind.cps .hard ++ tailL (([] : List Nat).map dg) from rfl, ht]
  | cat ps =>
    obtain ⟨h8, hp⟩ := h
    obtain ⟨t, ht⟩ := rdParts_back hk (ps.map Int.toNat) (Kind.cps .cat) 8 [] (by rw [List.length_map]; exact h8) fun j hj => by
      obtain ⟨i, hi, rfl⟩ := List.mem_map.mp hj
      have := hp i hi
      omega
    have e3 : (Kind.cps .cat).length = 3 := by rw [cps_cat]; rfl
    rw [e3] at ht
    refine ⟨t, ?_⟩
    show (match rdParts (Row.codes (.cat ps)) k 8 3 [] with | (none, s) => (none, s) | (some ps, s) => (some (Row.cat (ps.map Int.ofNat)), s)) = _
    have e : Row.codes (.cat ps) = Kind.cps .cat ++ tailL ((ps.map Int.toNat).map dg) := by simp [Row.codes, Row.words, Row.q, List.map_map, Function.comp_def]
    rw [e, ht]
    dsimp only
    have e2 : (([] : List Nat) ++ ps.map Int.toNat).map Int.ofNat = ps := by
      rw [List.nil_append, List.map_map]
      clear ht e h8 h0
      induction ps with
      | nil => rfl
      | cons j ps ih =>
        rw [List.map_cons, ih fun i hi => hp i (List.mem_cons_of_mem _ hi)]
        have := (hp j List.mem_cons_self).1
        congr 1
        show (j.toNat : Int) = j
        omega
    rw [e2]
  | nest n j =>
    obtain ⟨n0, n8, j0, jk⟩ := h
    obtain ⟨t, ht⟩ := rdNums_back [9, k] [n.toNat, j.toNat] (Kind.cps .nest) [] rfl fun i a b ha hb => by
      match i, ha, hb with
      | 0, ha, hb => cases ha; cases hb; omega
      | 1, ha, hb => cases ha; cases hb; omega
      | i + 2, ha, hb => simp at ha
    have e4 : (Kind.cps .nest).length = 4 := by rw [cps_nest]; rfl
    rw [e4] at ht
    refine ⟨t, ?_⟩
    show (match rdNums (Row.codes (.nest n j)) [9, k] 4 [] with | (some [n, j], s) => (some (Row.nest n j), s) | (_, s) => (none, s)) = _
    rw [show Row.codes (.nest n j) = Kind.cps .nest ++ tailL ([n.toNat, j.toNat].map dg) from rfl, ht]
    dsimp only [List.nil_append]
    rw [show ((n.toNat : Nat) : Int) = n by omega, show ((j.toNat : Nat) : Int) = j by omega]
  | align j =>
    obtain ⟨j0, jk⟩ := h
    obtain ⟨t, ht⟩ := rdNums_back [k] [j.toNat] (Kind.cps .align) [] rfl fun i a b ha hb => by
      match i, ha, hb with
      | 0, ha, hb => cases ha; cases hb; omega
      | i + 1, ha, hb => simp at ha
    have e4 : (Kind.cps .align).length = 5 := by rw [cps_align]; rfl
    rw [e4] at ht
    refine ⟨t, ?_⟩
    show (match rdNums (Row.codes (.align j)) [k] 5 [] with | (some [j], s) => (some (Row.align j), s) | (_, s) => (none, s)) = _
    rw [show Row.codes (.align j) = Kind.cps .align ++ tailL ([j.toNat].map dg) from rfl, ht]
    dsimp only [List.nil_append]
    rw [show ((j.toNat : Nat) : Int) = j by omega]
  | group j =>
    obtain ⟨j0, jk⟩ := h
    obtain ⟨t, ht⟩ := rdNums_back [k] [j.toNat] (Kind.cps .group) [] rfl fun i a b ha hb => by
      match i, ha, hb with
      | 0, ha, hb => cases ha; cases hb; omega
      | i + 1, ha, hb => simp at ha
    have e4 : (Kind.cps .group).length = 5 := by rw [cps_group]; rfl
    rw [e4] at ht
    refine ⟨t, ?_⟩
    show (match rdNums (Row.codes (.group j)) [k] 5 [] with | (some [j], s) => (some (Row.group j), s) | (_, s) => (none, s)) = _
    rw [show Row.codes (.group j) = Kind.cps .group ++ tailL ([j.toNat].map dg) from rfl, ht]
    dsimp only [List.nil_append]
    rw [show ((j.toNat : Nat) : Int) = j by omega]
/-- another kind does not read it -/
theorem comm_head {a b : Nat} {as bs : List Nat} (h : a ≠ b) : comm (a :: as) (b :: bs) = 0 := by
  unfold comm
  exact if_neg h
theorem rdKind_other {q q' : Kind} {l t : List Nat} {k : Nat} (h : q ≠ q') (e : l = q'.cps ++ t) : rdKind q l k = (none, 0) := by
  have c0 : comm q.cps l = 0 := by
    rw [e]
    cases q <;> cases q' <;> first | exact absurd rfl h | skip
    all_goals (simp only [cps_text, cps_line, cps_hard, cps_cat, cps_nest, cps_align, cps_group, List.cons_append]; exact comm_head (by decide))
  have hq : 0 < q.cps.length := by cases q <;> decide +kernel
  unfold rdKind
  split
  · rfl
  · rw [c0, if_pos hq]
theorem rdRow_back {r : Row} {k : Nat} (h : r.ok k) (hk : k ≤ 1000) : ∃ t, rdRow r.codes k kinds 0 = (some r, t) := by
  obtain ⟨t, ht⟩ := rdKind_back h hk
  refine ⟨t, ?_⟩
  have other : ∀ q, q ≠ r.q → rdKind q r.codes k = (none, 0) := fun q hq => rdKind_other hq rfl
  have go : ∀ qs m, r.q ∈ qs → rdRow r.codes k qs m = (some r, t) := fun qs => by
    induction qs with
    | nil => intro m hm; cases hm
    | cons q qs ih =>
      intro m hm
      by_cases e : q = r.q
      · unfold rdRow
        rw [e, ht]
      · unfold rdRow
        rw [other q e]
        exact ih _ ((List.mem_cons.mp hm).resolve_left fun z => e z.symm)
  exact go kinds 0 (by cases r <;> simp [Row.q, kinds])
theorem rdDoc_back : ∀ (qs rs : List Row), OkRows (rs ++ qs) → (rs ++ qs).length ≤ 200 → rdDoc (qs.map Row.codes) rs = .ok (rs ++ qs)
  | [], rs, _, _ => by simp [rdDoc]
  | q :: qs, rs, ho, hl => by
    rw [List.length_append, List.length_cons] at hl
    obtain ⟨t, ht⟩ := rdRow_back (r := q) (k := rs.length) (ho rs.length q (by rw [List.getElem?_append_right (Nat.le_refl _), Nat.sub_self]; rfl)) (by omega)
    rw [List.map_cons]
    unfold rdDoc
    rw [if_neg (by omega), ht]
    have e : rs ++ q :: qs = (rs ++ [q]) ++ qs := by simp
    have := rdDoc_back qs (rs ++ [q]) (by rw [← e]; exact ho) (by rw [← e, List.length_append, List.length_cons]; omega)
    rw [e]
    exact this
end Lw

/-! Texts as lists of signs. -/
namespace Lw
open PySem PySem.Spec PyProof.Rows L2
/-- a number, or None -/
def optI : Option Nat → V
  | none => .non
  | some n => .int n
abbrev cl (z : Str) : List Nat := z.cps.toList
theorem cl_len (z : Str) : (cl z).length = z.length := Array.length_toList
theorem cl_inj {a b : Str} (h : cl a = cl b) : a = b := Str.ext' (Array.toList_inj.mp h)
theorem cl_one (c : Nat) : cl ⟨#[c]⟩ = [c] := rfl
theorem cut_take (z : Str) (i j : Nat) (hij : i ≤ j) : cl (cutS z (some (i : Int)) (some (j : Int))) = ((cl z).drop i).take (j - i) := by
  unfold cutS
  rw [HT.sIx_nat, HT.sIx_nat]
  show ((cl z).drop (min i z.length)).take (min j z.length - min i z.length) = _
  by_cases h : i ≤ z.length
  · rw [Nat.min_eq_left h]
    by_cases h2 : j ≤ z.length
    · rw [Nat.min_eq_left h2]
    · rw [Nat.min_eq_right (by omega), List.take_of_length_le (by rw [List.length_drop, cl_len]; omega), List.take_of_length_le (by rw [List.length_drop, cl_len]; omega)]
  · rw [Nat.min_eq_right (by omega : z.length ≤ i), Nat.min_eq_right (by omega : z.length ≤ j), Nat.sub_self, List.take_zero, List.drop_of_length_le (by rw [cl_len]; omega), List.take_nil]
theorem cut_from (z : Str) (i : Nat) : cl (cutS z (some (i : Int)) none) = (cl z).drop i := by
  unfold cutS
  rw [HT.sIx_nat, HT.sIx_none]
  show ((cl z).drop (min i z.length)).take (z.length - min i z.length) = _
  by_cases h : i ≤ z.length
  · rw [Nat.min_eq_left h, List.take_of_length_le (by rw [List.length_drop, cl_len]; omega)]
  · rw [Nat.min_eq_right (by omega), Nat.sub_self, List.take_zero, List.drop_of_length_le (by rw [cl_len]; omega)]
theorem cut_one (z : Str) (i : Nat) : cl (cutS z (some (i : Int)) (some ((i : Int) + 1))) = ((cl z).drop i).take 1 := by
  have := cut_take z i (i + 1) (by omega)
  rw [show i + 1 - i = 1 by omega] at this
  exact this
theorem take1 (l : List Nat) (i : Nat) : (l.drop i).take 1 = match l[i]? with | some c => [c] | none => [] := by
  cases h : l[i]? with
  | none =>
    have := List.getElem?_eq_none_iff.mp h
    rw [List.drop_of_length_le this, List.take_nil]
  | some c =>
    obtain ⟨hi, e⟩ := List.getElem?_eq_some_iff.mp h
    rw [List.drop_eq_getElem_cons hi, e]
    rfl
/-- z[i:i+1] == the sign c -/
theorem cut_eq (z : Str) (i c : Nat) : decide (V.str (cutS z (some (i : Int)) (some ((i : Int) + 1))) = V.str ⟨#[c]⟩) = decide ((cl z)[i]? = some c) := by
  have e := cut_one z i
  rw [take1] at e
  by_cases h : (cl z)[i]? = some c
  · rw [h] at e
    rw [decide_eq_true h, decide_eq_true (by rw [cl_inj (a := cutS z _ _) (b := ⟨#[c]⟩) e])]
  · rw [decide_eq_false h, decide_eq_false (fun q => h ?_)]
    rw [V.str.inj q] at e
    cases h2 : (cl z)[i]? with
    | none => rw [h2] at e; cases e
    | some d =>
      rw [h2] at e
      rw [List.cons.inj e |>.1]
theorem lt1 (a b : Nat) : decide (([a] : List Nat) < [b]) = decide (a < b) := by
  by_cases h : a < b
  · rw [decide_eq_true h]
    exact decide_eq_true (show List.Lex _ _ _ from List.Lex.rel h)
  · rw [decide_eq_false h, decide_eq_false]
    intro z
    cases z with
    | rel h' => exact h h'
    | cons h' => cases h'
theorem not_lt1 (a b : Nat) : (!decide (([a] : List Nat) < [b])) = decide (b ≤ a) := by
  rw [lt1]
  by_cases z : a < b
  · rw [decide_eq_true z, decide_eq_false (by omega)]
    rfl
  · rw [decide_eq_false z, decide_eq_true (by omega)]
    rfl
theorem from0 (c : Nat) : (!decide (({ cps := #[c] } : Str).cps.toList < (Str.ofString "0").cps.toList)) = decide (48 ≤ c) := not_lt1 c 48
theorem to9 (c : Nat) : (!decide ((Str.ofString "9").cps.toList < ({ cps := #[c] } : Str).cps.toList)) = decide (c ≤ 57) := not_lt1 57 c
theorem fromB (c : Nat) : (!decide (({ cps := #[c] } : Str).cps.toList < (Str.ofString " ").cps.toList)) = decide (32 ≤ c) := not_lt1 c 32
theorem toT (c : Nat) : (!decide ((Str.ofString "~").cps.toList < ({ cps := #[c] } : Str).cps.toList)) = decide (c ≤ 126) := not_lt1 126 c
theorem scal_opt (o : Option Nat) (i : Int) : scal (optI o) (.int i) = true := by cases o <;> rfl
theorem tru_opt {K : PySem.W.Frag} {H : Hp} (o : Option Nat) : TruV K (optI o) H (match o with | none => false | some n => (n : Int) != 0) := by cases o <;> rfl
/-- what is told of the sign at i -/
theorem at_sign {z : Str} {i : Nat} (h : i < z.length) : ∃ c, (cl z)[i]? = some c ∧ atI (cl z) (i : Int) = some c :=
  ⟨(cl z)[i]'(by rw [cl_len]; exact h), List.getElem?_eq_getElem _, atI_nat (List.getElem?_eq_getElem _)⟩
theorem digit_text (c : Nat) (h : 48 ≤ c ∧ c ≤ 57) : PySem.intText? ⟨#[c]⟩ = some ((c - 48 : Nat) : Int) := by
  have : ∀ d, d < 10 → PySem.intText? ⟨#[48 + d]⟩ = some ((d : Nat) : Int) := by decide +kernel
  have e := this (c - 48) (by omega)
  rw [show 48 + (c - 48) = c by omega] at e
  exact e
theorem dg_text : ∀ n : Nat, n < 1000 → cl (toString (n : Int) : Str) = dg n := by
  have h : (List.range 1000).all (fun n : Nat => decide (cl (toString (n : Int) : Str) = dg n)) = true := by decide +kernel
  intro n hn
  exact of_decide_eq_true (List.all_eq_true.mp h n (List.mem_range.mpr hn))
theorem drop_step {α : Type} {l : List α} {m : Nat} {c : α} (h : l[m]? = some c) : l.drop m = c :: l.drop (m + 1) := by
  obtain ⟨hi, e⟩ := List.getElem?_eq_some_iff.mp h
  rw [List.drop_eq_getElem_cons hi, e]
theorem drop_end {l : List Nat} {m : Nat} (h : l[m]? = none) : l.drop m = [] := List.drop_of_length_le (List.getElem?_eq_none_iff.mp h)
theorem comm_go {a b : List Nat} {m c : Nat} (ha : a[m]? = some c) (hb : b[m]? = some c) : comm (a.drop m) (b.drop m) = comm (a.drop (m + 1)) (b.drop (m + 1)) + 1 := by
  rw [drop_step ha, drop_step hb]
  conv => lhs; unfold comm
  rw [if_pos rfl]
theorem comm_stop {a b : List Nat} {m : Nat} (h : a[m]? = none ∨ a[m]? ≠ b[m]?) : comm (a.drop m) (b.drop m) = 0 := by
  cases ha : a[m]? with
  | none =>
    rw [drop_end ha]
    rfl
  | some c =>
    cases hb : b[m]? with
    | none =>
      rw [drop_end hb, drop_step ha]
      rfl
    | some d =>
      rw [drop_step ha, drop_step hb]
      unfold comm
      rw [if_neg]
      rintro rfl
      rcases h with h | h
      · rw [ha] at h
        cases h
      · exact h (ha.trans hb.symm)
theorem run_go {l : List Nat} {m n c : Nat} (h : l[m]? = some c) (hg : good c = true) : run (n + 1) (l.drop m) = run n (l.drop (m + 1)) + 1 := by
  rw [drop_step h]
  conv => lhs; unfold run
  rw [if_pos hg]
theorem run_stop {l : List Nat} {m n : Nat} (h : n = 0 ∨ l[m]? = none ∨ ∃ c, l[m]? = some c ∧ good c = false) : run n (l.drop m) = 0 := by
  rcases h with rfl | h | ⟨c, h, hg⟩
  · unfold run
    rfl
  · rw [drop_end h]
    cases n <;> rfl
  · rw [drop_step h]
    cases n with
    | zero => rfl
    | succ n =>
      unfold run
      rw [hg]
      rfl
theorem digs_in {e m c : Nat} {l : List Nat} {o : Option Nat} (h : l[m]? = some c) (hc : 48 ≤ c ∧ c ≤ 57) (ho : o ≠ some 0) (he : o.getD 0 * 10 + (c - 48) < e) : digs e (l.drop m) o m = digs e (l.drop (m + 1)) (some (o.getD 0 * 10 + (c - 48))) (m + 1) := by
  rw [drop_step h]
  conv => lhs; unfold digs
  rw [if_pos hc, if_neg (by rintro (z | z) <;> first | exact ho z | omega)]
theorem digs_out {e m c : Nat} {l : List Nat} {o : Option Nat} (h : l[m]? = some c) (hc : ¬ (48 ≤ c ∧ c ≤ 57) ∨ o = some 0 ∨ e ≤ o.getD 0 * 10 + (c - 48)) : digs e (l.drop m) o m = (o, m) := by
  rw [drop_step h]
  unfold digs
  by_cases h1 : 48 ≤ c ∧ c ≤ 57
  · rw [if_pos h1, if_pos (hc.resolve_left fun z => z h1)]
  · rw [if_neg h1]
end Lw
namespace Lw
open PySem PySem.Spec PyProof.Rows L2
def RowV (K : PySem.W.Frag) (U : Hp) (v : V) : Option Row → Prop
  | none => v = .non
  | some r => Dp K U v r.data
theorem strOf_cl (z : Str) : strOf (cl z) = z := cl_inj (by simp [strOf])
end Lw
namespace Lw
open PySem PySem.Spec PyProof.Rows L2 TL
theorem join_tail (w : List Nat) (ws : List (List Nat)) : joinL [32] (w :: ws) = w ++ tailL ws := by
  induction ws generalizing w with
  | nil => simp [tailL, joinL]
  | cons v ws ih =>
    show w ++ ([32] ++ joinL [32] (v :: ws)) = _
    rw [ih, tail_cons]
    rfl
theorem dg_len (n : Nat) : (dg n).length ≤ 3 := by
  unfold dg
  split
  · simp
  split <;> simp
theorem dg_clean (n : Nat) (h : n < 1000) : ∀ c ∈ dg n, 48 ≤ c ∧ c ≤ 57 := by
  intro c hc
  unfold dg at hc
  split at hc
  · simp at hc
    omega
  split at hc <;> simp at hc <;> omega
theorem tail_len (m : Nat) : ∀ (ws : List (List Nat)), (∀ w ∈ ws, w.length ≤ m) → (tailL ws).length ≤ ws.length * (m + 1)
  | [], _ => by simp [tailL]
  | w :: ws, h => by
    rw [tail_cons, List.length_cons, List.length_append, List.length_cons, Nat.succ_mul]
    have := tail_len m ws fun v hv => h v (List.mem_cons_of_mem _ hv)
    have := h w List.mem_cons_self
    omega
theorem kind_short (q : Kind) : q.cps.length ≤ 5 ∧ ∀ c ∈ q.cps, 97 ≤ c ∧ c ≤ 122 := by cases q <;> decide +kernel
theorem codes_len {r : Row} {k : Nat} (h : r.ok k) : r.codes.length ≤ 64 := by
  have hk := (kind_short r.q).1
  unfold Row.codes
  rw [List.length_append]
  cases r with
  | text z =>
    have := tail_len 20 [cl z] fun w hw => by rw [List.mem_singleton.mp hw, cl_len]; exact h.1
    show _ + (tailL [cl z]).length ≤ 64
    simp at this
    omega
  | line z =>
    have := tail_len 20 [cl z] fun w hw => by rw [List.mem_singleton.mp hw, cl_len]; exact Nat.le_trans h.1 (by decide)
    show _ + (tailL [cl z]).length ≤ 64
    simp at this
    omega
  | hard =>
    show _ + 0 ≤ 64
    omega
  | cat ps =>
    have := tail_len 3 (ps.map fun p => dg p.toNat) fun w hw => by
      obtain ⟨p, _, rfl⟩ := List.mem_map.mp hw
      exact dg_len _
    rw [List.length_map] at this
    have h8 : ps.length ≤ 8 := h.1
    show _ + (tailL (ps.map fun p => dg p.toNat)).length ≤ 64
    omega
  | nest n j =>
    have := tail_len 3 [dg n.toNat, dg j.toNat] fun w hw => by
      simp at hw
      rcases hw with rfl | rfl <;> exact dg_len _
    simp at this
    show _ + (tailL [dg n.toNat, dg j.toNat]).length ≤ 64
    omega
  | align j =>
    have := tail_len 3 [dg j.toNat] fun w hw => by rw [List.mem_singleton.mp hw]; exact dg_len _
    simp at this
    show _ + (tailL [dg j.toNat]).length ≤ 64
    omega
  | group j =>
    have := tail_len 3 [dg j.toNat] fun w hw => by rw [List.mem_singleton.mp hw]; exact dg_len _
    simp at this
    show _ + (tailL [dg j.toNat]).length ≤ 64
    omega
theorem words_clean {r : Row} {k : Nat} (h : r.ok k) (hk : k ≤ 1000) : ∀ w ∈ r.words, ∀ c ∈ w, 32 ≤ c ∧ c ≤ 126 := by
  have num : ∀ (j : Int), 0 ≤ j → j < 1000 → ∀ c ∈ dg j.toNat, 32 ≤ c ∧ c ≤ 126 := fun j h0 h1 c hc => by
    have := dg_clean j.toNat (by omega) c hc
    omega
  cases r with
  | text z =>
    intro w hw c hc
    rw [show w = cl z from List.mem_singleton.mp hw] at hc
    exact h.2 c hc
  | line z =>
    intro w hw c hc
    rw [show w = cl z from List.mem_singleton.mp hw] at hc
    exact h.2 c hc
  | hard =>
    intro w hw
    cases hw
  | cat ps =>
    intro w hw c hc
    obtain ⟨p, hp, rfl⟩ := List.mem_map.mp hw
    have := h.2 p hp
    exact num p this.1 (by omega) c hc
  | nest n j =>
    obtain ⟨n0, n8, j0, jk⟩ := h
    intro w hw c hc
    simp [Row.words] at hw
    rcases hw with rfl | rfl
    · exact num n n0 (by omega) c hc
    · exact num j j0 (by omega) c hc
  | align j =>
    intro w hw c hc
    rw [show w = dg j.toNat from List.mem_singleton.mp hw] at hc
    have h : 0 ≤ j ∧ j < k := h
    exact num j h.1 (by omega) c hc
  | group j =>
    intro w hw c hc
    rw [show w = dg j.toNat from List.mem_singleton.mp hw] at hc
    have h : 0 ≤ j ∧ j < k := h
    exact num j h.1 (by omega) c hc
theorem codes_clean {r : Row} {k : Nat} (h : r.ok k) (hk : k ≤ 1000) : ∀ c ∈ r.codes, 32 ≤ c ∧ c ≤ 126 := by
  intro c hc
  rcases List.mem_append.mp hc with hc | hc
  · have := (kind_short r.q).2 c hc
    omega
  · obtain ⟨w, hw, hc⟩ := List.mem_flatMap.mp hc
    rcases List.mem_cons.mp hc with rfl | hc
    · omega
    · exact words_clean h hk w hw c hc
/-- a text, or a number, as str() has it -/
theorem call_str_is {X : Cx} : CallR X (.type "str") (fun xs H Q => (∃ i, xs = [.int i] ∧ i.natAbs.log2 < 1920 ∧ Q (.str (toString i)) H) ∨ (∃ a, xs = [.str a] ∧ Q (.str a) H)) :=
  fun pins s σ H xs us Q I r h => h.elim (call_str_int pins s σ H xs us Q I r) (SkE.call_str_str pins s σ H xs us Q I r)
theorem small_log {i : Int} (h : i.natAbs < 2 ^ 64) : i.natAbs.log2 < 1920 := by
  by_cases h0 : i.natAbs = 0
  · rw [h0]
    decide
  · exact Nat.lt_of_lt_of_le ((Nat.log2_lt h0).mpr h) (by decide)
theorem lines_len {m : Nat} : ∀ (zs : List Str), (∀ z ∈ zs, z.length ≤ m) → (zs.map (·.length)).sum ≤ zs.length * m
  | [], _ => Nat.zero_le _
  | z :: zs, h => by
    rw [List.map_cons, List.sum_cons, List.length_cons, Nat.succ_mul]
    have := lines_len zs fun y hy => h y (List.mem_cons_of_mem _ hy)
    have := h z List.mem_cons_self
    omega
theorem joinL_len (m : Nat) : ∀ (ls : List (List Nat)), (∀ l ∈ ls, l.length ≤ m) → (joinL [10] ls).length ≤ ls.length * (m + 1)
  | [], _ => Nat.zero_le _
  | [p], h => by
    have := h p (List.mem_singleton.mpr rfl)
    show p.length ≤ 1 * (m + 1)
    omega
  | p :: q :: r, h => by
    show (p ++ ([10] ++ joinL [10] (q :: r))).length ≤ _
    rw [List.length_append, List.length_append, show (p :: q :: r).length = (q :: r).length + 1 from rfl, Nat.succ_mul]
    have := joinL_len m (q :: r) fun l hl => h l (List.mem_cons_of_mem _ hl)
    have := h p List.mem_cons_self
    have e1 : ([10] : List Nat).length = 1 := rfl
    omega
end Lw

/-! f(k = v, ..): a def called by the names of its parameters alone. -/
namespace L2
open PySem PySem.Spec PyProof.Rows
def tKwOnly (m : Nat) (sp : Sp) (gV : List V → List V) (tk : TA) : TE := fun σ H Q => tk σ H fun zs H1 => zs.length = m ∧ sp (gV zs) H1 Q E0
section
variable {X : Cx} {x : Str} {st : Stmt} {ps ks : List Str} {k : Nat} {sp : Sp} {kws : List Keyword} {tk : TA} {p pos : Pos} {g : List Value → List Value} {gV : List V → List V}
theorem pe_kwD (D : DefOk X.prog X.w X.K X.mg X.base x st ps k sp) (hr : Room k X.A) (rel : ∀ {zs : List V} {ws : List Value}, Vals zs ws → Vals (gV zs) (g ws))
    (hb : ∀ (kV doc pm : Value) (an : Option Addr) (cdv ct : Value) (ws : List Value), ws.length = ks.length → bindArgs (PySem.W.fnOf x x (defArgs st) (defBody st) (defScope st) .none kV doc pm an cdv ct) ⟨[], ks.zip ws⟩ = pure (ps.zip (g ws)))
    (hkw : PK X kws tk) (hg : Gl X x := by rfl) (named : (backToKw pos (keywordEach kws X.env)).all (·.1.isSome) = true := by rfl) (hks : (backToKw pos (keywordEach kws X.env)).filterMap (·.1) = ks := by rfl)
    (hdb : (x == ("__debug__" : Str)) = false := by decide) (plain : ((backTo pos (starEach [] X.env)).any (·.1) || (backToKw pos (keywordEach kws X.env)).any (·.1.isNone)) = false := by rfl) :
    PE X (.Call (.Name x p) [] kws pos) (tKwOnly ks.length sp gV tk) := by
  obtain ⟨f, fd, hm, F, _, G⟩ := D.ex
  have kp := F.kp
  obtain ⟨oc, od, kV, doc, pm, an, cdv, ct, osl, rfl, lk, hcd⟩ := F.ex
  refine ⟨fun pins s σ H Q I h => wpAny_Call_Name_kw (ld_glob I hg hm (PySem.W.callWith_KW0 (h₀ := X.base) I.ok.mod.kin kp named (thn (hkw.run pos pins s σ H _ I h) fun ws s2 ⟨zs, H2, I2, rz, l2, q⟩ => ⟨I2.kIn, ?_⟩) plain) hdb)⟩
  rw [hks]
  have r2 := rel rz
  refine wpAny_call (codeAny_mono (G.run X.A X.stack s2 H2 ⟨[], ks.zip ws⟩ (g ws) (gV zs) Q E0 hr I2.env0 (.of_eq (hb _ _ _ _ _ _ ws (rz.length.symm.trans l2))) r2 q) fun r s' z => ?_)
  cases r with
  | error e => exact pass0 pins σ H2 s2 e s' I2 z
  | ok fl =>
    cases fl with
    | ret u => exact I2.after z
    | next => exact False.elim z
    | brk => exact False.elim z
    | cont => exact False.elim z
end
end L2

/-! Error classes over a class of the text that stands over ArithmeticError: made, raised, asked. -/
namespace PySem
namespace AX
open PySem.W PySem.Calls PyProof.Rows PySem.HandSPX PySem.OEX
abbrev arith : List Value := [.type "ArithmeticError", .type "Exception", .type "BaseException", .type "object"]
/-- classes of the text, then ArithmeticError's own line -/
def overA : List Value → Bool
  | .ref _ :: r => overA r
  | l => l == arith
theorem overA_own {l : List Value} : overA l = true → ∃ rs : List Addr, l = rs.map Value.ref ++ arith := by
  induction l with
  | nil => intro z; exact absurd z (by decide)
  | cons v r ih =>
    intro z
    by_cases q : ∃ c, v = .ref c
    · obtain ⟨c, rfl⟩ := q
      obtain ⟨rs, e⟩ := ih z
      exact ⟨c :: rs, by rw [e]; rfl⟩
    · refine ⟨[], ?_⟩
      cases v <;> first | exact absurd ⟨_, rfl⟩ q | exact beq_iff_eq.mp z
theorem own_pass (self : Value) : ∀ rs : List Addr, refuseLoop self "__setattr__" (rs.map Value.ref ++ arith) = pure ()
  | [] => F.store_ArithmeticError.passes self
  | c :: rs => by
    rw [List.map_cons, List.cons_append, refuseLoop_ref]
    exact own_pass self rs
theorem own_has (X : String) : ∀ rs : List Addr, (rs.map Value.ref ++ arith).contains (.type X) = arith.contains (.type X)
  | [] => rfl
  | c :: rs => by
    rw [List.map_cons, List.cons_append, List.contains_cons, own_has X rs]
    rfl
theorem over_pass {l : List Value} (self : Value) (h : overA l = true) : refuseLoop self "__setattr__" l = pure () := by
  obtain ⟨rs, rfl⟩ := overA_own h
  exact own_pass self rs
theorem over_has {l : List Value} (X : String) (h : overA l = true) : l.contains (.type X) = arith.contains (.type X) := by
  obtain ⟨rs, rfl⟩ := overA_own h
  exact own_has X rs
theorem over_some {l : List Value} (h : overA l = true) : l.isEmpty = false := by
  cases l with
  | nil => exact absurd h (by decide)
  | cons _ _ => rfl
section
open Builtin Builtin.ObjectAttr
variable {P : Program} {w : World} {A : Around} {R : Result → Shared → Prop} {g0 : Heap} {gs : Array GenState} {dr : Drawn} {n : Nat} {os : OsState} {K : W.Frag} {f : Str} {tk : Tok} {v : Value} {e C : Addr} {fv : Array Value} {cl : ClassData}
/-- e.f = v where e has its dict, or none as yet: what the checks ahead of the store ask -/
theorem store_ahead {od : Option Obj} {oe : Obj} (inK : K.In g0) (J : W.InstAt g0 e oe C od) (hc : W.clsIn K C = some cl) (over : overA cl.mro = true) (free : W.findIn K (.ref C) f = some none)
    (go : wpAny (model P w) A.in1 (storeInOwnDict (.ref e) (.ref C) (.str f tk) f v false) (fun r z => match r with | .done u => R (.ok u) z | .again c => c.quiet = true ∧ codeAny (model P w) A c R z) (fun x z => R (.error x) z) ⟨g0, gs, dr, n, os⟩) :
    codeAny (model P w) A (.call (.builtin "object.__setattr__") ⟨[.ref e, .str f tk, v], []⟩) R ⟨g0, gs, dr, n, os⟩ := by
  have B := F.store_object
  have isObj : cl.mro.contains (.type "object") = true := (over_has "object" over).trans (by decide +kernel)
  have inst : W.Looks (model P w) g0 (isInstance (.ref e) (.type "object")) true :=
    J.type.andThen (W.looks_mroIn inK (by unfold W.mroIn; rw [hc, Option.bind_some, if_neg (by rw [over_some over]; decide), isObj]))
  refine codeAny_call_builtin B.slot.plain B.entry (@W.check_slot (model P w) _ _ ⟨g0, gs, dr, n, os⟩ "object.__setattr__" "object" "__setattr__" (.ref e) [.str f tk, v] [] _ B.kind B.split inst (B.args (.ref e) (.str f tk) v) ?_)
  have line : W.Looks (model P w) g0 (mroOf (.ref C)) cl.mro := (W.looks_clsIn inK hc).andThen .now
  have taker : W.Looks (model P w) g0 (storeTaker? none) none := .now
  rw [W.osa_eq, refuse_eq]
  refine wpAny_bind (wpAny_bind (J.type.at (wpAny_bind (line.at ?_))))
  rw [over_pass _ over]
  exact wpAny_pure (wpAny_bind (J.type.at (wpAny_bind ((W.looks_findIn inK free).at (wpAny_bind (taker.at go))))))
/-- the first field -/
theorem field_one (inK : K.In g0) (at_e : g0.get? e = some { cls := .ref C, data := .fields fv }) (hc : W.clsIn K C = some cl) (over : overA cl.mro = true) (own : cl.hasDict = true) (free : W.findIn K (.ref C) f = some none)
    (done : ∀ g1 n1 dx, (∀ b u, b ≠ e → g0.get? b = some u → g1.get? b = some u) → g0.objs.size ≤ dx → dx ≠ e → g1.get? e = some { cls := .ref C, dict := some dx, data := .fields fv } →
      g1.Ns1 dx (fun y => if y = f then some v else none) → R (.ok (.ret .none)) ⟨g1, gs, dr, n1, os⟩) :
    codeAny (model P w) A (.call (.builtin "object.__setattr__") ⟨[.ref e, .str f tk, v], []⟩) R ⟨g0, gs, dr, n, os⟩ := by
  refine store_ahead inK (oe := { cls := .ref C, data := .fields fv }) (od := none) ⟨at_e, rfl, rfl, trivial⟩ hc over free ?_
  have e_old : e ≠ g0.objs.size := Nat.ne_of_lt (Heap.lt_size at_e)
  have cld : W.Looks (model P w) g0 (classData C) cl := W.looks_clsIn inK hc
  obtain ⟨q1, q2, q3, q4, q5, q6, q7, q8, q9, q10, q11⟩ := cl
  dsimp only at own
  subst own
  unfold storeInOwnDict ownDictForStores
  repeat (first | with_reducible refine store_in_new ?_ ?_ | with_reducible refine wpAny_loadPart_at at_e ?_ | with_reducible refine cld.at ?_ | wp_step)
  · exact ⟨_, #[], _, (Heap.get?_update_ne _ _ _ _ e_old.symm).trans (Heap.get?_push_at rfl rfl), rfl, fun x hx => absurd hx (by simp), fun _ => rfl⟩
  · intro g1 n1 names same
    have at1 : (g0.push { cls := .type "dict", data := .dict #[] }).get? e = some { cls := .ref C, data := .fields fv } := Heap.get?_push_of_some _ at_e
    refine done g1 n1 g0.objs.size (fun b u hb hu => ?_) (Nat.le_refl _) e_old.symm ?_ names
    · exact (same.2 b (Nat.ne_of_lt (Heap.lt_size hu))).trans ((Heap.get?_update_ne _ _ _ _ hb).trans (Heap.get?_push_of_some _ hu))
    · exact (same.2 e e_old).trans (Heap.get?_update_self _ at1 rfl)
/-- a further field -/
theorem field_more {dx : Addr} {old : Str → Option Value} {ns : List Str} (inK : K.In g0) (at_e : g0.get? e = some { cls := .ref C, dict := some dx, data := .fields fv }) (nsd : g0.Ns1 dx old) (few : Within old ns) (many : ns.length ≤ 1000)
    (hc : W.clsIn K C = some cl) (over : overA cl.mro = true) (own : cl.hasDict = true) (free : W.findIn K (.ref C) f = some none)
    (done : ∀ g1 n1, (∀ b u, b ≠ dx → g0.get? b = some u → g1.get? b = some u) → g1.Ns1 dx (fun y => if y = f then some v else old y) → R (.ok (.ret .none)) ⟨g1, gs, dr, n1, os⟩) :
    codeAny (model P w) A (.call (.builtin "object.__setattr__") ⟨[.ref e, .str f tk, v], []⟩) R ⟨g0, gs, dr, n, os⟩ := by
  obtain ⟨oD, esD, epD, hoD, hdD, _⟩ := nsd.count few
  refine store_ahead inK (oe := { cls := .ref C, dict := some dx, data := .fields fv }) (od := some oD) ⟨at_e, rfl, rfl, hoD⟩ hc over free ?_
  have cld : W.Looks (model P w) g0 (classData C) cl := W.looks_clsIn inK hc
  obtain ⟨q1, q2, q3, q4, q5, q6, q7, q8, q9, q10, q11⟩ := cl
  dsimp only at own
  subst own
  unfold storeInOwnDict ownDictForStores
  repeat (first | with_reducible refine store_in_old nsd few many ?_ | with_reducible refine wpAny_loadPart_at at_e ?_ | with_reducible refine cld.at ?_ | wp_step)
  intro g1 n1 names same
  exact done g1 n1 (fun b u hb hu => (same.2 b hb).trans hu) names
end
end AX
end PySem

namespace L2
open PySem PySem.Spec PyProof.Rows PySem.AX
/-- what the text says of such a class -/
structure AeC (K : PySem.W.Frag) (C : Addr) : Prop where
  cls : ∃ nm q N bs bm sn sub ab col dd k0 k1 k2 k3 k5, K.lookup C = some (excClassObj nm q C N bs bm true sn sub ab col dd k0 k1 k2 k3 k5 "ArithmeticError.__new__") ∧ overA bm = true
  sa : PySem.W.findIn K (.ref C) "__setattr__" = some (some (.builtin "object.__setattr__"))
  ex : PySem.W.subIn K (.ref C) (.type "BaseException") = some true
  ty : PySem.W.typeIn K (.ref C) = some (.type "type")
  kp : PySem.W.keepIn K (.ref C) = true
theorem AeC.data {K : PySem.W.Frag} {C : Addr} (T : AeC K C) : ∃ cl : ClassData, PySem.W.clsIn K C = some cl ∧ overA cl.mro = true ∧ cl.hasDict = true := by
  obtain ⟨nm, q, N, bs, bm, sn, sub, ab, col, dd, k0, k1, k2, k3, k5, hC, over⟩ := T.cls
  refine ⟨{ name := nm, bases := bs, mro := .ref C :: bm, ns := N, qualname := q, hasDict := true, slotNames := sn, subclasses := sub, abstract := ab, collection := col, hasDel := false }, ?_, over, rfl⟩
  unfold PySem.W.clsIn
  rw [hC] <;> rfl
section
variable {X : Cx} {pins : List (Addr × Obj)} {σ : St} {H : Hp} {s : Shared} {e C dx : Addr} {f : Str} {y : V} {u : Value} {fs : List (Str × V)} {Q : Unit → Shared → Prop} {E : Value → Shared → Prop} {A : Around}
theorem set_one (T : AeC X.K C) (J : Inv X pins σ H s) (he : H e = some (exo e C none)) (free : PySem.W.findIn X.K (.ref C) f = some none) (ry : RelV y u)
    (go : ∀ dx s', H dx = none → dx ≠ e → Inv X pins σ (upd (upd H dx (exd dx [(f, y)])) e (exo e C (some dx))) s' → Q () s') : wpAny (model X.prog X.w) A (setAttr (.ref e) f u) Q E s := by
  obtain ⟨cl, hcl, over, own⟩ := T.data
  obtain ⟨t1, at_e⟩ := exo_at J.hok he
  obtain ⟨g0, gs, dr, n, os⟩ := s
  refine PySem.W.set_plain J.kIn (ox := { cls := .ref C, dict := none, data := .fields #[.ref t1, .none, .none, .none, .bool false, .none] }) (od := none) ⟨at_e, rfl, rfl, trivial⟩ T.sa (field_one J.kIn at_e hcl over own free fun g1 n1 dx old new ne at1 names => ?_)
  have dxH : H dx = none := J.hok.fresh new
  have off : ∀ {b : Addr} {o : Obj}, g0.get? b = some o → b ≠ dx := fun q => Nat.ne_of_lt (Nat.lt_of_lt_of_le (Heap.lt_size q) new)
  have offe : ∀ {b : Addr}, H b = none → b ≠ e := fun {b} q z => by
    rw [z, he] at q
    cases q
  -- what is tracked but for e stands as it stood
  have stands : ∀ {b : Addr} {o : HO}, H b = some o → b ≠ e → (upd (upd H dx (exd dx [(f, y)])) e (exo e C (some dx))) b = some o := fun {b o} q z => by
    rw [upd_ne z, upd_ne (ne_of_none q dxH)]
    exact q
  have un : Un X.fs [] H (upd (upd H dx (exd dx [(f, y)])) e (exo e C (some dx))) g0 g1 := {
    keep := fun b o q z _ _ => old b o (offe z) q
    slot := fun b o q z _ _ => ⟨o.slots, old b o (offe z) q⟩
    free := fun b o q z _ => by
      rw [upd_ne (offe z), upd_ne (off q)]
      exact z
    there := fun b o q _ => by
      by_cases hb : b = e
      · subst hb
        exact ⟨_, at1⟩
      · exact ⟨o, old b o hb q⟩
    tups := fun b vs q => stands q (at_ne he q exo_tup)
    frzs := fun b o v q => stands q (at_ne he q exo_frz)
    tbls := fun b ps q => ⟨#[], by rw [stands q (at_ne he q exo_tbl)]; simp⟩ }
  refine go dx _ dxH ne (J.un (t' := n1) un fun b o q => ?_)
  by_cases hb : b = e
  · rw [hb, upd_same] at q
    rw [hb, ← Option.some.inj q]
    exact exo_ok at1
  · rw [upd_ne hb] at q
    by_cases hd : b = dx
    · rw [hd, upd_same] at q
      rw [hd, ← Option.some.inj q]
      exact exd_ok names (relO_put (fs := []) ry fun _ => True.intro)
    · rw [upd_ne hd] at q
      have apart : ∀ {c : Addr}, (c = b ∨ H c = some (.own b)) → c ≠ e := fun {c} hc => by
        rcases hc with rfl | hc
        · exact hb
        · exact at_ne he hc exo_own
      exact (J.hok b o q).stay (fun c v hc z => old c v (apart hc) z) (fun c hc => stands hc (at_ne he hc exo_own)) (fun c vs hc => stands hc (at_ne he hc exo_tup))
theorem set_more (T : AeC X.K C) (J : Inv X pins σ H s) (he : H e = some (exo e C (some dx))) (hd : H dx = some (exd dx fs)) (few : fs.length ≤ 900) (free : PySem.W.findIn X.K (.ref C) f = some none) (ry : RelV y u)
    (go : ∀ s', Inv X pins σ (upd H dx (exd dx ((f, y) :: fs))) s' → Q () s') : wpAny (model X.prog X.w) A (setAttr (.ref e) f u) Q E s := by
  obtain ⟨cl, hcl, over, own⟩ := T.data
  obtain ⟨t1, at_e⟩ := exo_at J.hok he
  obtain ⟨mA, names, rel⟩ := exd_at J.hok hd
  have within := within_of rel
  obtain ⟨g0, gs, dr, n, os⟩ := s
  obtain ⟨oD, _, _, hoD, _, _⟩ := names.count within
  refine PySem.W.set_plain J.kIn (ox := { cls := .ref C, dict := some dx, data := .fields #[.ref t1, .none, .none, .none, .bool false, .none] }) (od := some oD) ⟨at_e, rfl, rfl, hoD⟩ T.sa
    (field_more J.kIn at_e names within (by rw [List.length_map]; omega) hcl over own free fun g1 n1 old names1 => ?_)
  obtain ⟨o1, _, _, there, _⟩ := id names1
  exact go _ (J.write (t' := n1) (x := dx) (e := dx) (o := exd dx ((f, y) :: fs)) (by rw [hd]; exact True.intro) (.inl rfl) old ⟨o1, there⟩ (exd_ok names1 (relO_put ry rel)))
/-- ArithmeticError.__init__(e, ..) of one that is being made -/
theorem init_over {us : List Value} {Q : Value → Shared → Prop} (T : AeC X.K C) (J : Inv X pins σ H s) (he : H e = some (exo e C none)) (hl : us.length ≤ sizeLine) (go : ∀ s', Inv X pins σ H s' → Q .none s') :
    wpAny (model X.prog X.w) A (call (.builtin "ArithmeticError.__init__") (.ref e :: us)) Q E s := by
  obtain ⟨nm, q, N, bs, bm, sn, sub, ab, col, dd, k0, k1, k2, k3, k5, hC, over⟩ := T.cls
  obtain ⟨t1, at_e⟩ := exo_at J.hok he
  obtain ⟨g0, gs, dr, n, os⟩ := s
  refine wpAny_call (PySem.HandSPX.init_base F.excBase_ArithmeticError (fun Y => over_has Y over) (J.kIn _ _ hC) at_e hl fun g1 t2 old at1 => ?_)
  have J1 := J.write (t' := n) (x := e) (e := e) (o := exo e C none) (by rw [he]; exact True.intro) (.inl rfl) old ⟨_, at1⟩ (exo_ok at1)
  rw [show upd H e (exo e C none) = H from funext fun b => if hb : b = e then by rw [hb, upd_same, he] else upd_ne hb] at J1
  exact go _ J1
end
/-! ### readings and rules -/
/-- L.__init__(self, text), L the class of the text above -/
def tSupI (K : PySem.W.Frag) (ta : TA) : TE := fun σ H Q => ta σ H fun vs H1 => ∃ (e C : Addr) (ws : List V), vs = .ref e :: ws ∧ ws.length ≤ 1000 ∧ AeC K C ∧ H1 e = some (exo e C none) ∧ Q .non H1
/-- self.f = y -/
def tFst (K : PySem.W.Frag) (f : Str) (to te : TE) : TS := fun D σ H => te σ H fun y H1 => to σ H1 fun x H2 => ∃ e C : Addr, x = .ref e ∧ AeC K C ∧ PySem.W.findIn K (.ref C) f = some none ∧
  ((H2 e = some (exo e C none) ∧ ∀ dx, H2 dx = none → dx ≠ e → D.nx σ (upd (upd H2 dx (exd dx [(f, y)])) e (exo e C (some dx)))) ∨
    ∃ (dx : Addr) (fs : List (Str × V)), H2 e = some (exo e C (some dx)) ∧ H2 dx = some (exd dx fs) ∧ fs.length ≤ 900 ∧ D.nx σ (upd H2 dx (exd dx ((f, y) :: fs))))
/-- what is asked of L to read L.__init__ -/
structure SupC (K : PySem.W.Frag) (L : Addr) (mc : Value) : Prop where
  rd : ClX.CRead K L mc
  at_ : PySem.W.findCls K (.ref L) mc "__init__" = some (.val (.builtin "ArithmeticError.__init__"))
section
variable {X : Cx} {o e : Expr} {es : List Expr} {to te : TE} {ta : TA} {f x : Str} {p p' p1 p2 pos : Pos} {L : Addr} {mc : Value}
theorem pe_supinit {pl : Sem Bool} (S : SupC X.K L mc) (hm : X.mg x = some (.ref L)) (ha : PA X (e :: es) ta) (hg : Gl X x := by rfl) (hdb : (x == ("__debug__" : Str)) = false := by decide)
    (hc : eval (.Call (.Attribute (.Name x p1) "__init__" p2) (e :: es) [] pos) X.env = (do
      let ov ← eval (.Name x p1) X.env
      standAt p2.atName
      let (f, first) ← holding [ov] (getMethod ov "__init__" pl)
      callWith pos f first (backTo pos (starEach (e :: es) X.env)) (backToKw pos (keywordEach [] X.env))) := by rfl)
    (he : starEach (e :: es) X.env = (false, eval e X.env) :: starEach es X.env := by rfl) (hpl : (backTo pos (starEach es X.env)).any (·.1) = false := by rfl) :
    PE X (.Call (.Attribute (.Name x p1) "__init__" p2) (e :: es) [] pos) (tSupI X.K ta) := by
  refine ⟨fun pins s σ H Q J h => PySem.W.methodCall_KW (ld_glob J hg hm (PySem.W.method_cls J.kIn S.rd.ga (PySem.W.cls_value J.kIn S.rd.rd S.at_ rfl ?_)) hdb) hc⟩
  refine PyProof.Rows.callWith_method1 (thn (ha.run pos pins _ σ H _ (J.tok _) h) fun us s1 ⟨vs, H1, J1, r1, er, C, ws, ev, hl, T, at_e, q⟩ => ?_) he hpl
  subst ev
  cases r1 with
  | @cons _ u0 _ ur ra rest =>
    obtain rfl : u0 = Value.ref er := ra
    exact init_over T J1 at_e (by rw [← Paired.length rest, sizeLine_eq]; omega) fun s' J2 => ⟨.non, H1, J2, rfl, q⟩
theorem ps_field (ho : PE X o to) (he : PE X e te) (hs : swapsWith e (some (.Attribute o f p')) pos.line X.env = pure false := by rfl) : PS X (.Assign [.Attribute o f p'] e pos) (tFst X.K f to te) := by
  refine ⟨fun pins s σ H D J h => plainObj_wpAny_Assign_Attribute (thn (he.run pins s σ H _ J h) fun v s1 ⟨y, H1, J1, r1, q1⟩ => thn (ho.run pins s1 σ H1 _ J1 q1) fun u s2 hu => ?_) hs⟩
  obtain ⟨x, H2, J2, r2, er, C, rfl, T, free, q⟩ := hu
  obtain rfl : u = Value.ref er := r2
  rcases q with ⟨at_e, q⟩ | ⟨dx, fs, at_e, at_d, few, q⟩
  · exact set_one T J2 at_e free r1 fun dx s' n ne J3 => ⟨σ, _, J3, q dx n ne⟩
  · exact set_more T J2 at_e at_d few free r1 fun s' J3 => ⟨σ, _, J3, q⟩
/-- C(e, ..), to be raised -/
theorem pmk_over {CX : CXT} {C fI : Addr} {k : Nat} {fd : FuncData} {ps : List Str} {sp : Sp} (T : AeC X.K C) (at_i : PySem.W.findIn X.K (.ref C) "__init__" = some (some (.ref fI))) (ty_i : PySem.W.typeIn X.K (.ref fI) = some (.type "function"))
    (G : FnOk X.prog X.w X.K X.mg X.base CX k fI fd ps sp) (hr : Room (k + 1) X.A) (hb : Binds X.K fd ps []) (hx : Passes CX X (fun _ _ _ => False)) (hm : X.mg x = some (.ref C)) (ha : PA X (e :: es) ta) (hg : Gl X x := by rfl)
    (hdb : (x == ("__debug__" : Str)) = false := by decide) (he : starEach (e :: es) X.env = (false, eval e X.env) :: starEach es X.env := by rfl) (hpl : (backTo pos (starEach es X.env)).any (·.1) = false := by rfl) :
    PMk X (.Call (.Name x p) (e :: es) [] pos) (tMkO C sp [] ta) := by
  intro pins s σ H Q J h
  obtain ⟨nm, q, N, bs, bm, sn, sub, ab, col, dd, k0, k1, k2, k3, k5, hC, over⟩ := T.cls
  refine wpAny_Call_Name_kw (ld_glob J hg hm (PySem.W.callWith_K (h₀ := X.base) J.ok.mod.kin T.kp (thn (ha.run pos pins s σ H _ J h) fun us s1 ⟨vs, H1, J1, r1, few, q1⟩ => ⟨J1.kIn, ?_⟩) he hpl) hdb)
  obtain ⟨g0, gs, dr, tk, os⟩ := s1
  have nextE : g0.objs.size ≤ g0.objs.size + 1 := Nat.le_succ _
  have noE : H1 (g0.objs.size + 1) = none := J1.hok.fresh nextE
  have ask := q1 (g0.objs.size + 1) noE
  have old : ∀ b o, g0.get? b = some o → ((g0.push (PySem.W.kdv_tup us)).push (PySem.HandSPX.excO C g0.objs.size)).get? b = some o := fun b o z => Heap.get?_push_of_some _ (Heap.get?_push_of_some _ z)
  have at_e : ((g0.push (PySem.W.kdv_tup us)).push (PySem.HandSPX.excO C g0.objs.size)).get? (g0.objs.size + 1) = some (PySem.HandSPX.excO C g0.objs.size) := by heap_get
  have J2 : Inv X pins σ (upd H1 (g0.objs.size + 1) (exo (g0.objs.size + 1) C none)) ⟨(g0.push (PySem.W.kdv_tup us)).push (PySem.HandSPX.excO C g0.objs.size), gs, dr, tk, os⟩ := J1.laid (t' := tk) old nextE (exo_ok at_e)
  rw [List.append_nil] at ask
  have r2 : Vals (V.ref (g0.objs.size + 1) :: vs) (Value.ref (g0.objs.size + 1) :: us) := .cons rfl r1
  have n_us : (Value.ref (g0.objs.size + 1) :: us).length = ps.length := r2.length.symm.trans (G.len _ _ _ _ ask)
  have us_few : us.length ≤ sizeLine := by
    rw [← Paired.length r1, sizeLine_eq]
    omega
  have bound := hb _ (Value.ref (g0.objs.size + 1) :: us) J2.kIn (by rw [List.append_nil]; exact n_us)
  rw [List.append_nil] at bound
  refine wpAny_call (PySem.HandSPX.call_own F.excBase_ArithmeticError (fun Y => over_has Y over) (J1.kIn _ _ hC) (PySem.W.looks_findIn J1.kIn at_i) (fun self => PySem.W.bind_fn J1.kIn self ty_i) us_few
    (codeAny_mono (G.run _ X.stack _ _ ⟨Value.ref (g0.objs.size + 1) :: us, []⟩ (Value.ref (g0.objs.size + 1) :: us) _ _ (fun _ _ _ => False) (hr.make C us []) (J2.env0.make C us []) bound r2 ask) fun r s' z => ?_))
  cases r with
  | error er => exact hx pins σ _ _ er s' J2 z
  | ok fl =>
    cases fl with
    | next => exact z.elim
    | brk => exact z.elim
    | cont => exact z.elim
    | ret u =>
      obtain ⟨v, H2, os2, bare2, un2, hok2, rv, ev, d, fs, ea, ed, free_d, q2⟩ := z
      subst ev
      obtain ⟨g2, gs2, dr2, tk2, os'⟩ := s'
      exact ⟨rv, mk_end (raises_own T.ex T.ty) J1 nextE old un2 hok2 os2 bare2 ea ed free_d q2⟩
end
end L2

/-! Caught errors that have fields; lambdas handed to a def; defs that raise. -/
namespace PySem.W
open PySem PySem.Spec PySem.Calls PyProof.Rows
section
variable {prog : Program} {w : World} {A : Around} {E : Value → Shared → Prop} {K : Frag} {s : Shared} {x D : Addr} {ox : Obj} {od : Option Obj}
theorem find_dataO {C : Addr} {name : Str} {a g : Value} (hc : (clsIn K C).isSome = true) (ha : findIn K (.ref C) name = some (some a)) (hg : specialIn K a "__get__" = some (some g)) (ht : takesIn K a = some true) : findObj K C od name = some (.bind g a) := by
  obtain ⟨cd, e⟩ := Option.isSome_iff_exists.mp hc
  unfold findObj
  rw [e, Option.bind_some, ha, Option.bind_some]
  simp only [hg, ht, Option.bind_some]
/-- x.__class__ of an error that may have a dict -/
theorem classE {Q : Option Value → Shared → Prop} (ga : findIn K (.ref D) "__getattribute__" = some (some (.builtin "BaseException.__getattribute__"))) (gg : findIn K (.ref D) "__getattr__" = some none) (isE : subIn K (.ref D) (.type "BaseException") = some true)
    (hasD : hasDictIn K D = true) (atC : findIn K (.ref D) "__class__" = some (some (.builtin "object.__class__"))) (getC : specialIn K (.builtin "object.__class__") "__get__" = some (some (.builtin "getset_descriptor.__get__")))
    (takC : takesIn K (.builtin "object.__class__") = some true) (objD : mroIn K D (.type "object") = some true) (inK : K.In s.heap) (J : InstAt s.heap x ox D od) (go : Q (some (.ref D)) { s with toks := s.toks + 1 }) :
    wpAny (model prog w) A (getAttr? (.ref x) "__class__") Q E s := by
  have hf : findObj K D od "__class__" = some (.bind (.builtin "getset_descriptor.__get__") (.builtin "object.__class__")) := find_dataO (by obtain ⟨cd, hc, _⟩ := any_some hasD; rw [hc]; rfl) atC getC takC
  obtain ⟨g0, gs, dr, n, os⟩ := s
  have T0 := J.type (M := model prog w)
  have T1 := looks_findIn (M := model prog w) inK ga
  have T2 := looks_findIn (M := model prog w) inK gg
  have T3 := looks_find (M := model prog w) inK J hf
  have over : Looks (model prog w) g0 (isInstance (.ref x) (.type "BaseException")) true := T0.andThen (looks_subIn inK isE)
  have no : (Value.builtin "BaseException.__getattribute__" == Value.builtin "object.__getattribute__") = false := by decide +kernel
  unfold getAttr? getAttrBy? getAttrBy
  refine wpAny_bind (wpAny_mkText (wpAny_bind (wpAny_attempt (wpAny_holding (wpAny_bind (T0.at (wpAny_bind (T1.at ?_))))))))
  show wpAny _ _ (if (onTheHeap (Value.ref D) && Value.builtin "BaseException.__getattribute__" == Value.builtin "object.__getattribute__") = true then _ else _) _ _ _
  rw [no, Bool.and_false, if_neg Bool.false_ne_true]
  unfold getAttrByItsOwn hookBefore
  refine wpAny_bind ?_
  rw [if_pos (show onTheHeap (Value.ref D) = true from rfl)]
  refine T2.at (wpAny_bind (wpAny_attempt (wpAny_holding ?_)))
  unfold callGetattribute
  rw [show (false && onTheHeap (Value.builtin "BaseException.__getattribute__")) = false from rfl, if_neg Bool.false_ne_true]
  unfold boundAndCalled
  rw [PySem.F.excAttr_ValueError.ga.bind (.ref x)]
  refine wpAny_bind (wpAny_pure ?_)
  show wpAny _ _ (call (.builtin "BaseException.__getattribute__") [.ref x, .str "__class__" n]) _ _ _
  refine wpAny_call (codeAny_call_builtin PySem.F.excAttr_ValueError.ga.plain PySem.F.entry_bexc_ga ?_)
  refine @check_slot (model prog w) _ _ ⟨g0, gs, dr, n + 1, os⟩ "BaseException.__getattribute__" "BaseException" "__getattribute__" (.ref x) [.str "__class__" n] [] _ (by decide +kernel) (by decide +kernel) over (PySem.F.args_bexc_ga (.ref x) (.str "__class__" n)) ?_
  unfold Builtin.«object.__getattribute__»
  refine wpAny_bind (wpAny_of_eq (a := ((Value.ref x : Value), [Value.str "__class__" n])) (by first | rfl | (simp only [slotArgs]; rfl)) ?_)
  refine wpAny_bind (wpAny_pure (wpAny_bind (T0.at (wpAny_bind (T3.at ?_)))))
  show wpAny _ _ (holding [Value.builtin "object.__class__"] (call (.builtin "getset_descriptor.__get__") [.builtin "object.__class__", .ref x, .ref D]) >>= ret) _ _ _
  refine wpAny_bind (wpAny_holding (wpAny_call (class_get (s := ⟨g0, gs, dr, n + 1, os⟩) (ox := ox) (od := od) inK J objD (wpAny_pure ?_))))
  show wpAny _ _ (handedOut (.ref D)) _ _ _
  rw [handedOut_of (v := .ref D) rfl]
  first | exact wpAny_pure (wpAny_pure go) | exact wpAny_pure go | exact wpAny_pure (wpAny_bind (wpAny_pure (wpAny_pure go)))
theorem kitE (ga : findIn K (.ref D) "__getattribute__" = some (some (.builtin "BaseException.__getattribute__"))) (gg : findIn K (.ref D) "__getattr__" = some none) (isE : subIn K (.ref D) (.type "BaseException") = some true) (hasD : hasDictIn K D = true)
    (atC : findIn K (.ref D) "__class__" = some (some (.builtin "object.__class__"))) (getC : specialIn K (.builtin "object.__class__") "__get__" = some (some (.builtin "getset_descriptor.__get__"))) (takC : takesIn K (.builtin "object.__class__") = some true)
    (objD : mroIn K D (.type "object") = some true) : KitX K (.ref x) (.ref D) (fun h => InstAt h x ox D od) := by
  have lk : ∃ o' c' cd sl, K.lookup D = some ⟨o', c', .cls cd, sl⟩ := by
    obtain ⟨cd, hc, _⟩ := any_some hasD
    unfold clsIn at hc
    split at hc
    · exact ⟨_, _, _, _, by assumption⟩
    · cases hc
  obtain ⟨o', c', cd, sl, lk⟩ := lk
  exact {
    ty := fun _ _ _ J => J.type
    it := fun _ _ inK _ => by
      intro A' Q' E' s' k q
      unfold isType loadHead
      exact wpAny_bind (wpAny_loadPart (k _ _ (inK _ _ lk)) (wpAny_pure q))
    ne := fun h tp dd its n sl inK htp => Bool.eq_false_iff.mpr fun q => by
      obtain rfl : D = tp := Value.ref.inj (beq_iff_eq.mp q)
      have z := (inK _ _ lk).symm.trans htp
      cases z
    ca := fun inK J k => classE ga gg isE hasD atC getC takC objD inK J k }
end
end PySem.W

namespace L2
open PySem PySem.Spec PyProof.Rows
/-- isinstance(e, c), e the error that the suite holds, with its fields at dd -/
def rIsF (K : PySem.W.Frag) (cls : Value) (d : Option Addr) (a : Addr) : List V → Hp → VK → Prop := fun xs H Q =>
  ∃ (D dd : Addr) (fs : List (Str × V)) (c : V) (cv : Value) (b : Bool), cls = .ref D ∧ d = some dd ∧ ExcC K D ∧ H dd = some (.xd fs) ∧ xs = [.ref a, c] ∧ (∀ u, RelV c u → u = cv) ∧ PySem.W.kitOne K (.ref D) cv = some b ∧ Q (.bl b) H
theorem call_isF {X : Cx} {a : Addr} {cls : Value} {d : Option Addr} {oe : Obj} {pn : List (Addr × Obj)} (hz : Zc cls d oe) (hf : ∃ vs, oe.data = .fields vs) : CallR (X.suite a ((a, oe) :: pn)) (.builtin "isinstance") (rIsF X.K cls d a) := by
  intro pins s σ H xs us Q J r h
  obtain ⟨D, dd, fs, c, cv, b, rfl, rfl, C, hd, rfl, hcv, k, q⟩ := h
  cases r with
  | cons rx rr =>
    cases rr with
    | cons rt rr =>
      cases rr
      cases rx
      obtain rfl := hcv _ rt
      obtain ⟨at_a, _⟩ := J.pin (a, oe) (List.mem_append.mpr (.inl List.mem_cons_self))
      obtain ⟨mA, names, _⟩ := (show ObjOk X.prog X.w H s.heap dd (.xd fs) from J.hok dd _ hd)
      obtain ⟨od, at_d, _⟩ := lookIn_ns names
      obtain ⟨vs, hv⟩ := hf
      have I0 : PySem.W.InstAt s.heap a oe D (some od) := ⟨at_a, hz.1, by unfold PySem.W.notCls; rw [hv] <;> rfl, by rw [hz.2]; exact at_d⟩
      exact PySem.W.kia_one (PySem.W.kitE C.hg C.hk C.hs C.hd C.ha C.hn C.ht C.hm) J.kIn I0 k (fun z => nomatch z) fun tk => ⟨.bl b, H, J.kept (t' := tk) fun _ _ z => z, rfl, q⟩
/-- xs.count(True), xs a list of bools -/
def eqT : Value → Bool
  | .bool b => b
  | _ => false
theorem bools_count : ∀ {bs : List Bool} {its : List Value}, Vals (bs.map V.bl) its → its.countP eqT = bs.count true
  | [], _, h => by cases h; rfl
  | b :: bs, _, h => by
    cases h with
    | cons h1 h2 =>
      cases h1
      rw [List.countP_cons, bools_count h2, List.count_cons]
      cases b <;> rfl
theorem bools_mem : ∀ {bs : List Bool} {its : List Value}, Vals (bs.map V.bl) its → ∀ y ∈ its, ∃ b, y = .bool b
  | [], _, h, y, hy => by
    cases h
    cases hy
  | b :: bs, _, h, y, hy => by
    cases h with
    | cons h1 h2 =>
      rcases List.mem_cons.mp hy with rfl | hy
      · exact ⟨b, h1⟩
      · exact bools_mem h2 y hy
theorem mt_countT {X : Cx} : MtR X "list.count" (fun x xs H Q => ∃ (p : Addr) (bs : List Bool), x = .ref p ∧ xs = [.bl true] ∧ SqL X.K H p (bs.map V.bl) ∧ Q (.int (bs.count true : Nat)) H) := by
  intro pins s σ H x xs v us Q J r rs h
  obtain ⟨p, bs, rfl, rfl, hs, q⟩ := h
  cases r
  obtain ⟨u, rfl, ru⟩ := rs.one
  cases ru
  obtain ⟨its, rv, ⟨⟨cls, dd, data, sl⟩, n, ho, hc, hdn, hd⟩, hlen⟩ := J.list hs
  simp only at hc hd
  subst hc hd
  refine call_meets PySem.F.slot_list_count ⟨_, ho, rfl⟩ PySem.F.entry_list_count (PySem.F.args_list_count_2 _ _)
    (SeqAt.list_countAt p its.toArray n dd sl (.bool true) eqT) ⟨ho, fun y hy => ?_, ?_⟩
  · obtain ⟨b, rfl⟩ := bools_mem rv y (by simpa using hy)
    have z := SeqAt.EqAt.bool_bool (A := X.A.in1) (s := s) b true
    rw [show (b == true) = eqT (.bool b) by cases b <;> rfl] at z
    exact z
  · have ec : its.toArray.toList.countP eqT = bs.count true := by rw [List.toList_toArray]; exact bools_count rv
    refine ⟨.int (bs.count true : Nat), H, J.tok _, ⟨s.toks, ?_⟩, q⟩
    show Value.int ((its.toArray.toList.countP eqT : Nat) : Int) s.toks = _
    rw [ec]
end L2
namespace L2
open PySem PySem.Spec PyProof.Rows LamX
theorem kany_yes {K : PySem.W.Frag} {t c : Value} {r : List Value} (h : PySem.W.kitOne K t c = some true) : PySem.W.kitAny K t (c :: r) = some true := by
  unfold PySem.W.kitAny
  rw [h]
theorem kany_no {K : PySem.W.Frag} {t c : Value} {r : List Value} {b : Option Bool} (h : PySem.W.kitOne K t c = some false) (h2 : PySem.W.kitAny K t r = b) : PySem.W.kitAny K t (c :: r) = b := by
  unfold PySem.W.kitAny
  rw [h]
  exact h2
/-! ### defs that raise -/
structure DefOkX (P : Program) (w : World) (K : PySem.W.Frag) (mg : Str → Option Value) (base : Heap) (x : Str) (st : Stmt) (ps : List Str) (k : Nat) (sp : Sp) : Prop where
  ex : ∃ f fd, mg x = some (.ref f) ∧ Fun K x x st f fd ∧ Binds K fd ps [] ∧ FnOk P w K mg base (L2.CX P w) k f fd ps sp
section
variable {P : Program} {w : World} {K : PySem.W.Frag} {mg : Str → Option Value} {base : Heap}
theorem TopDef.okX {x : Str} {st : Stmt} {N ps : List Str} {k : Nat} {sp : Sp} (T : TopDef K mg x st ps) (S : FnScope N ps (defScope st)) (len : ∀ vs H Q E, sp vs H Q E → vs.length = ps.length)
    (hbody : ∀ (f : Addr) (cdv : Value) (A : Around) (outer : List Env) (s : Shared) (H : Hp) (vs : List V) (Q : VK) (E : XK), Room k (A.deeper (envOfC x (defScope st) s.heap.objs.size f cdv)) → sp vs H Q E →
      ∃ t, PSs (cxOf (L2.CX P w) P w K mg base N x (defScope st) f cdv A outer s H E) (defBody st) t ∧ t { nx := fun _ H' => Q .non H', rt := Q } (start N vs) H) : DefOkX P w K mg base x st ps (k + 1) sp := by
  obtain ⟨f, fd, hm, F, hb⟩ := T.ex
  exact ⟨f, fd, hm, F, hb, F.okX S len (hbody f)⟩
end
section
variable {X : Cx} {x : Str} {st : Stmt} {ps : List Str} {k : Nat} {sp : Sp} {e : Expr} {es : List Expr} {t : TA} {p pos : Pos} {E : XK} {W : WX}
/-- a call of a def that may raise; what it raises is wished for by E -/
theorem pe_callX (D : DefOkX X.prog X.w X.K X.mg X.base x st ps k sp) (hr : Room k X.A) (tk : Takes X W) (hW : ∀ cls d σ H, E cls d H → W cls d σ H) (ha : PA X (e :: es) t) (hg : Gl X x := by rfl)
    (hdb : (x == ("__debug__" : Str)) = false := by decide) (he : starEach (e :: es) X.env = (false, eval e X.env) :: starEach es X.env := by rfl) (hpl : (backTo pos (starEach es X.env)).any (·.1) = false := by rfl) :
    PE X (.Call (.Name x p) (e :: es) [] pos) (tCall sp [] E t) := by
  obtain ⟨f, fd, hm, hk, hb, F⟩ := D.ex
  exact pe_call F hr hg hm hk.kp hb .nil (passes_call tk hW) ha hdb he hpl
/-- .. that raises nothing here -/
theorem pe_callX0 (D : DefOkX X.prog X.w X.K X.mg X.base x st ps k sp) (hr : Room k X.A) (ha : PA X (e :: es) t) (hg : Gl X x := by rfl)
    (hdb : (x == ("__debug__" : Str)) = false := by decide) (he : starEach (e :: es) X.env = (false, eval e X.env) :: starEach es X.env := by rfl) (hpl : (backTo pos (starEach es X.env)).any (·.1) = false := by rfl) :
    PE X (.Call (.Name x p) (e :: es) [] pos) (tCall sp [] E0 t) := by
  obtain ⟨f, fd, hm, hk, hb, F⟩ := D.ex
  exact pe_call F hr hg hm hk.kp hb .nil passL ha hdb he hpl
end
/-! ### error classes of the text -/
structure ErrDef (K : PySem.W.Frag) (mg : Str → Option Value) (x q : Str) (C : Addr) (st : Stmt) (ps : List Str) : Prop where
  g : mg x = some (.ref C)
  ae : AeC K C
  init : ∃ f fd, PySem.W.findIn K (.ref C) "__init__" = some (some (.ref f)) ∧ PySem.W.typeIn K (.ref f) = some (.type "function") ∧ Fun K "__init__" q st f fd ∧ Binds K fd ps []
/-- its __init__ keeps sp -/
structure ErrOk (P : Program) (w : World) (K : PySem.W.Frag) (mg : Str → Option Value) (base : Heap) (x : Str) (C : Addr) (ps : List Str) (k : Nat) (sp : Sp) : Prop where
  g : mg x = some (.ref C)
  ae : AeC K C
  ex : ∃ f fd, PySem.W.findIn K (.ref C) "__init__" = some (some (.ref f)) ∧ PySem.W.typeIn K (.ref f) = some (.type "function") ∧ Binds K fd ps [] ∧ FnOk P w K mg base CX0 k f fd ps sp
theorem ErrDef.ok {P : Program} {w : World} {K : PySem.W.Frag} {mg : Str → Option Value} {base : Heap} {x q : Str} {C : Addr} {st : Stmt} {N ps : List Str} {k : Nat} {sp : Sp} (T : ErrDef K mg x q C st ps) (S : FnScope N ps (defScope st)) (len : ∀ vs H Q E, sp vs H Q E → vs.length = ps.length)
    (hbody : ∀ (f : Addr) (cdv : Value) (A : Around) (outer : List Env) (s : Shared) (H : Hp) (vs : List V) (Q : VK) (E : XK), Room k (A.deeper (envOfC q (defScope st) s.heap.objs.size f cdv)) → sp vs H Q E →
      ∃ t, PSs (cxOf CX0 P w K mg base N q (defScope st) f cdv A outer s H E).nox (defBody st) t ∧ t { nx := fun _ H' => Q .non H', rt := Q } (start N vs) H) : ErrOk P w K mg base x C ps (k + 1) sp := by
  obtain ⟨f, fd, h1, h2, F, hb⟩ := T.init
  exact ⟨T.g, T.ae, f, fd, h1, h2, hb, F.ok S len (hbody f)⟩
theorem pmk_err {X : Cx} {x : Str} {C : Addr} {ps : List Str} {k : Nat} {sp : Sp} {e : Expr} {es : List Expr} {ta : TA} {p pos : Pos} (D : ErrOk X.prog X.w X.K X.mg X.base x C ps k sp) (hr : Room (k + 1) X.A) (ha : PA X (e :: es) ta) (hg : Gl X x := by rfl)
    (hdb : (x == ("__debug__" : Str)) = false := by decide) (he : starEach (e :: es) X.env = (false, eval e X.env) :: starEach es X.env := by rfl) (hpl : (backTo pos (starEach es X.env)).any (·.1) = false := by rfl) :
    PMk X (.Call (.Name x p) (e :: es) [] pos) (tMkO C sp [] ta) := by
  obtain ⟨f, fd, h1, h2, hb, F⟩ := D.ex
  exact pmk_over D.ae h1 h2 F hr hb pass0 D.g ha hg hdb he hpl
/-- what a made error leaves: its fields at d; what was there stands -/
def made1 (C e : Addr) (f : Str) (v : V) (H : Hp) (Q : VK) : Prop := ∀ (H1 : Hp) (d : Addr), Same H H1 → H1 d = none → d ≠ e → Q .non (upd (upd H1 d (exd d [(f, v)])) e (exo e C (some d)))
def spErr1 (C : Addr) (f : Str) (ok : V → Prop) : Sp := fun vs H Q _ => ∃ (e : Addr) (v : V), vs = [.ref e, v] ∧ H e = some (exo e C none) ∧ ok v ∧ made1 C e f v H Q
def spErr2 (C : Addr) (f g : Str) (ok : V → Prop) : Sp := fun vs H Q _ => ∃ (e : Addr) (u v : V), vs = [.ref e, u, v] ∧ H e = some (exo e C none) ∧ ok u ∧ ok v ∧
  ∀ (H1 : Hp) (d : Addr), Same H H1 → H1 d = none → d ≠ e → Q .non (upd (upd H1 d (exd d [(g, v), (f, u)])) e (exo e C (some d)))
theorem exo_new {H : Hp} {e : Addr} {o : HO} (h : H e = none) : Same H (upd H e o) := fun b u q => by rw [upd_ne (ne_of_none q h)]; exact q
/-- the reading of raise C(v) -/
theorem raise_core {C e d : Addr} {fs : List (Str × V)} {H H1 : Hp} (he : H e = none) (s : Same (upd H e (exo e C none)) H1) (hd : H1 d = none) (ne : d ≠ e) :
    Same H (upd (del (upd (upd H1 d (exd d fs)) e (exo e C (some d))) e) d (.xd fs)) ∧ H d = none ∧ (upd (del (upd (upd H1 d (exd d fs)) e (exo e C (some d))) e) d (.xd fs)) d = some (.xd fs) := by
  have free : H d = none := by
    cases q : H d with
    | none => rfl
    | some o =>
      have := s d o (by rw [upd_ne ne]; exact q)
      rw [hd] at this
      cases this
  refine ⟨fun b o q => ?_, free, upd_same⟩
  have hb : b ≠ e := ne_of_none q he
  have hbd : b ≠ d := ne_of_none q free
  rw [upd_ne hbd, del_ne hb, upd_ne hb, upd_ne hbd]
  exact s b o (by rw [upd_ne hb]; exact q)
theorem raise1 {C e : Addr} {f : Str} {ok : V → Prop} {v : V} {H : Hp} {R : Value → Option Addr → Hp → Prop} {E : XK} (he : H e = none) (hv : ok v) (k : ∀ (d : Addr) (H' : Hp), Same H H' → H d = none → H' d = some (.xd [(f, v)]) → R (.ref C) (some d) H') :
    spErr1 C f ok [.ref e, v] (upd H e (exo e C none)) (fun w H2 => w = .non ∧ ∃ (d : Addr) (fs : List (Str × V)), H2 e = some (exo e C (some d)) ∧ H2 d = some (exd d fs) ∧ H d = none ∧ R (.ref C) (some d) (upd (del H2 e) d (.xd fs))) E := by
  refine ⟨e, v, rfl, upd_same, hv, fun H1 d s hd ne => ⟨rfl, d, [(f, v)], upd_same, by rw [upd_ne ne]; exact upd_same, ?_⟩⟩
  obtain ⟨a, b, c⟩ := raise_core (fs := [(f, v)]) he s hd ne
  exact ⟨b, k d _ a b c⟩
theorem raise2 {C e : Addr} {f g : Str} {ok : V → Prop} {u v : V} {H : Hp} {R : Value → Option Addr → Hp → Prop} {E : XK} (he : H e = none) (hu : ok u) (hv : ok v) (k : ∀ (d : Addr) (H' : Hp), Same H H' → H d = none → H' d = some (.xd [(g, v), (f, u)]) → R (.ref C) (some d) H') :
    spErr2 C f g ok [.ref e, u, v] (upd H e (exo e C none)) (fun w H2 => w = .non ∧ ∃ (d : Addr) (fs : List (Str × V)), H2 e = some (exo e C (some d)) ∧ H2 d = some (exd d fs) ∧ H d = none ∧ R (.ref C) (some d) (upd (del H2 e) d (.xd fs))) E := by
  refine ⟨e, u, v, rfl, upd_same, hu, hv, fun H1 d s hd ne => ⟨rfl, d, [(g, v), (f, u)], upd_same, by rw [upd_ne ne]; exact upd_same, ?_⟩⟩
  obtain ⟨a, b, c⟩ := raise_core (fs := [(g, v), (f, u)]) he s hd ne
  exact ⟨b, k d _ a b c⟩
/-- a text or a number that is not too great: it can be shown -/
def Shows (v : V) : Prop := (∃ z : Str, v = .str z ∧ z.length ≤ 1000) ∨ ∃ i : Int, v = .int i ∧ i.natAbs < 2 ^ 64 ∧ (toString i : Str).length ≤ 1000
/-! ### a law's def whose code object is known -/
structure LawDef (K : PySem.W.Frag) (mg : Str → Option Value) (x : Str) (st : Stmt) (ps : List Str) (c P : Addr) : Prop where
  ex : ∃ f fd, mg x = some (.ref f) ∧ Fun K x x st f fd ∧ Binds K fd ps [] ∧ fd.code = .ref c
  code : PySem.W.codeHdIn K c P = true
  no : K.lookup P = none
theorem Fun.okC {P : Program} {w : World} {K : PySem.W.Frag} {mg : Str → Option Value} {base : Heap} {x q : Str} {st : Stmt} {f c : Addr} {fd : FuncData} {N ps : List Str} {k : Nat} {sp : Sp} (F : Fun K x q st f fd) (hc : fd.code = .ref c) (S : FnScope N ps (defScope st)) (len : ∀ vs H Q E, sp vs H Q E → vs.length = ps.length)
    (hbody : ∀ (A : Around) (outer : List Env) (s : Shared) (H : Hp) (vs : List V) (Q : VK) (E : XK), Room k (A.deeper (envOfC q (defScope st) s.heap.objs.size f (.ref c))) → sp vs H Q E →
      ∃ t, PSs (cxOf CX0 P w K mg base N q (defScope st) f (.ref c) A outer s H E).nox (defBody st) t ∧ t { nx := fun _ H' => Q .non H', rt := Q } (start N vs) H) : FnOk P w K mg base CX0 (k + 1) f fd ps sp := by
  obtain ⟨oc, od, kV, doc, pm, an, cdv, ct, osl, rfl, lk, hcd⟩ := F.ex
  obtain rfl : cdv = .ref c := hc
  exact fn_of lk hcd S len fun A outer s H vs Q E hr hsp => by
    obtain ⟨t, h, z⟩ := hbody A outer s H vs Q E hr hsp
    exact ⟨t, h.nox, z⟩
/-- the slots are as many as the names -/
theorem Takes.len {X : Cx} {W : WX} (tk : Takes X W) : Takes X (fun cls d σ H => σ.length = X.N.length → W cls d σ H) := fun u s' ⟨a, B, sI, pins, σ, H, cls, d, e, I, nb, up, sky, na, os, ag, w⟩ => tk u s' ⟨a, B, sI, pins, σ, H, cls, d, e, I, nb, up, sky, na, os, ag, w I.len⟩
/-- a method of a built-in type, the written part named -/
theorem pe_bmK {X : Cx} {K : PySem.W.Frag} {T id : String} {name : Str} {r : V → List V → Hp → VK → Prop} {o e : Expr} {es : List Expr} {to : TE} {t : TA} {apos cpos : Pos} (pa : PlainAttrs T) (slot : Slot T name id) (hty : typeOf (.builtin id) = pure (.type "method_descriptor")) (hm : MtR X id r) (ho : PE X o to) (ha : PA X (e :: es) t)
    (hK : X.K = K := by rfl) (hbase : attributeBase o name X.env (eval o X.env) = eval o X.env := by rfl)
    (few : ((backTo cpos (starEach (e :: es) X.env)).all (fun x => !x.1) && (backToKw cpos (keywordEach [] X.env)).all (fun x => x.1.isSome) && decide ((e :: es).length + ([] : List Keyword).length + (if ([] : List Keyword).isEmpty then 0 else 1) < 30)) = true := by rfl)
    (one : (apos.endLine == cpos.line) = true := by rfl) (he : starEach (e :: es) X.env = (false, eval e X.env) :: starEach es X.env := by rfl) (pl : (backTo cpos (starEach es X.env)).any (·.1) = false := by rfl) :
    PE X (.Call (.Attribute o name apos) (e :: es) [] cpos) (tBM K T r to t) := by
  subst hK
  exact pe_bm pa slot hty hm ho ha hbase few one he pl
theorem mt_countTK {X : Cx} {K : PySem.W.Frag} (hK : X.K = K := by rfl) : MtR X "list.count" (fun x xs H Q => ∃ (p : Addr) (bs : List Bool), x = .ref p ∧ xs = [.bl true] ∧ SqL K H p (bs.map V.bl) ∧ Q (.int (bs.count true : Nat)) H) := by
  subst hK
  exact mt_countT
/-- an expression that is never asked -/
theorem pe_false {X : Cx} {e : Expr} : PE X e (fun _ _ _ => False) := ⟨fun _ _ _ _ _ _ h => h.elim⟩
theorem xfc {K : PySem.W.Frag} {C : Addr} (T : ExcC K C) : XfC K C := ⟨T.hg, T.hk, T.hs, T.hd⟩
/-! ### x(lambda: body) -/
structure Asks (X : Cx) (x a : Str) (st : Stmt) (TT : (XK → Hp → VK → Prop) → Hp → VK → Prop) : Prop where
  ex : ∃ (g : Addr) (oc kV doc pm cdv ct : Value) (od an : Option Addr) (osl : Array (Option Value)) (Ng : List Str), X.mg x = some (.ref g) ∧ PySem.W.keepIn X.K (.ref g) = true ∧
    X.K.lookup g = some ⟨oc, od, .func (PySem.W.fnOf x x (defArgs st) (defBody st) (defScope st) .none kV doc pm an cdv ct), osl⟩ ∧ PySem.W.codeIn X.K cdv x = true ∧ Binds X.K (PySem.W.fnOf x x (defArgs st) (defBody st) (defScope st) .none kV doc pm an cdv ct) [a] [] ∧
    FnScope Ng [a] (defScope st) ∧ Ng[0]? = some a ∧ ∀ q, GivesTo X Ng x (defScope st) g cdv (defBody st) a q TT
theorem pe_ask {X : Cx} {T : List (Addr × Str)} {TT : (XK → Hp → VK → Prop) → Hp → VK → Prop} {x a : Str} {st : Stmt} {c P : Addr} {k : Nat} {params : Arguments} {body : Expr} {scope : Scope} {t : XK → TE} {p lpos pos : Pos} (D : Asks X x a st TT) (TB : TabB X.base X.mg c P) (hcode : X.env.code = .ref c)
    (hmT : (P, X.env.qual ++ "<lambda>") ∈ T) (hu : ∀ p ∈ T, p.1 = P → p.2 = X.env.qual ++ "<lambda>") (hr : Room (k + 2) X.A) (L : LamS X.env.scope scope)
    (hbody : ∀ (A : Around) (outer : List Env) (s : Shared) (H : Hp) (E : XK) (f c' : Addr), Room k (A.deeper (lamEnv X scope s.heap.objs.size f c')) → PE (lamCx X A outer s H E scope f c') body (t E))
    (hva : Vis (defScope st) a := by exact Or.inl rfl) (hg : Gl X x := by rfl) (hdef : defaultsOf params X.env = ([], []) := by rfl)
    (hbind : ∀ (q : Str) (cl : List (Str × Addr)) (pm cv ctv : Value), bindArgs (PySem.W.kla_fn "<lambda>" q params body scope cl pm cv ctv) ⟨[], []⟩ = pure [] := by intros; rfl)
    (hdb : (x == ("__debug__" : Str)) = false := by decide) (hd : (a == ("__debug__" : Str)) = false := by decide) (hcd : (a == ("__classdict__" : Str)) = false := by decide) :
    PE X (.Call (.Name x p) [.Lambda params body scope lpos] [] pos) (tLam T TT t) := by
  obtain ⟨g, oc, kV, doc, pm, cdv, ct, od, an, osl, Ng, hm, hk, lk, hcg, hb, Sg, hNg, hG⟩ := D.ex
  exact pe_lamcall hg hm hk lk hcg hb Sg hNg hva (hG _) TB hcode hmT hu hr L hdef hbind hbody hdb hd hcd
end L2

set_option maxHeartbeats 2000000
/-! My.Dt: texts times a number; new data of written displays. -/
namespace L2
open PySem PySem.Spec PyProof.Rows VW TL
def repS (z : Str) (n : Nat) : Str := ⟨(List.replicate n z.cps).foldl (· ++ ·) #[]⟩
def rRepS : R2 := fun x y H Q => ∃ (z : Str) (k : Int), x = .str z ∧ y = .int k ∧ 1 < k ∧ k < 1000 ∧ 0 < z.length ∧ z.length ≤ 1000 ∧ (repS z k.toNat).length ≤ sizeLine ∧ Q (.str (repS z k.toNat)) H
theorem op_repS {X : Cx} : OpR X (binaryOp .Mult) rRepS := by
  intro pins s σ H x y v u Q I rx ry h
  obtain ⟨z, k, rfl, rfl, h1, h2, h3, h4, h5, q⟩ := h
  obtain ⟨t, rfl⟩ := rx
  obtain ⟨t', rfl⟩ := ry
  have n1 : ¬ k < 1 := by omega
  have n2 : ¬ (k == 1 || z.length == 0) = true := by
    simp only [Bool.or_eq_true, beq_iff_eq]
    omega
  have n3 : z.length * k.toNat ≤ 1000 * 1000 := Nat.mul_le_mul h4 (by omega)
  refine P.mul_str ?_ (fun _ _ => ?_) (fun _ _ => ?_) ?_
  · rw [decide_eq_false (by omega), decide_eq_false (by omega)] <;> rfl
  · have : (1000 : Int) ≤ (2 ^ 63 - 1) / k := (Int.le_ediv_iff_mul_le (by omega)).mpr (by omega)
    omega
  · simp [Builtin.Str.tooLong, sizeLine]
    omega
  · rw [if_neg n1, if_neg n2]
    exact ⟨h5, .str (repS z k.toNat), H, I.tok _, ⟨_, rfl⟩, q⟩
section
variable {K : PySem.W.Frag} {σ : L2.St} {U0 H0 U H : Hp} {Q : VK} {p : Addr} {ds es : List PyData} {d : PyData} {t u : TE} {ta : TA}
/-- t makes d -/
def Fr8 (K : PySem.W.Frag) (σ : L2.St) (t : TE) (d : PyData) : Prop := ∀ (U H : Hp) (Q : VK), Same U H → (∀ v U' H', Gr S0 U H U' H' → Dp K U' v d → Q v H') → t σ H Q
def MkA (K : PySem.W.Frag) (σ : L2.St) (t : TA) (ds : List PyData) : Prop := ∀ (U H : Hp) (Q : List V → Hp → Prop), Same U H → (∀ vs U' H', Gr S0 U H U' H' → DpAll K U' vs ds → Q vs H') → t σ H Q
/-- t makes a text -/
def MkS (σ : L2.St) (t : TE) (z : Str) : Prop := ∀ (U H : Hp) (Q : VK), Same U H → (∀ U' H', Gr S0 U H U' H' → Q (.str z) H') → t σ H Q
/-- t makes a list of texts -/
def MkL (σ : L2.St) (t : TE) (ys : List Str) : Prop := ∀ (U H : Hp) (Q : VK), Same U H → (∀ p U' H', Gr S0 U H U' H' → H' p = some (.lst (ys.map V.str)) → Q (.ref p) H') → t σ H Q
theorem mk_non : Fr8 K σ (tC .non) .none := fun U H Q s k => k _ U H (.refl s) .non
theorem mk_int {i : Int} : Fr8 K σ (tC (.int i)) (.int i) := fun U H Q s k => k _ U H (.refl s) (.int i)
theorem mk_bl {i : Bool} : Fr8 K σ (tC (.bl i)) (.bool i) := fun U H Q s k => k _ U H (.refl s) (.bl i)
theorem mk_str {z : Str} (h : MkS σ t z) : Fr8 K σ t (.str z) := fun U H Q s k => h U H Q s fun U' H' g => k _ U' H' g (.str z)
theorem mks_c {z : Str} : MkS σ (tC (.str z)) z := fun U H Q s k => k U H (.refl s)
theorem mks_var {z : Str} {i : Nat} (h : σ[i]? = some (some (.str z))) : MkS σ (tVar i) z := fun U H Q s k => ⟨_, h, k U H (.refl s)⟩
theorem mks_add {y z : Str} (h : MkS σ t y) (h2 : MkS σ u z) (hl : y.length + z.length ≤ sizeLine) :
    MkS σ (tOp (fun x y H Q => ∃ i j : Str, x = V.str i ∧ y = V.str j ∧ i.length + j.length ≤ sizeLine ∧ Q (.str (i ++ j)) H) t u) (y ++ z) := fun U H Q s k =>
  h U H _ s fun U1 H1 g1 => h2 U1 H1 _ g1.s fun U2 H2 g2 => ⟨y, z, rfl, rfl, hl, k U2 H2 (g1.trans g2)⟩
theorem mks_rep {z : Str} {n : Int} (h : MkS σ t z) (h1 : 1 < n) (h2 : n < 1000) (h3 : 0 < z.length) (h4 : z.length ≤ 1000) (h5 : (repS z n.toNat).length ≤ sizeLine) : MkS σ (tOp rRepS t (tC (.int n))) (repS z n.toNat) := fun U H Q s k =>
  h U H _ s fun U1 H1 g1 => ⟨z, n, rfl, rfl, h1, h2, h3, h4, h5, k U1 H1 g1⟩
theorem mkl_one {z : Str} (h : MkS σ t z) : MkL σ (tLst (tCons t tNil)) [z] := fun U H Q s k =>
  h U H _ s fun U1 H1 g1 => ⟨Nat.le_of_ble_eq_true rfl, fun p hp => k p (upd U1 p (.lst [.str z])) _ (g1.new hp) upd_same⟩
theorem mkl_rep {z : Str} {n : Int} (h : MkL σ t [z]) (h1 : -(2 ^ 63) ≤ n) (h2 : n < 1000) : MkL σ (tOp rRep t (tC (.int n))) (List.replicate n.toNat z) := fun U H Q s k =>
  h U H _ s fun p U1 H1 g1 hp => ⟨p, n, [.str z], rfl, rfl, hp, h1, by omega, by rw [List.length_singleton]; exact Nat.le_trans (show 1 * n.toNat ≤ 1000 by omega) (by decide), fun q hq => by
    have e : (List.replicate n.toNat [V.str z]).flatten = (List.replicate n.toNat z).map V.str := by rw [List.flatten_replicate_singleton, List.map_replicate]
    refine k q (upd U1 q (.lst ((List.replicate n.toNat z).map V.str))) _ ?_ (by rw [e]; exact upd_same)
    rw [e]
    exact g1.new hq⟩
theorem mkl_cat {ys zs : List Str} (h : MkL σ t ys) (h2 : MkL σ u zs) (hl : ys.length + zs.length ≤ sizeLine) : MkL σ (tOp rCat t u) (ys ++ zs) := fun U H Q s k =>
  h U H _ s fun p U1 H1 g1 hp => h2 U1 H1 _ g1.s fun q U2 H2 g2 hq => ⟨p, q, _, _, rfl, rfl, g2.same _ _ hp, hq, by rw [List.length_map, List.length_map]; exact hl, fun r hr => by
    refine k r (upd U2 r (.lst ((ys ++ zs).map V.str))) _ ?_ (by rw [← List.map_append]; exact upd_same)
    rw [← List.map_append]
    exact (g1.trans g2).new hr⟩
theorem mks_join {z : Str} {ys : List Str} (h : MkL σ t ys) (hl : (List.map (fun x : Str => x.length) ys).sum + ys.length * z.length ≤ 16777216) :
    MkS σ (tM1 (fun x xs H Q => ∃ (a : Str) (p : Addr) (ys : List Str), x = V.str a ∧ xs = [V.ref p] ∧ (SqL K H p (ys.map V.str) ∨ SqT K H p (ys.map V.str)) ∧ (List.map (fun x : Str => x.length) ys).sum + ys.length * a.length ≤ 16777216 ∧ Q (.str (Txt.join a ys)) H) (tC (.str z)) t) (Txt.join z ys) := fun U H Q s k =>
  ⟨⟨z, rfl⟩, h U H _ s fun p U1 H1 g1 hp => ⟨z, p, ys, rfl, rfl, .inl (sqlO hp), hl, k U1 H1 g1⟩⟩
theorem mka_nil : MkA K σ tNil [] := fun U H Q s k => k [] U H (.refl s) .nil
theorem mka_cons (h : Fr8 K σ t d) (h2 : MkA K σ ta ds) : MkA K σ (tCons t ta) (d :: ds) := fun U H Q s k =>
  h U H _ s fun v U1 H1 g1 hd => h2 U1 H1 _ g1.s fun vs U2 H2 g2 hds => k (v :: vs) U2 H2 (g1.trans g2) (.cons (dpS g2.v hd) hds)
theorem mk_tup (h : MkA K σ ta ds) (hl : ds.length ≤ sizeLine) : Fr8 K σ (tTup ta) (.tuple ds) := fun U H Q s k =>
  h U H _ s fun vs U1 H1 g1 hd => ⟨by rw [dps_length hd]; exact hl, fun p hp => k (.ref p) (upd U1 p (.tup vs)) _ (g1.new hp) (.tup (sqtO upd_same) (dpsS (same_new (vfree g1.s hp)) hd))⟩
theorem mk_lst (h : MkA K σ ta ds) (hl : ds.length ≤ sizeLine) : Fr8 K σ (tLst ta) (.list ds) := fun U H Q s k =>
  h U H _ s fun vs U1 H1 g1 hd => ⟨by rw [dps_length hd]; exact hl, fun p hp => k (.ref p) (upd U1 p (.lst vs)) _ (g1.new hp) (.lst (sqlO upd_same) (dpsS (same_new (vfree g1.s hp)) hd))⟩
/-- a list that grows: p, new since H0, outside of the view -/
structure RowsAt (K : PySem.W.Frag) (U0 H0 U H : Hp) (p : Addr) (ds : List PyData) : Prop where
  g : Gr S0 U0 H0 U H
  n : H0 p = none
  o : U p = none
  h : ∃ vs, H p = some (.lst vs) ∧ DpAll K U vs ds
theorem rows_new (s : Gr S0 U0 H0 U H) (m : MkA K σ ta es) (hl : es.length ≤ sizeLine) (k : ∀ U' H' q, RowsAt K U0 H0 U' H' q es → Q (.ref q) H') : tLst ta σ H Q :=
  m U H _ s.s fun vs U1 H1 g1 hd => ⟨by rw [dps_length hd]; exact hl, fun p hp => k U1 _ p ⟨(s.trans g1).newH hp, (s.trans g1).free hp, vfree g1.s hp, vs, upd_same, hd⟩⟩
theorem rows_cat {i : Nat} (R : RowsAt K U0 H0 U H p ds) (hσ : σ[i]? = some (some (.ref p))) (m : MkA K σ ta es) (hl : ds.length + es.length ≤ sizeLine) (k : ∀ U' H' q, RowsAt K U0 H0 U' H' q (ds ++ es) → Q (.ref q) H') : tOp rCat (tVar i) (tLst ta) σ H Q := by
  obtain ⟨vs, hp, hv⟩ := R.h
  refine ⟨_, hσ, m U H _ R.g.s fun zs U1 H1 g1 hz => ⟨by rw [dps_length hz]; omega, fun b hb => ⟨p, b, vs, zs, rfl, rfl, by rw [upd_ne (ne_of_none (g1.same _ _ hp) hb)]; exact g1.same _ _ hp, upd_same, by rw [dps_length hz, dps_length hv]; exact hl, fun q hq => ?_⟩⟩⟩
  have G := ((R.g.trans g1).newH (o := .lst zs) hb)
  exact k U1 _ q ⟨G.newH hq, G.free hq, vfree G.s hq, _, upd_same, dps_append (dpsS g1.v hv) hz⟩
theorem rows_app {i : Nat} (R : RowsAt K U0 H0 U H p ds) (hσ : σ[i]? = some (some (.ref p))) (m : Fr8 K σ t d) (hl : ds.length < sizeLine) (k : ∀ U' H', RowsAt K U0 H0 U' H' p (ds ++ [d]) → Q .non H') : tBM K "list" rAppend (tVar i) (tCons t tNil) σ H Q := by
  obtain ⟨vs, hp, hv⟩ := R.h
  refine ⟨_, hσ, .inl ⟨rfl, vs, sqlO hp⟩, m U H _ R.g.s fun v U1 H1 g1 hd => ⟨p, vs, v, rfl, rfl, g1.same _ _ hp, by rw [dps_length hv]; exact hl, ?_⟩⟩
  have o1 : U1 p = none := g1.out (some_ne hp) R.o
  exact k U1 _ ⟨(R.g.trans g1).mut (.inr R.n) o1, R.n, o1, _, upd_same, dps_append (dpsS g1.v hv) (.cons hd .nil)⟩
end
end L2

set_option maxHeartbeats 2000000
/-! My.Mx: methods that may raise; makers C(..) that may raise. -/
namespace L2
open PySem PySem.Spec PyProof.Rows LamX
structure MethOkX (P : Program) (w : World) (K : PySem.W.Frag) (mg : Str → Option Value) (base : Heap) (C : Addr) (m q : Str) (st : Stmt) (ps : List Str) (k : Nat) (sp : Sp) : Prop where
  ex : ∃ f fd, PySem.W.findIn K (.ref C) m = some (some (.ref f)) ∧ PySem.W.isFn K (.ref f) = true ∧ Fun K m q st f fd ∧ Binds K fd ps [] ∧ FnOk P w K mg base (L2.CX P w) k f fd ps sp
theorem MethDef.okX {P : Program} {w : World} {K : PySem.W.Frag} {mg : Str → Option Value} {base : Heap} {C : Addr} {m q : Str} {st : Stmt} {N ps : List Str} {k : Nat} {sp : Sp} (T : MethDef K C m q st ps) (S : FnScope N ps (defScope st)) (len : ∀ vs H Q E, sp vs H Q E → vs.length = ps.length)
    (hbody : ∀ (f : Addr) (cdv : Value) (A : Around) (outer : List Env) (s : Shared) (H : Hp) (vs : List V) (Q : VK) (E : XK), Room k (A.deeper (envOfC q (defScope st) s.heap.objs.size f cdv)) → sp vs H Q E →
      ∃ t, PSs (cxOf (L2.CX P w) P w K mg base N q (defScope st) f cdv A outer s H E) (defBody st) t ∧ t { nx := fun _ H' => Q .non H', rt := Q } (start N vs) H) : MethOkX P w K mg base C m q st ps (k + 1) sp := by
  obtain ⟨f, fd, h1, h2, F, hb⟩ := T.ex
  exact ⟨f, fd, h1, h2, F, hb, F.okX S len (hbody f)⟩
section
variable {X : Cx} {C : Addr} {q : Str} {st : Stmt} {ps : List Str} {k : Nat} {sp : Sp} {e : Expr} {es : List Expr} {t tk : TA} {pos p : Pos} {x : Str} {E : XK} {W : WX}
/-- C(e, ..) that may raise: what it raises is wished for by E -/
theorem pe_makeX (D : MethOkX X.prog X.w X.K X.mg X.base C "__init__" q st ps k sp) (hmk : PySem.W.makesIn X.K C = true ∧ PySem.W.keepIn X.K (.ref C) = true) (hm : X.mg x = some (.ref C)) (hr : Room (k + 1) X.A) (tk : Takes X W) (hW : ∀ cls d σ H, E cls d H → W cls d σ H) (ha : PA X (e :: es) t) (hg : Gl X x := by rfl)
    (hdb : (x == ("__debug__" : Str)) = false := by decide) (he : starEach (e :: es) X.env = (false, eval e X.env) :: starEach es X.env := by rfl) (hpl : (backTo pos (starEach es X.env)).any (·.1) = false := by rfl) :
    PE X (.Call (.Name x p) (e :: es) [] pos) (tMake C sp [] E t) := by
  obtain ⟨f, fd, h1, h2, h3, hb, F⟩ := D.ex
  exact pe_make ⟨hmk.1, h1, h2, hmk.2⟩ F hr hg hm hb .nil (passes_call tk hW) ha hdb he hpl
/-- C(k = e, ..) that may raise -/
theorem pe_makeX_kw {kws : List Keyword} {ks : List Str} {tkk : TA} (D : MethOkX X.prog X.w X.K X.mg X.base C "__init__" q st ps k sp) (hmk : PySem.W.makesIn X.K C = true ∧ PySem.W.keepIn X.K (.ref C) = true) (hm : X.mg x = some (.ref C)) (hr : Room (k + 1) X.A) (tk : Takes X W) (hW : ∀ cls d σ H, E cls d H → W cls d σ H)
    (h : ∀ (kV doc pm : Value) (an : Option Addr) (cdv ct : Value) (us ws : List Value), us.length = 1 → ws.length = ks.length → bindArgs (PySem.W.fnOf "__init__" q (defArgs st) (defBody st) (defScope st) .none kV doc pm an cdv ct) ⟨us, ks.zip ws⟩ = pure (ps.zip (us ++ ws)))
    (hkw : PK X kws tkk) (hg : Gl X x := by rfl)
    (hall : (backToKw pos (keywordEach kws X.env)).all (·.1.isSome) = true := by rfl) (hks : (backToKw pos (keywordEach kws X.env)).filterMap (·.1) = ks := by rfl) (hdb : (x == ("__debug__" : Str)) = false := by decide)
    (hpl : ((backTo pos (starEach [] X.env)).any (·.1) || (backToKw pos (keywordEach kws X.env)).any (·.1.isNone)) = false := by rfl) :
    PE X (.Call (.Name x p) [] kws pos) (tMakeK C 0 ks.length sp (fun vs zs => vs ++ zs) E tNil tkk) := by
  obtain ⟨f, fd, h1, h2, h3, hb, F⟩ := D.ex
  exact pe_makeK0 ⟨hmk.1, h1, h2, hmk.2⟩ F hr hg hm (h3.kbn h) (passes_call tk hW) hkw hall hks hdb hpl
end
end L2

set_option maxHeartbeats 4000000
/-! My.Ld: a lambda with written defaults that is handed to a def. -/
namespace PySem.W
open PySem PySem.Spec PySem.Calls PyProof.Rows L2 LamX
abbrev klaD_fn (name qual : Str) (params : Arguments) (body : Expr) (scope : Scope) (cl : List (Str × Addr)) (dv pm cdv ct : Value) : FuncData := { kla_fn name qual params body scope cl pm cdv ct with defaults := dv }
abbrev klaD_obj (name qual : Str) (params : Arguments) (body : Expr) (scope : Scope) (cl : List (Str × Addr)) (dv pm : Value) (c' : Addr) (ct : Value) : Obj := { cls := .type "function", data := .func (klaD_fn name qual params body scope cl dv pm (.ref c') ct) }
section
variable {M : Model} {A : Around} {E : Value → Shared → Prop} {s : Shared} {name qual : Str} {params : Arguments} {body : Expr} {scope : Scope} {env : Env} {c P : Addr} {ps : Array Value} {pos : Pos} {firstLine : Nat} {mg : Str → Option Value} {clos : List (Str × Addr)} {Q : Value → Shared → Prop} {dv : Value}
theorem klaD_makeTail (hcl : closureFor scope env = pure clos) (hge0 : env.globals = mainGlobals) (hg : s.heap.Ns mainGlobals mg) (hcode : env.code = .ref c) (C : CodeHd s.heap c P) (hP : s.heap.get? P = some (tabObj ps)) (ht : TriplesOk ps.toList) (hnf : codeAmong pos ps.toList = none) (hgP : mainGlobals ≠ P) (hb : s.heap.BuiltinsAt mg P)
    (h : ∀ (c' : Nat) (ctv : Value) (h' : Heap) (tk : Nat), Heap.ExtBut P s.heap h' → s.heap.objs.size ≤ c' → c' < h'.objs.size → h'.CodeRec (.ref c') qual → h'.get? P = some (tabObj (ps ++ #[rawInt pos.line, rawInt pos.col, .ref c'])) →
      Q (.ref h'.objs.size) { heap := h'.push (klaD_obj name qual params body scope clos dv ((mg "__name__").getD .none) c' ctv), gens := s.gens, drawn := s.drawn, toks := tk, os := s.os }) :
    wpAny M A (makeTail name qual params (.expr body) scope env dv .none none pos firstLine) Q E s := by
  obtain ⟨bm, ob, hbm, hne0, hneg, hneP, hbo, hcls, hdict, hdata⟩ := hb
  unfold makeTail
  rw [hcl]
  refine wpAny_bind (wpAny_pure ?_)
  rw [hge0]
  have core : ∀ (ctv : Value) (s1 : Shared), (∀ b o, s.heap.get? b = some o → s1.heap.get? b = some o) → s.heap.objs.size ≤ s1.heap.objs.size → s1.gens = s.gens → s1.drawn = s.drawn → s1.os = s.os →
      wpAny M A (do
        let cd ← functionCode env pos firstLine name qual params scope (FuncBody.expr body)
        let bi ← builtinsFor mainGlobals env.builtins
        let nm ← nsGet mainGlobals "__name__"
        let doc ← (pure Value.none : Sem Value)
        newObj (.type "function") (.func { name := name, qualname := qual, params := params, body := FuncBody.expr body, scope := scope, globals := mainGlobals, closure := clos, defaults := dv, kwdefaults := .none, doc := doc, pyModule := nm.getD .none, code := cd, closureTuple := ctv, builtins := bi })) Q E s1 := by
    intro ctv s1 kp hsz e1 e2 e3
    have C1 := C.keeps kp
    have hP1 := kp _ _ hP
    refine wpAny_bind (wpAny_functionCodeX hcode (C1.code hP1 ht) (C1.tab hP1) hnf fun c' h' tk hx hge hlt _ hrec htab _ => ?_)
    have hg1 : h'.Ns mainGlobals mg := (hg.keeps kp).extBut hx hgP
    have hbo1 := hx _ _ hneP (kp _ _ hbo)
    refine wpAny_bind (wpAny_builtinsFor hg1 hbm hne0 hbo1 hcls hdict hdata ?_)
    refine wpAny_bind (wpAny_nsGet hg1 ?_)
    refine wpAny_bind (wpAny_pure ?_)
    refine wpAny_newObj_type ?_
    have := h c' ctv h' tk (fun b o hb e => hx b o hb (kp b o e)) (Nat.le_trans hsz hge) hlt hrec ?_
    · rw [e1, e2, e3]
      exact this
    · exact htab.2
  by_cases hce : clos.isEmpty = true
  · rw [if_pos hce]
    refine wpAny_bind (wpAny_pure ?_)
    exact core _ _ (fun _ _ e => e) (Nat.le_refl _) rfl rfl rfl
  · rw [if_neg hce]
    refine wpAny_bind (wpAny_newTextTuple ?_)
    exact core _ _ (fun _ _ e => Heap.get?_push_of_some _ e) (by rw [Heap.size_push]; exact Nat.le_succ _) rfl rfl rfl
theorem klaD_makeTailHit {cv : Value} (hcl : closureFor scope env = pure clos) (hge0 : env.globals = mainGlobals) (hg : s.heap.Ns mainGlobals mg) (hcode : env.code = .ref c) (C : CodeHd s.heap c P) (hP : s.heap.get? P = some (tabObj ps)) (ht : TriplesOk ps.toList) (hf : codeAmong pos ps.toList = some cv) (hb : s.heap.BuiltinsAt mg P)
    (h : ∀ (ctv : Value) (h' : Heap) (tk : Nat), (∀ b o, s.heap.get? b = some o → h'.get? b = some o) → s.heap.objs.size ≤ h'.objs.size →
      Q (.ref h'.objs.size) { heap := h'.push { cls := .type "function", data := .func (klaD_fn name qual params body scope clos dv ((mg "__name__").getD .none) cv ctv) }, gens := s.gens, drawn := s.drawn, toks := tk, os := s.os }) :
    wpAny M A (makeTail name qual params (.expr body) scope env dv .none none pos firstLine) Q E s := by
  obtain ⟨bm, ob, hbm, hne0, hneg, hneP, hbo, hcls, hdict, hdata⟩ := hb
  unfold makeTail
  rw [hcl]
  refine wpAny_bind (wpAny_pure ?_)
  rw [hge0]
  have core : ∀ (ctv : Value) (s1 : Shared), (∀ b o, s.heap.get? b = some o → s1.heap.get? b = some o) → s.heap.objs.size ≤ s1.heap.objs.size → s1.gens = s.gens → s1.drawn = s.drawn → s1.os = s.os →
      wpAny M A (do
        let cd ← functionCode env pos firstLine name qual params scope (FuncBody.expr body)
        let bi ← builtinsFor mainGlobals env.builtins
        let nm ← nsGet mainGlobals "__name__"
        let doc ← (pure Value.none : Sem Value)
        newObj (.type "function") (.func { name := name, qualname := qual, params := params, body := FuncBody.expr body, scope := scope, globals := mainGlobals, closure := clos, defaults := dv, kwdefaults := .none, doc := doc, pyModule := nm.getD .none, code := cd, closureTuple := ctv, builtins := bi })) Q E s1 := by
    intro ctv s1 kp hsz e1 e2 e3
    have C1 := C.keeps kp
    have hP1 := kp _ _ hP
    refine wpAny_bind (wpAny_functionCode_hit hcode (C1.code hP1 ht) hf ?_)
    have hg1 : s1.heap.Ns mainGlobals mg := hg.keeps kp
    refine wpAny_bind (wpAny_builtinsFor hg1 hbm hne0 (kp _ _ hbo) hcls hdict hdata ?_)
    refine wpAny_bind (wpAny_nsGet hg1 ?_)
    refine wpAny_bind (wpAny_pure ?_)
    refine wpAny_newObj_type ?_
    have := h ctv s1.heap s1.toks kp hsz
    rw [e1, e2, e3]
    exact this
  by_cases hce : clos.isEmpty = true
  · rw [if_pos hce]
    refine wpAny_bind (wpAny_pure ?_)
    exact core _ _ (fun _ _ e => e) (Nat.le_refl _) rfl rfl rfl
  · rw [if_neg hce]
    refine wpAny_bind (wpAny_newTextTuple ?_)
    exact core _ _ (fun _ _ e => Heap.get?_push_of_some _ e) (by rw [Heap.size_push]; exact Nat.le_succ _) rfl rfl rfl
/-- the defaults are put into a tuple -/
theorem klaD_makeFunction {d : Value} {ds : List Value}
    (h : wpAny M A (makeTail name qual params (.expr body) scope env (.ref s.heap.objs.size) .none none pos firstLine) Q E { s with heap := s.heap.push { cls := .type "tuple", data := .seq (d :: ds).toArray } }) :
    wpAny M A (makeFunction name qual params (.expr body) scope env (d :: ds) [] [] pos firstLine) Q E s := by
  unfold makeFunction
  rw [if_neg (show ¬ (d :: ds).isEmpty = true from fun z => nomatch z)]
  refine wpAny_bind (wpAny_newTextTuple ?_)
  rw [List.zip_nil_right, List.filterMap_nil]
  exact wpAny_bind (wpAny_pure (wpAny_bind (wpAny_pure h)))
/-- the lambda itself -/
theorem klaD_eval {d : Expr}
    (hd : defaultsOf params env = ([eval d env], []))
    (h : wpAny M A (eval d env) (fun v s1 => wpAny M A (makeFunction "<lambda>" (env.qual ++ "<lambda>") params (.expr body) scope env [v] [] [] pos pos.line) Q E s1) E s) :
    wpAny M A (eval (.Lambda params body scope pos) env) Q E s := by
  rw [arm_eval_Lambda, hd]
  show wpAny M A (do
    let dv ← (do let v ← eval d env; let vs ← holding [v] (evalAll []); pure (v :: vs))
    let kdv ← holding dv (evalAllOpt [])
    makeFunction "<lambda>" (env.qual ++ "<lambda>") params (.expr body) scope env dv kdv [] pos pos.line) Q E s
  refine wpAny_bind (wpAny_bind (wpAny_mono h (fun v s1 h => ?_) fun _ _ h => h))
  refine wpAny_bind (wpAny_holding (wpAny_pure (wpAny_pure ?_)))
  exact wpAny_bind (wpAny_holding (wpAny_pure h))
end
end PySem.W
namespace LamX
open PySem PySem.Spec PySem.Calls PyProof.Rows L2
/-- a lambda with one parameter of its own that nobody reads -/
structure LamSD (sc scope : Scope) (N : List Str) (a0 : Str) : Prop where
  kind : scope.kind = .function
  co : scope.isCoroutine = false
  gen : scope.isGenerator = false
  noc : ∀ y ∈ scope.names, y.2 ≠ .cell
  own : ∀ y ∈ scope.names, y.2 = .local → y.1 = a0
  is : List.lookup a0 scope.names = some .local
  off : a0 ∉ N
  free : ∀ y ∈ scope.names, y.2 = .free → List.lookup y.1 sc.names = some .cell ∨ List.lookup y.1 sc.names = some .free
section
variable {X : Cx} {pins : List (Addr × Obj)} {σ : L2.St} {H HZ : Hp} {s s1 : Shared} {A : Around} {outer : List Env} {E : XK} {scope : Scope} {f c' : Addr} {h₁ : Heap} {tk : Nat} {a0 : Str}
theorem LamSD.has (L : LamSD X.env.scope scope X.N a0) (ok : X.Ok) : ∀ y ∈ scope.names, y.2 = .free → ∃ c, List.lookup y.1 X.env.cells = some c := fun y hy e =>
  (L.free y hy e).elim (fun k => ok.has y.1 (.inl k)) fun k => ok.has y.1 (.inr k)
theorem lam_startD (I : L2.Inv X pins σ H s) (L : LamSD X.env.scope scope X.N a0) (e0 : L2.Env0 X.prog X.w X.K X.mg X.base A outer s1 HZ) (hd : A.handled = none) (un : L2.Un (frs X.stack) [] H HZ s.heap s1.heap) {m0 : Str → Option Value} (hns : h₁.Ns s1.heap.objs.size m0)
    (kp : ∀ b o, s1.heap.get? b = some o → h₁.get? b = some o) : L2.Inv (lamCx X A outer s1 HZ E scope f c') [] σ HZ { heap := h₁, gens := s1.gens, drawn := s1.drawn, toks := tk, os := s1.os } := by
  have hfree := L.has I.ok
  have cm : ∀ {y : Str} {c : Addr}, List.lookup y (cloFrom X.env.cells scope.names []) = some c → List.lookup y X.env.cells = some c := fun {y c} e => by
    rcases cloFrom_mem (mem_of_lookup e) with h | ⟨h1, h2⟩
    · cases h
    · obtain ⟨c1, hc⟩ := hfree (y, .free) h1 rfl
      have hc : List.lookup y X.env.cells = some c1 := hc
      have e2 : c = c1 := by rw [h2, hc]; rfl
      rw [e2]
      exact hc
  have look : ∀ {y : Str}, List.lookup y scope.names = some .free → ∃ c, List.lookup y (cloFrom X.env.cells scope.names []) = some c := fun {y} hl => mem_lookup (cloFrom_has (mem_of_lookup hl))
  have cellK : ∀ {c : Addr} {v : Option Value}, H c = none → s.heap.IsCell c v → h₁.IsCell c v := fun {c v} n ⟨o, ho, hd⟩ => by
    obtain ⟨sl, q⟩ := un.any ho n (by simp)
    exact ⟨_, kp c _ q, hd⟩
  have noA : ∀ b : Addr, ¬ b ∈ (lamCx X A outer s1 HZ E scope f c').ex := fun b z => nomatch (show b ∈ ([] : List Addr) from z)
  exact {
    ok := { mod := e0.mod, kind := L.kind, glob := rfl, blt := rfl, above := Nat.le_refl _, inj := fun y z c e1 e2 => I.ok.inj y z c (cm e1) (cm e2),
            has := fun y hy => hy.elim (fun hy => absurd rfl (L.noc (y, .cell) (mem_of_lookup hy))) fun hy => look hy,
            cab := fun y c z _ => (nomatch (show false = true from z)), hd := fun _ => hd, frames := Around.frames_deeper e0.frames, stk := .inr ⟨rfl, rfl⟩,
            exf := fun b z => absurd z (noA b), bs := e0.bs, bsz := e0.bsz, noex := fun b _ _ => noA b, exfs := fun b z => absurd z (noA b), funs := e0.funs, frf := e0.frf }
    os := rfl
    bare := e0.bare
    base := Un.kept kp
    loc := ⟨m0, hns, fun i y v e1 e2 e3 => by
      rcases e3 with k | k | k
      · exact absurd (List.mem_iff_getElem?.mpr ⟨i, by have e : y = a0 := L.own (y, .local) (mem_of_lookup k) rfl; rw [← e]; exact e1⟩) L.off
      · exact absurd rfl (L.noc (y, .cell) (mem_of_lookup k))
      · obtain ⟨m, hn, hl⟩ := I.loc
        have hvis : Vis X.env.scope y := (L.free (y, .free) (mem_of_lookup k) rfl).elim (fun k => .inr (.inl k)) fun k => .inr (.inr k)
        obtain ⟨w', r, q⟩ := hl i y v e1 e2 hvis
        obtain ⟨c2, h2⟩ := look k
        refine ⟨w', r, .inr ⟨.inr k, c2, h2, ?_⟩⟩
        have c1 := cm h2
        rcases q with ⟨k', _⟩ | ⟨_, c3, e', z⟩
        · rcases L.free (y, .free) (mem_of_lookup k) rfl with k2 | k2
          · have k' : List.lookup y X.env.scope.names = some .local := k'
            have k2 : List.lookup y X.env.scope.names = some .cell := k2
            rw [k2] at k'
            cases k'
          · have k' : List.lookup y X.env.scope.names = some .local := k'
            have k2 : List.lookup y X.env.scope.names = some .free := k2
            rw [k2] at k'
            cases k'
        · rw [c1] at e'
          cases e'
          exact cellK (I.freeC y c2 c1) z⟩
    cell := fun y c e => by
      obtain ⟨w', z⟩ := I.cell y c (cm e)
      exact ⟨w', cellK (I.freeC y c (cm e)) z⟩
    free := HOk.fresh e0.hok (Nat.le_refl _)
    freeC := fun y c e => by
      obtain ⟨v, o, ho, hd⟩ := I.cell y c (cm e)
      exact un.free c o ho (I.freeC y c (cm e)) (by simp)
    pin := fun q hq => (nomatch (show q ∈ ([] : List (Addr × Obj)) from hq))
    hok := HOk.kept e0.hok kp
    len := I.len }
theorem inv_nofr (I : L2.Inv X pins σ H s) : ∀ f, s.heap.objs.size ≤ f → f ∉ frs X.stack := fun f hf z => by
  rcases List.mem_cons.mp (I.stkSub f z) with e | e
  · have h1 := I.lt
    rw [← e] at h1
    exact Nat.lt_irrefl f (Nat.lt_of_lt_of_le h1 hf)
  · exact I.nofs hf e
/-- the tuple of defaults -/
abbrev defO (u : Value) : Obj := { cls := .type "tuple", data := .seq [u].toArray }
theorem lam_makeD {T : List (Addr × Str)} {c P : Addr} {params : Arguments} {body d : Expr} {scope : Scope} {pos : Pos} {E Q : Value → Shared → Prop} {dv : V} (I : L2.Inv X pins σ H s) (TB : TabB X.base X.mg c P) (hcode : X.env.code = .ref c)
    (hm : (P, X.env.qual ++ "<lambda>") ∈ T) (hu : ∀ p ∈ T, p.1 = P → p.2 = X.env.qual ++ "<lambda>") (hT : Tabs T H) (hdef : defaultsOf params X.env = ([eval d X.env], [])) (hd : PE X d (tC dv))
    (hfree : ∀ y ∈ scope.names, y.2 = .free → ∃ c, List.lookup y.1 X.env.cells = some c)
    (hE : ∀ e s', X.xe e s' → E e s')
    (h : ∀ (f c' t : Addr) (u pm ctv : Value) (H1 : Hp) (s' : Shared), L2.Inv X pins σ H1 s' → ExtN H H1 → Tabs T H1 → RelV dv u → s'.heap.get? t = some (defO u) → H1 t = none → t ∉ frs X.stack →
      s'.heap.get? f = some (PySem.W.klaD_obj "<lambda>" (X.env.qual ++ "<lambda>") params body scope (cloFrom X.env.cells scope.names []) (.ref t) pm c' ctv) → H1 f = none → f ∉ frs X.stack → H1 c' = some (CodeO c' (X.env.qual ++ "<lambda>")) → Q (.ref f) s') :
    wpAny (model X.prog X.w) X.A (eval (.Lambda params body scope pos) X.env) Q E s := by
  refine PySem.W.klaD_eval hdef (wpAny_mono (hd.run pins s σ H (fun v H1 => v = dv ∧ H1 = H) I ⟨rfl, rfl⟩) (fun u s0 hu0 => ?_) hE)
  obtain ⟨v, H0, I0, ru, rfl, rfl⟩ := hu0
  refine PySem.W.klaD_makeFunction ?_
  have hft : H0 s0.heap.objs.size = none := HOk.fresh I0.hok (Nat.le_refl _)
  have I := I0.kept (t' := s0.toks) (h' := s0.heap.push (defO u)) fun b o e => Heap.get?_push_of_some (defO u) e
  have ht0 : (s0.heap.push (defO u)).get? s0.heap.objs.size = some (defO u) := Heap.get?_push_size s0.heap rfl
  have nft : s0.heap.objs.size ∉ frs X.stack := inv_nofr I0 _ (Nat.le_refl _)
  generalize s0.heap.objs.size = t at hft ht0 nft ⊢
  generalize s0.heap.push (defO u) = h0 at I ht0 ⊢
  obtain ⟨ps, hP, ht, ha⟩ := hT _ hm
  have bP := Heap.BuiltinsAt.keeps TB.bm I.bk
  have hP' := I.hok P _ hP
  have nPt : t ≠ P := fun e => by
    rw [e, hP] at hft
    cases hft
  have nofr := inv_nofr I
  cases hc : codeAmong pos ps.toList with
  | none =>
    refine PySem.W.klaD_makeTail (closure_ok hfree) I.ok.glob (Heap.Ns.keeps I.mod.glob I.bk) hcode (TB.code.keeps I.bk) hP' ht hc TB.gP bP fun c' ctv h' tk hx hge hlt hrec htb => ?_
    obtain ⟨c2, oc, vs, t2, e2, hoc, hd, hv⟩ := hrec
    cases e2
    have hsz : h0.objs.size ≤ h'.objs.size := Nat.le_trans hge (Nat.le_of_lt hlt)
    have nC := HOk.fresh I.hok hge
    have I1 := inv_table (t' := tk) I hP (fun b o hb e => Heap.get?_push_of_some (PySem.W.klaD_obj "<lambda>" (X.env.qual ++ "<lambda>") params body scope (cloFrom X.env.cells scope.names []) (.ref t) ((X.mg "__name__").getD .none) c' ctv) (hx b o hb e)) (Heap.get?_push_of_some _ htb) hge ⟨oc, vs, t2, Heap.get?_push_of_some _ hoc, hd, hv⟩
    have hE2 : ∀ (b : Addr) (o : HO), H0 b = some o → (∀ ps, o ≠ .tbl ps) → (upd (upd H0 P (.tbl (ps ++ #[rawInt pos.line, rawInt pos.col, .ref c']))) c' (CodeO c' (X.env.qual ++ "<lambda>"))) b = some o := fun b o e n => by
      rw [upd_ne (ne_of_none e nC), upd_ne (fun z => n ps (by rw [z, hP] at e; exact (Option.some.inj e).symm))]
      exact e
    have eL : (ps ++ #[rawInt pos.line, rawInt pos.col, Value.ref c']).toList = ps.toList ++ [rawInt pos.line, rawInt pos.col, .ref c'] := by simp
    have ntc : t ≠ c' := fun e => by
      have := Heap.lt_size ht0
      rw [e] at this
      exact Nat.lt_irrefl _ (Nat.lt_of_lt_of_le this hge)
    refine h h'.objs.size c' t u ((X.mg "__name__").getD .none) ctv _ _ I1 hE2 (fun p hp => ?_) ru (Heap.get?_push_of_some _ (hx t _ nPt ht0)) (by rw [upd_ne ntc, upd_ne nPt]; exact hft) nft (Heap.get?_push_size h' rfl) ?_ (nofr _ hsz) upd_same
    · by_cases hb : p.1 = P
      · rw [hu p hp hb, hb]
        refine ⟨ps ++ #[rawInt pos.line, rawInt pos.col, .ref c'], by rw [upd_ne (ne_of_none hP nC)]; exact upd_same, by rw [eL]; exact TriplesOk_snoc _ _ _ _ ht, fun p' cv hcv => ?_⟩
        rw [eL] at hcv
        rcases among_app ps.toList ht hcv with z | z
        · obtain ⟨c0, e1, e2⟩ := ha p' cv z
          exact ⟨c0, e1, hE2 c0 _ e2 codeO_ne⟩
        · exact ⟨c', z, upd_same⟩
      · obtain ⟨ps', a1, a2, a3⟩ := hT p hp
        refine ⟨ps', by rw [upd_ne (ne_of_none a1 nC), upd_ne hb]; exact a1, a2, fun p' cv hcv => ?_⟩
        obtain ⟨c0, e1, e2⟩ := a3 p' cv hcv
        exact ⟨c0, e1, hE2 c0 _ e2 codeO_ne⟩
    · have n1 : h'.objs.size ≠ c' := Nat.ne_of_gt hlt
      have n2 : h'.objs.size ≠ P := Nat.ne_of_gt (Nat.lt_of_lt_of_le (Heap.lt_size hP') hsz)
      rw [upd_ne n1, upd_ne n2]
      exact HOk.fresh I.hok hsz
  | some cv =>
    obtain ⟨c', rfl, hco⟩ := ha pos cv hc
    refine PySem.W.klaD_makeTailHit (closure_ok hfree) I.ok.glob (Heap.Ns.keeps I.mod.glob I.bk) hcode (TB.code.keeps I.bk) hP' ht hc bP fun ctv h' tk hx hsz => ?_
    have I1 := I.kept (t' := tk) (h' := h'.push (PySem.W.klaD_obj "<lambda>" (X.env.qual ++ "<lambda>") params body scope (cloFrom X.env.cells scope.names []) (.ref t) ((X.mg "__name__").getD .none) c' ctv)) fun b o e => Heap.get?_push_of_some _ (hx b o e)
    exact h h'.objs.size c' t u ((X.mg "__name__").getD .none) ctv H0 _ I1 (ExtN.refl H0) hT ru (Heap.get?_push_of_some _ (hx t _ ht0)) hft nft (Heap.get?_push_size h' rfl) (HOk.fresh I.hok hsz) (nofr _ hsz) hco
theorem pe_actD {CXg : CXT} {Eg : XK} {Ng : List Str} {qg : Str} {sg : Scope} {g t : Addr} {cdg pm ctv u : Value} {params : Arguments} {body : Expr} {k i : Nat} {a : Str} {pn : List (Addr × Obj)} {xe : Value → Shared → Prop} {W : WX} {tb : TE} {p1 p2 : Pos}
    (I : L2.Inv X pins σ H s) (L : LamSD X.env.scope scope X.N a0) (hf : s.heap.get? f = some (PySem.W.klaD_obj "<lambda>" (X.env.qual ++ "<lambda>") params body scope (cloFrom X.env.cells scope.names []) (.ref t) pm c' ctv)) (hfn : H f = none) (hfr : f ∉ frs X.stack)
    (ht : s.heap.get? t = some (defO u)) (htn : H t = none) (htr : t ∉ frs X.stack)
    (hbind : ∀ (A : Around) (s1 : Shared) (Q : List (Str × Value) → Shared → Prop) (E : Value → Shared → Prop), s1.heap.get? t = some (defO u) → Q [(a0, u)] s1 → wpAny (model X.prog X.w) A (bindArgs (PySem.W.klaD_fn "<lambda>" (X.env.qual ++ "<lambda>") params body scope (cloFrom X.env.cells scope.names []) (.ref t) pm (.ref c') ctv) ⟨[], []⟩) Q E s1)
    (tk : Takes ((cxOf CXg X.prog X.w X.K X.mg X.base Ng qg sg g cdg X.A X.stack s H Eg).tr pn xe) W) (hW : ∀ cls d σ' H', E cls d H' → W cls d σ' H') (hr : Room (k + 1) (X.A.deeper (PyProof.Rows.envOfC qg sg s.heap.objs.size g cdg)))
    (hbody : ∀ (A : Around) (outer : List Env) (s : Shared) (H : Hp), Room k (A.deeper (lamEnv X scope s.heap.objs.size f c')) → PE (lamCx X A outer s H E scope f c') body tb) (hN : Ng[i]? = some a) (hv : Vis sg a)
    (hd : (a == ("__debug__" : Str)) = false := by decide) (hcd : (a == ("__classdict__" : Str)) = false := by decide) :
    PE ((cxOf CXg X.prog X.w X.K X.mg X.base Ng qg sg g cdg X.A X.stack s H Eg).tr pn xe) (.Call (.Name a p1) [] [] p2) fun σZ HZ Q => σZ[i]? = some (some (.ref f)) ∧ HZ c' = some (CodeO c' (X.env.qual ++ "<lambda>")) ∧ tb σ HZ Q := by
  refine ⟨fun pinsZ sZ σZ HZ Q IZ h => ?_⟩
  obtain ⟨hs, hc, htb⟩ := h
  refine wpAny_Call_Name_kw (thn ((pe_var hN hv hd hcd).run pinsZ sZ σZ HZ (fun v H1 => v = .ref f ∧ H1 = HZ) IZ ⟨_, hs, rfl, rfl⟩) fun u1 s1 hx => ?_)
  obtain ⟨v, H1, I1, r1, rfl, rfl⟩ := hx
  cases r1
  have of1 := I1.base.keep f _ hf hfn hfr (fun z => nomatch z)
  have ot1 := I1.base.keep t _ ht htn htr (fun z => nomatch z)
  refine PySem.W.callWith_F0 ⟨_, _, _, _, of1⟩ ?_
  have un := I1.base
  obtain ⟨⟨oc, vs, tt, hoc, hdc, hvc⟩, _⟩ := I1.hok c' _ hc
  have rc := PySem.W.kla_callFunE (prog := X.prog) (w := X.w) (R := CR (L2.CX X.prog X.w) (PyProof.Rows.envOfC qg sg s.heap.objs.size g cdg :: X.stack) X.prog X.w H1 s1 Q E) (args := ⟨[], []⟩) hr.depth of1 rfl L.co L.gen rfl ⟨c', oc, vs, tt, rfl, hoc, hdc, hvc⟩ (hbind _ _ _ _ ot1 (wpAny_newFunctionEnv (fun y hy => L.noc y hy) (fun y hy => by rw [List.mem_singleton.mp hy]; exact L.is) (fun h₁ hns hsb => by
    refine ⟨Heap.NoLimit.fresh I1.nolimit _ hsb, ?_⟩
    have kp := fun b o (e : s1.heap.get? b = some o) => Heap.SameBut.extBut hsb b o (Nat.ne_of_lt (Heap.lt_size e)) (Heap.get?_push_of_some _ e)
    have J := lam_startD (E := E) (f := f) (c' := c') (tk := s1.toks + [(a0, u)].length) I L I1.env0 hr.hd un hns kp
    exact PySem.W.kla_codeExpr (wpAny_mono ((hbody _ _ s1 H1 (hr.deeper (lamEnv X scope s1.heap.objs.size f c'))).run [] _ σ H1 Q J htb) (fun v s' hq => by
      obtain ⟨w', H', J', rv, q⟩ := hq
      exact ⟨w', H', J'.os, J'.bare, J'.base, J'.hok, rv, q⟩) fun e s' hq => hq)) L.kind))
  have hx := passes_call tk hW
  refine wpAny_call (codeAny_mono rc fun r s' hq => ?_)
  match r with
  | .error e => exact hx pinsZ σZ H1 s1 e s' I1 hq
  | .ok fl =>
    cases fl with
    | ret v => exact I1.after hq
    | _ => exact (False.elim hq)
theorem bindD {M : Model} {A : Around} {E : Value → Shared → Prop} {Q : List (Str × Value) → Shared → Prop} {fd : FuncData} {t : Addr} {u : Value} {p : Arg} {kd : List (Option Expr)} {df : List Expr} (hp : fd.params = ⟨[], [p], none, [], kd, none, df⟩) (hdf : fd.defaults = .ref t) (ht : s.heap.get? t = some (defO u)) (hq : Q [(p.arg, u)] s) :
    wpAny M A (bindArgs fd ⟨[], []⟩) Q E s := by
  unfold bindArgs
  rw [hp, hdf]
  refine wpAny_bind (show wpAny M A (pure _) _ _ _ from wpAny_pure ?_)
  refine wpAny_bind (wpAny_seqItems ht rfl ?_)
  show wpAny M A (do
    let slots ← (do
      let r ← (pure (ForInStep.yield (([] : List (Str × Value)) ++ [(p.arg, u)])) : Sem (ForInStep (List (Str × Value))))
      match r with
      | ForInStep.done b => pure b
      | ForInStep.yield b => pure b)
    let r ← (pure (slots, []) : Sem (List (Str × Value) × List Str))
    pure (List.filterMap (fun n => Option.map (fun x => (n, x)) (List.lookup n r.1)) [p.arg])) Q E s
  refine wpAny_bind (wpAny_bind (wpAny_pure (wpAny_pure ?_)))
  refine wpAny_bind (wpAny_pure (wpAny_pure ?_))
  have e : List.filterMap (fun n => Option.map (fun x => (n, x)) (List.lookup n ([(p.arg, u)] : List (Str × Value)))) [p.arg] = [(p.arg, u)] := by simp [List.lookup]
  show Q (List.filterMap (fun n => Option.map (fun x => (n, x)) (List.lookup n ([(p.arg, u)] : List (Str × Value)))) [p.arg]) s
  rw [e]
  exact hq
def lamSDB (sc scope : Scope) (N : List Str) (a0 : Str) : Bool :=
  decide (scope.kind = .function) && !scope.isCoroutine && !scope.isGenerator && scope.names.all (fun y => decide (y.2 ≠ .cell)) && scope.names.all (fun y => decide (y.2 ≠ .local) || decide (y.1 = a0)) && decide (List.lookup a0 scope.names = some .local) && decide (a0 ∉ N) &&
    scope.names.all (fun y => decide (y.2 ≠ .free) || (decide (List.lookup y.1 sc.names = some .cell) || decide (List.lookup y.1 sc.names = some .free)))
theorem lamSD_by {sc scope : Scope} {N : List Str} (h : lamSDB sc scope N a0 = true) : LamSD sc scope N a0 := by
  unfold lamSDB at h
  simp only [Bool.and_eq_true, Bool.or_eq_true, List.all_eq_true, decide_eq_true_eq, Bool.not_eq_true'] at h
  obtain ⟨⟨⟨⟨⟨⟨⟨h1, h2⟩, h3⟩, h4⟩, h5⟩, h6⟩, h7⟩, h8⟩ := h
  exact ⟨h1, h2, h3, h4, fun y hy e => (h5 y hy).resolve_left fun z => z e, h6, h7, fun y hy e => (h8 y hy).resolve_left fun z => z e⟩
theorem pe_lamcallD {T : List (Addr × Str)} {TT : (XK → Hp → VK → Prop) → Hp → VK → Prop} {x a : Str} {g c P : Addr} {k : Nat} {pg : Arguments} {bg : List Stmt} {sg : Scope} {dV kV doc pm cdv ct oc : Value} {an od : Option Addr} {osl : Array (Option Value)} {Ng : List Str} {body d : Expr} {ar : Arg} {kd : List (Option Expr)} {df : List Expr} {t : XK → TE} {p lpos pos : Pos} {dv : V}
    (hg : Gl X x) (hm : X.mg x = some (.ref g)) (hk : PySem.W.keepIn X.K (.ref g) = true) (lk : X.K.lookup g = some ⟨oc, od, .func (PySem.W.fnOf x x pg bg sg dV kV doc pm an cdv ct), osl⟩) (hcg : PySem.W.codeIn X.K cdv x = true) (hb : L2.Binds X.K (PySem.W.fnOf x x pg bg sg dV kV doc pm an cdv ct) [a] [])
    (Sg : FnScope Ng [a] sg) (hNg : Ng[0]? = some a) (hva : Vis sg a) (hG : GivesTo X Ng x sg g cdv bg a (X.env.qual ++ "<lambda>") TT) (TB : TabB X.base X.mg c P) (hcode : X.env.code = .ref c) (hmT : (P, X.env.qual ++ "<lambda>") ∈ T) (hu : ∀ p ∈ T, p.1 = P → p.2 = X.env.qual ++ "<lambda>")
    (hr : Room (k + 2) X.A) (L : LamSD X.env.scope scope X.N ar.arg) (hdv : PE X d (tC dv))
    (hbody : ∀ (A : Around) (outer : List Env) (s : Shared) (H : Hp) (E : XK) (f c' : Addr), Room k (A.deeper (lamEnv X scope s.heap.objs.size f c')) → PE (lamCx X A outer s H E scope f c') body (t E))
    (hdef : defaultsOf ⟨[], [ar], none, [], kd, none, df⟩ X.env = ([eval d X.env], []) := by rfl)
    (hdb : (x == ("__debug__" : Str)) = false := by decide) (hd : (a == ("__debug__" : Str)) = false := by decide) (hcd : (a == ("__classdict__" : Str)) = false := by decide) :
    PE X (.Call (.Name x p) [.Lambda ⟨[], [ar], none, [], kd, none, df⟩ body scope lpos] [] pos) (tLam T TT t) := by
  refine ⟨fun pins s σ H Q I h => ?_⟩
  obtain ⟨hT, h⟩ := h
  refine wpAny_Call_Name_kw (ld_glob (hd := hdb) I hg hm ?_)
  show wpAny (model X.prog X.w) X.A (callWith pos (.ref g) [] (backTo pos (starEach [Expr.Lambda ⟨[], [ar], none, [], kd, none, df⟩ body scope lpos] X.env)) []) _ _ s
  refine PySem.W.callWith_K I.ok.mod.kin hk ?_ rfl rfl
  refine Calls.spliced_cons (lam_makeD I TB hcode hmT hu hT hdef hdv (L.has I.ok) (fun _ _ z => z) fun f c' t0 u pm' ctv H1 s' I1 eN T1 ru ht0 htn htr hf hfn hfr hco => Calls.spliced_nil ⟨I1.kIn, ?_⟩)
  have rc := run_ofS lk hcg Sg hr I1.env0 (hb s' [Value.ref f] I1.kIn rfl) (.cons (show L2.RelV (.ref f) (.ref f) from rfl) .nil) rfl fun hr' => by
    obtain ⟨t', ht', hq'⟩ := hG f c' s' H1 Q (fun E H' Q' => t E σ H' Q') (fun W pn xe E p1 p2 tk hW => pe_actD I1 L hf hfn hfr ht0 htn htr (fun A s1 Q E e1 e2 => bindD (p := ar) (kd := kd) (df := df) rfl rfl e1 e2) tk hW hr' (fun A outer s H hr2 => hbody A outer s H E f c' hr2) hNg hva hd hcd) hco (h H1 eN T1)
    exact ⟨t', ht'.nox, hq'⟩
  refine wpAny_call (codeAny_mono rc fun r s2 hq => ?_)
  match r with
  | .error e => exact (False.elim hq)
  | .ok fl =>
    cases fl with
    | ret v => exact I1.after hq
    | _ => exact (False.elim hq)
theorem pe_askD {T : List (Addr × Str)} {TT : (XK → Hp → VK → Prop) → Hp → VK → Prop} {x a : Str} {st : Stmt} {c P : Addr} {k : Nat} {body d : Expr} {ar : Arg} {kd : List (Option Expr)} {df : List Expr} {t : XK → TE} {p lpos pos : Pos} {dv : V} (D : Asks X x a st TT) (TB : TabB X.base X.mg c P) (hcode : X.env.code = .ref c)
    (hmT : (P, X.env.qual ++ "<lambda>") ∈ T) (hu : ∀ p ∈ T, p.1 = P → p.2 = X.env.qual ++ "<lambda>") (hr : Room (k + 2) X.A) (L : LamSD X.env.scope scope X.N ar.arg) (hdv : PE X d (tC dv))
    (hbody : ∀ (A : Around) (outer : List Env) (s : Shared) (H : Hp) (E : XK) (f c' : Addr), Room k (A.deeper (lamEnv X scope s.heap.objs.size f c')) → PE (lamCx X A outer s H E scope f c') body (t E))
    (hva : Vis (defScope st) a := by exact Or.inl rfl) (hg : Gl X x := by rfl)
    (hdef : defaultsOf ⟨[], [ar], none, [], kd, none, df⟩ X.env = ([eval d X.env], []) := by rfl)
    (hdb : (x == ("__debug__" : Str)) = false := by decide) (hd : (a == ("__debug__" : Str)) = false := by decide) (hcd : (a == ("__classdict__" : Str)) = false := by decide) :
    PE X (.Call (.Name x p) [.Lambda ⟨[], [ar], none, [], kd, none, df⟩ body scope lpos] [] pos) (tLam T TT t) := by
  obtain ⟨g, oc, kV, doc, pm, cdv, ct, od, an, osl, Ng, hm, hk, lk, hcg, hb, Sg, hNg, hG⟩ := D.ex
  exact pe_lamcallD hg hm hk lk hcg hb Sg hNg hva (hG _) TB hcode hmT hu hr L hdv hbody hdef hdb hd hcd
end
end LamX

namespace Lw
open PySem PySem.Spec PyProof.Rows L2 VW TL
def top (i : Nat) : Stmt := PySem.Challenge.pw_farlayout_k01_what_is_a_document.main.body.getD i (.Pass ⟨0, 0, 0, 0⟩)
abbrev s__wall : Stmt := (top 0)
abbrev s_InvalidDoc___init__ : Stmt := (inClass (top 3) 0)
abbrev s_InvalidBound___init__ : Stmt := (inClass (top 4) 0)
abbrev s_InvalidText___init__ : Stmt := (inClass (top 5) 0)
abbrev s_InvalidValue___init__ : Stmt := (inClass (top 6) 0)
abbrev s_InvalidCall___init__ : Stmt := (inClass (top 7) 0)
abbrev s_LimitExceeded___init__ : Stmt := (inClass (top 8) 0)
abbrev s__shown : Stmt := (top 9)
abbrev s_is_integer : Stmt := (top 11)
abbrev s_is_between : Stmt := (top 12)
abbrev s_Doc___init__ : Stmt := (inClass (top 20) 0)
abbrev s_Doc___eq__ : Stmt := (inClass (top 20) 1)
abbrev s_Doc_row_list : Stmt := (inClass (top 20) 2)
abbrev s_copied_row : Stmt := (top 21)
abbrev s_is_row : Stmt := (top 22)
abbrev s__checked_rows : Stmt := (top 23)
abbrev s__is_signs : Stmt := (top 24)
abbrev s__is_parts : Stmt := (top 25)
abbrev s__law_cell_at : Stmt := (top 27)
abbrev s__law_source_of : Stmt := (top 28)
abbrev s__law_next : Stmt := (top 29)
abbrev s__law_one : Stmt := (top 30)
abbrev s__law_signs : Stmt := (top 31)
abbrev s__law_row : Stmt := (top 32)
abbrev s__law_rows : Stmt := (top 33)
abbrev s__law_said : Stmt := (top 34)
abbrev s__law_odd : Stmt := (top 35)
abbrev s__law_edge : Stmt := (top 36)
abbrev s__law_deep_right : Stmt := (top 37)
abbrev s_law : Stmt := (top 38)
structure Wd where
  c_LayoutError : Addr
  c_InvalidDoc : Addr
  c_InvalidBound : Addr
  c_InvalidText : Addr
  c_InvalidValue : Addr
  c_InvalidCall : Addr
  c_LimitExceeded : Addr
  c_Doc : Addr
  ROW_LENGTHS : Addr
  tc__law_deep_right : Addr
  tp__law_deep_right : Addr
  none_ : Unit := ()
structure Txt (w : World) (K : PySem.W.Frag) (mg : Str → Option Value) (W : Wd) : Prop where
  n_ArithmeticError : mg "ArithmeticError" = none
  n_bool : mg "bool" = none
  n_enumerate : mg "enumerate" = none
  n_int : mg "int" = none
  n_isinstance : mg "isinstance" = none
  n_len : mg "len" = none
  n_list : mg "list" = none
  n_max : mg "max" = none
  n_range : mg "range" = none
  n_repr : mg "repr" = none
  n_str : mg "str" = none
  n_tuple : mg "tuple" = none
  g_MOST_ROWS : ∃ t, mg "MOST_ROWS" = some (.int 200 t)
  g_MOST_PARTS : ∃ t, mg "MOST_PARTS" = some (.int 8 t)
  g_MOST_NEST : ∃ t, mg "MOST_NEST" = some (.int 8 t)
  g_MOST_TEXT_SIGNS : ∃ t, mg "MOST_TEXT_SIGNS" = some (.int 20 t)
  g_MOST_LINE_SIGNS : ∃ t, mg "MOST_LINE_SIGNS" = some (.int 3 t)
  g_ROW_LENGTHS : mg "ROW_LENGTHS" = some (.ref W.ROW_LENGTHS)
  k_ROW_LENGTHS : ∃ es n, K.lookup W.ROW_LENGTHS = some ⟨.type "dict", none, .dict es n, #[]⟩ ∧ PySem.W.KeysLit w.params es.toList ∧ (W.ROW_LENGTHS == sysModules) = false
  kt_ROW_LENGTHS : ∃ es n, K.lookup W.ROW_LENGTHS = some ⟨.type "dict", none, .dict es n, #[]⟩ ∧ (W.ROW_LENGTHS == sysModules) = false ∧ L2.keysL es.toList = some (["text", "line", "hard", "cat", "nest", "align", "group"] : List Str)
  k_ROW_LENGTHS_text : ∃ t, PySem.W.nsIn K W.ROW_LENGTHS "text" = some (some (.int 2 t))
  k_ROW_LENGTHS_line : ∃ t, PySem.W.nsIn K W.ROW_LENGTHS "line" = some (some (.int 2 t))
  k_ROW_LENGTHS_hard : ∃ t, PySem.W.nsIn K W.ROW_LENGTHS "hard" = some (some (.int 1 t))
  k_ROW_LENGTHS_cat : ∃ t, PySem.W.nsIn K W.ROW_LENGTHS "cat" = some (some (.int 2 t))
  k_ROW_LENGTHS_nest : ∃ t, PySem.W.nsIn K W.ROW_LENGTHS "nest" = some (some (.int 3 t))
  k_ROW_LENGTHS_align : ∃ t, PySem.W.nsIn K W.ROW_LENGTHS "align" = some (some (.int 2 t))
  k_ROW_LENGTHS_group : ∃ t, PySem.W.nsIn K W.ROW_LENGTHS "group" = some (some (.int 2 t))
  c_LayoutError : mg "LayoutError" = some (.ref W.c_LayoutError)
  c_InvalidDoc : mg "InvalidDoc" = some (.ref W.c_InvalidDoc)
  c_InvalidBound : mg "InvalidBound" = some (.ref W.c_InvalidBound)
  c_InvalidText : mg "InvalidText" = some (.ref W.c_InvalidText)
  c_InvalidValue : mg "InvalidValue" = some (.ref W.c_InvalidValue)
  c_InvalidCall : mg "InvalidCall" = some (.ref W.c_InvalidCall)
  c_LimitExceeded : mg "LimitExceeded" = some (.ref W.c_LimitExceeded)
  c_Doc : mg "Doc" = some (.ref W.c_Doc)
  cl_Doc : Cls K W.c_Doc
  i_Doc : ClsIsi K W.c_Doc
  ne_Doc : ClsNe K W.c_Doc
  na_Doc__rows : NoAttr K W.c_Doc "_rows"
  na_Doc_facts : NoAttr K W.c_Doc "facts"
  na_Doc_group_facts : NoAttr K W.c_Doc "group_facts"
  f_Doc___init__ : MethDef K W.c_Doc "__init__" "Doc.__init__" s_Doc___init__ ["self", "rows"]
  f_Doc___eq__ : MethDef K W.c_Doc "__eq__" "Doc.__eq__" s_Doc___eq__ ["self", "other"]
  f_Doc_row_list : MethDef K W.c_Doc "row_list" "Doc.row_list" s_Doc_row_list ["self"]
  mk_Doc : PySem.W.makesIn K W.c_Doc = true ∧ PySem.W.keepIn K (.ref W.c_Doc) = true
  e_InvalidDoc : L2.ErrDef K mg "InvalidDoc" "InvalidDoc.__init__" W.c_InvalidDoc s_InvalidDoc___init__ ["self", "at"]
  x_InvalidDoc : L2.ExcC K W.c_InvalidDoc
  na_InvalidDoc_at : PySem.W.findIn K (.ref W.c_InvalidDoc) "at" = some none
  exm_InvalidDoc : PySem.W.exmOne K (.ref W.c_InvalidDoc) (.ref W.c_LayoutError) = some true
  kt_InvalidDoc_InvalidDoc : PySem.W.kitOne K (.ref W.c_InvalidDoc) (.ref W.c_InvalidDoc) = some true
  kt_InvalidDoc_InvalidBound : PySem.W.kitOne K (.ref W.c_InvalidDoc) (.ref W.c_InvalidBound) = some false
  kt_InvalidDoc_InvalidText : PySem.W.kitOne K (.ref W.c_InvalidDoc) (.ref W.c_InvalidText) = some false
  kt_InvalidDoc_InvalidValue : PySem.W.kitOne K (.ref W.c_InvalidDoc) (.ref W.c_InvalidValue) = some false
  kt_InvalidDoc_InvalidCall : PySem.W.kitOne K (.ref W.c_InvalidDoc) (.ref W.c_InvalidCall) = some false
  kt_InvalidDoc_LimitExceeded : PySem.W.kitOne K (.ref W.c_InvalidDoc) (.ref W.c_LimitExceeded) = some false
  kt_InvalidDoc_Arith : PySem.W.kitOne K (.ref W.c_InvalidDoc) (.type "ArithmeticError") = some true
  sup : L2.SupC K W.c_LayoutError (.type "type")
  kx_str_Doc : PySem.W.kitOne K (.type "str") (.ref W.c_Doc) = some false
  kx_dict_Doc : PySem.W.kitOne K (.type "dict") (.ref W.c_Doc) = some false
  kx_Doc_str : PySem.W.kitOne K (.ref W.c_Doc) (.type "str") = some false
  ab_Group : PySem.W.nsIn K W.ROW_LENGTHS "Group" = some none
  ab_fold : PySem.W.nsIn K W.ROW_LENGTHS "fold" = some none
  kx_Doc_list : PySem.W.kitOne K (.ref W.c_Doc) (.type "list") = some false
  f__wall : TopDef K mg "_wall" s__wall ["k"]
  f__shown : TopDef K mg "_shown" s__shown ["field"]
  f_is_integer : TopDef K mg "is_integer" s_is_integer ["value"]
  f_is_between : TopDef K mg "is_between" s_is_between ["value", "least", "most"]
  f_copied_row : TopDef K mg "copied_row" s_copied_row ["row"]
  f_is_row : TopDef K mg "is_row" s_is_row ["row", "k"]
  f__checked_rows : TopDef K mg "_checked_rows" s__checked_rows ["rows"]
  f__is_signs : TopDef K mg "_is_signs" s__is_signs ["value", "most"]
  f__is_parts : TopDef K mg "_is_parts" s__is_parts ["value", "k"]
  f__law_cell_at : TopDef K mg "_law_cell_at" s__law_cell_at ["_law_script", "_law_k"]
  f__law_source_of : TopDef K mg "_law_source_of" s__law_source_of ["_law_cell"]
  f__law_next : TopDef K mg "_law_next" s__law_next ["_law_source", "_law_many"]
  f__law_one : TopDef K mg "_law_one" s__law_one ["_law_source", "_law_some"]
  f__law_signs : TopDef K mg "_law_signs" s__law_signs ["_law_source", "_law_most"]
  f__law_row : TopDef K mg "_law_row" s__law_row ["_law_source", "_law_number"]
  f__law_rows : TopDef K mg "_law_rows" s__law_rows ["_law_source", "_law_many"]
  f__law_said : TopDef K mg "_law_said" s__law_said ["_law_ask"]
  f__law_odd : TopDef K mg "_law_odd" s__law_odd ["_law_source", "_law_number"]
  f__law_edge : TopDef K mg "_law_edge" s__law_edge ["_law_number"]
  f__law_deep_right : TopDef K mg "_law_deep_right" s__law_deep_right ["_law_is_list"]
  f_law : TopDef K mg "law" s_law ["_law_script"]
  w__law_deep_right : L2.LawDef K mg "_law_deep_right" s__law_deep_right ["_law_is_list"] W.tc__law_deep_right W.tp__law_deep_right
local macro_rules | `(tactic| walk_at "rdc") => `(tactic| first | assumption | rfl | decide | omega | exact Or.inr ⟨by decide, by decide⟩ | exact ⟨by decide, by decide⟩ | exact ⟨by decide, by decide, by decide⟩ | (show (0 : Int) < _; omega) | (show (0 : Int) < _ ∧ _ < (1073741824 : Int); omega) | (show (-(2 ^ 64) < _ ∧ _ < 2 ^ 64) ∨ (-(2 ^ 64) < _ ∧ _ < 2 ^ 64); omega) | (show (-(2 ^ 64) < _ ∧ _ < 2 ^ 64) ∨ (-(2 ^ 64) < _ ∧ _ < 2 ^ 64); right; split <;> decide) | exact Nat.le_of_ble_eq_true rfl)
local macro_rules | `(tactic| walk_at "rd1") => `(tactic| first | refine ⟨_, rfl, ?_⟩ | refine And.intro (by walk_at "rdc") ?_ | refine ⟨_, _, rfl, rfl, ?_⟩ | refine Or.inl ⟨_, rfl, ?_⟩ | refine Or.inr ⟨_, rfl, ?_⟩ | refine ⟨_, _, _, _, rfl, rfl, sqlO (by first | assumption | exact upd_same), rfl, ?_⟩ | refine ⟨_, _, _, _, rfl, rfl, (by first | assumption | exact upd_same), rfl, ?_⟩)
local macro_rules | `(tactic| walk_at "rd") => `(tactic| repeat (walk_at "rd1"))

/-! ### the source of what is drawn -/
structure Src (U H : Hp) (s : Addr) : Prop where
  v : Same U H
  o : U s = none
  h : ∃ a b c : Int, H s = some (.lst [.int a, .int b, .int c])
abbrev G1 (s : Addr) : Addr → Prop := fun b => b = s
theorem Src.put {U H : Hp} {s : Addr} (S : Src U H s) (a b c : Int) : Gr (G1 s) U H U (upd H s (.lst [.int a, .int b, .int c])) ∧ Src U (upd H s (.lst [.int a, .int b, .int c])) s :=
  have g := (Gr.refl (S := G1 s) S.v).mut (o := .lst [.int a, .int b, .int c]) (.inl rfl) S.o
  ⟨g, g.s, S.o, a, b, c, upd_same⟩
theorem Src.new {U H : Hp} {s p : Addr} {o : HO} (S : Src U H s) (h : H p = none) : Gr (G1 s) U H (upd U p o) (upd H p o) ∧ Src (upd U p o) (upd H p o) s := by
  obtain ⟨a, b, c, e⟩ := S.h
  have g := (Gr.refl (S := G1 s) S.v).new (o := o) h
  have hne : s ≠ p := ne_of_none e h
  exact ⟨g, g.s, by rw [upd_ne hne]; exact S.o, a, b, c, by rw [upd_ne hne]; exact e⟩
theorem Src.mut {U H : Hp} {s p : Addr} {o : HO} (S : Src U H s) (hne : p ≠ s) (h : U p = none) : Src U (upd H p o) s := by
  obtain ⟨a, b, c, e⟩ := S.h
  refine ⟨fun b u q => ?_, S.o, a, b, c, by rw [upd_ne (Ne.symm hne)]; exact e⟩
  have hb : b ≠ p := fun z => by
    rw [z, h] at q
    cases q
  rw [upd_ne hb]
  exact S.v b u q
theorem Src.newH {U H : Hp} {s p : Addr} {o : HO} (S : Src U H s) (h : H p = none) : Gr (G1 s) U H U (upd H p o) ∧ Src U (upd H p o) s := by
  obtain ⟨a, b, c, e⟩ := S.h
  have g := (Gr.refl (S := G1 s) S.v).newH (o := o) h
  have hne : s ≠ p := ne_of_none e h
  exact ⟨g, g.s, S.o, a, b, c, by rw [upd_ne hne]; exact e⟩
section
variable {P : Program} {w : World} {K : PySem.W.Frag} {mg : Str → Option Value} {base : Heap} {W : Wd}
theorem sc__law_next : FnScope ["_law_source", "_law_many", "_law_found", "_law_prime", "_law_number"] ["_law_source", "_law_many"] (defScope s__law_next) := ⟨rfl, rfl, rfl, by decide +kernel, rfl, by decide +kernel, by decide +kernel⟩
def sp_next : Sp := fun vs H Q _ => ∃ (s : Addr) (U : Hp) (m : Int), vs = [.ref s, .int m] ∧ Src U H s ∧ 0 < m ∧ m < 1073741824 ∧
  ∀ (r : Int) (H' : Hp), Gr (G1 s) U H U H' → Src U H' s → 0 ≤ r → r < m → Q (.int r) H'
theorem d__law_next (T : Txt w K mg W) : DefOk P w K mg base "_law_next" s__law_next ["_law_source", "_law_many"] 1 sp_next := by
  refine T.f__law_next.ok sc__law_next (fun vs H Q E h => ?_) (fun f cdv A outer s H vs Q E hr h => ?_)
  · obtain ⟨s, U, m, rfl, _⟩ := h
    rfl
  · obtain ⟨s, U, m, rfl, S, h2, h3, k⟩ := h
    obtain ⟨a, b, c, h1⟩ := S.h
    refine ⟨_, (pss_cons (ps_if (pt_cmpR op_gt (pe_ix ix_list (pv 0) pe_int (fun _ _ => rfl)) pe_int (nomark _)) (pss_cons (ps_set (i := 2) sc__law_next.nd rfl (Or.inl rfl) (pe_op op_mod (pe_callTy (T := "int") call_int1 (by rfl) T.n_int (by decide +kernel) (pa_cons (pe_ix ix_list (pv 0) pe_int (fun _ _ => rfl)) pa_nil)) (pv 1)))
      (pss_cons (ps_asg (pe_op op_fdiv (pe_ix ix_list (pv 0) pe_int (fun _ _ => rfl)) (pv 1)) (pg_sub (pv 0) pe_int set_list))
      (pss_one (ps_ret (pv 2))))) pss_nil)
      (pss_cons (ps_asg (pe_op op_add (pe_ix ix_list (pv 0) pe_int (fun _ _ => rfl)) pe_int) (pg_sub (pv 0) pe_int set_list))
      (pss_cons (ps_set (i := 3) sc__law_next.nd rfl (Or.inl rfl) pe_int)
      (pss_cons (ps_set (i := 4) sc__law_next.nd rfl (Or.inl rfl) (pe_op op_mod (pe_callTy (T := "int") call_int1 (by rfl) T.n_int (by decide +kernel) (pa_cons (pe_op op_add (pe_op op_add (pe_ix ix_list (pv 0) pe_int (fun _ _ => rfl)) (pe_op op_mul pe_int (pe_ix ix_list (pv 0) pe_int (fun _ _ => rfl)))) pe_int) pa_nil)) (pv 3)))
      (pss_cons (ps_set (i := 4) sc__law_next.nd rfl (Or.inl rfl) (pe_op op_mod (pe_callTy (T := "int") call_int1 (by rfl) T.n_int (by decide +kernel) (pa_cons (pe_op op_mul (pv 4) pe_int) pa_nil)) (pv 3)))
      (pss_cons (ps_set (i := 4) sc__law_next.nd rfl (Or.inl rfl) (pe_op op_mod (pe_callTy (T := "int") call_int1 (by rfl) T.n_int (by decide +kernel) (pa_cons (pe_op op_mul (pv 4) (pe_op op_add (pe_op op_fdiv (pv 4) pe_int) pe_int)) pa_nil)) (pv 3)))
      (pss_cons (ps_set (i := 4) sc__law_next.nd rfl (Or.inl rfl) (pe_op op_mod (pe_callTy (T := "int") call_int1 (by rfl) T.n_int (by decide +kernel) (pa_cons (pe_op op_mul (pv 4) (pe_op op_add (pe_op op_fdiv (pv 4) pe_int) pe_int)) pa_nil)) pe_int))
      (pss_one (ps_ret (pe_op op_mod (pe_callTy (T := "int") call_int1 (by rfl) T.n_int (by decide +kernel) (pa_cons (pe_op op_fdiv (pv 4) pe_int) pa_nil)) (pv 1))))))))))), ?_⟩
    walk_at "rd"
    refine ite2 (fun hc => ?_) (fun hc => ?_)
    · walk_at "rd"
      exact k _ _ (S.put _ _ _).1 (S.put _ _ _).2 (Int.emod_nonneg _ (by omega)) (Int.emod_lt_of_pos _ h2)
    · walk_at "rd"
      exact k _ _ (S.put _ _ _).1 (S.put _ _ _).2 (Int.emod_nonneg _ (by omega)) (Int.emod_lt_of_pos _ h2)
theorem sc__law_cell_at : FnScope ["_law_script", "_law_k"] ["_law_script", "_law_k"] (defScope s__law_cell_at) := ⟨rfl, rfl, rfl, by decide +kernel, rfl, by decide +kernel, by decide +kernel⟩
def sp_cell (K : PySem.W.Frag) : Sp := fun vs H Q _ => ∃ (a : Addr) (ns : List Int) (i : Int), vs = [.ref a, .int i] ∧ SqL K H a (ns.map V.int) ∧ 0 ≤ i ∧ ∀ r : Int, Q (.int r) H
theorem d__law_cell_at (T : Txt w K mg W) : DefOk P w K mg base "_law_cell_at" s__law_cell_at ["_law_script", "_law_k"] 1 (sp_cell K) := by
  refine T.f__law_cell_at.ok sc__law_cell_at (fun vs H Q E h => ?_) (fun f cdv A outer s H vs Q E hr h => ?_)
  · obtain ⟨a, ns, i, rfl, _⟩ := h
    rfl
  · obtain ⟨a, ns, i, rfl, h1, h2, k⟩ := h
    refine ⟨_, (pss_cons (ps_if (pt_cmpR op_lt (pv 1) (pe_callB (id := "len") call_len (by rfl) T.n_len (by decide +kernel) (pa_cons (pv 0) pa_nil)) (nomark _)) (pss_one (ps_ret (pe_ix ix_list (pv 0) (pv 1) (fun _ _ => rfl)))) pss_nil)
      (pss_one (ps_ret pe_int))), ?_⟩
    refine ⟨_, rfl, _, rfl, _, _, rfl, .inl ⟨_, h1, rfl⟩, ?_⟩
    walk_at "rd"
    refine ite2 (fun hc => ?_) (fun hc => ?_)
    · have hc := of_decide_eq_true hc
      rw [List.length_map] at hc
      obtain ⟨j, rfl⟩ : ∃ j : Nat, i = (j : Int) := ⟨i.toNat, by omega⟩
      have hj : j < ns.length := by omega
      refine ⟨_, rfl, _, rfl, _, _, _, _, rfl, rfl, h1, atI_nat (v := V.int ns[j]) (by rw [List.getElem?_map, List.getElem?_eq_getElem hj] <;> rfl), ?_⟩
      exact k _
    · exact k _
theorem sc__law_source_of : FnScope ["_law_cell"] ["_law_cell"] (defScope s__law_source_of) := ⟨rfl, rfl, rfl, by decide +kernel, rfl, by decide +kernel, by decide +kernel⟩
def sp_src : Sp := fun vs H Q _ => ∃ i : Int, vs = [.int i] ∧ ∀ (p : Addr) (a b c : Int), H p = none → Q (.ref p) (upd H p (.lst [.int a, .int b, .int c]))
theorem d__law_source_of (T : Txt w K mg W) : DefOk P w K mg base "_law_source_of" s__law_source_of ["_law_cell"] 1 sp_src := by
  refine T.f__law_source_of.ok sc__law_source_of (fun vs H Q E h => ?_) (fun f cdv A outer s H vs Q E hr h => ?_)
  · obtain ⟨i, rfl, _⟩ := h
    rfl
  · obtain ⟨i, rfl, k⟩ := h
    refine ⟨_, (pss_cons (ps_set (i := 0) sc__law_source_of.nd rfl (Or.inl rfl) (pe_ifExp (pt_cmpR op_ge (pv 0) pe_int (nomark _)) (pv 0) (pe_op op_sub (pe_op op_sub pe_int (pe_op op_mul pe_int (pv 0))) pe_int)))
      (pss_one (ps_ret (pe_lst (pa_cons (pe_op op_mul (pv 0) (pe_callTy (T := "int") call_int1 (by rfl) T.n_int (by decide +kernel) (pa_cons (pe_cmpR op_ge (pv 0) (pe_op op_pow pe_int pe_int) (nomark _)) pa_nil))) (pa_cons (pe_op op_mod (pe_callTy (T := "int") call_int1 (by rfl) T.n_int (by decide +kernel) (pa_cons (pv 0) pa_nil)) pe_int) (pa_cons pe_int pa_nil))))))), ?_⟩
    walk_at "rd"
    refine ite2 (fun hc => ?_) (fun hc => ?_)
    · walk_at "rd"
      exact fun p hp => k _ _ _ _ hp
    · walk_at "rd"
      exact fun p hp => k _ _ _ _ hp
theorem sc__law_one : FnScope ["_law_source", "_law_some"] ["_law_source", "_law_some"] (defScope s__law_one) := ⟨rfl, rfl, rfl, by decide +kernel, rfl, by decide +kernel, by decide +kernel⟩
def sp_one (K : PySem.W.Frag) : Sp := fun vs H Q _ => ∃ (s l : Addr) (U : Hp) (xs : List V), vs = [.ref s, .ref l] ∧ Src U H s ∧ SqL K U l xs ∧ 0 < xs.length ∧ xs.length < 1000000 ∧
  ∀ (x : V) (H' : Hp), Gr (G1 s) U H U H' → Src U H' s → x ∈ xs → Q x H'
theorem d__law_one (T : Txt w K mg W) : DefOk P w K mg base "_law_one" s__law_one ["_law_source", "_law_some"] 2 (sp_one K) := by
  refine T.f__law_one.ok sc__law_one (fun vs H Q E h => ?_) (fun f cdv A outer s H vs Q E hr h => ?_)
  · obtain ⟨s, l, U, xs, rfl, _⟩ := h
    rfl
  · obtain ⟨s, l, U, xs, rfl, S, h1, h2, h3, k⟩ := h
    refine ⟨_, (pss_one (ps_ret (pe_ix ix_list (pv 1) (pe_callD (d__law_next T) (hr.mono (by decide)) (pa_cons (pv 0) (pa_cons (pe_callB (id := "len") call_len (by rfl) T.n_len (by decide +kernel) (pa_cons (pv 1) pa_nil)) pa_nil))) (fun _ _ => rfl)))), ?_⟩
    refine ⟨_, rfl, _, rfl, _, rfl, _, _, rfl, .inl ⟨_, sqlS S.v h1, rfl⟩, s, U, _, rfl, S, by omega, by omega, fun r H' g S' l0 l1 => ?_⟩
    obtain ⟨j, rfl⟩ : ∃ j : Nat, r = (j : Int) := ⟨r.toNat, by omega⟩
    have hj : j < xs.length := by omega
    exact ⟨_, _, _, _, rfl, rfl, sqlS S'.v h1, atI_nat (List.getElem?_eq_getElem hj), k _ _ g S' (List.getElem_mem hj)⟩
theorem sc__law_signs : FnScope ["_law_source", "_law_most", "_law_turn"] ["_law_source", "_law_most"] (defScope s__law_signs) := ⟨rfl, rfl, rfl, by decide +kernel, rfl, by decide +kernel, by decide +kernel⟩
theorem joinNil_mem : ∀ {ps : List (List Nat)} {c : Nat}, c ∈ joinL [] ps → ∃ p ∈ ps, c ∈ p
  | [], c, h => by cases h
  | [p], c, h => ⟨p, List.mem_singleton.mpr rfl, h⟩
  | p :: q :: r, c, h => by
    rcases List.mem_append.mp (show c ∈ p ++ ([] ++ joinL [] (q :: r)) from h) with h | h
    · exact ⟨p, List.mem_cons_self, h⟩
    · obtain ⟨p', h1, h2⟩ := joinNil_mem (ps := q :: r) (c := c) (by simpa using h)
      exact ⟨p', List.mem_cons_of_mem _ h1, h2⟩
theorem joinNil_len : ∀ {ps : List (List Nat)}, (∀ p ∈ ps, p.length = 1) → (joinL [] ps).length = ps.length
  | [], _ => rfl
  | [p], h => h p (List.mem_singleton.mpr rfl)
  | p :: q :: r, h => by
    show (p ++ ([] ++ joinL [] (q :: r))).length = _
    rw [List.length_append, List.length_append, joinNil_len (ps := q :: r) fun x hx => h x (List.mem_cons_of_mem _ hx), h p List.mem_cons_self]
    simp
    omega
theorem abxy_ok : ∀ c ∈ ("abxy (){}~" : Str).cps.toList, 32 ≤ c ∧ c ≤ 126 := by decide +kernel
theorem join_single {zs : List Str} {n : Nat} (hl : zs.length ≤ n) (hz : ∀ z ∈ zs, ∃ c, z = ⟨#[c]⟩ ∧ 32 ≤ c ∧ c ≤ 126) : GoodS n (Txt.join "" zs) := by
  have e : (Txt.join "" zs).cps.toList = joinL [] (zs.map tl) := by
    rw [join_eq]
    exact tl_join "" zs
  refine ⟨?_, fun c hc => ?_⟩
  · rw [← Array.length_toList, e, joinNil_len, List.length_map]
    · exact hl
    · intro p hp
      obtain ⟨z, h1, rfl⟩ := List.mem_map.mp hp
      obtain ⟨c, rfl, _⟩ := hz z h1
      rfl
  · rw [e] at hc
    obtain ⟨p, hp, h2⟩ := joinNil_mem hc
    obtain ⟨z, h1, rfl⟩ := List.mem_map.mp hp
    obtain ⟨d, rfl, h3⟩ := hz z h1
    have : c = d := by simpa [tl] using h2
    subst this
    exact h3
def sp_signs : Sp := fun vs H Q _ => ∃ (s : Addr) (U : Hp) (m : Nat), vs = [.ref s, .int m] ∧ Src U H s ∧ m ≤ 1000 ∧
  ∀ (z : Str) (U' H' : Hp), Gr (G1 s) U H U' H' → Src U' H' s → GoodS m z → Q (.str z) H'
theorem d__law_signs (T : Txt w K mg W) : DefOk P w K mg base "_law_signs" s__law_signs ["_law_source", "_law_most"] 3 sp_signs := by
  refine T.f__law_signs.ok sc__law_signs (fun vs H Q E h => ?_) (fun f cdv A outer s H vs Q E hr h => ?_)
  · obtain ⟨s, U, m, rfl, _⟩ := h
    rfl
  · obtain ⟨s, U, m, rfl, S, h1, k⟩ := h
    refine ⟨_, (pss_one (ps_ret (pe_join pe_str (pe_lc (own := [("_law_turn", 2)]) (g := (gName 2)) (tt := tYes) rfl sc__law_signs.nd (pi_range1 (by rfl) T.n_range (pa_cons (pe_callD (d__law_next T) (hr.mono (by decide)) (pa_cons (pv 0) (pa_cons (pe_op op_add (pv 1) pe_int) pa_nil))) pa_nil)) (blkOk_by (own := [("_law_turn", 2)]) (N := ["_law_source", "_law_most", "_law_turn"]) (sc := defScope s__law_signs) (by decide +kernel)) (fun _ _ _ _ _ => (pg_name (i := 2) sc__law_signs.nd rfl (Or.inl rfl))) (fun _ _ _ _ _ => pts_nil) (fun _ _ _ _ _ => (pe_callD (d__law_one T) (hr.mono (by decide)) (pa_cons (pv 0) (pa_cons (pe_callTy (T := "list") (call_list_text rfl) (by rfl) T.n_list (by decide +kernel) (pa_cons pe_str pa_nil)) pa_nil)))))))), ?_⟩
    refine ⟨⟨_, rfl⟩, ?_⟩
    refine ⟨_, rfl, _, rfl, _, _, rfl, rfl, s, U, _, rfl, S, by omega, by omega, fun r H1 g1 S1 l0 l1 => ?_⟩
    refine ⟨_, rfl, by omega, by omega, fun D hD => ?_⟩
    refine lc_range (lo := 0) (n := r.toNat) (fun i H' => ∃ (U' : Hp) (zs : List Str), Gr (G1 s) U H U' H' ∧ Src U' H' s ∧ U' D = none ∧ H D = none ∧ H' D = some (.lst (zs.map V.str)) ∧ zs.length = i ∧ ∀ z ∈ zs, ∃ c, z = ⟨#[c]⟩ ∧ 32 ≤ c ∧ c ≤ 126) ?_ ?_ ?_
    · exact ⟨U, [], g1.trans (S1.newH hD).1, (S1.newH hD).2, vfree S1.v hD, g1.free hD, upd_same, rfl, fun z hz => by cases hz⟩
    · rintro i H' hi ⟨U', zs, g, S', v0, d0, hd, hl, hz⟩
      refine ⟨rfl, ?_⟩
      refine ⟨_, rfl, _, rfl, by decide +kernel, fun l hl0 => ?_⟩
      have hlD : D ≠ l := ne_of_none hd hl0
      refine ⟨s, l, _, _, rfl, (S'.new hl0).2, sqlO upd_same, by decide +kernel, by decide +kernel, fun x H2 g2 S2 hx => ?_⟩
      obtain ⟨c, hc, rfl⟩ := List.mem_map.mp hx
      have hDs : D ≠ s := fun e => by
        obtain ⟨_, _, _, q⟩ := S.h
        rw [e, q] at d0
        cases d0
      have hd2 : H2 D = some (.lst (zs.map V.str)) := g2.k D _ hDs (by rw [upd_ne hlD]; exact hd)
      have v2 : (upd U' l (.lst (("abxy (){}~" : Str).cps.toList.map fun c => V.str ⟨#[c]⟩))) D = none := by rw [upd_ne hlD]; exact v0
      refine ⟨_, hd2, by rw [List.length_map, hl]; exact small1000 (by omega), _, zs ++ [⟨#[c]⟩], ((g.trans (S'.new hl0).1).trans g2).mut (.inr d0) v2, ?_, v2, d0, ?_, by rw [List.length_append, hl]; rfl, fun z hz' => ?_⟩
      · exact S2.mut hDs v2
      · rw [upd_same, List.map_append]
        rfl
      · rcases List.mem_append.mp hz' with h | h
        · exact hz z h
        · rw [List.mem_singleton.mp h]
          exact ⟨c, rfl, abxy_ok c hc⟩
    · rintro H' ⟨U', zs, g, S', v0, d0, hd, hl, hz⟩
      have hs : ∀ z ∈ zs, z.length = 1 := fun z h => by obtain ⟨c, rfl, _⟩ := hz z h; rfl
      refine ⟨_, _, zs, rfl, rfl, .inl (sqlO hd), ?_, k _ _ _ g S' (join_single (by omega) hz)⟩
      have : (zs.map (·.length)).sum = zs.length := by
        clear hz hd hl
        induction zs with
        | nil => rfl
        | cons z zs ih =>
          rw [List.map_cons, List.sum_cons, hs z List.mem_cons_self, ih fun z h => hs z (List.mem_cons_of_mem _ h), List.length_cons]
          omega
      show _ + zs.length * 0 ≤ _
      omega
/-! ### rows -/
theorem dp_tup {K : PySem.W.Frag} {H : Hp} {p : Addr} {vs : List V} {ds : List PyData} (h : H p = some (.tup vs)) (hd : DpAll K H vs ds) : Dp K H (.ref p) (.tuple ds) := .tup (sqtO h) hd
theorem dp_lst {K : PySem.W.Frag} {H : Hp} {p : Addr} {vs : List V} {ds : List PyData} (h : H p = some (.lst vs)) (hd : DpAll K H vs ds) : Dp K H (.ref p) (.list ds) := .lst (sqlO h) hd
theorem sc__law_row : FnScope ["_law_source", "_law_number", "_law_way", "_law_part", "_law_many", "_law_k"] ["_law_source", "_law_number"] (defScope s__law_row) := ⟨rfl, rfl, rfl, by decide +kernel, rfl, by decide +kernel, by decide +kernel⟩
def sp_row (K : PySem.W.Frag) : Sp := fun vs H Q _ => ∃ (s : Addr) (U : Hp) (n : Nat), vs = [.ref s, .int n] ∧ Src U H s ∧ n ≤ 1000 ∧
  ∀ (v : V) (r : Row) (U' H' : Hp), Gr (G1 s) U H U' H' → Src U' H' s → r.ok n → Dp K U' v r.data → Q v H'
theorem d__law_row (T : Txt w K mg W) : DefOk P w K mg base "_law_row" s__law_row ["_law_source", "_law_number"] 4 (sp_row K) := by
  refine T.f__law_row.ok sc__law_row (fun vs H Q E h => ?_) (fun f cdv A outer s H vs Q E hr h => ?_)
  · obtain ⟨s, U, m, rfl, _⟩ := h
    rfl
  · obtain ⟨s, U, m, rfl, S, h1, k⟩ := h
    refine ⟨_, (Evl.pss_cut (ps_set (i := 2) sc__law_row.nd rfl (Or.inl rfl) (pe_ifExp (pt_cmpR op_gt (pv 1) pe_int (nomark _)) (pe_callD (d__law_next T) (hr.mono (by decide)) (pa_cons (pv 0) (pa_cons pe_int pa_nil))) (pe_callD (d__law_next T) (hr.mono (by decide)) (pa_cons (pv 0) (pa_cons pe_int pa_nil)))))
      (pss_cons (ps_if (pt_cmpR op_lt (pv 2) pe_int (nomark _)) (pss_one (ps_ret (pe_tup (pa_cons pe_str (pa_cons (pe_callD (d__law_signs T) (hr.mono (by decide)) (pa_cons (pv 0) (pa_cons (pe_callD (d__law_one T) (hr.mono (by decide)) (pa_cons (pv 0) (pa_cons (pe_lst (pa_cons pe_int (pa_cons pe_int (pa_cons pe_int pa_nil)))) pa_nil))) pa_nil))) pa_nil))))) pss_nil)
      (pss_cons (ps_if (pt_cmpR op_lt (pv 2) pe_int (nomark _)) (pss_one (ps_ret (pe_ix ix_list (pe_lst (pa_cons (pe_tup (pa_cons pe_str (pa_cons (pe_callD (d__law_signs T) (hr.mono (by decide)) (pa_cons (pv 0) (pa_cons pe_int pa_nil))) pa_nil))) (pa_cons (pe_tup (pa_cons pe_str (pa_cons pe_str pa_nil))) (pa_cons (pe_tup (pa_cons pe_str pa_nil)) pa_nil)))) (pe_callD (d__law_next T) (hr.mono (by decide)) (pa_cons (pv 0) (pa_cons pe_int pa_nil))) (fun _ _ => rfl)))) pss_nil)
      (pss_cons (ps_set (i := 3) sc__law_row.nd rfl (Or.inl rfl) (pe_callB (id := "max") (call_max2 rfl) (by rfl) T.n_max (by decide +kernel) (pa_cons (pe_callD (d__law_next T) (hr.mono (by decide)) (pa_cons (pv 0) (pa_cons (pv 1) pa_nil))) (pa_cons (pe_callD (d__law_next T) (hr.mono (by decide)) (pa_cons (pv 0) (pa_cons (pv 1) pa_nil))) pa_nil))))
      (pss_cons (ps_if (pt_cmpR op_lt (pv 2) pe_int (nomark _)) (pss_cons (ps_set (i := 4) sc__law_row.nd rfl (Or.inl rfl) (pe_callD (d__law_one T) (hr.mono (by decide)) (pa_cons (pv 0) (pa_cons (pe_lst (pa_cons pe_int (pa_cons pe_int (pa_cons pe_int (pa_cons pe_int (pa_cons pe_int (pa_cons pe_int pa_nil))))))) pa_nil))))
      (pss_one (ps_ret (pe_tup (pa_cons pe_str (pa_cons (pe_lc (own := [("_law_k", 5)]) (g := (gName 5)) (tt := tYes) rfl sc__law_row.nd (pi_range1 (by rfl) T.n_range (pa_cons (pv 4) pa_nil)) (blkOk_by (own := [("_law_k", 5)]) (N := ["_law_source", "_law_number", "_law_way", "_law_part", "_law_many", "_law_k"]) (sc := defScope s__law_row) (by decide +kernel)) (fun _ _ _ _ _ => (pg_name (i := 5) sc__law_row.nd rfl (Or.inl rfl))) (fun _ _ _ _ _ => pts_nil) (fun _ _ _ _ _ => (pe_callB (id := "max") (call_max2 rfl) (by rfl) T.n_max (by decide +kernel) (pa_cons (pe_callD (d__law_next T) (hr.mono (by decide)) (pa_cons (pv 0) (pa_cons (pv 1) pa_nil))) (pa_cons (pe_callD (d__law_next T) (hr.mono (by decide)) (pa_cons (pv 0) (pa_cons (pv 1) pa_nil))) pa_nil))))) pa_nil)))))) pss_nil)
      (pss_cons (ps_if (pt_cmpR op_lt (pv 2) pe_int (nomark _)) (pss_one (ps_ret (pe_tup (pa_cons pe_str (pa_cons (pe_callD (d__law_next T) (hr.mono (by decide)) (pa_cons (pv 0) (pa_cons pe_int pa_nil))) (pa_cons (pv 3) pa_nil)))))) pss_nil)
      (pss_one (ps_ret (pe_ifExp (pt_cmpR op_eq (pv 2) pe_int (nomark _)) (pe_tup (pa_cons pe_str (pa_cons (pv 3) pa_nil))) (pe_tup (pa_cons pe_str (pa_cons (pv 3) pa_nil)))))))))))), ?_⟩
    refine ⟨fun σ' H' => ∃ way : Int, σ' = [some (.ref s), some (.int m), some (.int way), none, none, none] ∧ Gr (G1 s) U H U H' ∧ Src U H' s ∧ 0 ≤ way ∧ (m = 0 → way < 5), ?_, ?_⟩
    · walk_at "rd"
      refine ite2 (fun hc => ?_) (fun hc => ?_)
      · have hc := of_decide_eq_true hc
        refine ⟨_, rfl, s, U, _, rfl, S, by omega, by omega, fun r H1 g1 S1 l0 l1 => ⟨r, rfl, g1, S1, l0, by omega⟩⟩
      · refine ⟨_, rfl, s, U, _, rfl, S, by omega, by omega, fun r H1 g1 S1 l0 l1 => ⟨r, rfl, g1, S1, l0, by omega⟩⟩
    · rintro σ' H1 ⟨way, rfl, g1, S1, l0, l1⟩
      walk_at "rd"
      refine ite2 (fun hc => ?_) (fun hc => ?_)
      · -- a text
        refine ⟨_, rfl, _, rfl, by decide +kernel, fun l hl => ?_⟩
        refine ⟨s, l, _, _, rfl, (S1.new hl).2, sqlO upd_same, by decide, by decide, fun x H2 g2 S2 hx => ?_⟩
        obtain ⟨mm, rfl, hm⟩ : ∃ mm : Nat, x = .int mm ∧ mm ≤ 20 := by
          simp only [List.mem_cons, List.not_mem_nil, or_false] at hx
          rcases hx with rfl | rfl | rfl
          · exact ⟨2, rfl, by omega⟩
          · exact ⟨5, rfl, by omega⟩
          · exact ⟨20, rfl, by omega⟩
        refine ⟨s, _, mm, rfl, S2, by omega, fun z U3 H3 g3 S3 hz => ?_⟩
        refine ⟨Nat.le_of_ble_eq_true rfl, fun p hp => ?_⟩
        exact k _ (.text z) _ _ (((g1.trans (S1.new hl).1).trans g2).trans (g3.trans (S3.new hp).1)) (S3.new hp).2 (hz.mono hm) (dp_tup upd_same (.cons (.str _) (.cons (.str _) .nil)))
      walk_at "rd"
      refine ite2 (fun hc2 => ?_) (fun hc2 => ?_)
      · -- a line
        refine ⟨_, rfl, s, _, 3, rfl, S1, by omega, fun z U2 H2 g2 S2 hz => ?_⟩
        refine ⟨Nat.le_of_ble_eq_true rfl, fun p hp => ⟨Nat.le_of_ble_eq_true rfl, fun q hq => ⟨Nat.le_of_ble_eq_true rfl, fun u hu => ⟨Nat.le_of_ble_eq_true rfl, fun l hl => ?_⟩⟩⟩⟩
        have Sp := S2.new (o := .tup [.str "line", .str z]) hp
        have Sq := Sp.2.new (o := .tup [.str "line", .str " "]) hq
        have Su := Sq.2.new (o := .tup [.str "hard"]) hu
        have Sl := Su.2.new (o := .lst [.ref p, .ref q, .ref u]) hl
        have npq : p ≠ q := ne_of_none upd_same hq
        have npu : p ≠ u := ne_of_none (o := .tup [.str "line", .str z]) (by rw [upd_ne npq]; exact upd_same) hu
        have nqu : q ≠ u := ne_of_none upd_same hu
        have npl : p ≠ l := ne_of_none (o := .tup [.str "line", .str z]) (by rw [upd_ne npu, upd_ne npq]; exact upd_same) hl
        have nql : q ≠ l := ne_of_none (o := .tup [.str "line", .str " "]) (by rw [upd_ne nqu]; exact upd_same) hl
        have nul : u ≠ l := ne_of_none upd_same hl
        refine ⟨_, rfl, s, _, _, rfl, Sl.2, by omega, by omega, fun r H3 g3 S3 r0 r1 => ?_⟩
        have g := (((g1.trans g2).trans ((Sp.1.trans Sq.1).trans (Su.1.trans Sl.1))).trans g3)
        have e : r = 0 ∨ r = 1 ∨ r = 2 := by omega
        rcases e with rfl | rfl | rfl
        · refine ⟨_, _, _, _, rfl, rfl, sqlS S3.v (sqlO upd_same), rfl, ?_⟩
          exact k _ (.line z) _ _ g S3 hz (dp_tup (by rw [upd_ne npl, upd_ne npu, upd_ne npq]; exact upd_same) (.cons (.str _) (.cons (.str _) .nil)))
        · refine ⟨_, _, _, _, rfl, rfl, sqlS S3.v (sqlO upd_same), rfl, ?_⟩
          exact k _ (.line " ") _ _ g S3 (by exact ⟨by decide +kernel, by decide +kernel⟩) (dp_tup (by rw [upd_ne nql, upd_ne nqu]; exact upd_same) (.cons (.str _) (.cons (.str _) .nil)))
        · refine ⟨_, _, _, _, rfl, rfl, sqlS S3.v (sqlO upd_same), rfl, ?_⟩
          exact k _ .hard _ _ g S3 True.intro (dp_tup (by rw [upd_ne nul]; exact upd_same) (.cons (.str _) .nil))
      -- a part
      have hc2 : ¬ way < 5 := fun z => hc2 (decide_eq_true z)
      have hm : 0 < m := by omega
      have two : ∀ (r t : Int), 0 ≤ r → r < (m : Int) → 0 ≤ t → t < (m : Int) → 0 ≤ (if t > r then t else r) ∧ (if t > r then t else r) < (m : Int) := fun r t _ _ _ _ => by split <;> omega
      refine ⟨_, rfl, _, rfl, s, U, _, rfl, S1, by omega, by omega, fun r H2 g2 S2 r0 r1 => ⟨_, rfl, _, rfl, s, U, _, rfl, S2, by omega, by omega, fun t H3 g3 S3 t0 t1 => ?_⟩⟩
      obtain ⟨j0, j1⟩ := two r t r0 r1 t0 t1
      refine ⟨_, _, rfl, ?_⟩
      generalize (if t > r then t else r) = j at j0 j1 ⊢
      have g3 := (g1.trans g2).trans g3
      walk_at "rd"
      refine ite2 (fun hc => ?_) (fun hc => ?_)
      · -- a cat
        refine ⟨_, rfl, Nat.le_of_ble_eq_true rfl, fun l hl => ?_⟩
        refine ⟨s, l, _, _, rfl, (S3.new hl).2, sqlO upd_same, by decide, by decide, fun x H4 g4 S4 hx => ?_⟩
        obtain ⟨mm, rfl, hmm⟩ : ∃ mm : Nat, x = .int mm ∧ mm ≤ 8 := by
          simp only [List.mem_cons, List.not_mem_nil, or_false] at hx
          rcases hx with rfl | rfl | rfl | rfl | rfl | rfl
          · exact ⟨0, rfl, by omega⟩
          · exact ⟨1, rfl, by omega⟩
          · exact ⟨2, rfl, by omega⟩
          · exact ⟨3, rfl, by omega⟩
          · exact ⟨4, rfl, by omega⟩
          · exact ⟨8, rfl, by omega⟩
        have g5 := (g3.trans (S3.new hl).1).trans g4
        refine ⟨_, rfl, _, rfl, by omega, by omega, fun D hD => ?_⟩
        refine lc_range (lo := 0) (n := (mm : Int).toNat) (fun i H' => ∃ (js : List Int), Gr (G1 s) U H (upd U l (.lst [.int 0, .int 1, .int 2, .int 3, .int 4, .int 8])) H' ∧ Src (upd U l (.lst [.int 0, .int 1, .int 2, .int 3, .int 4, .int 8])) H' s ∧ H D = none ∧ H' D = some (.lst (js.map V.int)) ∧ js.length = i ∧ ∀ j ∈ js, 0 ≤ j ∧ j < (m : Int)) ?_ ?_ ?_
        · exact ⟨[], g5.trans (S4.newH hD).1, (S4.newH hD).2, g5.free hD, upd_same, rfl, fun z hz => by cases hz⟩
        · rintro i H' hi ⟨js, g, S', d0, hd, hlen, hj⟩
          have v0 := vfree S4.v hD
          refine ⟨rfl, ?_⟩
          refine ⟨_, rfl, _, rfl, s, _, _, rfl, S', by omega, by omega, fun r H6 g6 S6 r0 r1 => ⟨_, rfl, _, rfl, s, _, _, rfl, S6, by omega, by omega, fun t H7 g7 S7 t0 t1 => ?_⟩⟩
          refine ⟨_, _, rfl, ?_⟩
          have q := two r t r0 r1 t0 t1
          have hDs : D ≠ s := fun e => by
            obtain ⟨_, _, _, q⟩ := S.h
            rw [e, q] at d0
            cases d0
          have hd7 : H7 D = some (.lst (js.map V.int)) := g7.k D _ hDs (g6.k D _ hDs hd)
          refine ⟨_, hd7, by rw [List.length_map, hlen]; exact small1000 (by omega), js ++ [if t > r then t else r], ((g.trans g6).trans g7).mut (.inr d0) v0, S7.mut hDs v0, d0, by rw [upd_same, List.map_append]; rfl, by rw [List.length_append, hlen]; rfl, fun z hz => ?_⟩
          rcases List.mem_append.mp hz with h | h
          · exact hj z h
          · rw [List.mem_singleton.mp h]
            exact q
        · rintro H' ⟨js, g, S', d0, hd, hlen, hj⟩
          have v0 := vfree S4.v hD
          have gt := g.tell d0 hd v0
          have hsD : s ≠ D := fun e => by
            obtain ⟨_, _, _, q⟩ := S.h
            rw [← e, q] at d0
            cases d0
          have St : Src (upd (upd U l (.lst [.int 0, .int 1, .int 2, .int 3, .int 4, .int 8])) D (.lst (js.map V.int))) H' s := ⟨gt.s, by rw [upd_ne hsD]; exact S'.o, S'.h⟩
          refine ⟨Nat.le_of_ble_eq_true rfl, fun p hp => ?_⟩
          have hDp : D ≠ p := ne_of_none hd hp
          exact k _ (.cat js) _ _ (gt.trans (St.new hp).1) (St.new hp).2 ⟨by omega, hj⟩ (dp_tup upd_same (.cons (.str _) (.cons (dp_lst (by rw [upd_ne hDp]; exact upd_same) (dps_ints js)) .nil)))
      walk_at "rd"
      refine ite2 (fun hc => ?_) (fun hc => ?_)
      · -- a nest
        refine ⟨_, rfl, s, U, _, rfl, S3, by omega, by omega, fun r H4 g4 S4 r0 r1 => ?_⟩
        refine ⟨_, rfl, Nat.le_of_ble_eq_true rfl, fun p hp => ?_⟩
        exact k _ (.nest r j) _ _ ((g3.trans g4).trans (S4.new hp).1) (S4.new hp).2 ⟨r0, by omega, j0, j1⟩ (dp_tup upd_same (.cons (.str _) (.cons (.int _) (.cons (.int _) .nil))))
      walk_at "rd"
      refine ite2 (fun hc => ?_) (fun hc => ?_)
      · refine ⟨_, rfl, Nat.le_of_ble_eq_true rfl, fun p hp => ?_⟩
        exact k _ (.align j) _ _ (g3.trans (S3.new hp).1) (S3.new hp).2 ⟨j0, j1⟩ (dp_tup upd_same (.cons (.str _) (.cons (.int _) .nil)))
      · refine ⟨_, rfl, Nat.le_of_ble_eq_true rfl, fun p hp => ?_⟩
        exact k _ (.group j) _ _ (g3.trans (S3.new hp).1) (S3.new hp).2 ⟨j0, j1⟩ (dp_tup upd_same (.cons (.str _) (.cons (.int _) .nil)))
theorem sc__law_rows : FnScope ["_law_source", "_law_many", "_law_found", "_law_number"] ["_law_source", "_law_many"] (defScope s__law_rows) := ⟨rfl, rfl, rfl, by decide +kernel, rfl, by decide +kernel, by decide +kernel⟩
def sp_rows (K : PySem.W.Frag) : Sp := fun vs H Q _ => ∃ (s : Addr) (U : Hp) (m : Nat), vs = [.ref s, .int m] ∧ Src U H s ∧ 0 < m ∧ m ≤ 1000 ∧
  ∀ (p : Addr) (vs : List V) (rs : List Row) (U' H' : Hp), Gr (G1 s) U H U' H' → Src U' H' s → H p = none → U' p = some (.lst vs) → DpAll K U' vs (rs.map Row.data) → OkRows rs → 0 < rs.length → rs.length ≤ m → Q (.ref p) H'
theorem d__law_rows (T : Txt w K mg W) : DefOk P w K mg base "_law_rows" s__law_rows ["_law_source", "_law_many"] 5 (sp_rows K) := by
  refine T.f__law_rows.ok sc__law_rows (fun vs H Q E h => ?_) (fun f cdv A outer s H vs Q E hr h => ?_)
  · obtain ⟨s, U, m, rfl, _⟩ := h
    rfl
  · obtain ⟨s, U, m, rfl, S, m0, m1, k⟩ := h
    refine ⟨_, (pss_cons (ps_set (i := 2) sc__law_rows.nd rfl (Or.inl rfl) (pe_lst pa_nil))
      (pss_cons (ps_for PassesOwn.never rfl (pi_range1 (by rfl) T.n_range (pa_cons (pe_op op_add pe_int (pe_callD (d__law_next T) (hr.mono (by decide)) (pa_cons (pv 0) (pa_cons (pv 1) pa_nil)))) pa_nil)) (pg_name (i := 3) sc__law_rows.nd rfl (Or.inl rfl))
      (pss_one (ps_expr (pe_bm PySem.F.plainAttrs_list PySem.F.slot_list_append PySem.F.type_list_append mt_append (pv 2) (pa_cons (pe_callD (d__law_row T) (hr.mono (by decide)) (pa_cons (pv 0) (pa_cons (pv 3) pa_nil))) pa_nil)))))
      (pss_one (ps_ret (pv 2))))), ?_⟩
    refine ⟨Nat.le_of_ble_eq_true rfl, fun p hp => ?_⟩
    have p0 := vfree S.v hp
    have hps : p ≠ s := fun e => by
      obtain ⟨_, _, _, q⟩ := S.h
      rw [e, q] at hp
      cases hp
    refine ⟨_, rfl, _, rfl, s, U, _, rfl, (S.newH hp).2, by omega, by omega, fun r H1 g0 S1 r0 r1 => ?_⟩
    have g1 := (S.newH (o := .lst []) hp).1.trans g0
    refine ⟨_, _, rfl, rfl, _, rfl, by omega, by omega, ?_⟩
    refine for_range (lo := 0) (n := (1 + r).toNat) (fun i σ H' => ∃ (v : Option V) (U' : Hp) (vs : List V) (rs : List Row), σ = [some (.ref s), some (.int m), some (.ref p), v] ∧ Gr (G1 s) U H U' H' ∧ Src U' H' s ∧ U' p = none ∧ H' p = some (.lst vs) ∧ DpAll K U' vs (rs.map Row.data) ∧ OkRows rs ∧ rs.length = i) ?_ ?_ ?_
    · exact ⟨none, U, [], [], rfl, g1, S1, p0, g0.k p _ hps upd_same, .nil, fun i r e => by simp at e, rfl⟩
    · rintro i σ H' hi ⟨v, U', vs, rs, rfl, g, S', pu, hpv, hd, hok, hl⟩
      refine ⟨_, rfl, .inl ⟨rfl, _, sqlO hpv⟩, ?_⟩
      refine ⟨_, rfl, _, rfl, s, U', i, by rw [Int.zero_add]; rfl, S', by omega, fun v2 r2 U2 H2 g2 S2 hr2 hd2 => ?_⟩
      have hp2 := g2.k p _ hps hpv
      have pu2 := g2.out (some_ne hpv) pu
      have hlen := dps_length hd
      refine ⟨_, _, _, rfl, rfl, hp2, by rw [hlen, List.length_map, hl]; exact small1000 (by omega), ?_⟩
      refine ⟨_, U2, vs ++ [v2], rs ++ [r2], rfl, (g.trans g2).mut (.inr hp) pu2, S2.mut hps pu2, pu2, upd_same, ?_, hok.snoc (by rw [hl]; exact hr2), by rw [List.length_append, hl]; rfl⟩
      rw [List.map_append]
      exact dps_append (dpsS g2.v hd) (.cons hd2 .nil)
    · rintro σ H' ⟨v, U', vs, rs, rfl, g, S', pu, hpv, hd, hok, hl⟩
      have gt := g.tell hp hpv pu
      have hsp : s ≠ p := Ne.symm hps
      exact ⟨_, rfl, k p vs rs _ _ gt ⟨gt.s, by rw [upd_ne hsp]; exact S'.o, S'.h⟩ hp upd_same (dpsS (fun b o e => by rw [upd_ne (ne_of_none e pu)]; exact e) hd) hok (by omega) (by omega)⟩
end
end Lw

namespace Lw
open PySem PySem.Spec PyProof.Rows L2 VW TL
local macro_rules | `(tactic| walk_at "rdc") => `(tactic| first | assumption | rfl | decide | omega | exact Or.inr ⟨by decide, by decide⟩ | exact ⟨by decide, by decide⟩ | exact ⟨by decide, by decide, by decide⟩ | (show (0 : Int) < _; omega) | (show (0 : Int) < _ ∧ _ < (1073741824 : Int); omega) | (show (-(2 ^ 64) < _ ∧ _ < 2 ^ 64) ∨ (-(2 ^ 64) < _ ∧ _ < 2 ^ 64); omega) | (show (-(2 ^ 64) < _ ∧ _ < 2 ^ 64) ∨ (-(2 ^ 64) < _ ∧ _ < 2 ^ 64); right; split <;> decide) | exact Nat.le_of_ble_eq_true rfl)
local macro_rules | `(tactic| walk_at "rd1") => `(tactic| first | refine ⟨_, rfl, ?_⟩ | refine And.intro (by walk_at "rdc") ?_ | refine ⟨_, _, rfl, rfl, ?_⟩ | refine Or.inl ⟨_, rfl, ?_⟩ | refine Or.inr ⟨_, rfl, ?_⟩ | refine ⟨_, _, _, _, rfl, rfl, sqlO (by first | assumption | exact upd_same), rfl, ?_⟩ | refine ⟨_, _, _, _, rfl, rfl, (by first | assumption | exact upd_same), rfl, ?_⟩)
local macro_rules | `(tactic| walk_at "rd") => `(tactic| repeat (walk_at "rd1"))

section
variable {P : Program} {w : World} {K : PySem.W.Frag} {mg : Str → Option Value} {base : Heap} {W : Wd}
/-! ### what is a row: for rows alone -/
def tyName : PyData → String
  | .none => "NoneType" | .bool _ => "bool" | .int _ => "int" | .str _ => "str" | .list _ => "list" | .tuple _ => "tuple" | .dict _ => "dict"
theorem ty_of {K : PySem.W.Frag} {H : Hp} {v : V} {d : PyData} : Dp K H v d → TyX K H v (.type (tyName d)) := by
  intro h
  cases h with
  | non => exact .base .non
  | bl b => exact .base (.bl b)
  | int i => exact .base (.int i)
  | str x => exact .base (.str x)
  | lst hs _ =>
    rcases hs with (h | ⟨o, h⟩) | ⟨o, its, n, h1, h2, _⟩
    · exact .base (.lst h)
    · exact .base (.frz h)
    · exact .kList h1 h2
  | tup hs _ =>
    rcases hs with (h | ⟨o, h⟩) | ⟨o, its, n, h1, h2, _⟩
    · exact .base (.tup h)
    · exact .fTuple h
    · exact .kTuple h1 h2
theorem ifF {c : Bool} {A B : Prop} (hc : c = false) (h : B) : if c = true then A else B := by
  rw [hc]
  exact iteF h
theorem ifT {c : Bool} {A B : Prop} (hc : c = true) (h : A) : if c = true then A else B := by
  rw [hc]
  exact iteT h
theorem tyT {K : PySem.W.Frag} {H : Hp} {a : Addr} {vs : List V} (hs : SqT K H a vs) : TyX K H (.ref a) (.type "tuple") := by
  rcases hs with (h | ⟨o, h⟩) | ⟨o, its, n, h1, h2, _⟩
  · exact .base (.tup h)
  · exact .fTuple h
  · exact .kTuple h1 h2
theorem tyL {K : PySem.W.Frag} {H : Hp} {a : Addr} {vs : List V} (hs : SqL K H a vs) : TyX K H (.ref a) (.type "list") := by
  rcases hs with (h | ⟨o, h⟩) | ⟨o, its, n, h1, h2, _⟩
  · exact .base (.lst h)
  · exact .base (.frz h)
  · exact .kList h1 h2
theorem sc_is_integer : FnScope ["value"] ["value"] (defScope s_is_integer) := ⟨rfl, rfl, rfl, by decide +kernel, rfl, by decide +kernel, by decide +kernel⟩
def isIntD : PyData → Bool
  | .int _ => true
  | _ => false
def sp_isint (K : PySem.W.Frag) : Sp := fun vs H Q _ => ∃ (v : V) (d : PyData), vs = [v] ∧ Dp K H v d ∧ Q (.bl (isIntD d)) H
theorem d_is_integer (T : Txt w K mg W) : DefOk P w K mg base "is_integer" s_is_integer ["value"] 1 (sp_isint K) := by
  refine T.f_is_integer.ok sc_is_integer (fun vs H Q E h => ?_) (fun f cdv A outer s H vs Q E hr h => ?_)
  · obtain ⟨v, d, rfl, _⟩ := h
    rfl
  · obtain ⟨v, d, rfl, hd, k⟩ := h
    have ty := ty_of hd
    refine ⟨_, (pss_one (ps_ret (pe_and (pe_callB (id := "isinstance") call_isi (by rfl) T.n_isinstance (by decide +kernel) (pa_cons (pv 0) (pa_cons (pe_bltn (v := .ty "int") (by rfl) T.n_int (by decide +kernel) rfl) pa_nil))) (pe_one (pe_not (pe_callB (id := "isinstance") call_isi (by rfl) T.n_isinstance (by decide +kernel) (pa_cons (pv 0) (pa_cons (pe_bltn (v := .ty "bool") (by rfl) T.n_bool (by decide +kernel) rfl) pa_nil)))))))), ?_⟩
    cases d with
    | none => have ty : TyX K H v (.type "NoneType") := ty; exact ⟨_, rfl, ⟨_, _, _, _, false, rfl, .ty "int", ty, kit_ty (by decide +kernel), _, rfl, iteF k⟩⟩
    | bool b => have ty : TyX K H v (.type "bool") := ty; exact ⟨_, rfl, ⟨_, _, _, _, true, rfl, .ty "int", ty, kit_ty (by decide +kernel), _, rfl, iteT ⟨_, rfl, ⟨_, _, _, _, true, rfl, .ty "bool", ty, kit_ty (by decide +kernel), _, rfl, k⟩⟩⟩⟩
    | int i => have ty : TyX K H v (.type "int") := ty; exact ⟨_, rfl, ⟨_, _, _, _, true, rfl, .ty "int", ty, kit_ty (by decide +kernel), _, rfl, iteT ⟨_, rfl, ⟨_, _, _, _, false, rfl, .ty "bool", ty, kit_ty (by decide +kernel), _, rfl, k⟩⟩⟩⟩
    | str z => have ty : TyX K H v (.type "str") := ty; exact ⟨_, rfl, ⟨_, _, _, _, false, rfl, .ty "int", ty, kit_ty (by decide +kernel), _, rfl, iteF k⟩⟩
    | list z => have ty : TyX K H v (.type "list") := ty; exact ⟨_, rfl, ⟨_, _, _, _, false, rfl, .ty "int", ty, kit_ty (by decide +kernel), _, rfl, iteF k⟩⟩
    | tuple z => have ty : TyX K H v (.type "tuple") := ty; exact ⟨_, rfl, ⟨_, _, _, _, false, rfl, .ty "int", ty, kit_ty (by decide +kernel), _, rfl, iteF k⟩⟩
    | dict z => cases hd
def belowD (e : Int) : PyData → Bool
  | .int i => decide (0 ≤ i) && decide (i < e)
  | _ => false
theorem sc_is_between : FnScope ["value", "least", "most"] ["value", "least", "most"] (defScope s_is_between) := ⟨rfl, rfl, rfl, by decide +kernel, rfl, by decide +kernel, by decide +kernel⟩
def betweenD (a e : Int) : PyData → Bool
  | .int i => decide (a ≤ i) && decide (i ≤ e)
  | _ => false
theorem between_below {e : Int} {d : PyData} : betweenD 0 (e - 1) d = belowD e d := by
  cases d <;> try rfl
  rename_i i
  show (decide (0 ≤ i) && decide (i ≤ e - 1)) = (decide (0 ≤ i) && decide (i < e))
  congr 1
  exact decide_eq_decide.mpr (by omega)
def sp_between (K : PySem.W.Frag) : Sp := fun vs H Q _ => ∃ (v : V) (d : PyData) (a e : Int), vs = [v, .int a, .int e] ∧ Dp K H v d ∧ Q (.bl (betweenD a e d)) H
theorem d_is_between (T : Txt w K mg W) : DefOk P w K mg base "is_between" s_is_between ["value", "least", "most"] 2 (sp_between K) := by
  refine T.f_is_between.ok sc_is_between (fun vs H Q E h => ?_) (fun f cdv A outer s H vs Q E hr h => ?_)
  · obtain ⟨v, d, a, e, rfl, _⟩ := h
    rfl
  · obtain ⟨v, d, a, e, rfl, hd, k⟩ := h
    refine ⟨_, (pss_one (ps_ret (pe_and (pe_callD (d_is_integer T) (hr.mono (by decide)) (pa_cons (pv 0) pa_nil)) (pe_one (pe_chain op_le op_le (pv 1) (pv 0) (pv 2)))))), ?_⟩
    cases hi : isIntD d with
    | false =>
      have e0 : betweenD a e d = false := by
        cases d <;> first | rfl | cases hi
      rw [e0] at k
      exact ⟨_, rfl, v, d, rfl, hd, _, rfl, ifF hi k⟩
    | true =>
      obtain ⟨i, rfl⟩ : ∃ i, d = .int i := by
        cases d <;> first | exact ⟨_, rfl⟩ | cases hi
      refine ⟨_, rfl, v, _, rfl, hd, _, rfl, ifT hi ?_⟩
      cases hd
      walk_at "rd"
      have k : Q (.bl (decide (a ≤ i) && decide (i ≤ e))) H := k
      by_cases h1 : a ≤ i
      · rw [decide_eq_true h1] at k ⊢
        refine iteT ?_
        walk_at "rd"
        rw [Bool.true_and] at k
        exact k
      · rw [decide_eq_false h1] at k ⊢
        refine iteF ?_
        rw [Bool.false_and] at k
        exact k
theorem sc__is_signs : FnScope ["value", "most"] ["value", "most"] (defScope s__is_signs) := ⟨rfl, rfl, rfl, by decide +kernel, rfl, by decide +kernel, by decide +kernel⟩
theorem asc_good (z : Str) : (Txt.isascii z && Txt.isprintable z) = z.cps.toList.all good := by
  have q : (List.range 128).all (fun c => decide (32 ≤ c ∧ c ≤ 126) == Unicode.isPrintable c) = true := by decide +kernel
  have e : ∀ c, (decide (c < 128) && Unicode.isPrintable c) = good c := fun c => by
    unfold good
    by_cases h : c < 128
    · rw [decide_eq_true h, Bool.true_and]
      have := List.all_eq_true.mp q c (List.mem_range.mpr h)
      rw [beq_iff_eq] at this
      exact this.symm
    · rw [decide_eq_false h, Bool.false_and]
      exact (decide_eq_false (by omega)).symm
  unfold Txt.isascii Txt.isprintable
  rw [← Array.all_toList, ← Array.all_toList]
  rw [Bool.eq_iff_iff, Bool.and_eq_true, List.all_eq_true, List.all_eq_true, List.all_eq_true]
  constructor
  · intro h c hc
    have a := h.1 c hc
    have b := h.2 c hc
    rw [← e c, a, b]
    rfl
  · intro h
    refine ⟨fun c hc => ?_, fun c hc => ?_⟩
    · have := h c hc
      rw [← e c, Bool.and_eq_true] at this
      exact this.1
    · have := h c hc
      rw [← e c, Bool.and_eq_true] at this
      exact this.2
def goodD (m : Nat) : PyData → Bool
  | .str z => decide (z.length ≤ m) && z.cps.toList.all good
  | _ => false
def shortD : PyData → Prop
  | .str z => z.length ≤ 1000
  | _ => True
def sp_issigns (K : PySem.W.Frag) : Sp := fun vs H Q _ => ∃ (v : V) (d : PyData) (m : Nat), vs = [v, .int m] ∧ Dp K H v d ∧ (shortD d ∧ m ≤ 1000) ∧ ∀ H', Same H H' → Q (.bl (goodD m d)) H'
theorem all_true {l : List Bool} {Q : Bool → Prop} (h : Q (l.all id)) : Q (l.all id) := h
theorem d__is_signs (T : Txt w K mg W) : DefOk P w K mg base "_is_signs" s__is_signs ["value", "most"] 1 (sp_issigns K) := by
  refine T.f__is_signs.ok sc__is_signs (fun vs H Q E h => ?_) (fun f cdv A outer s H vs Q E hr h => ?_)
  · obtain ⟨v, d, m, rfl, _⟩ := h
    rfl
  · obtain ⟨v, d, m, rfl, hd, ⟨hz, hm⟩, k⟩ := h
    have ty := ty_of hd
    refine ⟨_, (pss_one (ps_ret (pe_and (pe_callB (id := "isinstance") call_isi (by rfl) T.n_isinstance (by decide +kernel) (pa_cons (pv 0) (pa_cons (pe_bltn (v := .ty "str") (by rfl) T.n_str (by decide +kernel) rfl) pa_nil))) (pe_and (pe_cmpR op_le (pe_callB (id := "len") call_len (by rfl) T.n_len (by decide +kernel) (pa_cons (pv 0) pa_nil)) (pv 1) (nomark _)) (pe_and (pe_bm0 PySem.F.plainAttrs_str PySem.F.slot_str_isascii PySem.F.type_str_isascii mt_isascii (pv 0)) (pe_one (pe_bm0 PySem.F.plainAttrs_str PySem.F.slot_str_isprintable PySem.F.type_str_isprintable mt_isprintable (pv 0)))))))), ?_⟩
    cases d with
    | none => have ty : TyX K H v (.type "NoneType") := ty; exact ⟨_, rfl, _, _, _, _, false, rfl, .ty "str", ty, kit_ty (by decide +kernel), _, rfl, iteF (k H (Same.refl _))⟩
    | bool b => have ty : TyX K H v (.type "bool") := ty; exact ⟨_, rfl, _, _, _, _, false, rfl, .ty "str", ty, kit_ty (by decide +kernel), _, rfl, iteF (k H (Same.refl _))⟩
    | int i => have ty : TyX K H v (.type "int") := ty; exact ⟨_, rfl, _, _, _, _, false, rfl, .ty "str", ty, kit_ty (by decide +kernel), _, rfl, iteF (k H (Same.refl _))⟩
    | list i => have ty : TyX K H v (.type "list") := ty; exact ⟨_, rfl, _, _, _, _, false, rfl, .ty "str", ty, kit_ty (by decide +kernel), _, rfl, iteF (k H (Same.refl _))⟩
    | tuple i => have ty : TyX K H v (.type "tuple") := ty; exact ⟨_, rfl, _, _, _, _, false, rfl, .ty "str", ty, kit_ty (by decide +kernel), _, rfl, iteF (k H (Same.refl _))⟩
    | dict i => cases hd
    | str z =>
      cases hd
      have hz : z.length ≤ 1000 := hz
      have k : ∀ H', Same H H' → Q (.bl (decide (z.length ≤ m) && z.cps.toList.all good)) H' := k
      have k := k H (Same.refl _)
      rw [← asc_good] at k
      refine ⟨_, rfl, _, _, _, _, true, rfl, .ty "str", .base (.str _), kit_ty (by decide +kernel), _, rfl, iteT ?_⟩
      refine ⟨_, rfl, _, z.length, rfl, ⟨Nat.le_trans hz (Nat.le_of_ble_eq_true rfl), rfl⟩, _, rfl, _, _, rfl, rfl, _, rfl, ?_⟩
      by_cases hl : z.length ≤ m
      · refine ifT (decide_eq_true (by omega)) ?_
        rw [decide_eq_true hl, Bool.true_and] at k
        refine ⟨_, rfl, rfl, z, rfl, rfl, trivial, _, rfl, ?_⟩
        cases ha : Txt.isascii z with
        | false =>
          rw [ha, Bool.false_and] at k
          exact iteF k
        | true =>
          rw [ha, Bool.true_and] at k
          exact iteT ⟨_, rfl, rfl, z, rfl, rfl, trivial, k⟩
      · refine ifF (decide_eq_false (by omega)) ?_
        rw [decide_eq_false hl, Bool.false_and] at k
        exact k
theorem sc__is_parts : FnScope ["value", "k", "part"] ["value", "k"] (defScope s__is_parts) := ⟨rfl, rfl, rfl, by decide +kernel, rfl, by decide +kernel, by decide +kernel⟩
def partsD (e : Int) : PyData → Bool
  | .list ds => decide (ds.length ≤ 8) && ds.all (belowD e)
  | _ => false
def sp_isparts (K : PySem.W.Frag) : Sp := fun vs H Q _ => ∃ (v : V) (d : PyData) (e : Nat), vs = [v, .int e] ∧ Dp K H v d ∧ ∀ H', Same H H' → Q (.bl (partsD e d)) H'
theorem d__is_parts (T : Txt w K mg W) : DefOk P w K mg base "_is_parts" s__is_parts ["value", "k"] 1 (sp_isparts K) := by
  refine T.f__is_parts.ok sc__is_parts (fun vs H Q E h => ?_) (fun f cdv A outer s H vs Q E hr h => ?_)
  · obtain ⟨v, d, e, rfl, _⟩ := h
    rfl
  · obtain ⟨v, d, e, rfl, hd, k⟩ := h
    have ty := ty_of hd
    refine ⟨_, (pss_cons (ps_if (PW.pt (pw_or (pt_not (pt_val (pe_callB (id := "isinstance") call_isi (by rfl) T.n_isinstance (by decide +kernel) (pa_cons (pv 0) (pa_cons (pe_bltn (v := .ty "list") (by rfl) T.n_list (by decide +kernel) rfl) pa_nil))))) (pw_or1 (pt_cmpR op_gt (pe_callB (id := "len") call_len (by rfl) T.n_len (by decide +kernel) (pa_cons (pv 0) pa_nil)) (pe_globI T.g_MOST_PARTS) (nomark _))))) (pss_one (ps_ret pe_bl)) pss_nil)
      (pss_cons (ps_for PassesOwn.never rfl (pi_list (pv 0)) (pg_name (i := 2) sc__is_parts.nd rfl (Or.inl rfl))
      (pss_one (ps_if (PW.pt (pw_or (pt_not (pt_val (pe_callB (id := "isinstance") call_isi (by rfl) T.n_isinstance (by decide +kernel) (pa_cons (pv 2) (pa_cons (pe_bltn (v := .ty "int") (by rfl) T.n_int (by decide +kernel) rfl) pa_nil))))) (pw_or (pt_val (pe_callB (id := "isinstance") call_isi (by rfl) T.n_isinstance (by decide +kernel) (pa_cons (pv 2) (pa_cons (pe_bltn (v := .ty "bool") (by rfl) T.n_bool (by decide +kernel) rfl) pa_nil)))) (pw_or1 (pt_not (pt_chain op_le op_lt pe_int (pv 2) (pv 1))))))) (pss_one (ps_ret pe_bl)) pss_nil)))
      (pss_one (ps_ret pe_bl)))), ?_⟩
    cases d with
    | none => have ty : TyX K H v (.type "NoneType") := ty; exact ⟨_, rfl, _, _, _, _, false, rfl, .ty "list", ty, kit_ty (by decide +kernel), false, rfl, iteT (iteT (k H (Same.refl _)))⟩
    | bool b => have ty : TyX K H v (.type "bool") := ty; exact ⟨_, rfl, _, _, _, _, false, rfl, .ty "list", ty, kit_ty (by decide +kernel), false, rfl, iteT (iteT (k H (Same.refl _)))⟩
    | int i => have ty : TyX K H v (.type "int") := ty; exact ⟨_, rfl, _, _, _, _, false, rfl, .ty "list", ty, kit_ty (by decide +kernel), false, rfl, iteT (iteT (k H (Same.refl _)))⟩
    | str i => have ty : TyX K H v (.type "str") := ty; exact ⟨_, rfl, _, _, _, _, false, rfl, .ty "list", ty, kit_ty (by decide +kernel), false, rfl, iteT (iteT (k H (Same.refl _)))⟩
    | tuple i => have ty : TyX K H v (.type "tuple") := ty; exact ⟨_, rfl, _, _, _, _, false, rfl, .ty "list", ty, kit_ty (by decide +kernel), false, rfl, iteT (iteT (k H (Same.refl _)))⟩
    | dict i => cases hd
    | list ds =>
      cases hd with
      | lst hl ha =>
      rename_i l vs
      have hlen := dps_length ha
      have k : ∀ H', Same H H' → Q (.bl (decide (ds.length ≤ 8) && ds.all (belowD e))) H' := k
      refine ⟨_, rfl, _, _, _, _, true, rfl, .ty "list", tyL hl, kit_ty (by decide +kernel), true, rfl, iteF ?_⟩
      refine ⟨_, rfl, _, _, rfl, .inl ⟨_, hl, rfl⟩, _, _, rfl, rfl, _, rfl, ?_⟩
      by_cases h8 : ds.length ≤ 8
      · refine ifF (decide_eq_false (by omega)) ?_
        rw [decide_eq_true h8, Bool.true_and] at k
        refine ⟨_, rfl, l, rfl, ⟨_, hl⟩, ?_⟩
        refine for_list (xs := vs) (fun i σ H' => Same H H' ∧ (ds.take i).all (belowD e) = true ∧ ∃ v9, σ = [some (.ref l), some (.int e), v9]) ⟨Same.refl _, rfl, _, rfl⟩ (fun i σ H' _ z => sqlS z.1 hl) ?_ ?_
        · rintro i x σ H2 hx ⟨sm, hall, v9, rfl⟩
          obtain ⟨d, hd1, dx⟩ := dps_get ha hx
          have dx := dpS sm dx
          have ty := ty_of dx
          have est : (ds.take (i + 1)).all (belowD e) = belowD e d := by
            rw [List.take_succ, hd1, List.all_append, hall]
            simp
          have bad : belowD e d = false → Q (.bl false) H2 := fun h => by
            have k := k H2 sm
            have : ds.all (belowD e) = false := by
              rw [Bool.eq_false_iff]
              intro z
              have := List.all_eq_true.mp z d (List.mem_of_getElem? hd1)
              rw [h] at this
              cases this
            rw [this] at k
            exact k
          have next : belowD e d = true → Same H H2 ∧ (ds.take (i + 1)).all (belowD e) = true ∧ ∃ v9, ([some (V.ref l), some (V.int e), v9].set 2 (some x)) = [some (V.ref l), some (V.int e), v9] := fun h => ⟨sm, est.trans h, _, rfl⟩
          cases d with
          | none => have ty : TyX K H2 x (.type "NoneType") := ty; exact ⟨_, rfl, _, _, _, _, false, rfl, .ty "int", ty, kit_ty (by decide +kernel), _, rfl, iteT (iteT (bad rfl))⟩
          | bool b => have ty : TyX K H2 x (.type "bool") := ty; exact ⟨_, rfl, _, _, _, _, true, rfl, .ty "int", ty, kit_ty (by decide +kernel), _, rfl, iteF ⟨_, rfl, _, _, _, _, true, rfl, .ty "bool", ty, kit_ty (by decide +kernel), _, rfl, iteT (iteT (bad rfl))⟩⟩
          | str z => have ty : TyX K H2 x (.type "str") := ty; exact ⟨_, rfl, _, _, _, _, false, rfl, .ty "int", ty, kit_ty (by decide +kernel), _, rfl, iteT (iteT (bad rfl))⟩
          | list z => have ty : TyX K H2 x (.type "list") := ty; exact ⟨_, rfl, _, _, _, _, false, rfl, .ty "int", ty, kit_ty (by decide +kernel), _, rfl, iteT (iteT (bad rfl))⟩
          | tuple z => have ty : TyX K H2 x (.type "tuple") := ty; exact ⟨_, rfl, _, _, _, _, false, rfl, .ty "int", ty, kit_ty (by decide +kernel), _, rfl, iteT (iteT (bad rfl))⟩
          | dict z => cases dx
          | int j =>
            cases dx
            refine ⟨_, rfl, _, _, _, _, true, rfl, .ty "int", .base (.int _), kit_ty (by decide +kernel), _, rfl, iteF ?_⟩
            refine ⟨_, rfl, _, _, _, _, false, rfl, .ty "bool", .base (.int _), kit_ty (by decide +kernel), _, rfl, iteF ?_⟩
            have eb : belowD e (.int j) = (decide (0 ≤ j) && decide (j < e)) := rfl
            by_cases h0 : 0 ≤ j
            · refine ⟨_, rfl, _, _, rfl, rfl, _, rfl, ifT (decide_eq_true h0) ?_⟩
              by_cases h1 : j < e
              · refine ⟨_, rfl, _, _, rfl, rfl, _, rfl, ifF (by rw [decide_eq_true h1]; rfl) ?_⟩
                exact next (by rw [eb, decide_eq_true h0, decide_eq_true h1]; rfl)
              · refine ⟨_, rfl, _, _, rfl, rfl, _, rfl, ifT (by rw [decide_eq_false h1]; rfl) ?_⟩
                exact bad (by rw [eb, decide_eq_false h1, Bool.and_false])
            · refine ⟨_, rfl, _, _, rfl, rfl, _, rfl, ifF (decide_eq_false h0) ?_⟩
              refine ⟨_, rfl, ifT rfl ?_⟩
              exact bad (by rw [eb, decide_eq_false h0, Bool.false_and])
        · rintro σ H2 ⟨sm, hall, v9, rfl⟩
          rw [List.take_of_length_le (by omega)] at hall
          have k := k H2 sm
          rw [hall] at k
          exact k
      · refine ifT (decide_eq_true (by omega)) ?_
        rw [decide_eq_false h8, Bool.false_and] at k
        exact k H (Same.refl _)
end
end Lw

set_option maxHeartbeats 1000000
namespace Lw
open PySem PySem.Spec PyProof.Rows L2 VW TL
local macro_rules | `(tactic| walk_at "rdc") => `(tactic| first | assumption | rfl | decide | omega | exact Or.inr ⟨by decide, by decide⟩ | exact ⟨by decide, by decide⟩ | exact ⟨by decide, by decide, by decide⟩ | (show (0 : Int) < _; omega) | (show (0 : Int) < _ ∧ _ < (1073741824 : Int); omega) | (show (-(2 ^ 64) < _ ∧ _ < 2 ^ 64) ∨ (-(2 ^ 64) < _ ∧ _ < 2 ^ 64); omega) | (show (-(2 ^ 64) < _ ∧ _ < 2 ^ 64) ∨ (-(2 ^ 64) < _ ∧ _ < 2 ^ 64); right; split <;> decide) | exact Nat.le_of_ble_eq_true rfl)
local macro_rules | `(tactic| walk_at "rd1") => `(tactic| first | refine ⟨_, rfl, ?_⟩ | refine And.intro (by walk_at "rdc") ?_ | refine ⟨_, _, rfl, rfl, ?_⟩ | refine Or.inl ⟨_, rfl, ?_⟩ | refine Or.inr ⟨_, rfl, ?_⟩ | refine ⟨_, _, _, _, rfl, rfl, sqlO (by first | assumption | exact upd_same), rfl, ?_⟩ | refine ⟨_, _, _, _, rfl, rfl, (by first | assumption | exact upd_same), rfl, ?_⟩)
local macro_rules | `(tactic| walk_at "rd") => `(tactic| repeat (walk_at "rd1"))

section
variable {P : Program} {w : World} {K : PySem.W.Frag} {mg : Str → Option Value} {base : Heap} {W : Wd}
/-- the words that stand at the head of a row here, and what ROW_LENGTHS tells of them -/
def KQ : List (Str × V) := [("text", .int 2), ("line", .int 2), ("hard", .int 1), ("cat", .int 2), ("nest", .int 3), ("align", .int 2), ("group", .int 2), ("Group", .non), ("fold", .non)]
theorem getQ (T : Txt w K mg W) {q : Str} {n : V} (h : (q, n) ∈ KQ) : ∃ r, PySem.W.nsIn K W.ROW_LENGTHS q = some r ∧ RelV n (r.getD .none) := by
  simp only [KQ, List.mem_cons, List.not_mem_nil, or_false, Prod.mk.injEq] at h
  rcases h with ⟨rfl, rfl⟩ | ⟨rfl, rfl⟩ | ⟨rfl, rfl⟩ | ⟨rfl, rfl⟩ | ⟨rfl, rfl⟩ | ⟨rfl, rfl⟩ | ⟨rfl, rfl⟩ | ⟨rfl, rfl⟩ | ⟨rfl, rfl⟩
  · obtain ⟨t, h⟩ := T.k_ROW_LENGTHS_text; exact ⟨_, h, t, rfl⟩
  · obtain ⟨t, h⟩ := T.k_ROW_LENGTHS_line; exact ⟨_, h, t, rfl⟩
  · obtain ⟨t, h⟩ := T.k_ROW_LENGTHS_hard; exact ⟨_, h, t, rfl⟩
  · obtain ⟨t, h⟩ := T.k_ROW_LENGTHS_cat; exact ⟨_, h, t, rfl⟩
  · obtain ⟨t, h⟩ := T.k_ROW_LENGTHS_nest; exact ⟨_, h, t, rfl⟩
  · obtain ⟨t, h⟩ := T.k_ROW_LENGTHS_align; exact ⟨_, h, t, rfl⟩
  · obtain ⟨t, h⟩ := T.k_ROW_LENGTHS_group; exact ⟨_, h, t, rfl⟩
  · exact ⟨_, T.ab_Group, rfl⟩
  · exact ⟨_, T.ab_fold, rfl⟩
/-- whether data is a row with the number k -/
def rowD (k : Nat) : PyData → Bool
  | .tuple [.str q] => decide (q = "hard")
  | .tuple [.str q, x] => if q = "text" then goodD 20 x else if q = "line" then goodD 3 x else if q = "cat" then partsD k x else (decide (q = "align") || decide (q = "group")) && belowD k x
  | .tuple [.str q, x, y] => decide (q = "nest") && (belowD 9 x && belowD k y)
  | _ => false
/-- what is_row is asked of here -/
def okD : PyData → Prop
  | .tuple (.str q :: r) => (∃ n, (q, n) ∈ KQ) ∧ ∀ x ∈ r, shortD x
  | _ => True
theorem rowD1 {k : Nat} {q : Str} : rowD k (.tuple [.str q]) = decide (q = "hard") := rfl
theorem rowD2 {k : Nat} {q : Str} {x : PyData} : rowD k (.tuple [.str q, x]) = if q = "text" then goodD 20 x else if q = "line" then goodD 3 x else if q = "cat" then partsD k x else (decide (q = "align") || decide (q = "group")) && belowD k x := rfl
theorem rowD3 {k : Nat} {q : Str} {x y : PyData} : rowD k (.tuple [.str q, x, y]) = (decide (q = "nest") && (belowD 9 x && belowD k y)) := rfl
theorem rowD_off {q : Str} {n : V} {r : List PyData} {k : Nat} (h : (q, n) ∈ KQ) (e : ¬ n = .int ((r.length + 1 : Nat) : Int)) : rowD k (.tuple (.str q :: r)) = false := by
  simp only [KQ, List.mem_cons, List.not_mem_nil, or_false, Prod.mk.injEq] at h
  match r with
  | [] =>
    rw [rowD1]
    rcases h with ⟨rfl, rfl⟩ | ⟨rfl, rfl⟩ | ⟨rfl, rfl⟩ | ⟨rfl, rfl⟩ | ⟨rfl, rfl⟩ | ⟨rfl, rfl⟩ | ⟨rfl, rfl⟩ | ⟨rfl, rfl⟩ | ⟨rfl, rfl⟩ <;> first | exact absurd rfl e | exact decide_eq_false (by decide +kernel)
  | [x] =>
    rw [rowD2]
    rcases h with ⟨rfl, rfl⟩ | ⟨rfl, rfl⟩ | ⟨rfl, rfl⟩ | ⟨rfl, rfl⟩ | ⟨rfl, rfl⟩ | ⟨rfl, rfl⟩ | ⟨rfl, rfl⟩ | ⟨rfl, rfl⟩ | ⟨rfl, rfl⟩ <;> first | exact absurd rfl e | (rw [if_neg (by decide +kernel), if_neg (by decide +kernel), if_neg (by decide +kernel), decide_eq_false (by decide +kernel), decide_eq_false (by decide +kernel)]; rfl)
  | [x, y] =>
    rw [rowD3]
    rcases h with ⟨rfl, rfl⟩ | ⟨rfl, rfl⟩ | ⟨rfl, rfl⟩ | ⟨rfl, rfl⟩ | ⟨rfl, rfl⟩ | ⟨rfl, rfl⟩ | ⟨rfl, rfl⟩ | ⟨rfl, rfl⟩ | ⟨rfl, rfl⟩ <;> first | exact absurd rfl e | (rw [decide_eq_false (by decide +kernel)]; rfl)
  | x :: y :: z :: r' => rfl
theorem scalQ {q : Str} {n : V} {i : Int} (h : (q, n) ∈ KQ) : scal n (.int i) = true := by
  simp only [KQ, List.mem_cons, List.not_mem_nil, or_false, Prod.mk.injEq] at h
  rcases h with ⟨rfl, rfl⟩ | ⟨rfl, rfl⟩ | ⟨rfl, rfl⟩ | ⟨rfl, rfl⟩ | ⟨rfl, rfl⟩ | ⟨rfl, rfl⟩ | ⟨rfl, rfl⟩ | ⟨rfl, rfl⟩ | ⟨rfl, rfl⟩ <;> rfl
theorem int_len {n : Int} {m : Nat} (e : V.int n = .int ((m + 1 : Nat) : Int)) : (m : Int) + 1 = n := by
  cases e
  rfl
theorem sc_is_row : FnScope ["row", "k", "kind"] ["row", "k"] (defScope s_is_row) := ⟨rfl, rfl, rfl, by decide +kernel, rfl, by decide +kernel, by decide +kernel⟩
/-- data, or an empty dict -/
def DpX (K : PySem.W.Frag) (H : Hp) (v : V) (d : PyData) : Prop := Dp K H v d ∨ d = .dict [] ∧ ∃ a : Addr, v = .ref a ∧ H a = some (.dK [])
theorem dpxS {H H' : Hp} {v : V} {d : PyData} (s : Same H H') (h : DpX K H v d) : DpX K H' v d := by
  rcases h with h | ⟨e, a, h1, h2⟩
  · exact .inl (dpS s h)
  · exact .inr ⟨e, a, h1, s _ _ h2⟩
def sp_isrow (K : PySem.W.Frag) : Sp := fun vs H Q _ => ∃ (v : V) (d : PyData) (n : Nat), vs = [v, .int n] ∧ DpX K H v d ∧ okD d ∧ ∀ H', Same H H' → Q (.bl (rowD n d)) H'
theorem d_is_row (T : Txt w K mg W) : DefOk P w K mg base "is_row" s_is_row ["row", "k"] 3 (sp_isrow K) := by
  refine T.f_is_row.ok sc_is_row (fun vs H Q E h => ?_) (fun f cdv A outer s H vs Q E hr h => ?_)
  · obtain ⟨v, d, n, rfl, _⟩ := h
    rfl
  · obtain ⟨v, d, nn, rfl, hd, hok, k⟩ := h
    refine ⟨_, (pss_cons (ps_if (PW.pt (pw_or (pt_not (pt_val (pe_callB (id := "isinstance") call_isi (by rfl) T.n_isinstance (by decide +kernel) (pa_cons (pv 0) (pa_cons (pe_bltn (v := .ty "tuple") (by rfl) T.n_tuple (by decide +kernel) rfl) pa_nil))))) (pw_or (pt_cmpR op_eq (pe_callB (id := "len") call_len (by rfl) T.n_len (by decide +kernel) (pa_cons (pv 0) pa_nil)) pe_int (nomark _)) (pw_or1 (pt_not (pt_val (pe_callB (id := "isinstance") call_isi (by rfl) T.n_isinstance (by decide +kernel) (pa_cons (pe_ix ix_tup (pv 0) pe_int (fun _ _ => rfl)) (pa_cons (pe_bltn (v := .ty "str") (by rfl) T.n_str (by decide +kernel) rfl) pa_nil))))))))) (pss_one (ps_ret pe_bl)) pss_nil)
      (pss_cons (ps_set (i := 2) sc_is_row.nd rfl (Or.inl rfl) (pe_ix ix_tup (pv 0) pe_int (fun _ _ => rfl)))
      (pss_cons (ps_if (pt_cmpR op_eq (pv 2) pe_str (nomark _)) (pss_one (ps_ret (pe_and (pe_cmpR op_eq (pe_callB (id := "len") call_len (by rfl) T.n_len (by decide +kernel) (pa_cons (pv 0) pa_nil)) pe_int (nomark _)) (pe_one (pe_callD (d__is_parts T) (hr.mono (by decide)) (pa_cons (pe_ix ix_tup (pv 0) pe_int (fun _ _ => rfl)) (pa_cons (pv 1) pa_nil))))))) pss_nil)
      (pss_cons (ps_if (pt_cmpR op_ne (pe_dgetK (pe_glob (v := .ref W.ROW_LENGTHS) (by rfl) T.g_ROW_LENGTHS rfl) (pv 2) ⟨rfl, rfl, rfl, rfl⟩) (pe_callB (id := "len") call_len (by rfl) T.n_len (by decide +kernel) (pa_cons (pv 0) pa_nil)) (nomark _)) (pss_one (ps_ret pe_bl)) pss_nil)
      (pss_cons (ps_if (pt_cmpR op_eq (pv 2) pe_str (nomark _)) (pss_one (ps_ret (pe_callD (d__is_signs T) (hr.mono (by decide)) (pa_cons (pe_ix ix_tup (pv 0) pe_int (fun _ _ => rfl)) (pa_cons (pe_globI T.g_MOST_TEXT_SIGNS) pa_nil))))) pss_nil)
      (pss_cons (ps_if (pt_cmpR op_eq (pv 2) pe_str (nomark _)) (pss_one (ps_ret (pe_callD (d__is_signs T) (hr.mono (by decide)) (pa_cons (pe_ix ix_tup (pv 0) pe_int (fun _ _ => rfl)) (pa_cons (pe_globI T.g_MOST_LINE_SIGNS) pa_nil))))) pss_nil)
      (pss_cons (ps_if (pt_cmpR op_eq (pv 2) pe_str (nomark _)) (pss_one (ps_ret pe_bl)) pss_nil)
      (pss_cons (ps_if (pt_cmpR op_eq (pv 2) pe_str (nomark _)) (pss_one (ps_ret (pe_and (pe_callD (d_is_between T) (hr.mono (by decide)) (pa_cons (pe_ix ix_tup (pv 0) pe_int (fun _ _ => rfl)) (pa_cons pe_int (pa_cons (pe_globI T.g_MOST_NEST) pa_nil)))) (pe_one (pe_callD (d_is_between T) (hr.mono (by decide)) (pa_cons (pe_ix ix_tup (pv 0) pe_int (fun _ _ => rfl)) (pa_cons pe_int (pa_cons (pe_op op_sub (pv 1) pe_int) pa_nil)))))))) pss_nil)
      (pss_one (ps_ret (pe_callD (d_is_between T) (hr.mono (by decide)) (pa_cons (pe_ix ix_tup (pv 0) pe_int (fun _ _ => rfl)) (pa_cons pe_int (pa_cons (pe_op op_sub (pv 1) pe_int) pa_nil)))))))))))))), ?_⟩
    rcases hd with hd | ⟨rfl, a, rfl, ha⟩
    rotate_left
    · exact ⟨_, rfl, _, _, _, _, false, rfl, .ty "tuple", .base (.dK ha), kit_ty (by decide +kernel), false, rfl, iteT (iteT (k H (Same.refl _)))⟩
    have ty := ty_of hd
    cases d with
    | none => have ty : TyX K H v (.type "NoneType") := ty; exact ⟨_, rfl, _, _, _, _, false, rfl, .ty "tuple", ty, kit_ty (by decide +kernel), false, rfl, iteT (iteT (k H (Same.refl _)))⟩
    | bool b => have ty : TyX K H v (.type "bool") := ty; exact ⟨_, rfl, _, _, _, _, false, rfl, .ty "tuple", ty, kit_ty (by decide +kernel), false, rfl, iteT (iteT (k H (Same.refl _)))⟩
    | int i => have ty : TyX K H v (.type "int") := ty; exact ⟨_, rfl, _, _, _, _, false, rfl, .ty "tuple", ty, kit_ty (by decide +kernel), false, rfl, iteT (iteT (k H (Same.refl _)))⟩
    | str i => have ty : TyX K H v (.type "str") := ty; exact ⟨_, rfl, _, _, _, _, false, rfl, .ty "tuple", ty, kit_ty (by decide +kernel), false, rfl, iteT (iteT (k H (Same.refl _)))⟩
    | list i => have ty : TyX K H v (.type "list") := ty; exact ⟨_, rfl, _, _, _, _, false, rfl, .ty "tuple", ty, kit_ty (by decide +kernel), false, rfl, iteT (iteT (k H (Same.refl _)))⟩
    | dict i => cases hd
    | tuple ds =>
      cases hd with
      | tup ht hs =>
      rename_i a vs
      refine ⟨_, rfl, _, _, _, _, true, rfl, .ty "tuple", tyT ht, kit_ty (by decide +kernel), true, rfl, iteF ?_⟩
      refine ⟨_, rfl, _, vs.length, rfl, .inr ⟨_, ht, rfl⟩, rfl, _, rfl, ?_⟩
      cases hs with
      | nil => exact ifT (by decide +kernel) (k H (Same.refl _))
      | cons hx hr9 =>
        rename_i x xs y ys
        refine ifF (by rw [List.length_cons]; exact decide_eq_false (fun e => by cases e)) ?_
        have tx := ty_of hx
        cases y with
        | none => have tx : TyX K H x (.type "NoneType") := tx; exact ⟨_, rfl, _, _, _, _, rfl, rfl, ht, atI_nat (j := 0) rfl, _, _, _, _, false, rfl, .ty "str", tx, kit_ty (by decide +kernel), false, rfl, iteT (k H (Same.refl _))⟩
        | bool b => have tx : TyX K H x (.type "bool") := tx; exact ⟨_, rfl, _, _, _, _, rfl, rfl, ht, atI_nat (j := 0) rfl, _, _, _, _, false, rfl, .ty "str", tx, kit_ty (by decide +kernel), false, rfl, iteT (k H (Same.refl _))⟩
        | int b => have tx : TyX K H x (.type "int") := tx; exact ⟨_, rfl, _, _, _, _, rfl, rfl, ht, atI_nat (j := 0) rfl, _, _, _, _, false, rfl, .ty "str", tx, kit_ty (by decide +kernel), false, rfl, iteT (k H (Same.refl _))⟩
        | list b => have tx : TyX K H x (.type "list") := tx; exact ⟨_, rfl, _, _, _, _, rfl, rfl, ht, atI_nat (j := 0) rfl, _, _, _, _, false, rfl, .ty "str", tx, kit_ty (by decide +kernel), false, rfl, iteT (k H (Same.refl _))⟩
        | tuple b => have tx : TyX K H x (.type "tuple") := tx; exact ⟨_, rfl, _, _, _, _, rfl, rfl, ht, atI_nat (j := 0) rfl, _, _, _, _, false, rfl, .ty "str", tx, kit_ty (by decide +kernel), false, rfl, iteT (k H (Same.refl _))⟩
        | dict b => cases hx
        | str q =>
          cases hx
          obtain ⟨⟨nV, hq⟩, hsh⟩ : (∃ n, (q, n) ∈ KQ) ∧ ∀ x ∈ ys, shortD x := hok
          obtain ⟨es, n, kl, kk, ko⟩ := T.k_ROW_LENGTHS
          obtain ⟨r, hk, hrel⟩ := getQ T hq
          have hl := dps_length hr9
          refine ⟨_, rfl, _, _, _, _, rfl, rfl, ht, atI_nat (j := 0) rfl, _, _, _, _, true, rfl, .ty "str", .base (.str _), kit_ty (by decide +kernel), true, rfl, iteF ?_⟩
          refine ⟨_, rfl, _, _, _, _, rfl, rfl, ht, atI_nat (j := 0) rfl, ?_⟩
          refine ⟨_, rfl, rfl, _, rfl, ?_⟩
          refine ite2 (fun hcat => ?_) (fun hcat => ?_)
          · obtain rfl : q = "cat" := V.str.inj (of_decide_eq_true hcat)
            refine ⟨_, rfl, _, _, rfl, .inr ⟨_, ht, rfl⟩, rfl, _, rfl, ?_⟩
            by_cases e2 : ys.length = 1
            · obtain ⟨d, rfl⟩ := List.length_eq_one_iff.mp e2
              cases hr9 with | cons hd1 hr9 =>
              cases hr9
              refine ifT (decide_eq_true rfl) ?_
              refine ⟨_, rfl, _, _, _, _, rfl, rfl, ht, rfl, ?_⟩
              exact ⟨_, rfl, _, d, nn, rfl, hd1, fun H' s => k H' s⟩
            · refine ifF (decide_eq_false (fun z => e2 (by have := V.int.inj z; rw [List.length_cons, hl] at this; omega))) ?_
              have z := rowD_off (k := nn) (q := "cat") (n := .int 2) (r := ys) (by simp [KQ]) (fun z => e2 (by have := V.int.inj z; omega))
              have k := k H (Same.refl _)
              rw [z] at k
              exact k
          have hcat : q ≠ "cat" := fun z => hcat (decide_eq_true (by rw [z]))
          refine ⟨W.ROW_LENGTHS, es, n, rfl, kl, kk, ko, _, rfl, q, r, nV, rfl, hk, hrel, ?_⟩
          refine ⟨_, rfl, _, _, rfl, .inr ⟨_, ht, rfl⟩, ?_⟩
          by_cases e : nV = .int ((ys.length + 1 : Nat) : Int)
          · refine ⟨scalQ hq, _, rfl, ifF (by rw [decide_eq_true (by rw [e, List.length_cons, hl])]; rfl) ?_⟩
            have h := hq
            simp only [KQ, List.mem_cons, List.not_mem_nil, or_false, Prod.mk.injEq] at h
            rcases h with ⟨rfl, rfl⟩ | ⟨rfl, rfl⟩ | ⟨rfl, rfl⟩ | ⟨rfl, rfl⟩ | ⟨rfl, rfl⟩ | ⟨rfl, rfl⟩ | ⟨rfl, rfl⟩ | ⟨rfl, rfl⟩ | ⟨rfl, rfl⟩
            · -- text
              have el := int_len e
              obtain ⟨d, rfl⟩ : ∃ d, ys = [d] := List.length_eq_one_iff.mp (by omega)
              cases hr9 with | cons hd1 hr9 =>
              cases hr9
              refine ⟨_, rfl, rfl, _, rfl, ifT (by decide +kernel) ?_⟩
              refine ⟨_, rfl, _, _, _, _, rfl, rfl, ht, rfl, ?_⟩
              exact ⟨_, d, 20, rfl, hd1, ⟨hsh d (List.mem_cons_self), by omega⟩, fun H' s => k H' s⟩
            · -- line
              have el := int_len e
              obtain ⟨d, rfl⟩ : ∃ d, ys = [d] := List.length_eq_one_iff.mp (by omega)
              cases hr9 with | cons hd1 hr9 =>
              cases hr9
              refine ⟨_, rfl, rfl, _, rfl, ifF (by decide +kernel) ?_⟩
              refine ⟨_, rfl, rfl, _, rfl, ifT (by decide +kernel) ?_⟩
              refine ⟨_, rfl, _, _, _, _, rfl, rfl, ht, rfl, ?_⟩
              exact ⟨_, d, 3, rfl, hd1, ⟨hsh d (List.mem_cons_self), by omega⟩, fun H' s => k H' s⟩
            · -- hard
              have el := int_len e
              obtain rfl : ys = [] := List.eq_nil_of_length_eq_zero (by omega)
              cases hr9
              refine ⟨_, rfl, rfl, _, rfl, ifF (by decide +kernel) ?_⟩
              refine ⟨_, rfl, rfl, _, rfl, ifF (by decide +kernel) ?_⟩
              refine ⟨_, rfl, rfl, _, rfl, ifT (by decide +kernel) ?_⟩
              exact k H (Same.refl _)
            · -- cat
              exact absurd rfl hcat
            · -- nest
              have el := int_len e
              obtain ⟨d, d2, rfl⟩ : ∃ d d2, ys = [d, d2] := by
                match ys, (by omega : ys.length = 2) with
                | [d, d2], _ => exact ⟨d, d2, rfl⟩
              cases hr9 with | cons hd1 hr9 =>
              cases hr9 with | cons hd2 hr9 =>
              cases hr9
              refine ⟨_, rfl, rfl, _, rfl, ifF (by decide +kernel) ?_⟩
              refine ⟨_, rfl, rfl, _, rfl, ifF (by decide +kernel) ?_⟩
              refine ⟨_, rfl, rfl, _, rfl, ifF (by decide +kernel) ?_⟩
              refine ⟨_, rfl, rfl, _, rfl, ifT (by decide +kernel) ?_⟩
              refine ⟨_, rfl, _, _, _, _, rfl, rfl, ht, rfl, ?_⟩
              refine ⟨_, d, 0, 8, rfl, hd1, _, rfl, ?_⟩
              have k : ∀ H', Same H H' → Q (.bl (belowD 9 d && belowD nn d2)) H' := k
              have b9 : betweenD 0 8 d = belowD 9 d := between_below (e := 9)
              rw [b9]
              cases h9 : belowD 9 d with
              | false =>
                refine iteF ?_
                rw [h9, Bool.false_and] at k
                exact k H (Same.refl _)
              | true =>
                refine iteT ?_
                rw [h9, Bool.true_and] at k
                refine ⟨_, rfl, _, _, _, _, rfl, rfl, ht, rfl, ?_⟩
                refine ⟨_, rfl, _, _, rfl, rfl, _, d2, 0, (nn : Int) - 1, rfl, hd2, ?_⟩
                rw [between_below]
                exact k H (Same.refl _)
            · -- align
              have el := int_len e
              obtain ⟨d, rfl⟩ : ∃ d, ys = [d] := List.length_eq_one_iff.mp (by omega)
              cases hr9 with | cons hd1 hr9 =>
              cases hr9
              refine ⟨_, rfl, rfl, _, rfl, ifF (by decide +kernel) ?_⟩
              refine ⟨_, rfl, rfl, _, rfl, ifF (by decide +kernel) ?_⟩
              refine ⟨_, rfl, rfl, _, rfl, ifF (by decide +kernel) ?_⟩
              refine ⟨_, rfl, rfl, _, rfl, ifF (by decide +kernel) ?_⟩
              refine ⟨_, rfl, _, _, _, _, rfl, rfl, ht, rfl, ?_⟩
              refine ⟨_, rfl, _, _, rfl, rfl, _, d, 0, (nn : Int) - 1, rfl, hd1, ?_⟩
              rw [between_below]
              exact k H (Same.refl _)
            · -- group
              have el := int_len e
              obtain ⟨d, rfl⟩ : ∃ d, ys = [d] := List.length_eq_one_iff.mp (by omega)
              cases hr9 with | cons hd1 hr9 =>
              cases hr9
              refine ⟨_, rfl, rfl, _, rfl, ifF (by decide +kernel) ?_⟩
              refine ⟨_, rfl, rfl, _, rfl, ifF (by decide +kernel) ?_⟩
              refine ⟨_, rfl, rfl, _, rfl, ifF (by decide +kernel) ?_⟩
              refine ⟨_, rfl, rfl, _, rfl, ifF (by decide +kernel) ?_⟩
              refine ⟨_, rfl, _, _, _, _, rfl, rfl, ht, rfl, ?_⟩
              refine ⟨_, rfl, _, _, rfl, rfl, _, d, 0, (nn : Int) - 1, rfl, hd1, ?_⟩
              rw [between_below]
              exact k H (Same.refl _)
            · -- Group
              cases e
            · -- fold
              cases e
          · have z := rowD_off (k := nn) hq e
            refine ⟨scalQ hq, _, rfl, ifT (by rw [decide_eq_false (by rw [List.length_cons, hl]; exact e)]; rfl) ?_⟩
            have k := k H (Same.refl _)
            rw [z] at k
            exact k
end
end Lw

namespace Lw
open PySem PySem.Spec PyProof.Rows L2 VW TL
local macro_rules | `(tactic| walk_at "rdc") => `(tactic| first | assumption | rfl | decide | omega | exact Or.inr ⟨by decide, by decide⟩ | exact ⟨by decide, by decide⟩ | exact ⟨by decide, by decide, by decide⟩ | (show (0 : Int) < _; omega) | (show (0 : Int) < _ ∧ _ < (1073741824 : Int); omega) | (show (-(2 ^ 64) < _ ∧ _ < 2 ^ 64) ∨ (-(2 ^ 64) < _ ∧ _ < 2 ^ 64); omega) | (show (-(2 ^ 64) < _ ∧ _ < 2 ^ 64) ∨ (-(2 ^ 64) < _ ∧ _ < 2 ^ 64); right; split <;> decide) | exact Nat.le_of_ble_eq_true rfl)
local macro_rules | `(tactic| walk_at "rd1") => `(tactic| first | refine ⟨_, rfl, ?_⟩ | refine And.intro (by walk_at "rdc") ?_ | refine ⟨_, _, rfl, rfl, ?_⟩ | refine Or.inl ⟨_, rfl, ?_⟩ | refine Or.inr ⟨_, rfl, ?_⟩ | refine ⟨_, _, _, _, rfl, rfl, sqlO (by first | assumption | exact upd_same), rfl, ?_⟩ | refine ⟨_, _, _, _, rfl, rfl, (by first | assumption | exact upd_same), rfl, ?_⟩)
local macro_rules | `(tactic| walk_at "rd") => `(tactic| repeat (walk_at "rd1"))

section
variable {P : Program} {w : World} {K : PySem.W.Frag} {mg : Str → Option Value} {base : Heap} {W : Wd}
theorem shows_int {n : Nat} (h : n < 1000) : Shows (.int n) := .inr ⟨n, rfl, by omega, by rw [← cl_len, dg_text n h]; exact Nat.le_trans (dg_len n) (by decide)⟩
theorem shows_m1 : Shows (.int (-1)) := .inr ⟨-1, rfl, by decide, by decide +kernel⟩
theorem shows_str {z : Str} (h : z.length ≤ 1000) : Shows (.str z) := .inl ⟨z, rfl, h⟩
theorem sc__shown : FnScope ["field"] ["field"] (defScope s__shown) := ⟨rfl, rfl, rfl, by decide +kernel, rfl, by decide +kernel, by decide +kernel⟩
def sp_shown : Sp := fun vs H Q _ => ∃ v, vs = [v] ∧ Shows v ∧ ∀ (z : Str) (H' : Hp), Same H H' → z.length ≤ 1000 → Q (.str z) H'
theorem d__shown (T : Txt w K mg W) : DefOk P w K mg base "_shown" s__shown ["field"] 1 sp_shown := by
  refine T.f__shown.ok sc__shown (fun vs H Q E h => ?_) (fun f cdv A outer s H vs Q E hr h => ?_)
  · obtain ⟨v, rfl, _⟩ := h
    rfl
  · obtain ⟨v, rfl, hv, k⟩ := h
    refine ⟨_, (pss_cons (ps_if (pt_val (pe_callB (id := "isinstance") call_isiT (by rfl) T.n_isinstance (by decide +kernel) (pa_cons (pv 0) (pa_cons (pe_tup (pa_cons (pe_bltn (v := .ty "int") (by rfl) T.n_int (by decide +kernel) rfl) (pa_cons (pe_bltn (v := .ty "str") (by rfl) T.n_str (by decide +kernel) rfl) pa_nil))) pa_nil)))) (pss_one (ps_ret (pe_callTy (T := "str") call_str_is (by rfl) T.n_str (by decide +kernel) (pa_cons (pv 0) pa_nil)))) pss_nil)
      (pss_one (ps_ret pe_str))), ?_⟩
    rcases hv with ⟨z, rfl, hz⟩ | ⟨i, rfl, hi, hz⟩
    · refine ⟨_, rfl, Nat.le_of_ble_eq_true rfl, fun t ht => ⟨_, t, _, _, [.type "int", .type "str"], true, rfl, upd_same, .cons (.ty "int") (.cons (.ty "str") .nil), .base (.str z), kany_no (kit_ty (by decide +kernel)) (kany_yes (kit_ty (by decide +kernel))), true, rfl, iteT ?_⟩⟩
      exact ⟨_, rfl, .inr ⟨z, rfl, k z _ (same_new ht) hz⟩⟩
    · refine ⟨_, rfl, Nat.le_of_ble_eq_true rfl, fun t ht => ⟨_, t, _, _, [.type "int", .type "str"], true, rfl, upd_same, .cons (.ty "int") (.cons (.ty "str") .nil), .base (.int i), kany_yes (kit_ty (by decide +kernel)), true, rfl, iteT ?_⟩⟩
      exact ⟨_, rfl, .inl ⟨i, rfl, small_log hi, k _ _ (same_new ht) hz⟩⟩
theorem len_app (a b : Str) : (a ++ b).length = a.length + b.length := by
  rw [← cl_len, ← cl_len, ← cl_len]
  show (tl (a ++ b)).length = _
  rw [tl_append, List.length_append]
theorem fits {a b : Nat} (h : a ≤ 10000) (h2 : b ≤ 10000) : a + b ≤ sizeLine := Nat.le_trans (Nat.add_le_add h h2) (Nat.le_of_ble_eq_true rfl)
theorem sc_InvalidDoc___init__ : FnScope ["self", "at"] ["self", "at"] (defScope s_InvalidDoc___init__) := ⟨rfl, rfl, rfl, by decide +kernel, rfl, by decide +kernel, by decide +kernel⟩
theorem er_InvalidDoc (T : Txt w K mg W) : ErrOk P w K mg base "InvalidDoc" W.c_InvalidDoc ["self", "at"] 2 (spErr1 W.c_InvalidDoc "at" Shows) := by
  refine T.e_InvalidDoc.ok sc_InvalidDoc___init__ (fun vs H Q E h => ?_) (fun f cdv A outer s H vs Q E hr h => ?_)
  · obtain ⟨e, v, rfl, _⟩ := h
    rfl
  · obtain ⟨e, v, rfl, he, hv, k⟩ := h
    refine ⟨_, (pss_cons (ps_expr (pe_supinit T.sup T.c_LayoutError (pa_cons (pv 0) (pa_cons (pe_joined (.cons pe_str (.cons (pe_fmt (pe_callD (d__shown T) (hr.mono (by decide)) (pa_cons (pv 1) pa_nil))) PJ.nil))) pa_nil))))
      (pss_one (ps_field (pv 0) (pv 1)))), ?_⟩
    refine ⟨_, rfl, _, rfl, by decide +kernel, _, rfl, v, rfl, hv, fun z H1 s1 hz => .inl ⟨z, rfl, Nat.le_trans hz (Nat.le_of_ble_eq_true rfl), _, rfl, ?_, ?_⟩⟩
    · rw [len_app]
      exact fits (by decide +kernel) (by omega)
    · refine ⟨e, W.c_InvalidDoc, _, rfl, Nat.le_of_ble_eq_true rfl, T.e_InvalidDoc.ae, s1 _ _ he, ?_⟩
      refine ⟨_, rfl, _, rfl, e, W.c_InvalidDoc, rfl, T.e_InvalidDoc.ae, T.na_InvalidDoc_at, .inl ⟨s1 _ _ he, fun d hd ne => ?_⟩⟩
      exact k H1 d s1 hd ne
theorem sc_copied_row : FnScope ["row"] ["row"] (defScope s_copied_row) := ⟨rfl, rfl, rfl, by decide +kernel, rfl, by decide +kernel, by decide +kernel⟩
theorem rowD_head {k : Nat} {d : PyData} (h : rowD k d = true) : ∃ q r, d = .tuple (.str q :: r) := by
  unfold rowD at h
  split at h
  · exact ⟨_, _, rfl⟩
  · exact ⟨_, _, rfl⟩
  · exact ⟨_, _, rfl⟩
  · cases h
def sp_copied (K : PySem.W.Frag) : Sp := fun vs H Q _ => ∃ (v : V) (d : PyData) (k : Nat), vs = [v] ∧ Dp K H v d ∧ rowD k d = true ∧ ∀ (v' : V) (H' : Hp), Same H H' → Q v' H'
theorem d_copied_row (T : Txt w K mg W) : DefOk P w K mg base "copied_row" s_copied_row ["row"] 1 (sp_copied K) := by
  refine T.f_copied_row.ok sc_copied_row (fun vs H Q E h => ?_) (fun f cdv A outer s H vs Q E hr h => ?_)
  · obtain ⟨v, d, n, rfl, _⟩ := h
    rfl
  · obtain ⟨v, d, n, rfl, hd, hr2, k⟩ := h
    refine ⟨_, (pss_cons (ps_if (pt_cmpR op_eq (pe_ix ix_tup (pv 0) pe_int (fun _ _ => rfl)) pe_str (nomark _)) (pss_one (ps_ret (pe_tup (pa_cons pe_str (pa_cons (pe_callTy (T := "list") call_list_of (by rfl) T.n_list (by decide +kernel) (pa_cons (pe_ix ix_tup (pv 0) pe_int (fun _ _ => rfl)) pa_nil)) pa_nil))))) pss_nil)
      (pss_one (ps_ret (pv 0)))), ?_⟩
    obtain ⟨q, r, rfl⟩ := rowD_head hr2
    cases hd with | tup ht hs =>
    cases hs with | cons a1 hs =>
    cases a1
    refine ⟨_, rfl, _, _, _, _, rfl, rfl, ht, atI_nat (j := 0) rfl, rfl, _, rfl, ?_⟩
    refine ite2 (fun hc => ?_) (fun hc => ?_)
    · obtain rfl : q = "cat" := V.str.inj (of_decide_eq_true hc)
      match r, hr2, hs with
      | [], h, _ => rw [rowD1, decide_eq_false (by decide +kernel)] at h; cases h
      | [x], h, hs =>
        rw [rowD2, if_neg (by decide +kernel), if_neg (by decide +kernel), if_pos rfl] at h
        cases hs with | cons a2 hs =>
        cases hs
        cases x <;> try cases h
        cases a2 with | lst hl ha =>
        refine ⟨_, rfl, _, _, _, _, rfl, rfl, ht, rfl, _, _, rfl, .inl hl, fun l' hl' => ?_⟩
        exact ⟨Nat.le_of_ble_eq_true rfl, fun q hq => k _ _ ((same_new hl').trans (same_new hq))⟩
      | [x, y], h, _ => rw [rowD3, decide_eq_false (by decide +kernel)] at h; cases h
      | x :: y :: z :: r', h, _ => cases h
    · exact ⟨_, rfl, k _ _ (Same.refl _)⟩
theorem sc__checked_rows : FnScope ["rows", "checked", "k", "row"] ["rows"] (defScope s__checked_rows) := ⟨rfl, rfl, rfl, by decide +kernel, rfl, by decide +kernel, by decide +kernel⟩
/-- InvalidDoc(a) is raised -/
def RaisesDoc (C : Addr) (H : Hp) (E : XK) (a : Int) : Prop := ∀ (d : Addr) (H' : Hp), Same H H' → H d = none → H' d = some (.xd [("at", .int a)]) → E (.ref C) (some d) H'
/-- the number of the first row that is none -/
def firstBad : List PyData → Nat → Option Nat
  | [], _ => none
  | d :: ds, k => if rowD k d then firstBad ds (k + 1) else some k
theorem firstBad_none : ∀ {ds : List PyData} {k : Nat}, firstBad ds k = none → ∀ (i : Nat) (d : PyData), ds[i]? = some d → rowD (k + i) d = true
  | [], k, h, i, d, e => by simp at e
  | x :: ds, k, h, i, d, e => by
    unfold firstBad at h
    split at h
    · rename_i hx
      cases i with
      | zero => cases e; exact hx
      | succ i =>
        have := firstBad_none h i d e
        rw [show k + (i + 1) = k + 1 + i by omega]
        exact this
    · cases h
/-- _checked_rows, whatever data is passed: a list of one to 200 rows, or InvalidDoc -/
def sp_check (K : PySem.W.Frag) (W : Wd) : Sp := fun vs H Q E => ∃ (v : V) (t : Value), vs = [v] ∧ TyX K H v t ∧
  ((PySem.W.kitOne K t (.type "list") = some false ∧ RaisesDoc W.c_InvalidDoc H E (-1)) ∨
   ∃ (a : Addr) (xs : List V) (ds : List PyData), v = .ref a ∧ SqL K H a xs ∧ xs.length = ds.length ∧
    ((ds.length = 0 ∨ 200 < ds.length) ∧ RaisesDoc W.c_InvalidDoc H E (-1) ∨
     0 < ds.length ∧ ds.length ≤ 200 ∧ (∀ (i : Nat) (x : V) (d : PyData), xs[i]? = some x → ds[i]? = some d → DpX K H x d) ∧ (∀ d ∈ ds, okD d) ∧
      match firstBad ds 0 with
      | none => ∀ (D : Addr) (H' : Hp), Same H H' → Q (.ref D) H'
      | some k => RaisesDoc W.c_InvalidDoc H E k))
theorem firstBad_at : ∀ {ds : List PyData} {k : Nat} {d : PyData} {i : Nat}, ds[i]? = some d → firstBad (ds.drop i) k = if rowD k d then firstBad (ds.drop (i + 1)) (k + 1) else some k := fun {ds k d i} h => by
  rw [drop_step h]
  rfl
theorem d__checked_rows (T : Txt w K mg W) : DefOkX P w K mg base "_checked_rows" s__checked_rows ["rows"] 5 (sp_check K W) := by
  refine T.f__checked_rows.okX sc__checked_rows (fun vs H Q E h => ?_) (fun f cdv A outer s H vs Q E hr h => ?_)
  · obtain ⟨v, t, rfl, _⟩ := h
    rfl
  · obtain ⟨v, t, rfl, ty, h⟩ := h
    refine ⟨_, (pss_cons (ps_if (PW.pt (pw_or (pt_not (pt_val (pe_callB (id := "isinstance") call_isi (by rfl) T.n_isinstance (by decide +kernel) (pa_cons (pv 0) (pa_cons (pe_bltn (v := .ty "list") (by rfl) T.n_list (by decide +kernel) rfl) pa_nil))))) (pw_or1 (pt_not (pt_chain op_le op_le pe_int (pe_callB (id := "len") call_len (by rfl) T.n_len (by decide +kernel) (pa_cons (pv 0) pa_nil)) (pe_globI T.g_MOST_ROWS)))))) (pss_one (ps_raise rfl (takes_of rfl rfl rfl rfl) (pmk_err (er_InvalidDoc T) (hr.mono (by decide)) (pa_cons (pe_un un_neg pe_int) pa_nil)))) pss_nil)
      (pss_cons (ps_set (i := 1) sc__checked_rows.nd rfl (Or.inl rfl) (pe_lst pa_nil))
      (pss_cons (ps_for (passes_of rfl) rfl (pi_enum (by rfl) T.n_enumerate (pa_cons (pv 0) pa_nil)) (pg_tup rfl (pgs_cons (pg_name (i := 2) sc__checked_rows.nd rfl (Or.inl rfl)) (pgs_cons (pg_name (i := 3) sc__checked_rows.nd rfl (Or.inl rfl)) pgs_nil)))
      (pss_cons (ps_if (pt_not (pt_val (pe_callD (d_is_row T) (hr.mono (by decide)) (pa_cons (pv 3) (pa_cons (pv 2) pa_nil))))) (pss_one (ps_raise rfl (takes_of rfl rfl rfl rfl) (pmk_err (er_InvalidDoc T) (hr.mono (by decide)) (pa_cons (pv 2) pa_nil)))) pss_nil)
      (pss_one (ps_expr (pe_bm PySem.F.plainAttrs_list PySem.F.slot_list_append PySem.F.type_list_append mt_append (pv 1) (pa_cons (pe_callD (d_copied_row T) (hr.mono (by decide)) (pa_cons (pv 3) pa_nil)) pa_nil))))))
      (pss_one (ps_ret (pv 1)))))), ?_⟩
    rcases h with ⟨kt, k⟩ | ⟨a, xs, ds, rfl, hl, hn, h⟩
    · refine ⟨_, rfl, _, _, _, _, false, rfl, .ty "list", ty, kt, false, rfl, iteT (iteT ?_)⟩
      exact ⟨1, rfl, Nat.le_of_ble_eq_true rfl, fun e he => raise1 he shows_m1 fun d H' sd hd0 hx => k d H' sd hd0 hx⟩
    · refine ⟨_, rfl, _, _, _, _, true, rfl, .ty "list", tyL hl, kit_ty (by decide +kernel), true, rfl, iteF ?_⟩
      refine ⟨_, rfl, _, _, rfl, .inl ⟨_, hl, rfl⟩, ?_⟩
      rcases h with ⟨hlen, k⟩ | ⟨h0, h200, hd, hok, k⟩
      · by_cases h0 : ds.length = 0
        · refine ⟨_, _, rfl, rfl, _, rfl, ifF (decide_eq_false (by omega)) ?_⟩
          refine ⟨_, rfl, ifT rfl ?_⟩
          exact ⟨1, rfl, Nat.le_of_ble_eq_true rfl, fun e he => raise1 he shows_m1 fun d H' sd hd0 hx => k d H' sd hd0 hx⟩
        · refine ⟨_, _, rfl, rfl, _, rfl, ifT (decide_eq_true (by omega)) ?_⟩
          refine ⟨_, _, rfl, rfl, _, rfl, ifT (by rw [decide_eq_false (show ¬ (xs.length : Int) ≤ 200 by omega)]; rfl) ?_⟩
          exact ⟨1, rfl, Nat.le_of_ble_eq_true rfl, fun e he => raise1 he shows_m1 fun d H' sd hd0 hx => k d H' sd hd0 hx⟩
      · refine ⟨_, _, rfl, rfl, _, rfl, ifT (decide_eq_true (by omega)) ?_⟩
        refine ⟨_, _, rfl, rfl, _, rfl, ifF (by rw [decide_eq_true (show (xs.length : Int) ≤ 200 by omega)]; rfl) ?_⟩
        refine ⟨Nat.le_of_ble_eq_true rfl, fun D hD => ?_⟩
        have smD : Same H (upd H D (.lst [])) := same_new hD
        refine ⟨_, rfl, _, _, rfl, sqlS smD hl, ?_⟩
        refine for_it walk_enum (fun i σ H' => Same H H' ∧ firstBad (ds.drop i) i = firstBad ds 0 ∧ ∃ v1 v2 us, σ = [some (.ref a), some (.ref D), v1, v2] ∧ H' D = some (.lst us) ∧ us.length = i) ⟨smD, rfl, none, none, [], rfl, upd_same, rfl⟩ (fun i σ H' _ p => sqlS p.1 hl) ?_ (fun σ H' p => ?_)
        · rintro i x σ H1 H2 hi ⟨sm, fb, v1, v2, us, rfl, hus, hul⟩ ⟨t, y1, y2, rfl, ht, rfl, e1, e2⟩
          cases e1
          have e2 : xs[i]? = some y2 := e2
          have hi' : i < ds.length := by have := (List.getElem?_eq_some_iff.mp e2).1; omega
          have hd1 : ds[i]? = some ds[i] := List.getElem?_eq_getElem hi'
          have dx := hd i y2 _ e2 hd1
          have sm2 := sm.trans (same_new (o := .tup [.int (i : Nat), y2]) ht)
          have hus2 := same_new (o := .tup [.int (i : Nat), y2]) ht _ _ hus
          refine ⟨t, _, rfl, sqtO upd_same, rfl, _, _, rfl, _, _, rfl, rfl, ?_⟩
          refine ⟨_, rfl, _, rfl, _, ds[i], i, rfl, dpxS sm2 dx, hok _ (List.getElem_mem hi'), fun H' sm3 => ?_⟩
          rw [firstBad_at hd1] at fb
          refine ⟨_, rfl, ?_⟩
          cases hrow : rowD i ds[i] with
          | true =>
            rw [hrow, if_pos rfl] at fb
            have hus3 := sm3 _ _ hus2
            have sm4 := sm2.trans sm3
            have dx2 : Dp K H y2 ds[i] := by
              rcases dx with h | ⟨e, _⟩
              · exact h
              · rw [e] at hrow
                cases hrow
            refine iteF ⟨_, rfl, .inl ⟨rfl, _, sqlO hus3⟩, ?_⟩
            refine ⟨_, rfl, y2, ds[i], i, rfl, dpS sm4 dx2, hrow, fun v' H5 s5 => ?_⟩
            refine ⟨_, _, _, rfl, rfl, s5 _ _ hus3, by rw [hul]; exact small1000 (by omega), ?_⟩
            refine ⟨fun b o e => ?_, fb, _, _, us ++ [v'], rfl, upd_same, by rw [List.length_append, hul]; rfl⟩
            rw [upd_ne (ne_of_none e hD)]
            exact s5 _ _ (sm4 b o e)
          | false =>
            rw [hrow, if_neg Bool.false_ne_true] at fb
            rw [← fb] at k
            have k : RaisesDoc W.c_InvalidDoc H E i := k
            refine iteT ?_
            exact ⟨_, rfl, Nat.le_of_ble_eq_true rfl, fun e he => raise1 he (shows_int (by omega)) fun d H9 sd hd0 hx => k d H9 ((sm2.trans sm3).trans sd) ((sm2.trans sm3).free hd0) hx⟩
        · obtain ⟨sm, fb, v1, v2, us, rfl, hus, hul⟩ := p
          have hz : ds.drop xs.length = [] := List.drop_eq_nil_of_le (by omega)
          rw [hz] at fb
          rw [← fb] at k
          exact ⟨_, rfl, k D H' sm⟩
end
end Lw

namespace Lw
open PySem PySem.Spec PyProof.Rows L2 VW TL
local macro_rules | `(tactic| walk_at "rdc") => `(tactic| first | assumption | rfl | decide | omega | exact Or.inr ⟨by decide, by decide⟩ | exact ⟨by decide, by decide⟩ | exact ⟨by decide, by decide, by decide⟩ | (show (0 : Int) < _; omega) | (show (0 : Int) < _ ∧ _ < (1073741824 : Int); omega) | (show (-(2 ^ 64) < _ ∧ _ < 2 ^ 64) ∨ (-(2 ^ 64) < _ ∧ _ < 2 ^ 64); omega) | (show (-(2 ^ 64) < _ ∧ _ < 2 ^ 64) ∨ (-(2 ^ 64) < _ ∧ _ < 2 ^ 64); right; split <;> decide) | exact Nat.le_of_ble_eq_true rfl)
local macro_rules | `(tactic| walk_at "rd1") => `(tactic| first | refine ⟨_, rfl, ?_⟩ | refine And.intro (by walk_at "rdc") ?_ | refine ⟨_, _, rfl, rfl, ?_⟩ | refine Or.inl ⟨_, rfl, ?_⟩ | refine Or.inr ⟨_, rfl, ?_⟩ | refine ⟨_, _, _, _, rfl, rfl, sqlO (by first | assumption | exact upd_same), rfl, ?_⟩ | refine ⟨_, _, _, _, rfl, rfl, (by first | assumption | exact upd_same), rfl, ?_⟩)
local macro_rules | `(tactic| walk_at "rd") => `(tactic| repeat (walk_at "rd1"))

section
variable {P : Program} {w : World} {K : PySem.W.Frag} {mg : Str → Option Value} {base : Heap} {W : Wd}
theorem good_str {m : Nat} {z : Str} (h : GoodS m z) : goodD m (.str z) = true := by
  have hl : z.length ≤ m := h.1
  show (decide (z.length ≤ m) && z.cps.toList.all good) = true
  rw [decide_eq_true hl, Bool.true_and, List.all_eq_true]
  intro c hc
  unfold good
  exact decide_eq_true (h.2 c hc)
theorem below_int {e : Int} {i : Int} (h : 0 ≤ i) (h2 : i < e) : belowD e (.int i) = true := by
  show (decide (0 ≤ i) && decide (i < e)) = true
  rw [decide_eq_true h, decide_eq_true h2]
  rfl
theorem rowD_ok {r : Row} {n : Nat} (h : r.ok n) : rowD n r.data = true ∧ okD r.data := by
  cases r with
  | text z => exact ⟨good_str h, ⟨_, List.mem_cons_self⟩, fun x hx => by rw [List.mem_singleton.mp hx]; exact Nat.le_trans h.1 (by decide)⟩
  | line z =>
    refine ⟨?_, ⟨_, List.mem_cons_of_mem _ List.mem_cons_self⟩, fun x hx => by rw [List.mem_singleton.mp hx]; exact Nat.le_trans h.1 (by decide)⟩
    show rowD n (.tuple [.str "line", .str z]) = true
    rw [rowD2, if_neg (by decide +kernel), if_pos rfl]
    exact good_str h
  | hard => exact ⟨by show rowD n (.tuple [.str "hard"]) = true; rw [rowD1]; exact decide_eq_true rfl, ⟨.int 1, by simp [KQ]⟩, fun x hx => by cases hx⟩
  | cat ps =>
    refine ⟨?_, ⟨.int 2, by simp [KQ]⟩, fun x hx => by rw [List.mem_singleton.mp hx]; exact True.intro⟩
    show rowD n (.tuple [.str "cat", .list (ps.map PyData.int)]) = true
    rw [rowD2, if_neg (by decide +kernel), if_neg (by decide +kernel), if_pos rfl]
    show (decide ((ps.map PyData.int).length ≤ 8) && (ps.map PyData.int).all (belowD n)) = true
    rw [decide_eq_true (by rw [List.length_map]; exact h.1), Bool.true_and, List.all_eq_true]
    intro x hx
    obtain ⟨j, hj, rfl⟩ := List.mem_map.mp hx
    exact below_int (h.2 j hj).1 (h.2 j hj).2
  | nest a j =>
    refine ⟨?_, ⟨.int 3, by simp [KQ]⟩, fun x hx => by simp at hx; rcases hx with rfl | rfl <;> exact True.intro⟩
    show rowD n (.tuple [.str "nest", .int a, .int j]) = true
    rw [rowD3, decide_eq_true rfl, below_int h.1 (by have := h.2.1; omega), below_int h.2.2.1 h.2.2.2]
    rfl
  | align j =>
    refine ⟨?_, ⟨.int 2, by simp [KQ]⟩, fun x hx => by rw [List.mem_singleton.mp hx]; exact True.intro⟩
    show rowD n (.tuple [.str "align", .int j]) = true
    rw [rowD2, if_neg (by decide +kernel), if_neg (by decide +kernel), if_neg (by decide +kernel), decide_eq_true rfl, below_int h.1 h.2]
    rfl
  | group j =>
    refine ⟨?_, ⟨.int 2, by simp [KQ]⟩, fun x hx => by rw [List.mem_singleton.mp hx]; exact True.intro⟩
    show rowD n (.tuple [.str "group", .int j]) = true
    rw [rowD2, if_neg (by decide +kernel), if_neg (by decide +kernel), if_neg (by decide +kernel), decide_eq_true (p := ((Str.ofString "group") = (Str.ofString "group"))) rfl, below_int h.1 h.2, Bool.or_true]
    rfl
theorem noBad : ∀ {rs : List Row} {k : Nat}, (∀ (i : Nat) (r : Row), rs[i]? = some r → r.ok (k + i)) → firstBad (rs.map Row.data) k = none
  | [], _, _ => rfl
  | r :: rs, k, h => by
    show (if rowD k r.data then firstBad (rs.map Row.data) (k + 1) else some k) = none
    rw [if_pos (rowD_ok (n := k) (h 0 r rfl)).1]
    exact noBad fun i q e => by
      have := h (i + 1) q e
      rw [show k + (i + 1) = k + 1 + i by omega] at this
      exact this
/-- a list of one to 200 data -/
def DataL (K : PySem.W.Frag) (H : Hp) (v : V) (ds : List PyData) : Prop := ∃ (a : Addr) (xs : List V), v = .ref a ∧ SqL K H a xs ∧ xs.length = ds.length ∧ 0 < ds.length ∧ ds.length ≤ 200 ∧
  (∀ (i : Nat) (x : V) (d : PyData), xs[i]? = some x → ds[i]? = some d → DpX K H x d) ∧ ∀ d ∈ ds, okD d
/-- what Doc refuses, and the number that it tells -/
def Refused (K : PySem.W.Frag) (H : Hp) (v : V) (n : Int) : Prop := (∃ t : Value, (∀ H', Same H H' → TyX K H' v t) ∧ PySem.W.kitOne K t (.type "list") = some false ∧ n = -1) ∨
  (∃ (a : Addr) (xs : List V), v = .ref a ∧ SqL K H a xs ∧ (xs.length = 0 ∨ 200 < xs.length) ∧ n = -1) ∨
  ∃ (ds : List PyData) (k : Nat), DataL K H v ds ∧ firstBad ds 0 = some k ∧ n = k
def Taken (K : PySem.W.Frag) (H : Hp) (v : V) : Prop := ∃ ds, DataL K H v ds ∧ firstBad ds 0 = none
theorem DataL.mono {H H' : Hp} {v : V} {ds : List PyData} (s : Same H H') (h : DataL K H v ds) : DataL K H' v ds := by
  obtain ⟨a, xs, rfl, h1, h2, h3, h4, h5, h6⟩ := h
  exact ⟨a, xs, rfl, sqlS s h1, h2, h3, h4, fun i x d e1 e2 => dpxS s (h5 i x d e1 e2), h6⟩
theorem Refused.mono {H H' : Hp} {v : V} {n : Int} (s : Same H H') (h : Refused K H v n) : Refused K H' v n := by
  rcases h with ⟨t, h1, h2, h3⟩ | ⟨a, xs, rfl, h1, h2, h3⟩ | ⟨ds, k, h1, h2, h3⟩
  · exact .inl ⟨t, fun H2 s2 => h1 H2 (s.trans s2), h2, h3⟩
  · exact .inr (.inl ⟨a, xs, rfl, sqlS s h1, h2, h3⟩)
  · exact .inr (.inr ⟨ds, k, h1.mono s, h2, h3⟩)
theorem Taken.mono {H H' : Hp} {v : V} (s : Same H H') (h : Taken K H v) : Taken K H' v := by
  obtain ⟨ds, h1, h2⟩ := h
  exact ⟨ds, h1.mono s, h2⟩
theorem sc_Doc___init__ : FnScope ["self", "rows"] ["self", "rows"] (defScope s_Doc___init__) := ⟨rfl, rfl, rfl, by decide +kernel, rfl, by decide +kernel, by decide +kernel⟩
def sp_init (K : PySem.W.Frag) (C : Addr) (CD : Addr) : Sp := fun vs H Q E => ∃ (x dx : Addr) (v : V), vs = [.ref x, v] ∧ H x = some (.ins C dx []) ∧ ((∃ n : Int, Refused K H v n ∧ RaisesDoc CD H E n) ∨
  (Taken K H v ∧ ∀ (H' : Hp) (fs : List (Str × V)), (∀ b o, b ≠ x → H b = some o → H' b = some o) → H' x = some (.ins C dx fs) → Q .non H'))
theorem d_Doc___init__ (T : Txt w K mg W) : MethOkX P w K mg base W.c_Doc "__init__" "Doc.__init__" s_Doc___init__ ["self", "rows"] 6 (sp_init K W.c_Doc W.c_InvalidDoc) := by
  refine T.f_Doc___init__.okX sc_Doc___init__ (fun vs H Q E h => ?_) (fun f cdv A outer s H vs Q E hr h => ?_)
  · obtain ⟨x, dx, v, rfl, _⟩ := h
    rfl
  · obtain ⟨x, dx, v, rfl, hx, h⟩ := h
    refine ⟨_, (pss_cons (ps_fld (pv 0) (pe_callX (E := E) (d__checked_rows T) (hr.mono (by decide)) (takes_of rfl rfl rfl rfl) (fun _ _ _ _ z => z) (pa_cons (pv 1) pa_nil)) rfl)
      (pss_cons (ps_fld (pv 0) pe_non rfl)
      (pss_one (ps_fld (pv 0) pe_non rfl)))), ?_⟩
    rcases h with ⟨n, rf, k⟩ | ⟨⟨ds, hd, hn⟩, k⟩
    · rcases rf with ⟨t, ty, kt, rfl⟩ | ⟨a, xs, rfl, hl, hn, rfl⟩ | ⟨ds, j, hd, hj, rfl⟩
      · exact ⟨_, rfl, v, t, rfl, ty H (Same.refl _), .inl ⟨kt, k⟩⟩
      · exact ⟨_, rfl, _, _, rfl, tyL hl, .inr ⟨a, xs, List.replicate xs.length .none, rfl, hl, by rw [List.length_replicate], .inl ⟨by rw [List.length_replicate]; exact hn, k⟩⟩⟩
      · obtain ⟨a, xs, rfl, hl, hlen, h0, h200, hdp, hok⟩ := hd
        exact ⟨_, rfl, _, _, rfl, tyL hl, .inr ⟨a, xs, ds, rfl, hl, hlen, .inr ⟨h0, h200, hdp, hok, by rw [hj]; exact k⟩⟩⟩
    · obtain ⟨a, xs, rfl, hl, hlen, h0, h200, hdp, hok⟩ := hd
      refine ⟨_, rfl, _, _, rfl, tyL hl, .inr ⟨a, xs, ds, rfl, hl, hlen, .inr ⟨h0, h200, hdp, hok, ?_⟩⟩⟩
      rw [hn]
      intro D H1 sm
      have hx1 := sm _ _ hx
      refine ⟨_, rfl, x, W.c_Doc, dx, [], rfl, hx1, T.cl_Doc, T.na_Doc__rows, by decide, ?_⟩
      refine ⟨_, rfl, x, W.c_Doc, dx, _, rfl, upd_same, T.cl_Doc, T.na_Doc_facts, Nat.lt_of_lt_of_le (Nat.lt_succ_self 1) (by decide), ?_⟩
      refine ⟨_, rfl, x, W.c_Doc, dx, _, rfl, upd_same, T.cl_Doc, T.na_Doc_group_facts, Nat.lt_of_lt_of_le (Nat.lt_succ_self 2) (by decide), ?_⟩
      refine k _ _ (fun b o hb e => ?_) upd_same
      rw [upd_ne hb, upd_ne hb, upd_ne hb]
      exact sm b o e
/-- what Doc(v) asks and tells -/
theorem made_any {C CD x dx : Addr} {H : Hp} {v : V} {Q : VK} {E : XK} (hx : H x = none) (hd : H dx = none) (hne : dx ≠ x) (h : (∃ n : Int, Refused K H v n ∧ RaisesDoc CD H E n) ∨ (Taken K H v ∧ ∀ H', Same H H' → Q .non H')) :
    sp_init K C CD [.ref x, v] (upd (upd H dx (.own x)) x (.ins C dx [])) Q E := by
  have sm : Same H (upd (upd H dx (.own x)) x (.ins C dx [])) := fun b o e => by
    rw [upd_ne (ne_of_none e hx), upd_ne (ne_of_none e hd)]
    exact e
  refine ⟨x, dx, v, rfl, upd_same, ?_⟩
  rcases h with ⟨n, h1, h2⟩ | ⟨h1, h2⟩
  · refine .inl ⟨n, h1.mono sm, fun d H' s hd e => h2 d H' (sm.trans s) (sm.free hd) e⟩
  · refine .inr ⟨h1.mono sm, fun H' fs hk _ => h2 H' fun b o e => hk b o (ne_of_none e hx) (sm b o e)⟩
end
end Lw

namespace Lw
open PySem PySem.Spec PyProof.Rows L2 VW TL LamX
local macro_rules | `(tactic| walk_at "rdc") => `(tactic| first | assumption | rfl | decide | omega | exact Or.inr ⟨by decide, by decide⟩ | exact ⟨by decide, by decide⟩ | exact ⟨by decide, by decide, by decide⟩ | (show (0 : Int) < _; omega) | (show (0 : Int) < _ ∧ _ < (1073741824 : Int); omega) | (show (-(2 ^ 64) < _ ∧ _ < 2 ^ 64) ∨ (-(2 ^ 64) < _ ∧ _ < 2 ^ 64); omega) | (show (-(2 ^ 64) < _ ∧ _ < 2 ^ 64) ∨ (-(2 ^ 64) < _ ∧ _ < 2 ^ 64); right; split <;> decide) | exact Nat.le_of_ble_eq_true rfl)
local macro_rules | `(tactic| walk_at "rd1") => `(tactic| first | refine ⟨_, rfl, ?_⟩ | refine And.intro (by walk_at "rdc") ?_ | refine ⟨_, _, rfl, rfl, ?_⟩ | refine Or.inl ⟨_, rfl, ?_⟩ | refine Or.inr ⟨_, rfl, ?_⟩ | refine ⟨_, _, _, _, rfl, rfl, sqlO (by first | assumption | exact upd_same), rfl, ?_⟩ | refine ⟨_, _, _, _, rfl, rfl, (by first | assumption | exact upd_same), rfl, ?_⟩)
local macro_rules | `(tactic| walk_at "rd") => `(tactic| repeat (walk_at "rd1"))

section
variable {P : Program} {w : World} {K : PySem.W.Frag} {mg : Str → Option Value} {base : Heap} {W : Wd}
/-- what the law's handler makes of an error -/
def SaidE (W : Wd) (Q : VK) : XK := fun cls d H =>
  ∃ (dd : Addr) (a : V), cls = .ref W.c_InvalidDoc ∧ d = some dd ∧ H dd = some (.xd [("at", a)]) ∧ ∀ (p : Addr) (H' : Hp), Same H H' → H p = none → H' p = some (.tup [.str "doc", a]) → Q (.ref p) H'
def TTsaid (W : Wd) : (XK → Hp → VK → Prop) → Hp → VK → Prop := fun tl H Q => tl (SaidE W Q) H fun _ H' => Q (.str "told") H'
theorem sc__law_said : FnScope ["_law_ask", "e", "_law_marks"] ["_law_ask"] (defScope s__law_said) := ⟨rfl, rfl, rfl, by decide +kernel, rfl, by decide +kernel, by decide +kernel⟩
theorem said_asks {X : Cx} (T : Txt X.w X.K X.mg W) : Asks X "_law_said" "_law_ask" s__law_said (TTsaid W) := by
  obtain ⟨g, fd, hm, F, hb⟩ := T.f__law_said.ex
  have kp := F.kp
  obtain ⟨oc, od, kV, doc, pm, an, cdv, ct, osl, rfl, lk, hcd⟩ := F.ex
  have hkV : kV = .none ∨ True := .inr True.intro
  refine ⟨g, oc, kV, doc, pm, cdv, ct, od, an, osl, ["_law_ask", "e", "_law_marks"], hm, kp, lk, hcd, hb, sc__law_said, rfl, fun q f c' s H Q tl act hc h => ?_⟩
  refine ⟨_, pss_cons (ps_try_as (X := (cxOf C8.CX0 X.prog X.w X.K X.mg X.base ["_law_ask", "e", "_law_marks"] "_law_said" (defScope s__law_said) g cdv X.A X.stack s H C8.E0).nox) (i := 1) (c := .ref W.c_LayoutError) (tb := fun Wx D σ H => ∃ Ech : XK, (∀ cls d (σ' : L2.St) H', Ech cls d H' → σ'.length = 3 → Wx cls d σ' H') ∧ σ[0]? = some (some (.ref f)) ∧ H c' = some (CodeO c' q) ∧ tl Ech H fun _ H' => D.nx σ H')
      rfl rfl sc__law_said.nd rfl rfl ⟨rfl, by decide, .inl T.c_LayoutError⟩ L2.takes0 (fun Wx pn xe tk _ => ?_) (fun a oe cls d pn hz hf => (pss_cons (ps_set (i := 2) sc__law_said.nd rfl (Or.inl rfl) (pe_lst (pa_cons (pe_callB (id := "isinstance") (call_isF hz hf) (by rfl) T.n_isinstance (by decide +kernel) (pa_cons (pv 1) (pa_cons (pe_glob (v := .ref W.c_InvalidDoc) (by rfl) T.c_InvalidDoc rfl) pa_nil))) (pa_cons (pe_callB (id := "isinstance") (call_isF hz hf) (by rfl) T.n_isinstance (by decide +kernel) (pa_cons (pv 1) (pa_cons (pe_glob (v := .ref W.c_InvalidBound) (by rfl) T.c_InvalidBound rfl) pa_nil))) (pa_cons (pe_callB (id := "isinstance") (call_isF hz hf) (by rfl) T.n_isinstance (by decide +kernel) (pa_cons (pv 1) (pa_cons (pe_glob (v := .ref W.c_InvalidText) (by rfl) T.c_InvalidText rfl) pa_nil))) pa_nil)))))
      (pss_cons (ps_set (i := 2) sc__law_said.nd rfl (Or.inl rfl) (pe_op op_cat (pv 2) (pe_lst (pa_cons (pe_callB (id := "isinstance") (call_isF hz hf) (by rfl) T.n_isinstance (by decide +kernel) (pa_cons (pv 1) (pa_cons (pe_glob (v := .ref W.c_InvalidValue) (by rfl) T.c_InvalidValue rfl) pa_nil))) (pa_cons (pe_callB (id := "isinstance") (call_isF hz hf) (by rfl) T.n_isinstance (by decide +kernel) (pa_cons (pv 1) (pa_cons (pe_glob (v := .ref W.c_InvalidCall) (by rfl) T.c_InvalidCall rfl) pa_nil))) (pa_cons (pe_callB (id := "isinstance") (call_isF hz hf) (by rfl) T.n_isinstance (by decide +kernel) (pa_cons (pv 1) (pa_cons (pe_glob (v := .ref W.c_LimitExceeded) (by rfl) T.c_LimitExceeded rfl) pa_nil))) pa_nil))))))
      (pss_cons (ps_if (PW.pt (pw_or (pt_cmpR op_ne (pe_bmK (K := X.K) PySem.F.plainAttrs_list PySem.F.slot_list_count PySem.F.type_list_count (mt_countTK (K := X.K)) (pv 2) (pa_cons pe_bl pa_nil)) pe_int (nomark _)) (pw_or1 (pt_not (pt_val (pe_callB (id := "isinstance") (call_isF hz hf) (by rfl) T.n_isinstance (by decide +kernel) (pa_cons (pv 1) (pa_cons (pe_bltn (v := .ty "ArithmeticError") (by rfl) T.n_ArithmeticError (by decide +kernel) rfl) pa_nil)))))))) (pss_one (ps_ret pe_str)) pss_nil)
      (pss_cons (ps_if (PW.pt (pw_or (pt_val (pe_ix (ix_listK (K := X.K)) (pv 2) pe_int (fun _ _ => rfl))) (pw_or1 (pt_val (pe_ix (ix_listK (K := X.K)) (pv 2) pe_int (fun _ _ => rfl)))))) (pss_one (ps_ret (pe_ifExp (pt_val (pe_ix (ix_listK (K := X.K)) (pv 2) pe_int (fun _ _ => rfl))) (pe_tup (pa_cons pe_str (pa_cons (pe_xf (xfc T.x_InvalidDoc) T.na_InvalidDoc_at hz hf (pv 1)) pa_nil))) pe_false))) pss_nil)
      (pss_cons (ps_if (pt_val (pe_ix (ix_listK (K := X.K)) (pv 2) pe_int (fun _ _ => rfl))) (pss_one ps_never) pss_nil)
      (pss_cons (ps_if (PW.pt (pw_or (pt_val (pe_ix (ix_listK (K := X.K)) (pv 2) pe_int (fun _ _ => rfl))) (pw_or1 (pt_val (pe_ix (ix_listK (K := X.K)) (pv 2) pe_int (fun _ _ => rfl)))))) (pss_one ps_never) pss_nil)
      (pss_one ps_never))))))))) (pss_one (ps_ret pe_str)), ?_⟩
  · refine ⟨fun pins s' σ H' D I h' => ?_⟩
    obtain ⟨Ech, hW, h1, h2, h3⟩ := h'
    exact (pss_one (ps_expr (act _ pn xe Ech _ _ tk.len hW))).run pins s' σ H' D I ⟨h1, h2, h3⟩
  · refine ⟨SaidE W Q, fun cls d σ' H' hs hl => ?_, rfl, hc, h⟩
    obtain ⟨x0, x1, x2, rfl⟩ : ∃ x0 x1 x2, σ' = [x0, x1, x2] := by
      match σ', hl with
      | [x0, x1, x2], _ => exact ⟨x0, x1, x2, rfl⟩
    obtain ⟨dd, arg, rfl, rfl, hx, k⟩ := hs
    · refine ⟨true, T.exm_InvalidDoc, fun _ a ha => ?_, fun z => nomatch z⟩
      have e := T.x_InvalidDoc
      refine ⟨_, rfl, W.c_InvalidDoc, dd, _, _, _, _, rfl, rfl, e, hx, rfl, fun u r => r, T.kt_InvalidDoc_InvalidDoc, ⟨_, rfl, W.c_InvalidDoc, dd, _, _, _, _, rfl, rfl, e, hx, rfl, fun u r => r, T.kt_InvalidDoc_InvalidBound, ⟨_, rfl, W.c_InvalidDoc, dd, _, _, _, _, rfl, rfl, e, hx, rfl, fun u r => r, T.kt_InvalidDoc_InvalidText, Nat.le_of_ble_eq_true rfl, fun m1 hm1 => ?_⟩⟩⟩
      have hx1 := same_new (o := .lst [.bl true, .bl false, .bl false]) hm1 _ _ hx
      refine ⟨_, rfl, ⟨_, rfl, W.c_InvalidDoc, dd, _, _, _, _, rfl, rfl, e, hx1, rfl, fun u r => r, T.kt_InvalidDoc_InvalidValue, ⟨_, rfl, W.c_InvalidDoc, dd, _, _, _, _, rfl, rfl, e, hx1, rfl, fun u r => r, T.kt_InvalidDoc_InvalidCall, ⟨_, rfl, W.c_InvalidDoc, dd, _, _, _, _, rfl, rfl, e, hx1, rfl, fun u r => r, T.kt_InvalidDoc_LimitExceeded, Nat.le_of_ble_eq_true rfl, fun m2 hm2 => ?_⟩⟩⟩⟩
      have n12 : m1 ≠ m2 := ne_of_none upd_same hm2
      refine ⟨_, _, _, _, rfl, rfl, by rw [upd_ne n12]; exact upd_same, upd_same, Nat.le_of_ble_eq_true rfl, fun m3 hm3 => ?_⟩
      have sm := (same_new (o := .lst [.bl true, .bl false, .bl false]) hm1).trans ((same_new (o := .lst [.bl false, .bl false, .bl false]) hm2).trans (same_new (o := .lst [.bl true, .bl false, .bl false, .bl false, .bl false, .bl false]) hm3))
      have hx3 := sm _ _ hx
      refine ⟨_, rfl, .inl ⟨rfl, _, sqlO upd_same⟩, m3, [true, false, false, false, false, false], rfl, rfl, sqlO upd_same, rfl, _, rfl, iteF ?_⟩
      refine ⟨_, rfl, W.c_InvalidDoc, dd, _, _, _, _, rfl, rfl, e, hx3, rfl, fun u r => r, T.kt_InvalidDoc_Arith, true, rfl, iteF ?_⟩
      refine ⟨_, rfl, m3, _, _, _, rfl, rfl, sqlO upd_same, at_of (j := 0) rfl rfl, true, rfl, iteT (iteT ?_)⟩
      refine ⟨_, rfl, m3, _, _, _, rfl, rfl, sqlO upd_same, at_of (j := 0) rfl rfl, true, rfl, iteT ?_⟩
      refine ⟨_, rfl, rfl, rfl, dd, _, _, rfl, hx3, rfl, Nat.le_of_ble_eq_true rfl, fun p hp => ?_⟩
      exact k p _ (sm.trans (same_new hp)) (sm.free hp) upd_same
end
end Lw

set_option maxHeartbeats 0
namespace Lw
open PySem PySem.Spec PyProof.Rows L2 VW TL LamX
local macro_rules | `(tactic| walk_at "rdc") => `(tactic| first | assumption | rfl | decide | omega | exact Or.inr ⟨by decide, by decide⟩ | exact ⟨by decide, by decide⟩ | exact ⟨by decide, by decide, by decide⟩ | (show (0 : Int) < _; omega) | (show (0 : Int) < _ ∧ _ < (1073741824 : Int); omega) | (show (-(2 ^ 64) < _ ∧ _ < 2 ^ 64) ∨ (-(2 ^ 64) < _ ∧ _ < 2 ^ 64); omega) | (show (-(2 ^ 64) < _ ∧ _ < 2 ^ 64) ∨ (-(2 ^ 64) < _ ∧ _ < 2 ^ 64); right; split <;> decide) | exact Nat.le_of_ble_eq_true rfl)
local macro_rules | `(tactic| walk_at "rd1") => `(tactic| first | refine ⟨_, rfl, ?_⟩ | refine And.intro (by walk_at "rdc") ?_ | refine ⟨_, _, rfl, rfl, ?_⟩ | refine Or.inl ⟨_, rfl, ?_⟩ | refine Or.inr ⟨_, rfl, ?_⟩ | refine ⟨_, _, _, _, rfl, rfl, sqlO (by first | assumption | exact upd_same), rfl, ?_⟩ | refine ⟨_, _, _, _, rfl, rfl, (by first | assumption | exact upd_same), rfl, ?_⟩)
local macro_rules | `(tactic| walk_at "rd") => `(tactic| repeat (walk_at "rd1"))

abbrev qL : Str := Str.ofString "law" ++ ".<locals>." ++ "<lambda>"
abbrev qD : Str := Str.ofString "_law_deep_right" ++ ".<locals>." ++ "<lambda>"
abbrev tabL (P D : Addr) : List (Addr × Str) := [(P, qL), (D, qD)]
theorem tab_L {P D : Addr} (h : P ≠ D) {p : Addr × Str} (hp : p ∈ tabL P D) (e : p.1 = P) : p.2 = qL := by
  rcases List.mem_cons.mp hp with rfl | hp
  · rfl
  · rw [List.mem_singleton.mp hp] at e
    exact absurd e.symm h
theorem tab_D {P D : Addr} (h : P ≠ D) {p : Addr × Str} (hp : p ∈ tabL P D) (e : p.1 = D) : p.2 = qD := by
  rcases List.mem_cons.mp hp with rfl | hp
  · exact absurd e h
  · rw [List.mem_singleton.mp hp]
theorem op_neDK {X : Cx} {K : PySem.W.Frag} (hu : X.A.units + 64 < cLine) (hK : X.K = K := by rfl) : OpR X (compareOp .NotEq) (rNeD K) := by
  subst hK
  exact op_neD hu
/-! ### what outlives a lambda's call -/
/-- the heap without its tables -/
def noT (H : Hp) : Hp := fun b => match H b with
  | some (.tbl _) => none
  | o => o
/-- .. without one object -/
def noS (s : Addr) (H : Hp) : Hp := fun b => if b = s then none else H b
theorem noT_get {H : Hp} {b : Addr} {o : HO} (h : H b = some o) (n : ∀ ps, o ≠ .tbl ps) : noT H b = some o := by
  unfold noT
  rw [h]
  split
  · rename_i ps e
    exact absurd (Option.some.inj e) (n ps)
  · rfl
theorem noT_some {H : Hp} {b : Addr} {o : HO} (h : noT H b = some o) : H b = some o ∧ ∀ ps, o ≠ .tbl ps := by
  unfold noT at h
  split at h
  · cases h
  · rename_i hn
    refine ⟨h, fun ps e => ?_⟩
    subst e
    exact hn ps h
theorem noT_same {H : Hp} : Same (noT H) H := fun b o e => (noT_some e).1
theorem noT_ext {H0 H H1 : Hp} (s : Same (noT H0) H) (e : ExtN H H1) : Same (noT H0) H1 := fun b o q => e b o (s b o q) (noT_some q).2
theorem noS_same {s : Addr} {H : Hp} : Same (noS s H) H := fun b o e => by
  unfold noS at e
  split at e
  · cases e
  · exact e
theorem noS_at {s : Addr} {H : Hp} : noS s H s = none := if_pos rfl
theorem noS_get {s b : Addr} {H : Hp} {o : HO} (h : H b = some o) (hb : b ≠ s) : noS s H b = some o := by
  unfold noS
  rw [if_neg hb]
  exact h
theorem noS_under {s : Addr} {U H : Hp} (h : Same U H) (hs : U s = none) : Same U (noS s H) := fun b o e => noS_get (h b o e) fun z => by
  rw [z, hs] at e
  cases e
theorem noS_tabs {s : Addr} {H : Hp} {T : List (Addr × Str)} {xs : List V} (h : Tabs T H) (hs : H s = some (.lst xs)) : Tabs T (noS s H) := fun p hp => by
  obtain ⟨ps, h1, h2, h3⟩ := h p hp
  refine ⟨ps, noS_get h1 fun e => ?_, h2, fun pos cv e => ?_⟩
  · rw [e, hs] at h1
    cases h1
  · obtain ⟨c, e1, e2⟩ := h3 pos cv e
    refine ⟨c, e1, noS_get e2 fun e => ?_⟩
    rw [e, hs] at e2
    cases e2
theorem src_noS {s : Addr} {H : Hp} {a b c : Int} (h : H s = some (.lst [.int a, .int b, .int c])) : Src (noS s H) H s := ⟨noS_same, noS_at, a, b, c, h⟩
theorem rdN {H : Hp} {a : Addr} {u : HO} (n : ∀ ps, u ≠ .tbl ps) (h : Rd H a u) : Rd (noT H) a u := by
  rcases h with h | ⟨o, h⟩
  · exact .inl (noT_get h n)
  · exact .inr ⟨o, noT_get h fun ps e => nomatch e⟩
theorem sqlN {K : PySem.W.Frag} {H : Hp} {a : Addr} {xs : List V} (h : SqL K H a xs) : SqL K (noT H) a xs := by
  rcases h with h | h
  · exact .inl (rdN (fun ps e => nomatch e) h)
  · exact .inr h
theorem sqtN {K : PySem.W.Frag} {H : Hp} {a : Addr} {xs : List V} (h : SqT K H a xs) : SqT K (noT H) a xs := by
  rcases h with h | h
  · exact .inl (rdN (fun ps e => nomatch e) h)
  · exact .inr h
mutual
theorem dpN {K : PySem.W.Frag} {H : Hp} : ∀ {d : PyData} {v : V}, Dp K H v d → Dp K (noT H) v d
  | .none, _, h => by cases h; exact .non
  | .bool _, _, h => by cases h; exact .bl _
  | .int _, _, h => by cases h; exact .int _
  | .str _, _, h => by cases h; exact .str _
  | .list _, _, h => by
    cases h with
    | lst hs ha => exact .lst (sqlN hs) (dpsN ha)
  | .tuple _, _, h => by
    cases h with
    | tup hs ha => exact .tup (sqtN hs) (dpsN ha)
  | .dict _, _, h => by cases h
theorem dpsN {K : PySem.W.Frag} {H : Hp} : ∀ {ds : List PyData} {vs : List V}, DpAll K H vs ds → DpAll K (noT H) vs ds
  | [], _, h => by cases h; exact .nil
  | _ :: _, _, h => by
    cases h with
    | cons h1 h2 => exact .cons (dpN h1) (dpsN h2)
end
/-! ### displays that hold data of a view -/
section
variable {K : PySem.W.Frag} {σ : L2.St} {U0 : Hp} {ds : List PyData} {d : PyData} {t : TE} {ta : TA}
def FrB (K : PySem.W.Frag) (U0 : Hp) (σ : L2.St) (t : TE) (d : PyData) : Prop := ∀ (U H : Hp) (Q : VK), Same U0 U → Same U H → (∀ v U' H', Gr S0 U H U' H' → Dp K U' v d → Q v H') → t σ H Q
def MkB (K : PySem.W.Frag) (U0 : Hp) (σ : L2.St) (t : TA) (ds : List PyData) : Prop := ∀ (U H : Hp) (Q : List V → Hp → Prop), Same U0 U → Same U H → (∀ vs U' H', Gr S0 U H U' H' → DpAll K U' vs ds → Q vs H') → t σ H Q
theorem frb_of (h : Fr8 K σ t d) : FrB K U0 σ t d := fun U H Q _ s k => h U H Q s k
theorem frb_var {i : Nat} {v : V} (h : σ[i]? = some (some v)) (hd : Dp K U0 v d) : FrB K U0 σ (tVar i) d := fun U H Q s0 s k => ⟨v, h, k v U H (.refl s) (dpS s0 hd)⟩
theorem mkb_nil : MkB K U0 σ tNil [] := fun U H Q _ s k => k [] U H (.refl s) .nil
theorem mkb_cons (h : FrB K U0 σ t d) (h2 : MkB K U0 σ ta ds) : MkB K U0 σ (tCons t ta) (d :: ds) := fun U H Q s0 s k =>
  h U H _ s0 s fun v U1 H1 g1 hd => h2 U1 H1 _ (s0.trans g1.v) g1.s fun vs U2 H2 g2 hds => k (v :: vs) U2 H2 (g1.trans g2) (.cons (dpS g2.v hd) hds)
theorem lst_b {U H : Hp} {Q : VK} (m : MkB K U0 σ ta ds) (s0 : Same U0 U) (s : Same U H) (hl : ds.length ≤ sizeLine) (k : ∀ vs U' H' p, Gr S0 U H U' H' → DpAll K U' vs ds → H' p = none → Q (.ref p) (upd H' p (.lst vs))) : tLst ta σ H Q :=
  m U H _ s0 s fun vs U' H' g hd => ⟨by rw [dps_length hd]; exact hl, fun p hp => k vs U' H' p g hd hp⟩
theorem frb_tup (h : MkB K U0 σ ta ds) (hl : ds.length ≤ sizeLine) : FrB K U0 σ (tTup ta) (.tuple ds) := fun U H Q s0 s k =>
  h U H _ s0 s fun vs U1 H1 g1 hd => ⟨by rw [dps_length hd]; exact hl, fun p hp => k (.ref p) (upd U1 p (.tup vs)) _ (g1.new hp) (.tup (sqtO upd_same) (dpsS (same_new (vfree g1.s hp)) hd))⟩
theorem frb_lst (h : MkB K U0 σ ta ds) (hl : ds.length ≤ sizeLine) : FrB K U0 σ (tLst ta) (.list ds) := fun U H Q s0 s k =>
  h U H _ s0 s fun vs U1 H1 g1 hd => ⟨by rw [dps_length hd]; exact hl, fun p hp => k (.ref p) (upd U1 p (.lst vs)) _ (g1.new hp) (.lst (sqlO upd_same) (dpsS (same_new (vfree g1.s hp)) hd))⟩
end
local macro_rules | `(tactic| walk_at "db1") => `(tactic| first | exact mkb_nil | refine mkb_cons ?_ ?_ | exact frb_of mk_int | exact frb_of mk_non | exact frb_of mk_bl | exact frb_of (mk_str mks_c) | refine frb_tup ?_ (Nat.le_of_ble_eq_true rfl) | refine frb_lst ?_ (Nat.le_of_ble_eq_true rfl) | (refine frb_var rfl ?_; assumption))
local macro_rules | `(tactic| walk_at "db") => `(tactic| repeat' (walk_at "db1"))
/-! ### nested deep -/
def deepD (b : Bool) : Nat → PyData
  | 0 => .list []
  | n + 1 => if b then .list [deepD b n] else .tuple [deepD b n]
theorem deep_is (b : Bool) (n : Nat) : (∃ ds, deepD b n = .list ds) ∨ ∃ m, deepD b n = .tuple [deepD b m] := by
  cases n with
  | zero => exact .inl ⟨_, rfl⟩
  | succ n =>
    cases b
    · exact .inr ⟨n, rfl⟩
    · exact .inl ⟨_, rfl⟩
theorem deep_row (b : Bool) (n k : Nat) : rowD k (deepD b n) = false := by
  rcases deep_is b n with ⟨ds, e⟩ | ⟨m, e⟩
  · rw [e]; rfl
  · rw [e]
    rcases deep_is b m with ⟨ds, e2⟩ | ⟨m2, e2⟩ <;> rw [e2] <;> rfl
theorem deep_ok (b : Bool) (n : Nat) : okD (deepD b n) := by
  rcases deep_is b n with ⟨ds, e⟩ | ⟨m, e⟩
  · rw [e]; exact True.intro
  · rw [e]
    rcases deep_is b m with ⟨ds, e2⟩ | ⟨m2, e2⟩ <;> rw [e2] <;> exact True.intro
theorem deep_short (b : Bool) (n : Nat) : shortD (deepD b n) := by
  rcases deep_is b n with ⟨ds, e⟩ | ⟨m, e⟩ <;> rw [e] <;> exact True.intro
theorem deep_below (b : Bool) (n : Nat) (e : Int) : belowD e (deepD b n) = false := by
  rcases deep_is b n with ⟨ds, h⟩ | ⟨m, h⟩ <;> rw [h] <;> rfl
theorem deep_good (b : Bool) (n m : Nat) : goodD m (deepD b n) = false := by
  rcases deep_is b n with ⟨ds, h⟩ | ⟨m, h⟩ <;> rw [h] <;> rfl
def deepsD (x : PyData) : List PyData := [x, .tuple [.str "cat", x], .tuple [.str "cat", .list [.int 0, x]], .tuple [.str "text", x], .tuple [.str "line", x], .tuple [.str "group", x], .tuple [.str "nest", x, .int 0]]
def deepsD2 (x : PyData) : List PyData := [.tuple [.str "align", x], .tuple [x, .int 0], .tuple [.str "nest", .int 0, x], .tuple [.str "hard", x]]
theorem deep_parts (b : Bool) (m : Nat) (k : Int) : partsD k (deepD b (m + 1)) = false := by
  cases b
  · rfl
  · show (decide ([deepD true m].length ≤ 8) && [deepD true m].all (belowD k)) = false
    simp [deep_below]
theorem deeps_bad (b : Bool) (n m : Nat) (hn : n = m + 1) : ∀ d ∈ deepsD (deepD b n) ++ deepsD2 (deepD b n), rowD 1 d = false ∧ okD d := by
  intro d hd
  have sh := deep_short b n
  have kq : ∀ (q : Str) (v : V) (r : List PyData), (q, v) ∈ KQ → (∀ x ∈ r, shortD x) → okD (.tuple (.str q :: r)) := fun q v r h h2 => ⟨⟨v, h⟩, h2⟩
  have one : ∀ x ∈ [deepD b n], shortD x := fun x hx => by rw [List.mem_singleton.mp hx]; exact sh
  rcases List.mem_append.mp hd with hd | hd
  · simp only [deepsD, List.mem_cons, List.not_mem_nil, or_false] at hd
    rcases hd with rfl | rfl | rfl | rfl | rfl | rfl | rfl
    · exact ⟨deep_row b n 1, deep_ok b n⟩
    · refine ⟨?_, kq _ (.int 2) _ (by simp [KQ]) one⟩
      rw [rowD2, if_neg (by decide +kernel), if_neg (by decide +kernel), if_pos rfl]
      subst hn
      exact deep_parts b m 1
    · refine ⟨?_, kq _ (.int 2) _ (by simp [KQ]) fun x hx => by rw [List.mem_singleton.mp hx]; exact True.intro⟩
      rw [rowD2, if_neg (by decide +kernel), if_neg (by decide +kernel), if_pos rfl]
      show (decide ([PyData.int 0, deepD b n].length ≤ 8) && [PyData.int 0, deepD b n].all (belowD 1)) = false
      simp [deep_below]
    · refine ⟨?_, kq _ (.int 2) _ (by simp [KQ]) one⟩
      rw [rowD2, if_pos rfl, deep_good]
    · refine ⟨?_, kq _ (.int 2) _ (by simp [KQ]) one⟩
      rw [rowD2, if_neg (by decide +kernel), if_pos rfl, deep_good]
    · refine ⟨?_, kq _ (.int 2) _ (by simp [KQ]) one⟩
      rw [rowD2, if_neg (by decide +kernel), if_neg (by decide +kernel), if_neg (by decide +kernel), deep_below, Bool.and_false]
    · refine ⟨?_, kq _ (.int 3) _ (by simp [KQ]) fun x hx => by simp at hx; rcases hx with rfl | rfl <;> first | exact sh | exact True.intro⟩
      rw [rowD3, deep_below, Bool.false_and, Bool.and_false]
  · simp only [deepsD2, List.mem_cons, List.not_mem_nil, or_false] at hd
    rcases hd with rfl | rfl | rfl | rfl
    · refine ⟨?_, kq _ (.int 2) _ (by simp [KQ]) one⟩
      rw [rowD2, if_neg (by decide +kernel), if_neg (by decide +kernel), if_neg (by decide +kernel), deep_below, Bool.and_false]
    · rcases deep_is b n with ⟨ds, e⟩ | ⟨m, e⟩ <;> rw [e] <;> exact ⟨rfl, True.intro⟩
    · refine ⟨?_, kq _ (.int 3) _ (by simp [KQ]) fun x hx => by simp at hx; rcases hx with rfl | rfl <;> first | exact sh | exact True.intro⟩
      rw [rowD3, deep_below, Bool.and_false, Bool.and_false]
    · refine ⟨?_, kq _ (.int 1) _ (by simp [KQ]) one⟩
      rw [rowD2, if_neg (by decide +kernel), if_neg (by decide +kernel), if_neg (by decide +kernel), deep_below, Bool.and_false]
theorem shp2 {z : Str} {i : Int} (h : PyData.strOk z = true) : SeqAt.shaped (.tuple [.str z, .int i]) = true := by
  unfold SeqAt.shaped
  simp [PyData.canLay0, PyData.canLayAll0, h, PyData.depth, PyData.depthAll]
theorem lay2 {z : Str} {i : Int} (h : PyData.strOk z = true) : (PyData.tuple [.str z, .int i]).canLay0 = true := by
  simp only [PyData.canLay0, PyData.canLayAll0, h, Bool.and_self]
theorem neD_doc {K : PySem.W.Frag} {H : Hp} {a b : Addr} {n : Int} {Q : VK} (ha : H a = some (.tup [.str "doc", .int n])) (hb : H b = some (.tup [.str "doc", .int n])) (k : Q (.bl false) H) : rNeD K (.ref a) (.ref b) H Q := by
  refine ⟨.tuple [.str "doc", .int n], .tuple [.str "doc", .int n], dp_tup ha (.cons (.str _) (.cons (.int _) .nil)), dp_tup hb (.cons (.str _) (.cons (.int _) .nil)), shp2 (by decide +kernel), shp2 (by decide +kernel), ?_⟩
  rw [SeqAt.eqv_refl _ (lay2 (by decide +kernel))]
  exact k
theorem hard_fst : rowD 0 (.tuple [.str "hard"]) = true ∧ okD (.tuple [.str "hard"]) := ⟨by decide +kernel, ⟨⟨.int 1, by simp [KQ]⟩, fun x hx => nomatch hx⟩⟩
theorem go_drop {te : TE} {u : TS} {D : Ends} {σ : L2.St} {H : Hp} (h : te σ H fun _ H1 => u D σ H1) : tSeq (tDrop te) u D σ H := h
theorem go_ret {te : TE} {D : Ends} {σ : L2.St} {H : Hp} (h : te σ H D.rt) : tRet te D σ H := h
theorem go_asg {te : TE} {g : TG} {u : TS} {D : Ends} {σ : L2.St} {H : Hp} (h : te σ H fun x H1 => g x σ H1 (u D)) : tSeq (tAsg te g) u D σ H := h
section
variable {P : Program} {w : World} {K : PySem.W.Frag} {mg : Str → Option Value} {base : Heap} {W : Wd}
theorem sc__law_deep_right : FnScope ["_law_is_list", "_law_deep", "_law_turn", "_law_odd_here", "_law_row_here"] ["_law_is_list"] (defScope s__law_deep_right) := ⟨rfl, rfl, rfl, by decide +kernel, rfl, by decide +kernel, by decide +kernel⟩
def sp_deep (W : Wd) (cP : Addr) : Sp := fun vs H Q _ => ∃ (b : Bool), vs = [.bl b] ∧ Tabs (tabL cP W.tp__law_deep_right) H ∧ ∀ H', Tabs (tabL cP W.tp__law_deep_right) H' → Q (.bl true) H'
theorem d__law_deep_right (T : Txt w K mg W) {cP : Addr} (hne : cP ≠ W.tp__law_deep_right) (TBD : TabB base mg W.tc__law_deep_right W.tp__law_deep_right) : DefOk P w K mg base "_law_deep_right" s__law_deep_right ["_law_is_list"] 12 (sp_deep W cP) := by
  obtain ⟨⟨f, fd, hm, F, hb, hc⟩, hcode, hno⟩ := T.w__law_deep_right
  refine ⟨f, fd, hm, F, hb, F.okC hc sc__law_deep_right (fun vs H Q E h => ?_) (fun A outer s H vs Q E hr h => ?_)⟩
  · obtain ⟨b, rfl, _⟩ := h
    rfl
  · obtain ⟨b, rfl, tb, k⟩ := h
    refine ⟨_, (pss_cons (ps_set (i := 1) sc__law_deep_right.nd rfl (Or.inr rfl) (pe_lst pa_nil))
      (pss_cons (ps_for PassesOwn.never rfl (pi_range1 (by rfl) T.n_range (pa_cons pe_int pa_nil)) (pg_name (i := 2) sc__law_deep_right.nd rfl (Or.inl rfl))
      (pss_one (ps_set (i := 1) sc__law_deep_right.nd rfl (Or.inr rfl) (pe_ifExp (pt_val (pv 0)) (pe_lst (pa_cons (pv 1) pa_nil)) (pe_tup (pa_cons (pv 1) pa_nil))))))
      (pss_cons (ps_if (pt_cmpR (op_neD hr.units) (pe_ask (T := tabL cP W.tp__law_deep_right) (c := W.tc__law_deep_right) (P := W.tp__law_deep_right) (said_asks T) TBD rfl (List.mem_cons_of_mem _ List.mem_cons_self) (fun p hp e => tab_D hne hp e) (hr.mono (by decide)) (lamS_by (sc := defScope s__law_deep_right) (by decide +kernel)) (fun A outer s H E f c' hr' => pe_makeX (d_Doc___init__ T) T.mk_Doc T.c_Doc hr' (takes_of rfl rfl rfl rfl) (fun _ _ _ _ h => h) (pa_cons (pv 1) pa_nil))) (pe_tup (pa_cons pe_str (pa_cons (pe_op op_sub (pe_callTy (T := "int") call_int1 (by rfl) T.n_int (by decide +kernel) (pa_cons (pv 0) pa_nil)) pe_int) pa_nil))) (nomark _)) (pss_one (ps_ret pe_bl)) pss_nil)
      (pss_cons (ps_set (i := 3) sc__law_deep_right.nd rfl (Or.inl rfl) (pe_lst (pa_cons (pv 1) (pa_cons (pe_tup (pa_cons pe_str (pa_cons (pv 1) pa_nil))) (pa_cons (pe_tup (pa_cons pe_str (pa_cons (pe_lst (pa_cons pe_int (pa_cons (pv 1) pa_nil))) pa_nil))) (pa_cons (pe_tup (pa_cons pe_str (pa_cons (pv 1) pa_nil))) (pa_cons (pe_tup (pa_cons pe_str (pa_cons (pv 1) pa_nil))) (pa_cons (pe_tup (pa_cons pe_str (pa_cons (pv 1) pa_nil))) (pa_cons (pe_tup (pa_cons pe_str (pa_cons (pv 1) (pa_cons pe_int pa_nil)))) pa_nil)))))))))
      (pss_cons (ps_set (i := 3) sc__law_deep_right.nd rfl (Or.inl rfl) (pe_op op_cat (pv 3) (pe_lst (pa_cons (pe_tup (pa_cons pe_str (pa_cons (pv 1) pa_nil))) (pa_cons (pe_tup (pa_cons (pv 1) (pa_cons pe_int pa_nil))) (pa_cons (pe_tup (pa_cons pe_str (pa_cons pe_int (pa_cons (pv 1) pa_nil)))) (pa_cons (pe_tup (pa_cons pe_str (pa_cons (pv 1) pa_nil))) pa_nil)))))))
      (pss_one (ps_ret (pe_cmpR (op_eqD hr.units) (pe_lc (own := [("_law_row_here", 4)]) (g := (gName 4)) rfl sc__law_deep_right.nd (pi_list (pv 3)) (blkOk_by (own := [("_law_row_here", 4)]) (N := ["_law_is_list", "_law_deep", "_law_turn", "_law_odd_here", "_law_row_here"]) (sc := defScope s__law_deep_right) (by decide +kernel)) (fun _ _ _ _ _ => (pg_name (i := 4) sc__law_deep_right.nd rfl (Or.inr rfl))) (fun _ _ _ _ _ => (pts_one (pt_cmpR (op_neDK (K := K) hr.units) (pe_ask (T := tabL cP W.tp__law_deep_right) (c := W.tc__law_deep_right) (P := W.tp__law_deep_right) (said_asks T) TBD rfl (List.mem_cons_of_mem _ List.mem_cons_self) (fun p hp e => tab_D hne hp e) (hr.mono (by decide)) (lamS_by (sc := { kind := .function, names := [(".0", .local), ("_law_row_here", .cell), ("_law_said", .globalImplicit)], isGenerator := false, isCoroutine := false }) (by decide +kernel)) (fun A outer s H E f c' hr' => pe_makeX (d_Doc___init__ T) T.mk_Doc T.c_Doc hr' (takes_of rfl rfl rfl rfl) (fun _ _ _ _ h => h) (pa_cons (pe_lst (pa_cons (pe_tup (pa_cons pe_str pa_nil)) (pa_cons (pv 4) pa_nil))) pa_nil))) (pe_tup (pa_cons pe_str (pa_cons pe_int pa_nil))) (nomark _)))) (fun _ _ _ _ _ => pe_int)) (pe_lst pa_nil) (nomark _))))))))), ?_⟩
    refine ⟨Nat.le_of_ble_eq_true rfl, fun L hL => ?_⟩
    refine ⟨_, rfl, by decide, by decide, ?_⟩
    refine for_range (lo := 0) (n := Int.toNat 1980) (fun i σ H' => ∃ (p : Addr) (v2 : Option V), σ = [some (.bl b), some (.ref p), v2, none, none] ∧ Same H H' ∧ Dp K H' (.ref p) (deepD b i)) ⟨L, none, rfl, same_new hL, dp_lst upd_same .nil⟩ ?_ ?_
    · rintro i σ H' hi ⟨p, v2, rfl, sm, hp⟩
      cases b with
      | true => exact ⟨_, rfl, _, rfl, iteT ⟨_, rfl, Nat.le_of_ble_eq_true rfl, fun q hq => ⟨q, _, rfl, sm.trans (same_new hq), dp_lst upd_same (.cons (dpS (same_new hq) hp) .nil)⟩⟩⟩
      | false => exact ⟨_, rfl, _, rfl, iteF ⟨_, rfl, Nat.le_of_ble_eq_true rfl, fun q hq => ⟨q, _, rfl, sm.trans (same_new hq), dp_tup upd_same (.cons (dpS (same_new hq) hp) .nil)⟩⟩⟩
    · rintro σ H1 ⟨p, v2, rfl, sm, hp⟩
      have t1 := tb.ext sm
      have hp : Dp K H1 (.ref p) (deepD b 1980) := hp
      have hpN := dpN hp
      refine ⟨t1, fun H2 eN t2 => ?_⟩
      have sN : Same (noT H1) H2 := noT_ext noT_same eN
      have rf : Refused K H2 (.ref p) ((if b = true then 1 else 0) - 1) := by
        have hp2 := dpS sN hpN
        cases b with
        | true =>
          have hp2 : Dp K H2 (.ref p) (.list [deepD true 1979]) := hp2
          cases hp2 with | lst hl ha =>
          rename_i xs
          have hlen := dps_length ha
          refine .inr (.inr ⟨[deepD true 1979], 0, ⟨p, xs, rfl, hl, hlen, by decide, by decide, fun i x d e1 e2 => ?_, fun d hd => by rw [List.mem_singleton.mp hd]; exact deep_ok true 1979⟩, ?_, rfl⟩)
          · obtain ⟨d', h1, h2⟩ := dps_get ha e1
            rw [e2] at h1
            cases h1
            exact .inl h2
          · unfold firstBad
            rw [deep_row]
            rfl
        | false =>
          have hp2 : Dp K H2 (.ref p) (.tuple [deepD false 1979]) := hp2
          cases hp2 with | tup ht ha =>
          exact .inl ⟨_, fun H' s => tyT (sqtS s ht), kit_ty (by decide +kernel), rfl⟩
      refine ⟨_, rfl, fun x dx hx hdx ne => made_any hx hdx ne (.inl ⟨_, rf, fun d' H' sm' hfree hx' => ?_⟩)⟩
      refine ⟨d', .int ((if b = true then 1 else 0) - 1), rfl, rfl, hx', fun p4 H4 s4 hpn hp4 => ?_⟩
      have s24 := sm'.trans s4
      refine ⟨_, rfl, .inr ⟨b, rfl, _, _, rfl, rfl, Nat.le_of_ble_eq_true rfl, fun p2 hp2 => ?_⟩⟩
      have n2 : p4 ≠ p2 := ne_of_none hp4 hp2
      refine ⟨.tuple [.str "doc", .int ((if b = true then 1 else 0) - 1)], .tuple [.str "doc", .int ((if b = true then 1 else 0) - 1)], dp_tup (by rw [upd_ne n2]; exact hp4) (.cons (.str _) (.cons (.int _) .nil)), dp_tup upd_same (.cons (.str _) (.cons (.int _) .nil)), shp2 (by decide +kernel), shp2 (by decide +kernel), false, by rw [SeqAt.eqv_refl _ (lay2 (by decide +kernel))]; rfl, iteF ?_⟩
      have s3 := sN.trans (s24.trans (same_new (o := .tup [.str "doc", .int ((if b = true then 1 else 0) - 1)]) hp2))
      have t3 := t2.ext (s24.trans (same_new (o := .tup [.str "doc", .int ((if b = true then 1 else 0) - 1)]) hp2))
      generalize upd H4 p2 (.tup [.str "doc", .int ((if b = true then 1 else 0) - 1)]) = H3 at s3 t3 ⊢
      clear rf sN eN t2 sm' hfree hx' hpn hp4 n2 s24 hp2
      unfold tNext
      dsimp only
      refine go_asg ?_
      refine lst_b (K := K) (U0 := noT H1) (ds := deepsD (deepD b 1980)) (by unfold deepsD; walk_at "db") (Same.refl _) s3 (Nat.le_of_ble_eq_true rfl) fun vs U4 H4 l1 g4 dvs hl1 => ?_
      have b1 : (upd H4 l1 (.lst vs)) l1 = some (.lst vs) := upd_same
      have g5 := g4.newH (o := .lst vs) hl1
      generalize upd H4 l1 (.lst vs) = H5 at b1 g5 ⊢
      refine go_asg ?_
      refine ⟨_, rfl, lst_b (K := K) (U0 := noT H1) (ds := deepsD2 (deepD b 1980)) (by unfold deepsD2; walk_at "db") g5.v g5.s (Nat.le_of_ble_eq_true rfl) fun vs2 U6 H6 l2 g6 dvs2 hl2 => ?_⟩
      have b6 := g6.same _ _ b1
      have n12 : l1 ≠ l2 := ne_of_none b6 hl2
      refine ⟨_, _, _, _, rfl, rfl, by rw [upd_ne n12]; exact b6, upd_same, by rw [dps_length dvs, dps_length dvs2]; exact Nat.le_of_ble_eq_true rfl, fun l3 hl3 => ?_⟩
      have dall : DpAll K U6 (vs ++ vs2) (deepsD (deepD b 1980) ++ deepsD2 (deepD b 1980)) := dps_append (dpsS g6.v dvs) dvs2
      have g7 := ((g5.trans g6).newH (o := .lst vs2) hl2).newH (o := .lst (vs ++ vs2)) hl3
      have b7 : (upd (upd H6 l2 (.lst vs2)) l3 (.lst (vs ++ vs2))) l3 = some (.lst (vs ++ vs2)) := upd_same
      have d7 := dpsS g7.s dall
      generalize upd (upd H6 l2 (.lst vs2)) l3 (.lst (vs ++ vs2)) = H7 at g7 b7 d7 ⊢
      have t7 := t3.ext g7.same
      clear g4 g5 g6 b1 b6 n12 hl1 hl2 hl3 dvs dvs2 dall s3 t3
      have b7N := noT_get b7 (fun ps e => nomatch e)
      have d7N := dpsN d7
      refine ⟨_, rfl, l3, rfl, ⟨_, sqlO b7⟩, fun D hD => ?_⟩
      refine lc_list (xs := vs ++ vs2) (fun i H' => Same (noT H7) H' ∧ Tabs (tabL cP W.tp__law_deep_right) H' ∧ H' D = some (.lst [])) ⟨noT_same.trans (same_new hD), t7.ext (same_new hD), upd_same⟩ (fun i H' _ z => sqlO (z.1 _ _ b7N)) ?_ ?_
      · rintro j x H8 hi ⟨s8, t8, hD8⟩
        refine ⟨rfl, ⟨t8, fun H9 eN t9 => ?_⟩⟩
        have s9 : Same (noT H8) H9 := noT_ext noT_same eN
        obtain ⟨dx, hdx, hdp⟩ := dps_get (dpsS s8 d7N) hi
        have hbad := deeps_bad b 1980 1979 rfl dx (List.mem_of_getElem? hdx)
        have hdp9 := dpS s9 (dpN hdp)
        have hD9 := s9 _ _ (noT_get hD8 (fun ps e => nomatch e))
        refine ⟨Nat.le_of_ble_eq_true rfl, fun p1 hp1 => ?_⟩
        refine ⟨_, rfl, Nat.le_of_ble_eq_true rfl, fun l hl => ?_⟩
        have n1l : p1 ≠ l := ne_of_none upd_same hl
        have sX : Same H9 (upd (upd H9 p1 (.tup [.str "hard"])) l (.lst [.ref p1, x])) := (same_new hp1).trans (same_new hl)
        have rf : Refused K (upd (upd H9 p1 (.tup [.str "hard"])) l (.lst [.ref p1, x])) (.ref l) 1 := by
          refine .inr (.inr ⟨[.tuple [.str "hard"], dx], 1, ⟨l, _, rfl, sqlO upd_same, rfl, Nat.zero_lt_succ _, Nat.le_of_ble_eq_true rfl, fun i y d e1 e2 => ?_, fun d hd => ?_⟩, ?_, rfl⟩)
          · match i, e1, e2 with
            | 0, e1, e2 => cases e1; cases e2; exact .inl (dp_tup (by rw [upd_ne n1l]; exact upd_same) (.cons (.str _) .nil))
            | 1, e1, e2 => cases e1; cases e2; exact .inl (dpS sX hdp9)
            | i + 2, e1, e2 => cases e1
          · rcases List.mem_cons.mp hd with rfl | hd
            · exact hard_fst.2
            · rw [List.mem_singleton.mp hd]; exact hbad.2
          · unfold firstBad
            rw [hard_fst.1]
            unfold firstBad
            rw [hbad.1]
            rfl
        refine fun x4 d4 hx hdx ne => made_any hx hdx ne (.inl ⟨_, rf, fun d' H' sm' hfree hx' => ?_⟩)
        refine ⟨d', .int 1, rfl, rfl, hx', fun p4 H4 s4 hpn hp4 => ?_⟩
        have s24 := sX.trans (sm'.trans s4)
        refine ⟨Nat.le_of_ble_eq_true rfl, fun p2 hp2 => ?_⟩
        have n2 : p4 ≠ p2 := ne_of_none hp4 hp2
        have s25 := s24.trans (same_new (o := .tup [.str "doc", .int 1]) hp2)
        refine neD_doc (n := 1) (by rw [upd_ne n2]; exact hp4) upd_same ⟨false, rfl, iteF ?_⟩
        exact ⟨(noT_ext s8 eN).trans s25, t9.ext s25, s25 _ _ hD9⟩
      · rintro H8 ⟨s8, t8, hD8⟩
        refine ⟨Nat.le_of_ble_eq_true rfl, fun e he => ?_⟩
        have nDe : D ≠ e := ne_of_none hD8 he
        exact ⟨.list [], .list [], .lst (sqlO (by rw [upd_ne nDe]; exact hD8)) .nil, .lst (sqlO upd_same) .nil, by decide +kernel, by decide +kernel, k _ (t8.ext (same_new he))⟩
end
end Lw

set_option maxHeartbeats 0
namespace Lw
open PySem PySem.Spec PyProof.Rows L2 VW TL
local macro_rules | `(tactic| walk_at "rdc") => `(tactic| first | assumption | rfl | decide | omega | exact Or.inr ⟨by decide, by decide⟩ | exact ⟨by decide, by decide⟩ | exact ⟨by decide, by decide, by decide⟩ | (show (0 : Int) < _; omega) | (show (0 : Int) < _ ∧ _ < (1073741824 : Int); omega) | (show (-(2 ^ 64) < _ ∧ _ < 2 ^ 64) ∨ (-(2 ^ 64) < _ ∧ _ < 2 ^ 64); omega) | (show (-(2 ^ 64) < _ ∧ _ < 2 ^ 64) ∨ (-(2 ^ 64) < _ ∧ _ < 2 ^ 64); right; split <;> decide) | exact Nat.le_of_ble_eq_true rfl)
local macro_rules | `(tactic| walk_at "rd1") => `(tactic| first | refine ⟨_, rfl, ?_⟩ | refine And.intro (by walk_at "rdc") ?_ | refine ⟨_, _, rfl, rfl, ?_⟩ | refine Or.inl ⟨_, rfl, ?_⟩ | refine Or.inr ⟨_, rfl, ?_⟩ | refine ⟨_, _, _, _, rfl, rfl, sqlO (by first | assumption | exact upd_same), rfl, ?_⟩ | refine ⟨_, _, _, _, rfl, rfl, (by first | assumption | exact upd_same), rfl, ?_⟩)
local macro_rules | `(tactic| walk_at "rd") => `(tactic| repeat (walk_at "rd1"))

/-! ### displays that hold data, or an empty dict -/
section
variable {K : PySem.W.Frag} {σ : L2.St} {U0 H0 U H : Hp} {Q : VK} {p : Addr} {ds es : List PyData} {d : PyData} {t u : TE} {ta : TA}
def XAll (K : PySem.W.Frag) (H : Hp) (vs : List V) (ds : List PyData) : Prop := vs.length = ds.length ∧ ∀ (i : Nat) (x : V) (d : PyData), vs[i]? = some x → ds[i]? = some d → DpX K H x d
theorem xall_nil : XAll K H [] [] := ⟨rfl, fun i x d e => by simp at e⟩
theorem xall_cons {v : V} {vs : List V} (h : DpX K H v d) (h2 : XAll K H vs ds) : XAll K H (v :: vs) (d :: ds) := by
  refine ⟨by rw [List.length_cons, List.length_cons, h2.1], fun i x d' e1 e2 => ?_⟩
  cases i with
  | zero => cases e1; cases e2; exact h
  | succ i => exact h2.2 i x d' (by rw [List.getElem?_cons_succ] at e1; exact e1) (by rw [List.getElem?_cons_succ] at e2; exact e2)
theorem xall_append {vs ws : List V} (h : XAll K H vs ds) (h2 : XAll K H ws es) : XAll K H (vs ++ ws) (ds ++ es) := by
  refine ⟨by rw [List.length_append, List.length_append, h.1, h2.1], fun i x d e1 e2 => ?_⟩
  by_cases hi : i < vs.length
  · rw [List.getElem?_append_left hi] at e1
    rw [List.getElem?_append_left (by rw [← h.1]; exact hi)] at e2
    exact h.2 i x d e1 e2
  · rw [List.getElem?_append_right (by omega)] at e1
    rw [List.getElem?_append_right (by rw [← h.1]; omega)] at e2
    exact h2.2 (i - vs.length) x d e1 (by rw [h.1]; exact e2)
theorem xallS {H' : Hp} {vs : List V} (s : Same H H') (h : XAll K H vs ds) : XAll K H' vs ds := ⟨h.1, fun i x d e1 e2 => dpxS s (h.2 i x d e1 e2)⟩
theorem xall_of {vs : List V} (h : DpAll K H vs ds) : XAll K H vs ds := ⟨dps_length h, fun i x d e1 e2 => by
  obtain ⟨d', h1, h2⟩ := dps_get h e1
  rw [e2] at h1
  cases h1
  exact .inl h2⟩
theorem xall_get {vs : List V} {i : Nat} {v : V} (h : XAll K H vs ds) (e : vs[i]? = some v) : ∃ d, ds[i]? = some d ∧ DpX K H v d := by
  have hl : i < ds.length := by
    rw [← h.1]
    exact (List.getElem?_eq_some_iff.mp e).1
  exact ⟨_, List.getElem?_eq_getElem hl, h.2 i v _ e (List.getElem?_eq_getElem hl)⟩
def FrX (K : PySem.W.Frag) (σ : L2.St) (t : TE) (d : PyData) : Prop := ∀ (U H : Hp) (Q : VK), Same U H → (∀ v U' H', Gr S0 U H U' H' → DpX K U' v d → Q v H') → t σ H Q
def MkX (K : PySem.W.Frag) (σ : L2.St) (t : TA) (ds : List PyData) : Prop := ∀ (U H : Hp) (Q : List V → Hp → Prop), Same U H → (∀ vs U' H', Gr S0 U H U' H' → XAll K U' vs ds → Q vs H') → t σ H Q
theorem frx_of (h : Fr8 K σ t d) : FrX K σ t d := fun U H Q s k => h U H Q s fun v U' H' g hd => k v U' H' g (.inl hd)
theorem frx_dict : FrX K σ tDNewK (.dict []) := fun U H Q s k p hp => k (.ref p) (upd U p (.dK [])) _ ((Gr.refl s).new hp) (.inr ⟨rfl, p, rfl, upd_same⟩)
theorem mkx_nil : MkX K σ tNil [] := fun U H Q s k => k [] U H (.refl s) xall_nil
theorem mkx_cons (h : FrX K σ t d) (h2 : MkX K σ ta ds) : MkX K σ (tCons t ta) (d :: ds) := fun U H Q s k =>
  h U H _ s fun v U1 H1 g1 hd => h2 U1 H1 _ g1.s fun vs U2 H2 g2 hds => k (v :: vs) U2 H2 (g1.trans g2) (xall_cons (dpxS g2.v hd) hds)
/-- a list that grows: p, new since H0, outside of the view -/
structure RowsX (K : PySem.W.Frag) (U0 H0 U H : Hp) (p : Addr) (ds : List PyData) : Prop where
  g : Gr S0 U0 H0 U H
  n : H0 p = none
  o : U p = none
  h : ∃ vs, H p = some (.lst vs) ∧ XAll K U vs ds
theorem rowsx_new (s : Gr S0 U0 H0 U H) (m : MkX K σ ta es) (hl : es.length ≤ sizeLine) (k : ∀ U' H' q, RowsX K U0 H0 U' H' q es → Q (.ref q) H') : tLst ta σ H Q :=
  m U H _ s.s fun vs U1 H1 g1 hd => ⟨by rw [hd.1]; exact hl, fun p hp => k U1 _ p ⟨(s.trans g1).newH hp, (s.trans g1).free hp, vfree g1.s hp, vs, upd_same, hd⟩⟩
theorem rowsx_cat {i : Nat} (R : RowsX K U0 H0 U H p ds) (hσ : σ[i]? = some (some (.ref p))) (m : MkX K σ ta es) (hl : ds.length + es.length ≤ sizeLine) (k : ∀ U' H' q, RowsX K U0 H0 U' H' q (ds ++ es) → Q (.ref q) H') : tOp rCat (tVar i) (tLst ta) σ H Q := by
  obtain ⟨vs, hp, hv⟩ := R.h
  refine ⟨_, hσ, m U H _ R.g.s fun zs U1 H1 g1 hz => ⟨by rw [hz.1]; omega, fun b hb => ⟨p, b, vs, zs, rfl, rfl, by rw [upd_ne (ne_of_none (g1.same _ _ hp) hb)]; exact g1.same _ _ hp, upd_same, by rw [hz.1, hv.1]; exact hl, fun q hq => ?_⟩⟩⟩
  have G := ((R.g.trans g1).newH (o := .lst zs) hb)
  exact k U1 _ q ⟨G.newH hq, G.free hq, vfree G.s hq, _, upd_same, xall_append (xallS g1.v hv) hz⟩
theorem rowsx_app {i : Nat} (R : RowsX K U0 H0 U H p ds) (hσ : σ[i]? = some (some (.ref p))) (m : FrX K σ t d) (hl : ds.length < sizeLine) (k : ∀ U' H', RowsX K U0 H0 U' H' p (ds ++ [d]) → Q .non H') : tBM K "list" rAppend (tVar i) (tCons t tNil) σ H Q := by
  obtain ⟨vs, hp, hv⟩ := R.h
  refine ⟨_, hσ, .inl ⟨rfl, vs, sqlO hp⟩, m U H _ R.g.s fun v U1 H1 g1 hd => ⟨p, vs, v, rfl, rfl, g1.same _ _ hp, by rw [hv.1]; exact hl, ?_⟩⟩
  have o1 : U1 p = none := g1.out (some_ne hp) R.o
  exact k U1 _ ⟨(R.g.trans g1).mut (.inr R.n) o1, R.n, o1, _, upd_same, xall_append (xallS g1.v hv) (xall_cons hd xall_nil)⟩
theorem fr_vint {i : Nat} {j : Int} (h : σ[i]? = some (some (.int j))) : Fr8 K σ (tVar i) (.int j) := fun U H Q s k => ⟨_, h, k _ U H (.refl s) (.int j)⟩
theorem fr_neg {j : Int} : Fr8 K σ (tUn (rU fun i => V.int (-i)) (tC (.int j))) (.int (-j)) := fun U H Q s k => ⟨j, rfl, k _ U H (.refl s) (.int _)⟩
theorem fr_pow : Fr8 K σ (tOp (rI CPow fun i j => V.int (i ^ j.toNat)) (tC (.int 10)) (tC (.int 30))) (.int ((10 : Int) ^ (30 : Int).toNat)) := fun U H Q s k => ⟨10, 30, rfl, rfl, ⟨by decide, by decide, by decide⟩, k _ U H (.refl s) (.int _)⟩
theorem fr_repi {m : Int} {j : Int} (h : Fr8 K σ t (.int j)) (h1 : -(2 ^ 63) ≤ m) (h2 : m < 1000) : Fr8 K σ (tOp rRep (tLst (tCons t tNil)) (tC (.int m))) (.list ((List.replicate m.toNat j).map PyData.int)) := fun U H Q s k =>
  h U H _ s fun v U1 H1 g1 hv => by
    cases hv
    refine ⟨Nat.le_of_ble_eq_true rfl, fun p hp => ⟨p, m, _, rfl, rfl, upd_same, h1, by omega, by rw [List.length_singleton]; exact Nat.le_trans (show 1 * m.toNat ≤ 1000 by omega) (by decide), fun q hq => ?_⟩⟩
    have e : (List.replicate m.toNat [V.int j]).flatten = (List.replicate m.toNat j).map V.int := by rw [List.flatten_replicate_singleton, List.map_replicate]
    rw [e]
    have g2 := g1.newH (o := .lst [.int j]) hp
    exact k _ (upd U1 q (.lst ((List.replicate m.toNat j).map V.int))) _ (g2.new hq) (.lst (sqlO upd_same) (dpsS (same_new (vfree g2.s hq)) (dps_ints _)))
theorem fr_if0 {i : Nat} {n : Nat} (h : σ[i]? = some (some (.int n))) : Fr8 K σ (tIf (tTest (tOp (rI0 fun i j => V.bl (decide (j < i))) (tVar i) (tC (V.int 0)))) (tTup (tCons (tC (V.int 0)) tNil)) (tTup tNil)) (.tuple (if 0 < n then [.int 0] else [])) := by
  intro U H Q s k
  refine ⟨_, h, _, _, rfl, rfl, _, rfl, ?_⟩
  refine ite2 (fun e => ?_) (fun e => ?_)
  · have e : 0 < n := by have := of_decide_eq_true e; omega
    rw [if_pos e] at k
    exact (mk_tup (mka_cons mk_int mka_nil) (Nat.le_of_ble_eq_true rfl) : Fr8 K σ _ _) U H Q s k
  · have e : ¬ 0 < n := fun z => e (decide_eq_true (by omega))
    rw [if_neg e] at k
    exact (mk_tup mka_nil (Nat.le_of_ble_eq_true rfl) : Fr8 K σ _ _) U H Q s k
end
local macro_rules | `(tactic| walk_at "dj1") => `(tactic| first | exact mkx_nil | refine mkx_cons ?_ ?_ | exact frx_dict | refine frx_of ?_ | exact mka_nil | refine mka_cons ?_ ?_ | exact mk_int | exact mk_non | exact mk_bl | exact fr_vint rfl | exact fr_neg | exact fr_pow | exact fr_if0 rfl | refine mk_tup ?_ (Nat.le_of_ble_eq_true rfl) | refine mk_lst ?_ (Nat.le_of_ble_eq_true rfl) | exact mk_str mks_c | exact mk_str (mks_rep mks_c (by decide) (by decide) (by decide +kernel) (by decide +kernel) (by decide +kernel)) | exact fr_repi mk_int (by decide) (by decide) | exact fr_repi (fr_vint rfl) (by decide) (by decide))
local macro_rules | `(tactic| walk_at "dj") => `(tactic| repeat' (walk_at "dj1"))
abbrev tq (q : Str) (r : List PyData) : PyData := .tuple (.str q :: r)
def od0 : List PyData := [.none, .int 5, .str "hard", .list [], .tuple [], .list [.str "hard"], tq "hard" [.int 1], tq "text" [], tq "text" [.none], tq "text" [.str (repS "a" (21 : Int).toNat)]]
def od1 : List PyData := [tq "line" [.str "abcd"], tq "line" [.str " ", .str " "], tq "line" [.str "\t"], tq "line" [.int 1]]
def od2 (n : Nat) : List PyData := [tq "cat" [.list [.int n]], tq "cat" [.list [.int (-1)]], tq "cat" [.tuple (if 0 < n then [.int 0] else [])], tq "cat" [.list [.bool true]]]
def od3 : List PyData := [tq "cat" [.list ((List.replicate (9 : Int).toNat 0).map PyData.int)], tq "cat" [.list [.str "0"]], tq "nest" [.int 9, .int 0], tq "nest" [.int (-1), .int 0], tq "nest" [.bool true, .int 0], tq "nest" [.int 0]]
def od4 (n : Nat) : List PyData := [tq "nest" [.int 0, .int n], tq "align" [.int n], tq "align" [.int (-1)], tq "align" [.list [.int 0]], tq "group" [.int n]]
def od5 : List PyData := [tq "group" [.bool true], tq "group" [.int 0, .int 0], tq "Group" [.int 0], tq "fold" [.int 0], .tuple [.none, .int 0], .tuple [.list [.str "cat"], .list []], .dict []]
def od6 : List PyData := [tq "group" [.none], tq "nest" [.str "1", .int 0], tq "cat" [.list [.none]], tq "align" [.int ((10 : Int) ^ (30 : Int).toNat)]]
def oddL (n : Nat) : List PyData := ((((((((((od0 ++ [tq "text" [.str "a\n"]]) ++ od1) ++ od2 n) ++ [tq "cat" [.none]]) ++ od3) ++ od4 n) ++ [tq "group" []]) ++ od5) ++ [tq "nest" [.int 0, .int ((n : Int) - 1), .int 0]]) ++ od6)
section
variable {P : Program} {w : World} {K : PySem.W.Frag} {mg : Str → Option Value} {base : Heap} {W : Wd}
theorem sc__law_odd : FnScope ["_law_source", "_law_number", "_law_low", "_law_some"] ["_law_source", "_law_number"] (defScope s__law_odd) := ⟨rfl, rfl, rfl, by decide +kernel, rfl, by decide +kernel, by decide +kernel⟩
def sp_odd (K : PySem.W.Frag) : Sp := fun vs H Q _ => ∃ (v : V) (n : Nat) (U : Hp), vs = [v, .int n] ∧ Same U H ∧ ∀ (U' H' : Hp) (p : Addr) (us : List V), Gr S0 U H U' H' → U' p = some (.lst us) → XAll K U' us (oddL n) → Q (.ref p) H'
theorem d__law_odd (T : Txt w K mg W) : DefOk P w K mg base "_law_odd" s__law_odd ["_law_source", "_law_number"] 1 (sp_odd K) := by
  refine T.f__law_odd.ok sc__law_odd (fun vs H Q E h => ?_) (fun f cdv A outer s H vs Q E hr h => ?_)
  · obtain ⟨v, n, _, rfl, _⟩ := h
    rfl
  · obtain ⟨v, n, U0, rfl, hU, k⟩ := h
    refine ⟨_, (pss_cons (ps_set (i := 2) sc__law_odd.nd rfl (Or.inl rfl) (pe_op op_sub (pv 1) pe_int))
      (pss_cons (ps_set (i := 3) sc__law_odd.nd rfl (Or.inl rfl) (pe_lst (pa_cons pe_non (pa_cons pe_int (pa_cons pe_str (pa_cons (pe_lst pa_nil) (pa_cons (pe_tup pa_nil) (pa_cons (pe_lst (pa_cons pe_str pa_nil)) (pa_cons (pe_tup (pa_cons pe_str (pa_cons pe_int pa_nil))) (pa_cons (pe_tup (pa_cons pe_str pa_nil)) (pa_cons (pe_tup (pa_cons pe_str (pa_cons pe_non pa_nil))) (pa_cons (pe_tup (pa_cons pe_str (pa_cons (pe_op op_repS pe_str pe_int) pa_nil))) pa_nil))))))))))))
      (pss_cons (ps_expr (pe_bm PySem.F.plainAttrs_list PySem.F.slot_list_append PySem.F.type_list_append mt_append (pv 3) (pa_cons (pe_tup (pa_cons pe_str (pa_cons pe_str pa_nil))) pa_nil)))
      (pss_cons (ps_set (i := 3) sc__law_odd.nd rfl (Or.inl rfl) (pe_op op_cat (pv 3) (pe_lst (pa_cons (pe_tup (pa_cons pe_str (pa_cons pe_str pa_nil))) (pa_cons (pe_tup (pa_cons pe_str (pa_cons pe_str (pa_cons pe_str pa_nil)))) (pa_cons (pe_tup (pa_cons pe_str (pa_cons pe_str pa_nil))) (pa_cons (pe_tup (pa_cons pe_str (pa_cons pe_int pa_nil))) pa_nil)))))))
      (pss_cons (ps_set (i := 3) sc__law_odd.nd rfl (Or.inl rfl) (pe_op op_cat (pv 3) (pe_lst (pa_cons (pe_tup (pa_cons pe_str (pa_cons (pe_lst (pa_cons (pv 1) pa_nil)) pa_nil))) (pa_cons (pe_tup (pa_cons pe_str (pa_cons (pe_lst (pa_cons (pe_un un_neg pe_int) pa_nil)) pa_nil))) (pa_cons (pe_tup (pa_cons pe_str (pa_cons (pe_ifExp (pt_cmpR op_gt (pv 1) pe_int (nomark _)) (pe_tup (pa_cons pe_int pa_nil)) (pe_tup pa_nil)) pa_nil))) (pa_cons (pe_tup (pa_cons pe_str (pa_cons (pe_lst (pa_cons pe_bl pa_nil)) pa_nil))) pa_nil)))))))
      (pss_cons (ps_expr (pe_bm PySem.F.plainAttrs_list PySem.F.slot_list_append PySem.F.type_list_append mt_append (pv 3) (pa_cons (pe_tup (pa_cons pe_str (pa_cons pe_non pa_nil))) pa_nil)))
      (pss_cons (ps_set (i := 3) sc__law_odd.nd rfl (Or.inl rfl) (pe_op op_cat (pv 3) (pe_lst (pa_cons (pe_tup (pa_cons pe_str (pa_cons (pe_op op_rep (pe_lst (pa_cons pe_int pa_nil)) pe_int) pa_nil))) (pa_cons (pe_tup (pa_cons pe_str (pa_cons (pe_lst (pa_cons pe_str pa_nil)) pa_nil))) (pa_cons (pe_tup (pa_cons pe_str (pa_cons pe_int (pa_cons pe_int pa_nil)))) (pa_cons (pe_tup (pa_cons pe_str (pa_cons (pe_un un_neg pe_int) (pa_cons pe_int pa_nil)))) (pa_cons (pe_tup (pa_cons pe_str (pa_cons pe_bl (pa_cons pe_int pa_nil)))) (pa_cons (pe_tup (pa_cons pe_str (pa_cons pe_int pa_nil))) pa_nil)))))))))
      (pss_cons (ps_set (i := 3) sc__law_odd.nd rfl (Or.inl rfl) (pe_op op_cat (pv 3) (pe_lst (pa_cons (pe_tup (pa_cons pe_str (pa_cons pe_int (pa_cons (pv 1) pa_nil)))) (pa_cons (pe_tup (pa_cons pe_str (pa_cons (pv 1) pa_nil))) (pa_cons (pe_tup (pa_cons pe_str (pa_cons (pe_un un_neg pe_int) pa_nil))) (pa_cons (pe_tup (pa_cons pe_str (pa_cons (pe_lst (pa_cons pe_int pa_nil)) pa_nil))) (pa_cons (pe_tup (pa_cons pe_str (pa_cons (pv 1) pa_nil))) pa_nil))))))))
      (pss_cons (ps_expr (pe_bm PySem.F.plainAttrs_list PySem.F.slot_list_append PySem.F.type_list_append mt_append (pv 3) (pa_cons (pe_tup (pa_cons pe_str pa_nil)) pa_nil)))
      (pss_cons (ps_set (i := 3) sc__law_odd.nd rfl (Or.inl rfl) (pe_op op_cat (pv 3) (pe_lst (pa_cons (pe_tup (pa_cons pe_str (pa_cons pe_bl pa_nil))) (pa_cons (pe_tup (pa_cons pe_str (pa_cons pe_int (pa_cons pe_int pa_nil)))) (pa_cons (pe_tup (pa_cons pe_str (pa_cons pe_int pa_nil))) (pa_cons (pe_tup (pa_cons pe_str (pa_cons pe_int pa_nil))) (pa_cons (pe_tup (pa_cons pe_non (pa_cons pe_int pa_nil))) (pa_cons (pe_tup (pa_cons (pe_lst (pa_cons pe_str pa_nil)) (pa_cons (pe_lst pa_nil) pa_nil))) (pa_cons pe_dnewK pa_nil))))))))))
      (pss_cons (ps_expr (pe_bm PySem.F.plainAttrs_list PySem.F.slot_list_append PySem.F.type_list_append mt_append (pv 3) (pa_cons (pe_tup (pa_cons pe_str (pa_cons pe_int (pa_cons (pv 2) (pa_cons pe_int pa_nil))))) pa_nil)))
      (pss_one (ps_ret (pe_op op_cat (pv 3) (pe_lst (pa_cons (pe_tup (pa_cons pe_str (pa_cons pe_non pa_nil))) (pa_cons (pe_tup (pa_cons pe_str (pa_cons pe_str (pa_cons pe_int pa_nil)))) (pa_cons (pe_tup (pa_cons pe_str (pa_cons (pe_lst (pa_cons pe_non pa_nil)) pa_nil))) (pa_cons (pe_tup (pa_cons pe_str (pa_cons (pe_op op_pow pe_int pe_int) pa_nil))) pa_nil))))))))))))))))))), ?_⟩
    refine go_asg (H := H) ?_
    refine ⟨_, rfl, _, _, rfl, rfl, ?_⟩
    refine go_asg (σ := [some v, some (.int n), some (.int ((n : Int) - 1)), none]) ?_
    refine rowsx_new (K := K) (Gr.refl hU) (es := od0) (by unfold od0; walk_at "dj") (Nat.le_of_ble_eq_true rfl) fun U1 H1 p1 R1 => ?_
    refine go_drop (σ := [some v, some (.int n), some (.int ((n : Int) - 1)), some (.ref p1)]) ?_
    refine rowsx_app R1 rfl (d := tq "text" [.str "a\n"]) (by walk_at "dj") (Nat.le_of_ble_eq_true rfl) fun U2 H2 R2 => ?_
    refine go_asg (σ := [some v, some (.int n), some (.int ((n : Int) - 1)), some (.ref p1)]) ?_
    refine rowsx_cat R2 rfl (es := od1) (by unfold od1; walk_at "dj") (Nat.le_of_ble_eq_true rfl) fun U3 H3 p3 R3 => ?_
    refine go_asg (σ := [some v, some (.int n), some (.int ((n : Int) - 1)), some (.ref p3)]) ?_
    refine rowsx_cat R3 rfl (es := od2 n) (by unfold od2; walk_at "dj") (Nat.le_of_ble_eq_true rfl) fun U4 H4 p4 R4 => ?_
    refine go_drop (σ := [some v, some (.int n), some (.int ((n : Int) - 1)), some (.ref p4)]) ?_
    refine rowsx_app R4 rfl (d := tq "cat" [.none]) (by walk_at "dj") (Nat.le_of_ble_eq_true rfl) fun U5 H5 R5 => ?_
    refine go_asg (σ := [some v, some (.int n), some (.int ((n : Int) - 1)), some (.ref p4)]) ?_
    refine rowsx_cat R5 rfl (es := od3) (by unfold od3; walk_at "dj") (Nat.le_of_ble_eq_true rfl) fun U6 H6 p6 R6 => ?_
    refine go_asg (σ := [some v, some (.int n), some (.int ((n : Int) - 1)), some (.ref p6)]) ?_
    refine rowsx_cat R6 rfl (es := od4 n) (by unfold od4; walk_at "dj") (Nat.le_of_ble_eq_true rfl) fun U7 H7 p7 R7 => ?_
    refine go_drop (σ := [some v, some (.int n), some (.int ((n : Int) - 1)), some (.ref p7)]) ?_
    refine rowsx_app R7 rfl (d := tq "group" []) (by walk_at "dj") (Nat.le_of_ble_eq_true rfl) fun U8 H8 R8 => ?_
    refine go_asg (σ := [some v, some (.int n), some (.int ((n : Int) - 1)), some (.ref p7)]) ?_
    refine rowsx_cat R8 rfl (es := od5) (by unfold od5; walk_at "dj") (Nat.le_of_ble_eq_true rfl) fun U9 H9 p9 R9 => ?_
    refine go_drop (σ := [some v, some (.int n), some (.int ((n : Int) - 1)), some (.ref p9)]) ?_
    refine rowsx_app R9 rfl (d := tq "nest" [.int 0, .int ((n : Int) - 1), .int 0]) (by walk_at "dj") (Nat.le_of_ble_eq_true rfl) fun U10 H10 R10 => ?_
    refine go_ret (σ := [some v, some (.int n), some (.int ((n : Int) - 1)), some (.ref p9)]) ?_
    refine rowsx_cat R10 rfl (es := od6) (by unfold od6; walk_at "dj") (Nat.le_of_ble_eq_true rfl) fun U11 H11 p11 R11 => ?_
    obtain ⟨us, hp, hv⟩ := R11.h
    exact k _ H11 p11 us (R11.g.tell R11.n hp R11.o) upd_same (xallS (same_new R11.o) hv)
end
end Lw

set_option maxHeartbeats 0
namespace Lw
open PySem PySem.Spec PyProof.Rows L2 VW TL
local macro_rules | `(tactic| walk_at "rdc") => `(tactic| first | assumption | rfl | decide | omega | exact Or.inr ⟨by decide, by decide⟩ | exact ⟨by decide, by decide⟩ | exact ⟨by decide, by decide, by decide⟩ | (show (0 : Int) < _; omega) | (show (0 : Int) < _ ∧ _ < (1073741824 : Int); omega) | (show (-(2 ^ 64) < _ ∧ _ < 2 ^ 64) ∨ (-(2 ^ 64) < _ ∧ _ < 2 ^ 64); omega) | (show (-(2 ^ 64) < _ ∧ _ < 2 ^ 64) ∨ (-(2 ^ 64) < _ ∧ _ < 2 ^ 64); right; split <;> decide) | exact Nat.le_of_ble_eq_true rfl)
local macro_rules | `(tactic| walk_at "rd1") => `(tactic| first | refine ⟨_, rfl, ?_⟩ | refine And.intro (by walk_at "rdc") ?_ | refine ⟨_, _, rfl, rfl, ?_⟩ | refine Or.inl ⟨_, rfl, ?_⟩ | refine Or.inr ⟨_, rfl, ?_⟩ | refine ⟨_, _, _, _, rfl, rfl, sqlO (by first | assumption | exact upd_same), rfl, ?_⟩ | refine ⟨_, _, _, _, rfl, rfl, (by first | assumption | exact upd_same), rfl, ?_⟩)
local macro_rules | `(tactic| walk_at "rd") => `(tactic| repeat (walk_at "rd1"))

theorem rd_text {k : Nat} {x : PyData} : rowD k (tq "text" [x]) = goodD 20 x := by rw [rowD2, if_pos rfl]
theorem rd_line {k : Nat} {x : PyData} : rowD k (tq "line" [x]) = goodD 3 x := by rw [rowD2, if_neg (by decide +kernel), if_pos rfl]
theorem rd_cat {k : Nat} {x : PyData} : rowD k (tq "cat" [x]) = partsD k x := by rw [rowD2, if_neg (by decide +kernel), if_neg (by decide +kernel), if_pos rfl]
theorem rd_align {k : Nat} {x : PyData} : rowD k (tq "align" [x]) = belowD k x := by rw [rowD2, if_neg (by decide +kernel), if_neg (by decide +kernel), if_neg (by decide +kernel)]; exact Bool.true_and _
theorem rd_group {k : Nat} {x : PyData} : rowD k (tq "group" [x]) = belowD k x := by
  rw [rowD2, if_neg (by decide +kernel), if_neg (by decide +kernel), if_neg (by decide +kernel), show (decide (("group" : Str) = "align") || decide (("group" : Str) = "group")) = true by decide +kernel]
  exact Bool.true_and _
theorem rd_nest {k : Nat} {x y : PyData} : rowD k (tq "nest" [x, y]) = (belowD 9 x && belowD k y) := by
  rw [rowD3, decide_eq_true rfl]
  exact Bool.true_and _
theorem kq_ok {q : Str} {v : V} {r : List PyData} (h : (q, v) ∈ KQ) (h2 : ∀ x ∈ r, shortD x) : okD (tq q r) := ⟨⟨v, h⟩, h2⟩
theorem sh0 : ∀ x ∈ ([] : List PyData), shortD x := fun x h => nomatch h
theorem sh1 {a : PyData} (h : shortD a) : ∀ x ∈ [a], shortD x := fun x hx => by rw [List.mem_singleton.mp hx]; exact h
theorem sh2 {a : PyData} {r : List PyData} (h : shortD a) (h2 : ∀ x ∈ r, shortD x) : ∀ x ∈ a :: r, shortD x := fun x hx => by
  rcases List.mem_cons.mp hx with rfl | hx
  · exact h
  · exact h2 x hx
def Bad (n : Nat) (d : PyData) : Prop := rowD n d = false ∧ okD d
def Fine (n : Nat) (d : PyData) : Prop := rowD n d = true ∧ okD d
theorem all_app {P : PyData → Prop} {a b : List PyData} (h : ∀ d ∈ a, P d) (h2 : ∀ d ∈ b, P d) : ∀ d ∈ a ++ b, P d := fun d hd => (List.mem_append.mp hd).elim (h d) (h2 d)
theorem all_cons {P : PyData → Prop} {a : PyData} {b : List PyData} (h : P a) (h2 : ∀ d ∈ b, P d) : ∀ d ∈ a :: b, P d := fun d hd => (List.mem_cons.mp hd).elim (fun e => by rw [e]; exact h) (h2 d)
theorem all_nil {P : PyData → Prop} : ∀ d ∈ ([] : List PyData), P d := fun d hd => nomatch hd
theorem below_self {n : Nat} : belowD n (.int n) = false := by
  show (decide ((0 : Int) ≤ n) && decide ((n : Int) < n)) = false
  rw [decide_eq_false (Int.lt_irrefl _), Bool.and_false]
theorem below_neg {n : Int} : belowD n (.int (-1)) = false := rfl
theorem below_big {n : Nat} (h : n ≤ 200) : belowD n (.int ((10 : Int) ^ (30 : Int).toNat)) = false := by
  show (decide ((0 : Int) ≤ (10 : Int) ^ (30 : Int).toNat) && decide (((10 : Int) ^ (30 : Int).toNat) < n)) = false
  have e : (10 : Int) ^ (30 : Int).toNat = 1000000000000000000000000000000 := by decide +kernel
  rw [e, decide_eq_false (p := (1000000000000000000000000000000 : Int) < n) (by omega), Bool.and_false]
theorem parts_one {n : Int} {d : PyData} (h : belowD n d = false) : partsD n (.list [d]) = false := by
  show (decide ([d].length ≤ 8) && [d].all (belowD n)) = false
  simp [h]
local macro_rules | `(tactic| walk_at "bd1") => `(tactic| first | exact all_nil | refine all_cons ?_ ?_ | exact ⟨rfl, True.intro⟩ | exact ⟨rfl, kq_ok (v := .int 2) (by simp [KQ]) sh0⟩ | exact ⟨rfl, kq_ok (v := .int 1) (by simp [KQ]) (sh1 True.intro)⟩)
theorem odd_bad {n : Nat} (h : n ≤ 200) : ∀ d ∈ oddL n, Bad n d := by
  have k2 : ∀ {q : Str} {x : PyData}, (q, V.int 2) ∈ KQ → shortD x → okD (tq q [x]) := fun h h2 => kq_ok h (sh1 h2)
  have kt : (("text" : Str), V.int 2) ∈ KQ := by simp [KQ]
  have kl : (("line" : Str), V.int 2) ∈ KQ := by simp [KQ]
  have kc : (("cat" : Str), V.int 2) ∈ KQ := by simp [KQ]
  have ka : (("align" : Str), V.int 2) ∈ KQ := by simp [KQ]
  have kg : (("group" : Str), V.int 2) ∈ KQ := by simp [KQ]
  have kn : (("nest" : Str), V.int 3) ∈ KQ := by simp [KQ]
  have kh : (("hard" : Str), V.int 1) ∈ KQ := by simp [KQ]
  have kG : (("Group" : Str), V.non) ∈ KQ := by simp [KQ]
  have kf : (("fold" : Str), V.non) ∈ KQ := by simp [KQ]
  unfold oddL
  refine all_app (all_app (all_app (all_app (all_app (all_app (all_app (all_app (all_app (all_app ?_ ?_) ?_) ?_) ?_) ?_) ?_) ?_) ?_) ?_) ?_
  · refine all_cons ⟨rfl, True.intro⟩ (all_cons ⟨rfl, True.intro⟩ (all_cons ⟨rfl, True.intro⟩ (all_cons ⟨rfl, True.intro⟩ (all_cons ⟨rfl, True.intro⟩ (all_cons ⟨rfl, True.intro⟩ (all_cons ⟨?_, kq_ok kh (sh1 True.intro)⟩ (all_cons ⟨?_, kq_ok kt sh0⟩ (all_cons ⟨?_, k2 kt True.intro⟩ (all_cons ⟨?_, k2 kt ?_⟩ all_nil)))))))))
    · exact rowD_off kh (by decide)
    · exact rowD_off kt (by decide)
    · rw [rd_text]; rfl
    · rw [rd_text]; decide +kernel
    · show (repS "a" (21 : Int).toNat).length ≤ 1000
      decide +kernel
  · refine all_cons ⟨?_, k2 kt (show ("a\n" : Str).length ≤ 1000 by decide +kernel)⟩ all_nil
    rw [rd_text]; decide +kernel
  · refine all_cons ⟨?_, k2 kl (show ("abcd" : Str).length ≤ 1000 by decide +kernel)⟩ (all_cons ⟨?_, kq_ok kl (sh2 (show (" " : Str).length ≤ 1000 by decide +kernel) (sh1 (show (" " : Str).length ≤ 1000 by decide +kernel)))⟩ (all_cons ⟨?_, k2 kl (show ("\t" : Str).length ≤ 1000 by decide +kernel)⟩ (all_cons ⟨?_, k2 kl True.intro⟩ all_nil)))
    · rw [rd_line]; decide +kernel
    · exact rowD_off kl (by decide)
    · rw [rd_line]; decide +kernel
    · rw [rd_line]; rfl
  · refine all_cons ⟨?_, k2 kc True.intro⟩ (all_cons ⟨?_, k2 kc True.intro⟩ (all_cons ⟨?_, k2 kc True.intro⟩ (all_cons ⟨?_, k2 kc True.intro⟩ all_nil)))
    · rw [rd_cat]; exact parts_one below_self
    · rw [rd_cat]; exact parts_one below_neg
    · rw [rd_cat]; rfl
    · rw [rd_cat]; exact parts_one rfl
  · refine all_cons ⟨?_, k2 kc True.intro⟩ all_nil
    rw [rd_cat]; rfl
  · refine all_cons ⟨?_, k2 kc True.intro⟩ (all_cons ⟨?_, k2 kc True.intro⟩ (all_cons ⟨?_, kq_ok kn (sh2 True.intro (sh1 True.intro))⟩ (all_cons ⟨?_, kq_ok kn (sh2 True.intro (sh1 True.intro))⟩ (all_cons ⟨?_, kq_ok kn (sh2 True.intro (sh1 True.intro))⟩ (all_cons ⟨?_, kq_ok kn (sh1 True.intro)⟩ all_nil)))))
    · rw [rd_cat]
      show (decide (((List.replicate (9 : Int).toNat (0 : Int)).map PyData.int).length ≤ 8) && ((List.replicate (9 : Int).toNat (0 : Int)).map PyData.int).all (belowD n)) = false
      rw [decide_eq_false (by rw [List.length_map, List.length_replicate]; decide)]
      rfl
    · rw [rd_cat]; exact parts_one rfl
    · rw [rd_nest]; exact Bool.false_and _
    · rw [rd_nest]; exact Bool.false_and _
    · rw [rd_nest]; exact Bool.false_and _
    · exact rowD_off kn (by decide)
  · refine all_cons ⟨?_, kq_ok kn (sh2 True.intro (sh1 True.intro))⟩ (all_cons ⟨?_, k2 ka True.intro⟩ (all_cons ⟨?_, k2 ka True.intro⟩ (all_cons ⟨?_, k2 ka True.intro⟩ (all_cons ⟨?_, k2 kg True.intro⟩ all_nil))))
    · rw [rd_nest, below_self, Bool.and_false]
    · rw [rd_align, below_self]
    · rw [rd_align, below_neg]
    · rw [rd_align]; rfl
    · rw [rd_group, below_self]
  · exact all_cons ⟨rowD_off kg (by decide), kq_ok kg sh0⟩ all_nil
  · refine all_cons ⟨?_, k2 kg True.intro⟩ (all_cons ⟨?_, kq_ok kg (sh2 True.intro (sh1 True.intro))⟩ (all_cons ⟨?_, kq_ok kG (sh1 True.intro)⟩ (all_cons ⟨?_, kq_ok kf (sh1 True.intro)⟩ (all_cons ⟨rfl, True.intro⟩ (all_cons ⟨rfl, True.intro⟩ (all_cons ⟨rfl, True.intro⟩ all_nil))))))
    · rw [rd_group]; rfl
    · exact rowD_off kg (by decide)
    · exact rowD_off kG (by decide)
    · exact rowD_off kf (by decide)
  · exact all_cons ⟨rowD_off kn (fun z => absurd (V.int.inj z) (by show ¬ (3 : Int) = ((3 + 1 : Nat) : Int); decide)), kq_ok kn (sh2 True.intro (sh2 True.intro (sh1 True.intro)))⟩ all_nil
  · refine all_cons ⟨?_, k2 kg True.intro⟩ (all_cons ⟨?_, kq_ok kn (sh2 (show ("1" : Str).length ≤ 1000 by decide +kernel) (sh1 True.intro))⟩ (all_cons ⟨?_, k2 kc True.intro⟩ (all_cons ⟨?_, k2 ka True.intro⟩ all_nil)))
    · rw [rd_group]; rfl
    · rw [rd_nest]; exact Bool.false_and _
    · rw [rd_cat]; exact parts_one rfl
    · rw [rd_align, below_big h]
/-! ### rows that only just are rows -/
def edA : List PyData := [tq "text" [.str ""], tq "text" [.str (repS " ~" (10 : Int).toNat)], tq "line" [.str ""], tq "line" [.str "~~ "], tq "hard" [], tq "cat" [.list []]]
def edB (l : Int) : List PyData := [tq "cat" [.list ((List.replicate (8 : Int).toNat l).map PyData.int)], tq "cat" [.list [.int 0]], tq "nest" [.int 0, .int l], tq "nest" [.int 8, .int 0], tq "align" [.int l], tq "group" [.int l]]
def edgeL (n : Nat) : List PyData := if n = 0 then edA else edA ++ edB ((n : Int) - 1)
theorem below_low {n : Nat} (h : n ≠ 0) : belowD n (.int ((n : Int) - 1)) = true := by
  show (decide ((0 : Int) ≤ (n : Int) - 1) && decide ((n : Int) - 1 < n)) = true
  rw [decide_eq_true (by omega), decide_eq_true (by omega)]
  rfl
theorem below_zero {n : Nat} (h : n ≠ 0) : belowD n (.int 0) = true := by
  show (decide ((0 : Int) ≤ 0) && decide ((0 : Int) < n)) = true
  rw [decide_eq_true (by omega), decide_eq_true (by omega)]
  rfl
theorem edge_fine {n : Nat} : ∀ d ∈ edgeL n, Fine n d := by
  have k2 : ∀ {q : Str} {x : PyData}, (q, V.int 2) ∈ KQ → shortD x → okD (tq q [x]) := fun h h2 => kq_ok h (sh1 h2)
  have kt : (("text" : Str), V.int 2) ∈ KQ := by simp [KQ]
  have kl : (("line" : Str), V.int 2) ∈ KQ := by simp [KQ]
  have kc : (("cat" : Str), V.int 2) ∈ KQ := by simp [KQ]
  have ka : (("align" : Str), V.int 2) ∈ KQ := by simp [KQ]
  have kg : (("group" : Str), V.int 2) ∈ KQ := by simp [KQ]
  have kn : (("nest" : Str), V.int 3) ∈ KQ := by simp [KQ]
  have kh : (("hard" : Str), V.int 1) ∈ KQ := by simp [KQ]
  have hA : ∀ d ∈ edA, Fine n d := by
    refine all_cons ⟨?_, k2 kt (show ("" : Str).length ≤ 1000 by decide +kernel)⟩ (all_cons ⟨?_, k2 kt (show (repS " ~" (10 : Int).toNat).length ≤ 1000 by decide +kernel)⟩ (all_cons ⟨?_, k2 kl (show ("" : Str).length ≤ 1000 by decide +kernel)⟩ (all_cons ⟨?_, k2 kl (show ("~~ " : Str).length ≤ 1000 by decide +kernel)⟩ (all_cons ⟨rfl, kq_ok kh sh0⟩ (all_cons ⟨?_, k2 kc True.intro⟩ all_nil)))))
    · rw [rd_text]; decide +kernel
    · rw [rd_text]; decide +kernel
    · rw [rd_line]; decide +kernel
    · rw [rd_line]; decide +kernel
    · rw [rd_cat]; rfl
  unfold edgeL
  by_cases h : n = 0
  · rw [if_pos h]
    exact hA
  · rw [if_neg h]
    refine all_app hA ?_
    refine all_cons ⟨?_, k2 kc True.intro⟩ (all_cons ⟨?_, k2 kc True.intro⟩ (all_cons ⟨?_, kq_ok kn (sh2 True.intro (sh1 True.intro))⟩ (all_cons ⟨?_, kq_ok kn (sh2 True.intro (sh1 True.intro))⟩ (all_cons ⟨?_, k2 ka True.intro⟩ (all_cons ⟨?_, k2 kg True.intro⟩ all_nil)))))
    · rw [rd_cat]
      show (decide (((List.replicate (8 : Int).toNat ((n : Int) - 1)).map PyData.int).length ≤ 8) && ((List.replicate (8 : Int).toNat ((n : Int) - 1)).map PyData.int).all (belowD n)) = true
      rw [decide_eq_true (by rw [List.length_map, List.length_replicate]; decide), Bool.true_and, List.map_replicate, List.all_eq_true]
      intro x hx
      rw [List.eq_of_mem_replicate hx]
      exact below_low h
    · rw [rd_cat]
      show (decide (([PyData.int 0] : List PyData).length ≤ 8) && ([PyData.int 0] : List PyData).all (belowD n)) = true
      simp [below_zero h]
    · rw [rd_nest, below_low h]; rfl
    · rw [rd_nest, below_zero h]; rfl
    · rw [rd_align, below_low h]
    · rw [rd_group, below_low h]
section
variable {P : Program} {w : World} {K : PySem.W.Frag} {mg : Str → Option Value} {base : Heap} {W : Wd}
local macro_rules | `(tactic| walk_at "dj1") => `(tactic| first | exact mkx_nil | refine mkx_cons ?_ ?_ | exact frx_dict | refine frx_of ?_ | exact mka_nil | refine mka_cons ?_ ?_ | exact mk_int | exact mk_non | exact mk_bl | exact fr_vint rfl | exact fr_neg | refine mk_tup ?_ (Nat.le_of_ble_eq_true rfl) | refine mk_lst ?_ (Nat.le_of_ble_eq_true rfl) | exact mk_str mks_c | exact mk_str (mks_rep mks_c (by decide) (by decide) (by decide +kernel) (by decide +kernel) (by decide +kernel)) | exact fr_repi mk_int (by decide) (by decide) | exact fr_repi (fr_vint rfl) (by decide) (by decide))
local macro_rules | `(tactic| walk_at "dj") => `(tactic| repeat' (walk_at "dj1"))
theorem sc__law_edge : FnScope ["_law_number", "_law_low", "_law_some"] ["_law_number"] (defScope s__law_edge) := ⟨rfl, rfl, rfl, by decide +kernel, rfl, by decide +kernel, by decide +kernel⟩
def sp_edge (K : PySem.W.Frag) : Sp := fun vs H Q _ => ∃ (n : Nat) (U : Hp), vs = [.int n] ∧ Same U H ∧ ∀ (U' H' : Hp) (p : Addr) (us : List V), Gr S0 U H U' H' → U' p = some (.lst us) → XAll K U' us (edgeL n) → Q (.ref p) H'
theorem d__law_edge (T : Txt w K mg W) : DefOk P w K mg base "_law_edge" s__law_edge ["_law_number"] 1 (sp_edge K) := by
  refine T.f__law_edge.ok sc__law_edge (fun vs H Q E h => ?_) (fun f cdv A outer s H vs Q E hr h => ?_)
  · obtain ⟨n, _, rfl, _⟩ := h
    rfl
  · obtain ⟨n, U0, rfl, hU, k⟩ := h
    refine ⟨_, (pss_cons (ps_set (i := 1) sc__law_edge.nd rfl (Or.inl rfl) (pe_callB (id := "max") (call_max2 rfl) (by rfl) T.n_max (by decide +kernel) (pa_cons pe_int (pa_cons (pe_op op_sub (pv 0) pe_int) pa_nil))))
      (pss_cons (ps_set (i := 2) sc__law_edge.nd rfl (Or.inl rfl) (pe_lst (pa_cons (pe_tup (pa_cons pe_str (pa_cons pe_str pa_nil))) (pa_cons (pe_tup (pa_cons pe_str (pa_cons (pe_op op_repS pe_str pe_int) pa_nil))) (pa_cons (pe_tup (pa_cons pe_str (pa_cons pe_str pa_nil))) (pa_cons (pe_tup (pa_cons pe_str (pa_cons pe_str pa_nil))) (pa_cons (pe_tup (pa_cons pe_str pa_nil)) (pa_cons (pe_tup (pa_cons pe_str (pa_cons (pe_lst pa_nil) pa_nil))) pa_nil))))))))
      (pss_cons (ps_if (pt_cmpR op_eq (pv 0) pe_int (nomark _)) (pss_one (ps_ret (pv 2))) pss_nil)
      (pss_one (ps_ret (pe_op op_cat (pv 2) (pe_lst (pa_cons (pe_tup (pa_cons pe_str (pa_cons (pe_op op_rep (pe_lst (pa_cons (pv 1) pa_nil)) pe_int) pa_nil))) (pa_cons (pe_tup (pa_cons pe_str (pa_cons (pe_lst (pa_cons pe_int pa_nil)) pa_nil))) (pa_cons (pe_tup (pa_cons pe_str (pa_cons pe_int (pa_cons (pv 1) pa_nil)))) (pa_cons (pe_tup (pa_cons pe_str (pa_cons pe_int (pa_cons pe_int pa_nil)))) (pa_cons (pe_tup (pa_cons pe_str (pa_cons (pv 1) pa_nil))) (pa_cons (pe_tup (pa_cons pe_str (pa_cons (pv 1) pa_nil))) pa_nil))))))))))))), ?_⟩
    refine go_asg (H := H) ?_
    refine ⟨_, rfl, _, _, rfl, rfl, _, _, rfl, ?_⟩
    obtain ⟨lo, hlo, hlo2⟩ : ∃ lo : Int, (if (n : Int) - 1 > 0 then (n : Int) - 1 else 0) = lo ∧ (n ≠ 0 → lo = (n : Int) - 1) := ⟨_, rfl, fun z => by split <;> omega⟩
    rw [hlo]
    refine go_asg (σ := [some (.int n), some (.int lo), none]) ?_
    refine rowsx_new (K := K) (Gr.refl hU) (es := edA) (by unfold edA; walk_at "dj") (Nat.le_of_ble_eq_true rfl) fun U1 H1 p1 R1 => ?_
    refine ⟨_, rfl, rfl, _, rfl, ?_⟩
    refine ite2 (fun e => ?_) (fun e => ?_)
    · have e : n = 0 := by have := V.int.inj (of_decide_eq_true e); omega
      refine go_ret (σ := [some (.int n), some (.int lo), some (.ref p1)]) ?_
      refine ⟨_, rfl, ?_⟩
      obtain ⟨us, hp, hv⟩ := R1.h
      exact k _ H1 p1 us (R1.g.tell R1.n hp R1.o) upd_same (by unfold edgeL; rw [if_pos e]; exact xallS (same_new R1.o) hv)
    · have e : n ≠ 0 := fun z => e (decide_eq_true (by rw [z]; rfl))
      unfold tNext
      dsimp only
      refine go_ret (σ := [some (.int n), some (.int lo), some (.ref p1)]) ?_
      refine rowsx_cat R1 rfl (es := edB lo) (by unfold edB; walk_at "dj") (Nat.le_of_ble_eq_true rfl) fun U2 H2 p2 R2 => ?_
      obtain ⟨us, hp, hv⟩ := R2.h
      exact k _ H2 p2 us (R2.g.tell R2.n hp R2.o) upd_same (by unfold edgeL; rw [if_neg e, ← hlo2 e]; exact xallS (same_new R2.o) hv)
end
end Lw

set_option maxHeartbeats 0
namespace Lw
open PySem PySem.Spec PyProof.Rows L2 VW TL LamX
local macro_rules | `(tactic| walk_at "rdc") => `(tactic| first | assumption | rfl | decide | omega | exact Or.inr ⟨by decide, by decide⟩ | exact ⟨by decide, by decide⟩ | exact ⟨by decide, by decide, by decide⟩ | (show (0 : Int) < _; omega) | (show (0 : Int) < _ ∧ _ < (1073741824 : Int); omega) | (show (-(2 ^ 64) < _ ∧ _ < 2 ^ 64) ∨ (-(2 ^ 64) < _ ∧ _ < 2 ^ 64); omega) | (show (-(2 ^ 64) < _ ∧ _ < 2 ^ 64) ∨ (-(2 ^ 64) < _ ∧ _ < 2 ^ 64); right; split <;> decide) | exact Nat.le_of_ble_eq_true rfl)
local macro_rules | `(tactic| walk_at "rd1") => `(tactic| first | refine ⟨_, rfl, ?_⟩ | refine And.intro (by walk_at "rdc") ?_ | refine ⟨_, _, rfl, rfl, ?_⟩ | refine Or.inl ⟨_, rfl, ?_⟩ | refine Or.inr ⟨_, rfl, ?_⟩ | refine ⟨_, _, _, _, rfl, rfl, sqlO (by first | assumption | exact upd_same), rfl, ?_⟩ | refine ⟨_, _, _, _, rfl, rfl, (by first | assumption | exact upd_same), rfl, ?_⟩)
local macro_rules | `(tactic| walk_at "rd") => `(tactic| repeat (walk_at "rd1"))

theorem sl_listK {X : Cx} {K : PySem.W.Frag} (hK : X.K = K := by rfl) : SlR X (rSlL K) := by
  subst hK
  exact sl_list
section
variable {P : Program} {w : World} {K : PySem.W.Frag} {mg : Str → Option Value} {base : Heap} {W : Wd}
theorem cutV_take {xs : List V} {n : Nat} : cutV xs none (some (n : Int)) = xs.take n := by
  unfold cutV HT.sIx
  simp only [List.drop_zero, Nat.sub_zero]
  rw [if_neg (by omega), Int.toNat_natCast]
  by_cases h : n ≤ xs.length
  · rw [Nat.min_eq_left h]
  · rw [Nat.min_eq_right (by omega), List.take_of_length_le (Nat.le_refl _), List.take_of_length_le (by omega)]
theorem noT_under {A H : Hp} (h : Same (noT A) H) : Same (noT A) (noT H) := fun b o e => noT_get (h b o e) (noT_some e).2
theorem noT_free {H : Hp} {b : Addr} (h : H b = none) : noT H b = none := by unfold noT; rw [h]
theorem dpxN {H : Hp} {v : V} {d : PyData} (h : DpX K H v d) : DpX K (noT H) v d := by
  rcases h with h | ⟨e, a, h1, h2⟩
  · exact .inl (dpN h)
  · exact .inr ⟨e, a, h1, noT_get h2 (fun ps e => nomatch e)⟩
theorem xallN {H : Hp} {vs : List V} {ds : List PyData} (h : XAll K H vs ds) : XAll K (noT H) vs ds := ⟨h.1, fun i x d e1 e2 => dpxN (h.2 i x d e1 e2)⟩
theorem Src.grow {U H H' : Hp} {s : Addr} (S : Src U H s) (h : Same H H') : Src U H' s := by
  obtain ⟨a, b, c, e⟩ := S.h
  exact ⟨S.v.trans h, S.o, a, b, c, h _ _ e⟩
theorem Src.gr {U H U' H' : Hp} {s : Addr} (S : Src U H s) (g : Gr S0 U H U' H') : Src U' H' s := by
  obtain ⟨a, b, c, e⟩ := S.h
  exact ⟨g.s, g.out (some_ne e) S.o, a, b, c, g.same _ _ e⟩
/-- what stands between two turns: the source of draws, the tables, what is kept -/
structure St (TL : List (Addr × Str)) (B U H : Hp) (p : Addr) : Prop where
  s : Src U H p
  t : Tabs TL U
  b : Same B U
theorem St.bH {TL : List (Addr × Str)} {B U H : Hp} {p : Addr} (S : St TL B U H p) : Same B H := S.b.trans S.s.v
theorem St.off {TL : List (Addr × Str)} {B U H : Hp} {p : Addr} (S : St TL B U H p) : B p = none := S.b.free S.s.o
theorem St.grow {TL : List (Addr × Str)} {B U H H' : Hp} {p : Addr} (S : St TL B U H p) (h : Same H H') : St TL B U H' p := ⟨S.s.grow h, S.t, S.b⟩
theorem St.gr {TL : List (Addr × Str)} {B U H U' H' : Hp} {p : Addr} (S : St TL B U H p) (g : Gr S0 U H U' H') : St TL B U' H' p := ⟨S.s.gr g, S.t.ext g.v, S.b.trans g.v⟩
theorem St.draw {TL : List (Addr × Str)} {B U H U' H' : Hp} {p : Addr} (S : St TL B U H p) (g : Gr (G1 p) U H U' H') (s : Src U' H' p) : St TL B U' H' p := ⟨s, S.t.ext g.v, S.b.trans g.v⟩
/-- behind a lambda's call -/
theorem St.lam {TL : List (Addr × Str)} {A U H H' H2 : Hp} {p : Addr} (S : St TL (noT A) U H p) (e : ExtN H H') (t : Tabs TL H') (s : Same H' H2) : St TL (noT A) (noS p H2) H2 p := by
  obtain ⟨a, b, c, hs⟩ := S.s.h
  have h2 : H2 p = some (.lst [.int a, .int b, .int c]) := s _ _ (e _ _ hs (fun ps z => nomatch z))
  exact ⟨src_noS h2, noS_tabs (t.ext s) h2, noS_under ((noT_ext S.bH e).trans s) S.off⟩
/-- all that is there is kept -/
theorem St.keep {TL : List (Addr × Str)} {A U H : Hp} {p : Addr} (S : St TL (noT A) U H p) : St TL (noT U) U H p := ⟨S.s, S.t, noT_same⟩
theorem St.back {TL : List (Addr × Str)} {A A2 U H : Hp} {p : Addr} (S : St TL (noT A2) U H p) (h : Same (noT A) (noT A2)) : St TL (noT A) U H p := ⟨S.s, S.t, h.trans S.b⟩
theorem bad_at : ∀ {as : List PyData} {k : Nat} {d : PyData} {bs : List PyData}, (∀ (i : Nat) (a : PyData), as[i]? = some a → rowD (k + i) a = true) → rowD (k + as.length) d = false → firstBad (as ++ d :: bs) k = some (k + as.length)
  | [], k, d, bs, _, h2 => by
    show firstBad (d :: bs) k = _
    unfold firstBad
    rw [show rowD k d = false from h2]
    rfl
  | a :: as, k, d, bs, h, h2 => by
    show firstBad (a :: (as ++ d :: bs)) k = _
    unfold firstBad
    rw [show rowD k a = true from h 0 a rfl]
    have e : k + (a :: as).length = (k + 1) + as.length := by rw [List.length_cons]; omega
    rw [e]
    exact bad_at (fun i x hx => by
      have := h (i + 1) x hx
      rw [show k + (i + 1) = k + 1 + i by omega] at this
      exact this) (by rw [← e]; exact h2)
theorem none_bad : ∀ {as : List PyData} {k : Nat}, (∀ (i : Nat) (a : PyData), as[i]? = some a → rowD (k + i) a = true) → firstBad as k = none
  | [], k, _ => rfl
  | a :: as, k, h => by
    unfold firstBad
    rw [show rowD k a = true from h 0 a rfl]
    exact none_bad fun i x hx => by
      have := h (i + 1) x hx
      rw [show k + (i + 1) = k + 1 + i by omega] at this
      exact this
theorem says_bad {σ : L2.St} {H : Hp} {Q : VK} {i : Nat} {v : V} {n : Int} {TL : List (Addr × Str)} {t2 : TE} (t : Tabs TL H) (hσ : σ[i]? = some (some v)) (rf : ∀ H', ExtN H H' → Refused K H' v n)
    (h2 : ∀ (H5 : Hp) (R : VK), (∀ (p2 : Addr), H5 p2 = none → R (.ref p2) (upd H5 p2 (.tup [.str "doc", .int n]))) → t2 σ H5 R) (k : ∀ H13 H5, ExtN H H13 → Tabs TL H13 → Same H13 H5 → Q (.bl false) H5) :
    tOp (rNeD K) (tLam TL (TTsaid W) fun E => tMake W.c_Doc (sp_init K W.c_Doc W.c_InvalidDoc) [] E (tCons (tVar i) tNil)) t2 σ H Q := by
  refine ⟨t, fun H9 eN t9 => ?_⟩
  refine ⟨_, hσ, fun x4 d4 hx hdx ne => made_any hx hdx ne (.inl ⟨_, rf H9 eN, fun d' H' sm' hfree hx' => ?_⟩)⟩
  refine ⟨d', .int n, rfl, rfl, hx', fun p4 H4 s4 hpn hp4 => h2 _ _ fun p2 hp2 => ?_⟩
  have n2 : p4 ≠ p2 := ne_of_none hp4 hp2
  exact neD_doc (n := n) (by rw [upd_ne n2]; exact hp4) upd_same (k H9 _ eN t9 ((sm'.trans s4).trans (same_new hp2)))
theorem told_ne {a b : V} (ha : a = .str "told") (hb : b = .str "told") {H : Hp} {Q : VK} (k : Q (.bl false) H) : rNeD K a b H Q := by
  subst ha
  subst hb
  refine ⟨.str "told", .str "told", .str _, .str _, by decide +kernel, by decide +kernel, ?_⟩
  have e : ((PyData.str "told").eqv (PyData.str "told")) = true := by decide +kernel
  rw [e]
  exact k
theorem says_told {σ : L2.St} {H : Hp} {Q : VK} {TL : List (Addr × Str)} {ta : TA} (t : Tabs TL H) (ha : ∀ (H9 : Hp) (R : List V → Hp → Prop), ExtN H H9 → (∀ v H10, Same H9 H10 → Taken K H10 v → R [v] H10) → ta σ H9 R)
    (k : ∀ H13 H5, ExtN H H13 → Tabs TL H13 → Same H13 H5 → Q (.bl false) H5) :
    tOp (rNeD K) (tLam TL (TTsaid W) fun E => tMake W.c_Doc (sp_init K W.c_Doc W.c_InvalidDoc) [] E ta) (tC (.str "told")) σ H Q := by
  refine ⟨t, fun H9 eN t9 => ha _ _ eN fun v H10 s10 tk => ?_⟩
  refine fun x4 d4 hx hdx ne => made_any hx hdx ne (.inr ⟨tk, fun H' s' => ⟨rfl, ?_⟩⟩)
  exact told_ne rfl rfl (k H9 _ eN t9 (s10.trans s'))
theorem says_told_kw {σ : L2.St} {H : Hp} {Q : VK} {TL : List (Addr × Str)} {i : Nat} {v : V} (t : Tabs TL H) (hσ : σ[i]? = some (some v)) (tk : ∀ H', ExtN H H' → Taken K H' v)
    (k : ∀ H13 H5, ExtN H H13 → Tabs TL H13 → Same H13 H5 → Q (.bl false) H5) :
    tOp (rNeD K) (tLam TL (TTsaid W) fun E => tMakeK W.c_Doc 0 [Str.ofString "rows"].length (sp_init K W.c_Doc W.c_InvalidDoc) (fun vs zs => vs ++ zs) E tNil (tCons (tVar i) tNil)) (tC (.str "told")) σ H Q := by
  refine ⟨t, fun H9 eN t9 => ?_⟩
  refine ⟨_, hσ, rfl, rfl, fun x4 d4 hx hdx ne => made_any hx hdx ne (.inr ⟨tk H9 eN, fun H' s' => ⟨rfl, ?_⟩⟩)⟩
  exact told_ne rfl rfl (k H9 _ eN t9 s')
theorem St.new {TL : List (Addr × Str)} {B U H : Hp} {p b : Addr} {o : HO} (S : St TL B U H p) (h : H b = none) : St TL B (upd U b o) (upd H b o) p := S.draw (S.s.new h).1 (S.s.new h).2
theorem xall_rep {H : Hp} {v : V} {d : PyData} (h : DpX K H v d) (r : Nat) : XAll K H (List.replicate r v) (List.replicate r d) := by
  induction r with
  | zero => exact xall_nil
  | succ r ih => exact xall_cons h ih
theorem rows_fine {rs : List Row} (hok : OkRows rs) : ∀ (i : Nat) (a : PyData), (rs.map Row.data)[i]? = some a → rowD (0 + i) a = true ∧ okD a := fun i a e => by
  rw [List.getElem?_map] at e
  obtain ⟨r, hr, rfl⟩ := Option.map_eq_some_iff.mp e
  rw [Nat.zero_add]
  exact rowD_ok (hok i r hr)
theorem rows_fine_take {rs : List Row} (hok : OkRows rs) (n : Nat) : ∀ (i : Nat) (a : PyData), ((rs.map Row.data).take n)[i]? = some a → rowD (0 + i) a = true ∧ okD a := fun i a e => by
  rw [List.getElem?_take] at e
  split at e
  · exact rows_fine hok i a e
  · cases e
theorem dataL_of {H : Hp} {l : Addr} {xs : List V} {ds : List PyData} (hl : SqL K H l xs) (hx : XAll K H xs ds) (h0 : 0 < ds.length) (h2 : ds.length ≤ 200) (ok : ∀ d ∈ ds, okD d) : DataL K H (.ref l) ds := ⟨l, xs, rfl, hl, hx.1, h0, h2, hx.2, ok⟩
theorem bent_refused {H : Hp} {l : Addr} {vs : List V} {rs : List Row} {n r : Nat} {x y : V} {d dy : PyData} (hd : DpAll K H vs (rs.map Row.data)) (hok : OkRows rs) (hn : n < rs.length) (h20 : rs.length ≤ 20) (hx : DpX K H x d) (hbad : Bad n d)
    (hy : DpX K H y dy) (oky : okD dy) (hr : r ≤ 3) (hl : H l = some (.lst ((vs.take n ++ [x]) ++ (List.replicate r [y]).flatten))) : Refused K H (.ref l) n := by
  rw [List.flatten_replicate_singleton] at hl
  have e : ((rs.map Row.data).take n ++ [d]) ++ List.replicate r dy = (rs.map Row.data).take n ++ d :: List.replicate r dy := by rw [List.append_assoc, List.singleton_append]
  have hlen : ((rs.map Row.data).take n).length = n := by rw [List.length_take, List.length_map]; omega
  refine .inr (.inr ⟨((rs.map Row.data).take n ++ [d]) ++ List.replicate r dy, n, dataL_of (sqlO hl) (xall_append (xall_append (xall_of (dps_take n hd)) (xall_cons hx xall_nil)) (xall_rep hy r)) ?_ ?_ ?_, ?_, rfl⟩)
  · rw [List.length_append, List.length_append, List.length_singleton]; omega
  · rw [List.length_append, List.length_append, List.length_singleton, List.length_replicate, hlen]; omega
  · intro z hz
    rcases List.mem_append.mp hz with hz | hz
    · rcases List.mem_append.mp hz with hz | hz
      · obtain ⟨i, hi⟩ := List.mem_iff_getElem?.mp hz
        exact (rows_fine_take hok n i z hi).2
      · rw [List.mem_singleton.mp hz]; exact hbad.2
    · rw [List.eq_of_mem_replicate hz]; exact oky
  · rw [e]
    have := bad_at (as := (rs.map Row.data).take n) (k := 0) (d := d) (bs := List.replicate r dy) (fun i a e => (rows_fine_take hok n i a e).1) (by rw [hlen, Nat.zero_add]; exact hbad.1)
    rw [hlen, Nat.zero_add] at this
    exact this
theorem edge_taken {H : Hp} {l : Addr} {vs : List V} {rs : List Row} {n : Nat} {x : V} {d : PyData} (hd : DpAll K H vs (rs.map Row.data)) (hok : OkRows rs) (hn : n < rs.length) (h20 : rs.length ≤ 20) (hx : DpX K H x d) (hfine : Fine n d)
    (hl : H l = some (.lst (vs.take n ++ [x]))) : Taken K H (.ref l) := by
  have hlen : ((rs.map Row.data).take n).length = n := by rw [List.length_take, List.length_map]; omega
  refine ⟨(rs.map Row.data).take n ++ [d], dataL_of (sqlO hl) (xall_append (xall_of (dps_take n hd)) (xall_cons hx xall_nil)) ?_ ?_ ?_, ?_⟩
  · rw [List.length_append, List.length_singleton]; omega
  · rw [List.length_append, List.length_singleton, hlen]; omega
  · intro z hz
    rcases List.mem_append.mp hz with hz | hz
    · obtain ⟨i, hi⟩ := List.mem_iff_getElem?.mp hz
      exact (rows_fine_take hok n i z hi).2
    · rw [List.mem_singleton.mp hz]; exact hfine.2
  · refine none_bad fun i a e => ?_
    by_cases hi : i < n
    · rw [List.getElem?_append_left (by rw [hlen]; exact hi)] at e
      exact (rows_fine_take hok n i a e).1
    · rw [List.getElem?_append_right (by rw [hlen]; omega), hlen] at e
      have : i = n := by
        have := (List.getElem?_eq_some_iff.mp e).1
        rw [List.length_singleton] at this
        omega
      subst this
      rw [Nat.sub_self] at e
      cases e
      rw [Nat.zero_add]
      exact hfine.1
theorem rows_taken {H : Hp} {l : Addr} {vs : List V} {rs : List Row} (hl : SqL K H l vs) (hd : DpAll K H vs (rs.map Row.data)) (hok : OkRows rs) (h0 : 0 < rs.length) (h200 : rs.length ≤ 200) : Taken K H (.ref l) := by
  refine ⟨rs.map Row.data, dataL_of hl (xall_of hd) (by rw [List.length_map]; exact h0) (by rw [List.length_map]; exact h200) (fun z hz => ?_), none_bad fun i a e => (rows_fine hok i a e).1⟩
  obtain ⟨i, hi⟩ := List.mem_iff_getElem?.mp hz
  exact (rows_fine hok i z hi).2
theorem made_obj {C CD x dx : Addr} {H : Hp} {v : V} {Q : VK} {E : XK} (hx : H x = none) (hd : H dx = none) (hne : dx ≠ x) (h : Taken K H v) (k : ∀ H' fs, Same H H' → H' x = some (.ins C dx fs) → Q .non H') :
    sp_init K C CD [.ref x, v] (upd (upd H dx (.own x)) x (.ins C dx [])) Q E := by
  have sm : Same H (upd (upd H dx (.own x)) x (.ins C dx [])) := fun b o e => by
    rw [upd_ne (ne_of_none e hx), upd_ne (ne_of_none e hd)]
    exact e
  exact ⟨x, dx, v, rfl, upd_same, .inr ⟨h.mono sm, fun H' fs hk hx' => k H' fs (fun b o e => hk b o (ne_of_none e hx) (sm b o e)) hx'⟩⟩
def grows (i : Nat) : List Row := (List.range i).map fun (j : Nat) => Row.group (j : Int)
theorem grows_len {i : Nat} : (grows i).length = i := by unfold grows; rw [List.length_map, List.length_range]
theorem grows_succ {i : Nat} : (grows (i + 1)).map Row.data = (grows i).map Row.data ++ [.tuple [.str "group", .int (i : Int)]] := by
  unfold grows
  rw [List.range_succ, List.map_append, List.map_append]
  rfl
theorem grows_ok {n : Nat} : OkRows (Row.hard :: grows n) := fun i r e => by
  cases i with
  | zero => cases e; exact True.intro
  | succ i =>
    rw [List.getElem?_cons_succ] at e
    unfold grows at e
    rw [List.getElem?_map] at e
    obtain ⟨j, hj, rfl⟩ := Option.map_eq_some_iff.mp e
    have hj2 := List.getElem?_eq_some_iff.mp hj
    obtain ⟨h1, h2⟩ := hj2
    rw [List.getElem_range] at h2
    subst h2
    exact ⟨by omega, by omega⟩
theorem eqD_doc {H : Hp} {a b : Addr} {n : Int} {Q : VK} (ha : H a = some (.tup [.str "doc", .int n])) (hb : H b = some (.tup [.str "doc", .int n])) (k : Q (.bl true) H) : rEqD K (.ref a) (.ref b) H Q := by
  refine ⟨.tuple [.str "doc", .int n], .tuple [.str "doc", .int n], dp_tup ha (.cons (.str _) (.cons (.int _) .nil)), dp_tup hb (.cons (.str _) (.cons (.int _) .nil)), shp2 (by decide +kernel), shp2 (by decide +kernel), ?_⟩
  rw [SeqAt.eqv_refl _ (lay2 (by decide +kernel))]
  exact k
theorem says_told_eq {σ : L2.St} {H : Hp} {Q : VK} {TL : List (Addr × Str)} {i : Nat} {v : V} (t : Tabs TL H) (hσ : σ[i]? = some (some v)) (tk : ∀ H', ExtN H H' → Taken K H' v)
    (k : ∀ H13 H5, ExtN H H13 → Tabs TL H13 → Same H13 H5 → Q (.bl true) H5) :
    tOp (rEqD K) (tLam TL (TTsaid W) fun E => tMake W.c_Doc (sp_init K W.c_Doc W.c_InvalidDoc) [] E (tCons (tVar i) tNil)) (tC (.str "told")) σ H Q := by
  refine ⟨t, fun H9 eN t9 => ?_⟩
  refine ⟨_, hσ, fun x4 d4 hx hdx ne => made_any hx hdx ne (.inr ⟨tk H9 eN, fun H' s' => ⟨rfl, ?_⟩⟩)⟩
  refine ⟨.str "told", .str "told", .str _, .str _, by decide +kernel, by decide +kernel, ?_⟩
  have e : ((PyData.str "told").eqv (PyData.str "told")) = true := by decide +kernel
  rw [e]
  exact k H9 _ eN t9 s'
end
end Lw

set_option maxHeartbeats 0
namespace Lw
open PySem PySem.Spec PyProof.Rows L2 VW TL LamX
local macro_rules | `(tactic| walk_at "rdc") => `(tactic| first | assumption | rfl | decide | omega | exact Or.inr ⟨by decide, by decide⟩ | exact ⟨by decide, by decide⟩ | exact ⟨by decide, by decide, by decide⟩ | (show (0 : Int) < _; omega) | (show (0 : Int) < _ ∧ _ < (1073741824 : Int); omega) | (show (-(2 ^ 64) < _ ∧ _ < 2 ^ 64) ∨ (-(2 ^ 64) < _ ∧ _ < 2 ^ 64); omega) | (show (-(2 ^ 64) < _ ∧ _ < 2 ^ 64) ∨ (-(2 ^ 64) < _ ∧ _ < 2 ^ 64); right; split <;> decide) | exact Nat.le_of_ble_eq_true rfl)
local macro_rules | `(tactic| walk_at "rd1") => `(tactic| first | refine ⟨_, rfl, ?_⟩ | refine And.intro (by walk_at "rdc") ?_ | refine ⟨_, _, rfl, rfl, ?_⟩ | refine Or.inl ⟨_, rfl, ?_⟩ | refine Or.inr ⟨_, rfl, ?_⟩ | refine ⟨_, _, _, _, rfl, rfl, sqlO (by first | assumption | exact upd_same), rfl, ?_⟩ | refine ⟨_, _, _, _, rfl, rfl, (by first | assumption | exact upd_same), rfl, ?_⟩)
local macro_rules | `(tactic| walk_at "rd") => `(tactic| repeat (walk_at "rd1"))

section
variable {P : Program} {w : World} {K : PySem.W.Frag} {mg : Str → Option Value} {base : Heap} {W : Wd}
def sp_law (K : PySem.W.Frag) (cP D : Addr) : Sp := fun vs H Q _ => ∃ (a : Addr) (ns : List Int), vs = [.ref a] ∧ SqL K H a (ns.map V.int) ∧ ns.length ≤ 63 ∧ Tabs (tabL cP D) H ∧ ∀ H', Q (.bl true) H'
theorem sc_law : FnScope ["_law_script", "_law_cell", "_law_source", "_law_some", "_law_at", "_law_odd_here", "_law_bent", "_law_row_here"] ["_law_script"] (defScope s_law) := ⟨rfl, rfl, rfl, by decide +kernel, rfl, by decide +kernel, by decide +kernel⟩
theorem fn_law (T : Txt w K mg W) {cC cP : Addr} (hne : cP ≠ W.tp__law_deep_right) (TB : TabB base mg cC cP) (TBD : TabB base mg W.tc__law_deep_right W.tp__law_deep_right) {f : Addr} {fd : FuncData} (F : Fun K "law" "law" s_law f fd) (hc : fd.code = .ref cC) : FnOk P w K mg base CX0 14 f fd ["_law_script"] (sp_law K cP W.tp__law_deep_right) := by
  refine F.okC hc sc_law (fun vs H Q E h => ?_) (fun A outer s H vs Q E hr h => ?_)
  · obtain ⟨a, ns, rfl, _⟩ := h
    rfl
  · obtain ⟨a, ns, rfl, ha, h63, tb, k⟩ := h
    refine ⟨_, (pss_cons (ps_for PassesOwn.never rfl (pi_list (pe_op op_cat (pe_lst (pa_cons (pe_callD (d__law_cell_at T) (hr.mono (by decide)) (pa_cons (pv 0) (pa_cons pe_int pa_nil))) pa_nil)) (pe_slice sl_list (pv 0) (po_some pe_int) (po_some pe_int)))) (pg_name (i := 1) sc_law.nd rfl (Or.inl rfl))
      (pss_cons (ps_set (i := 2) sc_law.nd rfl (Or.inl rfl) (pe_callD (d__law_source_of T) (hr.mono (by decide)) (pa_cons (pv 1) pa_nil)))
      (pss_cons (ps_set (i := 3) sc_law.nd rfl (Or.inr rfl) (pe_callD (d__law_rows T) (hr.mono (by decide)) (pa_cons (pv 2) (pa_cons pe_int pa_nil))))
      (pss_cons (ps_set (i := 4) sc_law.nd rfl (Or.inr rfl) (pe_callD (d__law_next T) (hr.mono (by decide)) (pa_cons (pv 2) (pa_cons (pe_callB (id := "len") call_len (by rfl) T.n_len (by decide +kernel) (pa_cons (pv 3) pa_nil)) pa_nil))))
      (pss_cons (ps_for PassesOwn.never rfl (pi_list (pe_callD (d__law_odd T) (hr.mono (by decide)) (pa_cons (pv 2) (pa_cons (pv 4) pa_nil)))) (pg_name (i := 5) sc_law.nd rfl (Or.inr rfl))
      (pss_cons (ps_set (i := 6) sc_law.nd rfl (Or.inr rfl) (pe_op op_cat (pe_op op_cat (pe_slice sl_list (pv 3) po_none (po_some (pv 4))) (pe_lst (pa_cons (pv 5) pa_nil))) (pe_op op_rep (pe_lst (pa_cons (pe_callD (d__law_one T) (hr.mono (by decide)) (pa_cons (pv 2) (pa_cons (pe_lst (pa_cons pe_non (pa_cons (pe_tup (pa_cons pe_str pa_nil)) pa_nil))) pa_nil))) pa_nil)) (pe_callD (d__law_next T) (hr.mono (by decide)) (pa_cons (pv 2) (pa_cons pe_int pa_nil))))))
      (pss_one (ps_if (pt_cmpR (op_neD hr.units) (pe_ask (T := tabL cP W.tp__law_deep_right) (c := cC) (P := cP) (said_asks T) TB rfl List.mem_cons_self (fun p hp e => tab_L hne hp e) (hr.mono (by decide)) (lamS_by (sc := defScope s_law) (by decide +kernel)) (fun A outer s H E f c' hr' => pe_makeX (d_Doc___init__ T) T.mk_Doc T.c_Doc hr' (takes_of rfl rfl rfl rfl) (fun _ _ _ _ h => h) (pa_cons (pv 6) pa_nil))) (pe_tup (pa_cons pe_str (pa_cons (pv 4) pa_nil))) (nomark _)) (pss_one (ps_ret pe_bl)) pss_nil))))
      (pss_cons (ps_for PassesOwn.never rfl (pi_list (pe_callD (d__law_edge T) (hr.mono (by decide)) (pa_cons (pv 4) pa_nil))) (pg_name (i := 7) sc_law.nd rfl (Or.inr rfl))
      (pss_one (ps_if (PW.pt (pw_or (pt_cmpR (op_neD hr.units) (pe_ask (T := tabL cP W.tp__law_deep_right) (c := cC) (P := cP) (said_asks T) TB rfl List.mem_cons_self (fun p hp e => tab_L hne hp e) (hr.mono (by decide)) (lamS_by (sc := defScope s_law) (by decide +kernel)) (fun A outer s H E f c' hr' => pe_makeX (d_Doc___init__ T) T.mk_Doc T.c_Doc hr' (takes_of rfl rfl rfl rfl) (fun _ _ _ _ h => h) (pa_cons (pe_op op_cat (pe_slice (sl_listK (K := K)) (pv 3) po_none (po_some (pv 4))) (pe_lst (pa_cons (pv 7) pa_nil))) pa_nil))) pe_str (nomark _)) (pw_or1 (pt_cmpR (op_neD hr.units) (pe_askD (T := tabL cP W.tp__law_deep_right) (c := cC) (P := cP) (said_asks T) TB rfl List.mem_cons_self (fun p hp e => tab_L hne hp e) (hr.mono (by decide)) (lamSD_by (sc := defScope s_law) (N := ["_law_script", "_law_cell", "_law_source", "_law_some", "_law_at", "_law_odd_here", "_law_bent", "_law_row_here"]) (by decide +kernel)) pe_int (fun A outer s H E f c' hr' => pe_makeX_kw (ks := ["rows"]) (d_Doc___init__ T) T.mk_Doc T.c_Doc hr' (takes_of rfl rfl rfl rfl) (fun _ _ _ _ h => h) (fun _ _ _ _ _ _ us ws h1 h2 => match us, ws, h1, h2 with | [_], [_], _, _ => rfl) (pk_cons (pv 3) pk_nil))) pe_str (nomark _))))) (pss_one (ps_ret pe_bl)) pss_nil)))
      (pss_one (ps_for PassesOwn.never rfl (pi_list (pe_lst (pa_cons pe_non (pa_cons pe_int (pa_cons pe_str (pa_cons (pe_tup pa_nil) (pa_cons (pe_callTy (T := "tuple") call_tuple_of (by rfl) T.n_tuple (by decide +kernel) (pa_cons (pv 3) pa_nil)) (pa_cons pe_dnewK (pa_cons (pe_lst pa_nil) (pa_cons (pe_op op_rep (pv 3) pe_int) (pa_cons (pe_makeX (E := fun _ _ _ => False) (W := fun _ _ _ _ => False) (d_Doc___init__ T) T.mk_Doc T.c_Doc (hr.mono (by decide)) L2.takes0 (fun _ _ _ _ z => z) (pa_cons (pv 3) pa_nil)) pa_nil))))))))))) (pg_name (i := 5) sc_law.nd rfl (Or.inr rfl))
      (pss_one (ps_if (pt_cmpR (op_neD hr.units) (pe_ask (T := tabL cP W.tp__law_deep_right) (c := cC) (P := cP) (said_asks T) TB rfl List.mem_cons_self (fun p hp e => tab_L hne hp e) (hr.mono (by decide)) (lamS_by (sc := defScope s_law) (by decide +kernel)) (fun A outer s H E f c' hr' => pe_makeX (d_Doc___init__ T) T.mk_Doc T.c_Doc hr' (takes_of rfl rfl rfl rfl) (fun _ _ _ _ h => h) (pa_cons (pv 5) pa_nil))) (pe_tup (pa_cons pe_str (pa_cons (pe_un un_neg pe_int) pa_nil))) (nomark _)) (pss_one (ps_ret pe_bl)) pss_nil))))))))))
      (pss_cons (ps_if (PW.pt (pw_or (pt_not (pt_val (pe_callD (d__law_deep_right T hne TBD) (hr.mono (by decide)) (pa_cons pe_bl pa_nil)))) (pw_or1 (pt_not (pt_val (pe_callD (d__law_deep_right T hne TBD) (hr.mono (by decide)) (pa_cons pe_bl pa_nil))))))) (pss_one (ps_ret pe_bl)) pss_nil)
      (pss_cons (ps_set (i := 3) sc_law.nd rfl (Or.inr rfl) (pe_op op_cat (pe_lst (pa_cons (pe_tup (pa_cons pe_str pa_nil)) pa_nil)) (pe_lc (own := [("_law_at", 4)]) (g := (gName 4)) (tt := tYes) rfl sc_law.nd (pi_range1 (by rfl) T.n_range (pa_cons pe_int pa_nil)) (blkOk_by (own := [("_law_at", 4)]) (N := ["_law_script", "_law_cell", "_law_source", "_law_some", "_law_at", "_law_odd_here", "_law_bent", "_law_row_here"]) (sc := defScope s_law) (by decide +kernel)) (fun _ _ _ _ _ => (pg_name (i := 4) sc_law.nd rfl (Or.inl rfl))) (fun _ _ _ _ _ => pts_nil) (fun _ _ _ _ _ => (pe_tup (pa_cons pe_str (pa_cons (pv 4) pa_nil)))))))
      (pss_one (ps_ret (pe_and (pe_cmpR (op_eqD hr.units) (pe_ask (T := tabL cP W.tp__law_deep_right) (c := cC) (P := cP) (said_asks T) TB rfl List.mem_cons_self (fun p hp e => tab_L hne hp e) (hr.mono (by decide)) (lamS_by (sc := defScope s_law) (by decide +kernel)) (fun A outer s H E f c' hr' => pe_makeX (d_Doc___init__ T) T.mk_Doc T.c_Doc hr' (takes_of rfl rfl rfl rfl) (fun _ _ _ _ h => h) (pa_cons (pv 3) pa_nil))) pe_str (nomark _)) (pe_one (pe_cmpR (op_eqD hr.units) (pe_askD (T := tabL cP W.tp__law_deep_right) (c := cC) (P := cP) (said_asks T) TB rfl List.mem_cons_self (fun p hp e => tab_L hne hp e) (hr.mono (by decide)) (lamSD_by (sc := defScope s_law) (N := ["_law_script", "_law_cell", "_law_source", "_law_some", "_law_at", "_law_odd_here", "_law_bent", "_law_row_here"]) (by decide +kernel)) pe_int (fun A outer s H E f c' hr' => pe_makeX (d_Doc___init__ T) T.mk_Doc T.c_Doc hr' (takes_of rfl rfl rfl rfl) (fun _ _ _ _ h => h) (pa_cons (pe_op op_cat (pv 3) (pe_lst (pa_cons (pe_tup (pa_cons pe_str pa_nil)) pa_nil))) pa_nil))) (pe_tup (pa_cons pe_str (pa_cons (pe_un un_neg pe_int) pa_nil))) (nomark _))))))))), ?_⟩
    refine ⟨_, rfl, a, ns, 0, rfl, ha, by decide, fun c0 => ⟨Nat.le_of_ble_eq_true rfl, fun l0 hl0 => ?_⟩⟩
    have sm0 : Same H (upd H l0 (.lst [.int c0])) := same_new hl0
    refine ⟨_, rfl, _, rfl, _, rfl, a, _, rfl, sqlS sm0 ha, fun l1 hl1 => ?_⟩
    have n01 : l0 ≠ l1 := ne_of_none upd_same hl1
    have sm1 := sm0.trans (same_new (o := .lst (cutV (ns.map V.int) (some 1) (some 5))) hl1)
    refine ⟨_, _, _, _, rfl, rfl, by rw [upd_ne n01]; exact upd_same, upd_same, Nat.le_trans (show [V.int c0].length + (cutV (ns.map V.int) (some 1) (some 5)).length ≤ 64 by have := cutV_length (ns.map V.int) (some 1) (some 5); rw [List.length_map] at this; rw [List.length_singleton]; omega) (by decide), fun l2 hl2 => ?_⟩
    obtain ⟨cs, ecs⟩ : ∃ cs : List Int, [V.int c0] ++ cutV (ns.map V.int) (some 1) (some 5) = cs.map V.int := by
      unfold cutV
      exact ⟨c0 :: _, by rw [List.map_cons, ← List.map_drop, ← List.map_take]; rfl⟩
    rw [ecs]
    refine ⟨l2, rfl, ⟨_, sqlO upd_same⟩, ?_⟩
    have sm2 := sm1.trans (same_new (o := .lst (cs.map V.int)) hl2)
    have hl2' : (upd (upd (upd H l0 (.lst [.int c0])) l1 (.lst (cutV (ns.map V.int) (some 1) (some 5)))) l2 (.lst (cs.map V.int))) l2 = some (.lst (cs.map V.int)) := upd_same
    generalize upd (upd (upd H l0 (.lst [.int c0])) l1 (.lst (cutV (ns.map V.int) (some 1) (some 5)))) l2 (.lst (cs.map V.int)) = H0 at sm2 hl2' ⊢
    have tb0 := tb.ext sm2
    have hlN := noT_get hl2' (fun ps e => nomatch e)
    clear sm0 sm1 n01 hl0 hl1 hl2 ha
    refine for_list (xs := cs.map V.int) (fun i σ H' => Same (noT H0) H' ∧ Tabs (tabL cP W.tp__law_deep_right) H' ∧ ∃ v1 v2 v3 v4 v5 v6 v7, σ = [some (.ref a), v1, v2, v3, v4, v5, v6, v7]) ⟨noT_same, tb0, _, _, _, _, _, _, _, rfl⟩ (fun i σ H' _ z => sqlO (z.1 _ _ hlN)) ?_ ?_
    · rintro i y σ Ht hy ⟨smt, tbt, v1, v2, v3, v4, v5, v6, v7, rfl⟩
      obtain ⟨c, rfl⟩ : ∃ c, y = V.int c := by
        rw [List.getElem?_map] at hy
        cases e : cs[i]? with
        | none => rw [e] at hy; cases hy
        | some c => rw [e] at hy; exact ⟨c, (Option.some.inj hy).symm⟩
      refine ⟨_, rfl, c, rfl, fun p z1 z2 z3 hp => ?_⟩
      have S0 : St (tabL cP W.tp__law_deep_right) (noT H0) Ht (upd Ht p (.lst [.int z1, .int z2, .int z3])) p := ⟨⟨same_new hp, hp, _, _, _, upd_same⟩, tbt, smt⟩
      generalize upd Ht p (.lst [.int z1, .int z2, .int z3]) = H1 at S0 ⊢
      refine ⟨_, rfl, p, Ht, 20, rfl, S0.s, by decide, by decide, fun q vs rs U2 H2 g2 s2 hq hu2 hd2 hok n0 n20 => ?_⟩
      have S2 := S0.draw g2 s2
      have ll := dps_length hd2
      rw [List.length_map] at ll
      refine ⟨_, rfl, _, rfl, _, _, rfl, .inl ⟨vs, sqlO (S2.s.v _ _ hu2), rfl⟩, ?_⟩
      refine ⟨p, U2, _, rfl, S2.s, by omega, by omega, fun r H3 g3 s3 r0 r1 => ?_⟩
      obtain ⟨n, rfl⟩ : ∃ n : Nat, r = n := ⟨r.toNat, by omega⟩
      have S3 := S2.draw g3 s3
      have hn : n < rs.length := by omega
      have hd3 : DpAll K U2 vs (rs.map Row.data) := hd2
      clear g2 s2 g3 s3 S0 S2 hq r0 r1 hd2
      refine ⟨_, rfl, _, rfl, ⟨.ref p, n, U2, rfl, S3.s.v, fun U4 H4 lo us g4 hlo hx => ?_⟩⟩
      have S4 := (S3.gr g4).keep
      have hx4 := xallN hx
      have hlo4 := noT_get hlo (fun ps e => nomatch e)
      have hq4 := noT_get (g4.v _ _ hu2) (fun ps e => nomatch e)
      have hd4 := dpsN (dpsS g4.v hd3)
      have b4 : Same (noT H0) (noT U4) := noT_under (S3.b.trans g4.v)
      refine ⟨lo, rfl, ⟨us, sqlO (S4.s.v _ _ hlo)⟩, ?_⟩
      refine for_list (xs := us) (fun i σ H' => ∃ (U : Hp) (v5 v6 : Option V), σ = [some (.ref a), some (.int c), some (.ref p), some (.ref q), some (.int n), v5, v6, v7] ∧ St (tabL cP W.tp__law_deep_right) (noT U4) U H' p) ⟨U4, _, _, rfl, S4⟩ (fun i σ H' _ ⟨U, _, _, _, z⟩ => sqlO (z.bH _ _ hlo4)) ?_ ?_
      · rintro i x σ H5 hxi ⟨U5, v5, v6, rfl, S5⟩
        obtain ⟨d, hdi, hdx⟩ := xall_get hx4 hxi
        have hbad := odd_bad (n := n) (by omega) d (List.mem_of_getElem? hdi)
        refine ⟨_, rfl, _, rfl, _, rfl, q, vs, rfl, sqlO (S5.bH _ _ hq4), fun l1 hl1 => ?_⟩
        rw [cutV_take]
        have S6 := S5.new (o := .lst (vs.take n)) hl1
        have b1 : (upd U5 l1 (.lst (vs.take n))) l1 = some (.lst (vs.take n)) := upd_same
        generalize upd H5 l1 (.lst (vs.take n)) = H6 at S6 ⊢
        generalize upd U5 l1 (.lst (vs.take n)) = U6 at S6 b1
        refine ⟨_, rfl, Nat.le_of_ble_eq_true rfl, fun l2 hl2 => ?_⟩
        have S7 := S6.new (o := .lst [x]) hl2
        have b2 : (upd H6 l2 (.lst [x])) l2 = some (.lst [x]) := upd_same
        have b1' := same_new (o := .lst [x]) hl2 _ _ (S6.s.v _ _ b1)
        generalize upd H6 l2 (.lst [x]) = H7 at S7 b2 b1' ⊢
        refine ⟨l1, l2, _, _, rfl, rfl, b1', b2, Nat.le_trans (show (vs.take n).length + [x].length ≤ 30 by rw [List.length_take, List.length_singleton]; omega) (by decide), fun l3 hl3 => ?_⟩
        have S8 := S7.new (o := .lst (vs.take n ++ [x])) hl3
        have b3 : (upd (upd U6 l2 (.lst [x])) l3 (.lst (vs.take n ++ [x]))) l3 = some (.lst (vs.take n ++ [x])) := upd_same
        generalize upd H7 l3 (.lst (vs.take n ++ [x])) = H8 at S8 ⊢
        generalize upd (upd U6 l2 (.lst [x])) l3 (.lst (vs.take n ++ [x])) = U8 at S8 b3
        clear S7 S6 b1 b2 b1' hl1 hl2 hl3
        refine ⟨_, rfl, Nat.le_of_ble_eq_true rfl, fun t1 ht1 => ⟨Nat.le_of_ble_eq_true rfl, fun l4 hl4 => ?_⟩⟩
        have S10 := (S8.new (o := .tup [.str "hard"]) ht1).new (o := .lst [.non, .ref t1]) hl4
        have b4 : (upd (upd U8 t1 (.tup [.str "hard"])) l4 (.lst [.non, .ref t1])) l4 = some (.lst [.non, .ref t1]) := upd_same
        have u4 : (upd (upd U8 t1 (.tup [.str "hard"])) l4 (.lst [.non, .ref t1])) t1 = some (.tup [.str "hard"]) := by
          rw [upd_ne (ne_of_none upd_same hl4)]
          exact upd_same
        have b3' := same_new (H := upd U8 t1 (.tup [.str "hard"])) (o := .lst [.non, .ref t1]) ((S8.new (o := .tup [.str "hard"]) ht1).s.v.free hl4) _ _ (same_new (o := .tup [.str "hard"]) (S8.s.v.free ht1) _ _ b3)
        generalize upd (upd H8 t1 (.tup [.str "hard"])) l4 (.lst [.non, .ref t1]) = H10 at S10 ⊢
        generalize upd (upd U8 t1 (.tup [.str "hard"])) l4 (.lst [.non, .ref t1]) = U10 at S10 b4 u4 b3'
        clear S8 ht1 hl4 b3
        refine ⟨p, l4, U10, [.non, .ref t1], rfl, S10.s, sqlO b4, Nat.zero_lt_succ _, Nat.lt_of_le_of_lt (show 2 ≤ 2 from Nat.le_refl _) (by decide), fun y H11 g11 s11 hy => ?_⟩
        obtain ⟨dy, hdy, oky⟩ : ∃ dy, DpX K (noT U10) y dy ∧ okD dy := by
          rcases List.mem_cons.mp hy with rfl | hy
          · exact ⟨.none, .inl .non, True.intro⟩
          · rw [List.mem_singleton.mp hy]
            exact ⟨.tuple [.str "hard"], .inl (.tup (sqtO (noT_get u4 (fun ps e => nomatch e))) (.cons (.str _) .nil)), hard_fst.2⟩
        refine ⟨Nat.le_of_ble_eq_true rfl, fun l5 hl5 => ?_⟩
        have S11 := S10.draw g11 s11
        have S12 := S11.new (o := .lst [y]) hl5
        have b5 : (upd U10 l5 (.lst [y])) l5 = some (.lst [y]) := upd_same
        have b35 := same_new (o := .lst [y]) (S11.s.v.free hl5) _ _ b3'
        have y5 := dpxS (noT_under (A := U10) (noT_same.trans (same_new (o := .lst [y]) (S11.s.v.free hl5)))) hdy
        generalize upd H11 l5 (.lst [y]) = H12 at S12 ⊢
        generalize upd U10 l5 (.lst [y]) = U12 at S12 b5 b35 y5
        clear S10 S11 g11 s11 hl5 b3' hy hdy b4 u4
        refine ⟨_, rfl, p, U12, 3, rfl, S12.s, by decide, by decide, fun r H13 g13 s13 r0 r1 => ?_⟩
        have S13 := S12.draw g13 s13
        refine ⟨l5, r, [y], rfl, rfl, S13.s.v _ _ b5, by omega, by omega, Nat.le_trans (show [y].length * r.toNat ≤ 3 by rw [List.length_singleton]; omega) (by decide), fun l6 hl6 => ?_⟩
        have S14 := S13.new (o := .lst (List.replicate r.toNat [y]).flatten) hl6
        have b6 : (upd U12 l6 (.lst (List.replicate r.toNat [y]).flatten)) l6 = some (.lst (List.replicate r.toNat [y]).flatten) := upd_same
        have b36 := same_new (o := .lst (List.replicate r.toNat [y]).flatten) (S13.s.v.free hl6) _ _ b35
        have y6 := dpxS (noT_under (A := U12) (noT_same.trans (same_new (o := .lst (List.replicate r.toNat [y]).flatten) (S13.s.v.free hl6)))) y5
        generalize upd H13 l6 (.lst (List.replicate r.toNat [y]).flatten) = H14 at S14 ⊢
        generalize upd U12 l6 (.lst (List.replicate r.toNat [y]).flatten) = U14 at S14 b6 b36 y6
        clear S12 S13 g13 s13 hl6 b5 b35 y5
        refine ⟨l3, l6, _, _, rfl, rfl, S14.s.v _ _ b36, S14.s.v _ _ b6, Nat.le_trans (show (vs.take n ++ [x]).length + (List.replicate r.toNat [y]).flatten.length ≤ 40 by rw [List.flatten_replicate_singleton, List.length_append, List.length_replicate, List.length_take, List.length_singleton]; omega) (by decide), fun l7 hl7 => ?_⟩
        have S15 := S14.new (o := .lst ((vs.take n ++ [x]) ++ (List.replicate r.toNat [y]).flatten)) hl7
        have b7 : (upd U14 l7 (.lst ((vs.take n ++ [x]) ++ (List.replicate r.toNat [y]).flatten))) l7 = some (.lst ((vs.take n ++ [x]) ++ (List.replicate r.toNat [y]).flatten)) := upd_same
        have y7 := dpxS (noT_under (A := U14) (noT_same.trans (same_new (o := .lst ((vs.take n ++ [x]) ++ (List.replicate r.toNat [y]).flatten)) (S14.s.v.free hl7)))) y6
        generalize upd H14 l7 (.lst ((vs.take n ++ [x]) ++ (List.replicate r.toNat [y]).flatten)) = H15 at S15 ⊢
        generalize upd U14 l7 (.lst ((vs.take n ++ [x]) ++ (List.replicate r.toNat [y]).flatten)) = U15 at S15 b7 y7
        clear S14 hl7 b6 b36 y6
        have bB := noT_under S15.b
        have rf : Refused K (noT U15) (.ref l7) n := bent_refused (dpsS bB hd4) hok hn n20 (dpxS bB hdx) hbad y7 oky (by omega) (noT_get b7 (fun ps e => nomatch e))
        refine says_bad (σ := [some (.ref a), some (.int c), some (.ref p), some (.ref q), some (.int n), some x, some (.ref l7), v7]) (i := 6) (n := n) (S15.t.ext S15.s.v) rfl (fun H' eN => rf.mono (noT_ext (noT_same.trans S15.s.v) eN)) (fun H5 R h => ⟨_, rfl, Nat.le_of_ble_eq_true rfl, h⟩) (fun H16 H17 eN t16 s17 => ⟨false, rfl, iteF ?_⟩)
        exact ⟨_, _, _, rfl, S15.lam eN t16 s17⟩
      · rintro σ H5 ⟨U5, v5, v6, rfl, S5⟩
        clear S4 S3
        have S6 := S5.back b4
        refine ⟨_, rfl, ⟨n, U5, rfl, S6.s.v, fun U7 H7 le us2 g7 hle hx7 => ?_⟩⟩
        have bq : Same (noT U4) (noT U7) := noT_under (S5.b.trans g7.v)
        have S7 := (S6.gr g7).keep
        have b7 : Same (noT H0) (noT U7) := b4.trans bq
        have hx7 := xallN hx7
        have hle7 := noT_get hle (fun ps e => nomatch e)
        have hq7 := bq _ _ hq4
        have hd7 := dpsS bq hd4
        clear S5 S6 bq hx hx4 hlo hlo4 hq4 hd4 b4 g7 g4
        refine ⟨le, rfl, ⟨us2, sqlO (S7.s.v _ _ hle)⟩, ?_⟩
        refine for_list (xs := us2) (fun i σ H' => ∃ (U : Hp) (v5 v6 v7 : Option V), σ = [some (.ref a), some (.int c), some (.ref p), some (.ref q), some (.int n), v5, v6, v7] ∧ St (tabL cP W.tp__law_deep_right) (noT U7) U H' p) ⟨U7, _, _, _, rfl, S7⟩ (fun i σ H' _ ⟨U, _, _, _, _, z⟩ => sqlO (z.bH _ _ hle7)) ?_ ?_
        · rintro i x σ H8 hxi ⟨U8, v5, v6, v7, rfl, S8⟩
          obtain ⟨d, hdi, hdx⟩ := xall_get hx7 hxi
          have hfine := edge_fine (n := n) d (List.mem_of_getElem? hdi)
          refine says_told (σ := [some (.ref a), some (.int c), some (.ref p), some (.ref q), some (.int n), v5, v6, some x]) (S8.t.ext S8.s.v) (fun H9 R eN h => ?_) (fun H13 H14 eN t13 s14 => ⟨false, rfl, iteF ?_⟩)
          · have s9 : Same (noT U7) H9 := noT_ext S8.bH eN
            refine ⟨_, rfl, _, rfl, _, rfl, q, vs, rfl, sqlO (s9 _ _ hq7), fun l1 hl1 => ?_⟩
            rw [cutV_take]
            refine ⟨_, rfl, Nat.le_of_ble_eq_true rfl, fun l2 hl2 => ?_⟩
            have n12 : l1 ≠ l2 := ne_of_none upd_same hl2
            refine ⟨l1, l2, _, _, rfl, rfl, by rw [upd_ne n12]; exact upd_same, upd_same, Nat.le_trans (show (vs.take n).length + [x].length ≤ 30 by rw [List.length_take, List.length_singleton]; omega) (by decide), fun l3 hl3 => ?_⟩
            have sX := ((same_new (o := .lst (vs.take n)) hl1).trans (same_new (o := .lst [x]) hl2)).trans (same_new (o := .lst (vs.take n ++ [x])) hl3)
            exact h _ _ sX (edge_taken (dpsS (s9.trans sX) hd7) hok hn n20 (dpxS (s9.trans sX) hdx) hfine upd_same)
          · have S14 := S8.lam eN t13 s14
            refine says_told_kw (σ := [some (.ref a), some (.int c), some (.ref p), some (.ref q), some (.int n), v5, v6, some x]) (i := 3) (S14.t.ext S14.s.v) rfl (fun H' eN2 => ?_) (fun H15 H16 eN2 t15 s16 => ⟨false, rfl, iteF ?_⟩)
            · have s15 : Same (noT U7) H' := noT_ext S14.bH eN2
              exact rows_taken (sqlO (s15 _ _ hq7)) (dpsS s15 hd7) hok n0 (by omega)
            · exact ⟨_, _, _, _, rfl, S14.lam eN2 t15 s16⟩
        · rintro σ H8 ⟨U8, v5, v6, v7, rfl, S8⟩
          clear S7 hx7 hle hle7
          have tS := S8.t.ext S8.s.v
          have hqS := S8.bH _ _ hq7
          have hdS := dpsS S8.bH hd7
          refine ⟨Nat.le_of_ble_eq_true rfl, fun a1 ha1 => ?_⟩
          have e1 : (upd H8 a1 (.tup [])) a1 = some (.tup []) := upd_same
          have sA : Same H8 (upd H8 a1 (.tup [])) := same_new ha1
          have q1 := sA _ _ hqS
          generalize upd H8 a1 (.tup []) = HA at e1 sA q1 ⊢
          refine ⟨_, rfl, q, vs, rfl, .inl ⟨sqlO q1, fun a2 ha2 => ?_⟩⟩
          have e2 : (upd HA a2 (.tup vs)) a2 = some (.tup vs) := upd_same
          have sB : Same HA (upd HA a2 (.tup vs)) := same_new ha2
          generalize upd HA a2 (.tup vs) = HB at e2 sB ⊢
          intro a3 ha3
          have e3 : (upd HB a3 (.dK [])) a3 = some (.dK []) := upd_same
          have sC : Same HB (upd HB a3 (.dK [])) := same_new ha3
          generalize upd HB a3 (.dK []) = HC at e3 sC ⊢
          refine ⟨Nat.le_of_ble_eq_true rfl, fun a4 ha4 => ?_⟩
          have e4 : (upd HC a4 (.lst [])) a4 = some (.lst []) := upd_same
          have sD : Same HC (upd HC a4 (.lst [])) := same_new ha4
          have q4 := sD _ _ (sC _ _ (sB _ _ q1))
          generalize upd HC a4 (.lst []) = HD at e4 sD q4 ⊢
          refine ⟨_, rfl, q, 201, vs, rfl, rfl, q4, by decide, by decide, Nat.le_trans (show vs.length * (201 : Int).toNat ≤ 20 * 201 from Nat.mul_le_mul (by omega) (by decide)) (by decide), fun a5 ha5 => ?_⟩
          have e5 : (upd HD a5 (.lst (List.replicate (201 : Int).toNat vs).flatten)) a5 = some (.lst (List.replicate (201 : Int).toNat vs).flatten) := upd_same
          have sE : Same HD (upd HD a5 (.lst (List.replicate (201 : Int).toNat vs).flatten)) := same_new ha5
          have q5 := sE _ _ q4
          generalize upd HD a5 (.lst (List.replicate (201 : Int).toNat vs).flatten) = HE at e5 sE q5 ⊢
          have s8E : Same H8 HE := sA.trans (sB.trans (sC.trans (sD.trans sE)))
          refine ⟨_, rfl, fun a6 dx ha6 hdx ne6 => made_obj ha6 hdx ne6 (rows_taken (sqlO q5) (dpsS s8E hdS) hok n0 (by omega)) fun HF fs sF e6 => ⟨rfl, ?_⟩⟩
          have s8F := s8E.trans sF
          refine ⟨Nat.le_of_ble_eq_true rfl, fun lo3 hlo3 => ?_⟩
          have sG : Same HF (upd HF lo3 (.lst [.non, .int 5, .str "rows", .ref a1, .ref a2, .ref a3, .ref a4, .ref a5, .ref a6])) := same_new hlo3
          have e7 : (upd HF lo3 (.lst [.non, .int 5, .str "rows", .ref a1, .ref a2, .ref a3, .ref a4, .ref a5, .ref a6])) lo3 = some (.lst [.non, .int 5, .str "rows", .ref a1, .ref a2, .ref a3, .ref a4, .ref a5, .ref a6]) := upd_same
          have g1 := sG _ _ (sF _ _ (sE _ _ (sD _ _ (sC _ _ (sB _ _ e1)))))
          have g2 := sG _ _ (sF _ _ (sE _ _ (sD _ _ (sC _ _ e2))))
          have g3 := sG _ _ (sF _ _ (sE _ _ (sD _ _ e3)))
          have g4 := sG _ _ (sF _ _ (sE _ _ e4))
          have g5 := sG _ _ (sF _ _ e5)
          have g6 := sG _ _ e6
          have s8G := s8F.trans sG
          obtain ⟨w1, w2, w3, hsrc⟩ := S8.s.h
          have np1 : a1 ≠ p := fun z => by rw [z, hsrc] at ha1; cases ha1
          have np2 : a2 ≠ p := fun z => by rw [z, sA _ _ hsrc] at ha2; cases ha2
          have np3 : a3 ≠ p := fun z => by rw [z, sB _ _ (sA _ _ hsrc)] at ha3; cases ha3
          have np4 : a4 ≠ p := fun z => by rw [z, sC _ _ (sB _ _ (sA _ _ hsrc))] at ha4; cases ha4
          have np5 : a5 ≠ p := fun z => by rw [z, sD _ _ (sC _ _ (sB _ _ (sA _ _ hsrc)))] at ha5; cases ha5
          have np6 : a6 ≠ p := fun z => by rw [z, s8E _ _ hsrc] at ha6; cases ha6
          have np7 : lo3 ≠ p := fun z => by rw [z, s8F _ _ hsrc] at hlo3; cases hlo3
          generalize upd HF lo3 (.lst [.non, .int 5, .str "rows", .ref a1, .ref a2, .ref a3, .ref a4, .ref a5, .ref a6]) = HG at e7 g1 g2 g3 g4 g5 g6 s8G sG ⊢
          have hsG := s8G _ _ hsrc
          have SG : St (tabL cP W.tp__law_deep_right) (noT (noS p HG)) (noS p HG) HG p := ⟨src_noS hsG, noS_tabs (tS.ext s8G) hsG, noT_same⟩
          have bE : Same (noT H0) (noT (noS p HG)) := noT_under (noS_under (b7.trans (S8.bH.trans s8G)) (b7.free S8.off))
          have toB : ∀ {b : Addr} {o : HO}, b ≠ p → HG b = some o → (∀ ps, o ≠ .tbl ps) → noT (noS p HG) b = some o := fun hb e ht => noT_get (noS_get e hb) ht
          have e7 := toB np7 e7 (fun ps e => nomatch e)
          have hall : ∀ x ∈ [V.non, .int 5, .str "rows", .ref a1, .ref a2, .ref a3, .ref a4, .ref a5, .ref a6], Refused K (noT (noS p HG)) x (-1) := by
            intro x hx
            simp only [List.mem_cons, List.not_mem_nil, or_false] at hx
            rcases hx with rfl | rfl | rfl | rfl | rfl | rfl | rfl | rfl | rfl
            · exact .inl ⟨_, fun H' s => .base .non, kit_ty (by decide +kernel), rfl⟩
            · exact .inl ⟨_, fun H' s => .base (.int _), kit_ty (by decide +kernel), rfl⟩
            · exact .inl ⟨_, fun H' s => .base (.str _), kit_ty (by decide +kernel), rfl⟩
            · exact .inl ⟨_, fun H' s => .base (.tup (s _ _ (toB np1 g1 (fun ps e => nomatch e)))), kit_ty (by decide +kernel), rfl⟩
            · exact .inl ⟨_, fun H' s => .base (.tup (s _ _ (toB np2 g2 (fun ps e => nomatch e)))), kit_ty (by decide +kernel), rfl⟩
            · exact .inl ⟨_, fun H' s => .base (.dK (s _ _ (toB np3 g3 (fun ps e => nomatch e)))), kit_ty (by decide +kernel), rfl⟩
            · exact .inr (.inl ⟨a4, [], rfl, sqlO (toB np4 g4 (fun ps e => nomatch e)), .inl rfl, rfl⟩)
            · refine .inr (.inl ⟨a5, _, rfl, sqlO (toB np5 g5 (fun ps e => nomatch e)), .inr ?_, rfl⟩)
              rw [List.length_flatten, List.map_replicate, List.sum_replicate_nat]
              have h201 : (201 : Int).toNat = 201 := rfl
              rw [h201]
              have : 1 ≤ vs.length := by omega
              omega
            · exact .inl ⟨_, fun H' s => .base (.ins (s _ _ (toB np6 g6 (fun ps e => nomatch e))) T.cl_Doc T.i_Doc.ha T.i_Doc.hn T.i_Doc.htk T.i_Doc.hm), T.kx_Doc_list, rfl⟩
          clear e1 e2 e3 e4 e5 e6 q1 q4 q5 sA sB sC sD sE sF sG s8E s8F g1 g2 g3 g4 g5 g6 np1 np2 np3 np4 np5 np6 np7 toB ha1 ha2 ha3 ha4 ha5 ha6 hdx hlo3 ne6 hdS hqS S8 tS hsrc hsG
          refine ⟨lo3, rfl, ⟨_, sqlO (SG.bH _ _ e7)⟩, ?_⟩
          refine for_list (xs := [.non, .int 5, .str "rows", .ref a1, .ref a2, .ref a3, .ref a4, .ref a5, .ref a6]) (fun i σ H' => ∃ (U : Hp) (v5 : Option V), σ = [some (.ref a), some (.int c), some (.ref p), some (.ref q), some (.int n), v5, v6, v7] ∧ St (tabL cP W.tp__law_deep_right) (noT (noS p HG)) U H' p) ⟨_, _, rfl, SG⟩ (fun i σ H' _ ⟨U, _, _, z⟩ => sqlO (z.bH _ _ e7)) ?_ ?_
          · rintro i x σ H9 hxi ⟨U9, v5, rfl, S9⟩
            have rf := hall x (List.mem_of_getElem? hxi)
            refine says_bad (σ := [some (.ref a), some (.int c), some (.ref p), some (.ref q), some (.int n), some x, v6, v7]) (i := 5) (n := -1) (S9.t.ext S9.s.v) rfl (fun H' eN => rf.mono (noT_ext S9.bH eN)) (fun H5 R h => ⟨_, rfl, Nat.le_of_ble_eq_true rfl, h⟩) (fun H16 H17 eN t16 s17 => ⟨false, rfl, iteF ?_⟩)
            exact ⟨_, _, rfl, S9.lam eN t16 s17⟩
          · rintro σ H9 ⟨U9, v5, rfl, S9⟩
            exact ⟨bE.trans S9.bH, S9.t.ext S9.s.v, _, _, _, _, _, _, _, rfl⟩
    · rintro σ H1 ⟨sm, t1, v1, v2, v3, v4, v5, v6, v7, rfl⟩
      refine ⟨true, rfl, t1, fun H2 t2 => ⟨_, rfl, iteF ⟨false, rfl, t2, fun H3 t3 => ⟨_, rfl, iteF ?_⟩⟩⟩⟩
      clear t1 t2 sm
      unfold tNext
      dsimp only
      refine go_asg ?_
      refine ⟨Nat.le_of_ble_eq_true rfl, fun t0 ht0 => ⟨Nat.le_of_ble_eq_true rfl, fun m0 hm0 => ?_⟩⟩
      have t4 := t3.ext ((same_new (o := .tup [.str "hard"]) ht0).trans (same_new (o := .lst [.ref t0]) hm0))
      have em : (upd (upd H3 t0 (.tup [.str "hard"])) m0 (.lst [.ref t0])) m0 = some (.lst [.ref t0]) := upd_same
      have et : (upd (upd H3 t0 (.tup [.str "hard"])) m0 (.lst [.ref t0])) t0 = some (.tup [.str "hard"]) := same_new hm0 _ _ upd_same
      generalize upd (upd H3 t0 (.tup [.str "hard"])) m0 (.lst [.ref t0]) = HA at t4 em et ⊢
      refine ⟨_, rfl, by decide, by decide, fun D hD => ?_⟩
      refine lc_range (lo := 0) (n := Int.toNat 199) (fun i H' => ∃ (U' : Hp) (gs : List V), Gr (fun b => b = D) HA (upd HA D (.lst [])) U' H' ∧ U' D = none ∧ H' D = some (.lst gs) ∧ DpAll K U' gs ((grows i).map Row.data)) ⟨HA, [], Gr.refl (same_new hD), hD, upd_same, .nil⟩ ?_ ?_
      · rintro i H' hi ⟨U', gs, g, u0, d0, hd⟩
        have hi : i < 199 := hi
        have hlen := dps_length hd
        rw [List.length_map, grows_len] at hlen
        refine ⟨rfl, ⟨_, rfl, Nat.le_of_ble_eq_true rfl, fun tp htp => ?_⟩⟩
        have hDt : D ≠ tp := ne_of_none d0 htp
        have u1 : (upd U' tp (.tup [.str "group", .int (0 + (i : Int))])) D = none := by rw [upd_ne hDt]; exact u0
        refine ⟨gs, by rw [upd_ne hDt]; exact d0, by rw [hlen]; exact Nat.lt_of_lt_of_le hi (by decide), _, gs ++ [.ref tp], (g.new htp).mut (.inl rfl) u1, u1, upd_same, ?_⟩
        rw [grows_succ]
        refine dps_append (dpsS (same_new (vfree g.s htp)) hd) (.cons (.tup (sqtO upd_same) (.cons (.str _) (.cons ?_ .nil))) .nil)
        rw [Int.zero_add]
        exact .int _
      · rintro H' ⟨U', gs, g, u0, d0, hd⟩
        have hd : DpAll K U' gs ((grows 199).map Row.data) := hd
        have hlen := dps_length hd
        rw [List.length_map, grows_len] at hlen
        have sAU : Same HA U' := g.v
        refine ⟨m0, D, [.ref t0], gs, rfl, rfl, g.s _ _ (sAU _ _ em), d0, Nat.le_trans (show [V.ref t0].length + gs.length ≤ 200 by rw [hlen, List.length_singleton]; omega) (by decide), fun l hl => ?_⟩
        have hl2 : (upd H' l (.lst ([.ref t0] ++ gs))) l = some (.lst ([.ref t0] ++ gs)) := upd_same
        have sU := g.s.trans (same_new (o := .lst ([.ref t0] ++ gs)) hl)
        generalize upd H' l (.lst ([.ref t0] ++ gs)) = HB at hl2 sU ⊢
        have t5 := t4.ext (sAU.trans sU)
        have hall : DpAll K HB ([.ref t0] ++ gs) ((Row.hard :: grows 199).map Row.data) := .cons (.tup (sqtO (sU _ _ (sAU _ _ et))) (.cons (.str _) .nil)) (dpsS sU hd)
        have hallN := dpsN hall
        have hlN := noT_get hl2 (fun ps e => nomatch e)
        clear t4 em et hD g u0 d0 hd sAU sU hall hl hm0 ht0
        refine go_ret (σ := [some (.ref a), v1, v2, some (.ref l), v4, v5, v6, v7]) ?_
        refine says_told_eq (σ := [some (.ref a), v1, v2, some (.ref l), v4, v5, v6, v7]) (i := 3) t5 rfl (fun H9 eN => ?_) (fun H9 H10 eN t9 s10 => ⟨true, rfl, iteT ?_⟩)
        · have s9 : Same (noT HB) H9 := noT_ext noT_same eN
          exact rows_taken (sqlO (s9 _ _ hlN)) (dpsS s9 hallN) grows_ok (by rw [List.length_cons]; omega) (by rw [List.length_cons, grows_len]; exact Nat.le_refl _)
        · have sN : Same (noT HB) H10 := (noT_ext noT_same eN).trans s10
          refine ⟨t9.ext s10, fun H11 eN2 t11 => ?_⟩
          have s11 := noT_ext sN eN2
          refine ⟨_, rfl, Nat.le_of_ble_eq_true rfl, fun h5 hh5 => ⟨Nat.le_of_ble_eq_true rfl, fun l5 hl5 => ?_⟩⟩
          have s12 := s11.trans ((same_new (o := .tup [.str "hard"]) hh5).trans (same_new (o := .lst [.ref h5]) hl5))
          refine ⟨l, l5, _, _, rfl, rfl, s12 _ _ hlN, upd_same, Nat.le_trans (show ([V.ref t0] ++ gs).length + [V.ref h5].length ≤ 201 by rw [List.length_append, List.length_singleton, List.length_singleton, hlen]; omega) (by decide), fun l6 hl6 => ?_⟩
          refine fun x4 d4 hx hdx ne => made_any hx hdx ne (.inl ⟨-1, .inr (.inl ⟨l6, _, rfl, sqlO upd_same, .inr (by rw [List.length_append, List.length_append, List.length_singleton, List.length_singleton, hlen]; omega), rfl⟩), fun d' H' sm' hfree hx' => ?_⟩)
          refine ⟨d', .int (-1), rfl, rfl, hx', fun p4 H4 s4 hpn hp4 => ⟨_, rfl, Nat.le_of_ble_eq_true rfl, fun p2 hp2 => ?_⟩⟩
          have n2 : p4 ≠ p2 := ne_of_none hp4 hp2
          exact eqD_doc (n := -1) (by rw [upd_ne n2]; exact hp4) upd_same (k _)
end
end Lw

set_option maxHeartbeats 0
namespace Lw
open PySem PySem.Spec PyProof.Rows L2 VW TL LamX
theorem all_mk {w : World} {K : PySem.W.Frag} {h : Heap} {mg : Str → Option Value} (X : K.In h) (G : h.Ns mainGlobals mg)
    {ts : List Addr} {C_LayoutError : Addr} {C_InvalidDoc : Addr} {C_InvalidBound : Addr} {C_InvalidText : Addr} {C_InvalidValue : Addr} {C_InvalidCall : Addr} {C_LimitExceeded : Addr} {C_Doc : Addr} {nm_Doc q_Doc : Str} {N_Doc : Addr} {bs_Doc sub_Doc : List Value} {sn_Doc : List Str} {ab_Doc : Bool} {col_Doc : Option Bool} {dd_Doc : Option Addr} {k0_Doc k1_Doc k2_Doc k3_Doc k5_Doc : Option Value} {oc_Doc : Value} {od_Doc : Option Addr} {es_Doc : Array DictEntry} {n_Doc : Nat} {sl_Doc : Array (Option Value)} {f_Doc___init__ : Addr} {oc_Doc___init__ kV_Doc___init__ dc_Doc___init__ pm_Doc___init__ cd_Doc___init__ ct_Doc___init__ : Value} {od_Doc___init__ an_Doc___init__ : Option Addr} {sl_Doc___init__ : Array (Option Value)} {f_Doc___eq__ : Addr} {oc_Doc___eq__ kV_Doc___eq__ dc_Doc___eq__ pm_Doc___eq__ cd_Doc___eq__ ct_Doc___eq__ : Value} {od_Doc___eq__ an_Doc___eq__ : Option Addr} {sl_Doc___eq__ : Array (Option Value)} {f_Doc_row_list : Addr} {oc_Doc_row_list kV_Doc_row_list dc_Doc_row_list pm_Doc_row_list cd_Doc_row_list ct_Doc_row_list : Value} {od_Doc_row_list an_Doc_row_list : Option Addr} {sl_Doc_row_list : Array (Option Value)} {enm_InvalidDoc eq_InvalidDoc : Str} {eN_InvalidDoc : Addr} {ebs_InvalidDoc ebm_InvalidDoc esub_InvalidDoc : List Value} {esn_InvalidDoc : List Str} {eab_InvalidDoc : Bool} {ecol_InvalidDoc : Option Bool} {edd_InvalidDoc : Option Addr} {ek0_InvalidDoc ek1_InvalidDoc ek2_InvalidDoc ek3_InvalidDoc ek5_InvalidDoc : Option Value} {f_InvalidDoc___init__ : Addr} {oc_InvalidDoc___init__ kV_InvalidDoc___init__ dc_InvalidDoc___init__ pm_InvalidDoc___init__ cd_InvalidDoc___init__ ct_InvalidDoc___init__ : Value} {od_InvalidDoc___init__ an_InvalidDoc___init__ : Option Addr} {sl_InvalidDoc___init__ : Array (Option Value)} {f__wall : Addr} {oc__wall kV__wall dc__wall pm__wall cd__wall ct__wall : Value} {od__wall an__wall : Option Addr} {sl__wall : Array (Option Value)} {f__shown : Addr} {oc__shown kV__shown dc__shown pm__shown cd__shown ct__shown : Value} {od__shown an__shown : Option Addr} {sl__shown : Array (Option Value)} {f_is_integer : Addr} {oc_is_integer kV_is_integer dc_is_integer pm_is_integer cd_is_integer ct_is_integer : Value} {od_is_integer an_is_integer : Option Addr} {sl_is_integer : Array (Option Value)} {f_is_between : Addr} {oc_is_between kV_is_between dc_is_between pm_is_between cd_is_between ct_is_between : Value} {od_is_between an_is_between : Option Addr} {sl_is_between : Array (Option Value)} {f_copied_row : Addr} {oc_copied_row kV_copied_row dc_copied_row pm_copied_row cd_copied_row ct_copied_row : Value} {od_copied_row an_copied_row : Option Addr} {sl_copied_row : Array (Option Value)} {f_is_row : Addr} {oc_is_row kV_is_row dc_is_row pm_is_row cd_is_row ct_is_row : Value} {od_is_row an_is_row : Option Addr} {sl_is_row : Array (Option Value)} {f__checked_rows : Addr} {oc__checked_rows kV__checked_rows dc__checked_rows pm__checked_rows cd__checked_rows ct__checked_rows : Value} {od__checked_rows an__checked_rows : Option Addr} {sl__checked_rows : Array (Option Value)} {f__is_signs : Addr} {oc__is_signs kV__is_signs dc__is_signs pm__is_signs cd__is_signs ct__is_signs : Value} {od__is_signs an__is_signs : Option Addr} {sl__is_signs : Array (Option Value)} {f__is_parts : Addr} {oc__is_parts kV__is_parts dc__is_parts pm__is_parts cd__is_parts ct__is_parts : Value} {od__is_parts an__is_parts : Option Addr} {sl__is_parts : Array (Option Value)} {f__law_cell_at : Addr} {oc__law_cell_at kV__law_cell_at dc__law_cell_at pm__law_cell_at cd__law_cell_at ct__law_cell_at : Value} {od__law_cell_at an__law_cell_at : Option Addr} {sl__law_cell_at : Array (Option Value)} {f__law_source_of : Addr} {oc__law_source_of kV__law_source_of dc__law_source_of pm__law_source_of cd__law_source_of ct__law_source_of : Value} {od__law_source_of an__law_source_of : Option Addr} {sl__law_source_of : Array (Option Value)} {f__law_next : Addr} {oc__law_next kV__law_next dc__law_next pm__law_next cd__law_next ct__law_next : Value} {od__law_next an__law_next : Option Addr} {sl__law_next : Array (Option Value)} {f__law_one : Addr} {oc__law_one kV__law_one dc__law_one pm__law_one cd__law_one ct__law_one : Value} {od__law_one an__law_one : Option Addr} {sl__law_one : Array (Option Value)} {f__law_signs : Addr} {oc__law_signs kV__law_signs dc__law_signs pm__law_signs cd__law_signs ct__law_signs : Value} {od__law_signs an__law_signs : Option Addr} {sl__law_signs : Array (Option Value)} {f__law_row : Addr} {oc__law_row kV__law_row dc__law_row pm__law_row cd__law_row ct__law_row : Value} {od__law_row an__law_row : Option Addr} {sl__law_row : Array (Option Value)} {f__law_rows : Addr} {oc__law_rows kV__law_rows dc__law_rows pm__law_rows cd__law_rows ct__law_rows : Value} {od__law_rows an__law_rows : Option Addr} {sl__law_rows : Array (Option Value)} {f__law_said : Addr} {oc__law_said kV__law_said dc__law_said pm__law_said cd__law_said ct__law_said : Value} {od__law_said an__law_said : Option Addr} {sl__law_said : Array (Option Value)} {f__law_odd : Addr} {oc__law_odd kV__law_odd dc__law_odd pm__law_odd cd__law_odd ct__law_odd : Value} {od__law_odd an__law_odd : Option Addr} {sl__law_odd : Array (Option Value)} {f__law_edge : Addr} {oc__law_edge kV__law_edge dc__law_edge pm__law_edge cd__law_edge ct__law_edge : Value} {od__law_edge an__law_edge : Option Addr} {sl__law_edge : Array (Option Value)} {f__law_deep_right : Addr} {oc__law_deep_right kV__law_deep_right dc__law_deep_right pm__law_deep_right cd__law_deep_right ct__law_deep_right : Value} {od__law_deep_right an__law_deep_right : Option Addr} {sl__law_deep_right : Array (Option Value)} {f_law : Addr} {oc_law kV_law dc_law pm_law cd_law ct_law : Value} {od_law an_law : Option Addr} {sl_law : Array (Option Value)} {t_MOST_ROWS : Tok} {t_MOST_PARTS : Tok} {t_MOST_NEST : Tok} {t_MOST_TEXT_SIGNS : Tok} {t_MOST_LINE_SIGNS : Tok} {D_ROW_LENGTHS : Addr} {es_ROW_LENGTHS : Array DictEntry} {n_ROW_LENGTHS : Nat} {t_ROW_LENGTHS_text : Tok} {t_ROW_LENGTHS_line : Tok} {t_ROW_LENGTHS_hard : Tok} {t_ROW_LENGTHS_cat : Tok} {t_ROW_LENGTHS_nest : Tok} {t_ROW_LENGTHS_align : Tok} {t_ROW_LENGTHS_group : Tok} {cc_law cP_law : Addr} {cc__law_deep_right cP__law_deep_right : Addr}
    (a_LayoutError : PySem.W.nsIn K mainGlobals "LayoutError" = some (some (.ref C_LayoutError)))
    (a_InvalidDoc : PySem.W.nsIn K mainGlobals "InvalidDoc" = some (some (.ref C_InvalidDoc)))
    (a_InvalidBound : PySem.W.nsIn K mainGlobals "InvalidBound" = some (some (.ref C_InvalidBound)))
    (a_InvalidText : PySem.W.nsIn K mainGlobals "InvalidText" = some (some (.ref C_InvalidText)))
    (a_InvalidValue : PySem.W.nsIn K mainGlobals "InvalidValue" = some (some (.ref C_InvalidValue)))
    (a_InvalidCall : PySem.W.nsIn K mainGlobals "InvalidCall" = some (some (.ref C_InvalidCall)))
    (a_LimitExceeded : PySem.W.nsIn K mainGlobals "LimitExceeded" = some (some (.ref C_LimitExceeded)))
    (a_Doc : PySem.W.nsIn K mainGlobals "Doc" = some (some (.ref C_Doc)))
    (fi_Doc___init__ : PySem.W.findIn K (.ref C_Doc) "__init__" = some (some (.ref f_Doc___init__)))
    (fi_Doc___eq__ : PySem.W.findIn K (.ref C_Doc) "__eq__" = some (some (.ref f_Doc___eq__)))
    (fi_Doc_row_list : PySem.W.findIn K (.ref C_Doc) "row_list" = some (some (.ref f_Doc_row_list)))
    (fi_InvalidDoc___init__ : PySem.W.findIn K (.ref C_InvalidDoc) "__init__" = some (some (.ref f_InvalidDoc___init__)))
    (fi__wall : PySem.W.nsIn K mainGlobals "_wall" = some (some (.ref f__wall)))
    (fi__shown : PySem.W.nsIn K mainGlobals "_shown" = some (some (.ref f__shown)))
    (fi_is_integer : PySem.W.nsIn K mainGlobals "is_integer" = some (some (.ref f_is_integer)))
    (fi_is_between : PySem.W.nsIn K mainGlobals "is_between" = some (some (.ref f_is_between)))
    (fi_copied_row : PySem.W.nsIn K mainGlobals "copied_row" = some (some (.ref f_copied_row)))
    (fi_is_row : PySem.W.nsIn K mainGlobals "is_row" = some (some (.ref f_is_row)))
    (fi__checked_rows : PySem.W.nsIn K mainGlobals "_checked_rows" = some (some (.ref f__checked_rows)))
    (fi__is_signs : PySem.W.nsIn K mainGlobals "_is_signs" = some (some (.ref f__is_signs)))
    (fi__is_parts : PySem.W.nsIn K mainGlobals "_is_parts" = some (some (.ref f__is_parts)))
    (fi__law_cell_at : PySem.W.nsIn K mainGlobals "_law_cell_at" = some (some (.ref f__law_cell_at)))
    (fi__law_source_of : PySem.W.nsIn K mainGlobals "_law_source_of" = some (some (.ref f__law_source_of)))
    (fi__law_next : PySem.W.nsIn K mainGlobals "_law_next" = some (some (.ref f__law_next)))
    (fi__law_one : PySem.W.nsIn K mainGlobals "_law_one" = some (some (.ref f__law_one)))
    (fi__law_signs : PySem.W.nsIn K mainGlobals "_law_signs" = some (some (.ref f__law_signs)))
    (fi__law_row : PySem.W.nsIn K mainGlobals "_law_row" = some (some (.ref f__law_row)))
    (fi__law_rows : PySem.W.nsIn K mainGlobals "_law_rows" = some (some (.ref f__law_rows)))
    (fi__law_said : PySem.W.nsIn K mainGlobals "_law_said" = some (some (.ref f__law_said)))
    (fi__law_odd : PySem.W.nsIn K mainGlobals "_law_odd" = some (some (.ref f__law_odd)))
    (fi__law_edge : PySem.W.nsIn K mainGlobals "_law_edge" = some (some (.ref f__law_edge)))
    (fi__law_deep_right : PySem.W.nsIn K mainGlobals "_law_deep_right" = some (some (.ref f__law_deep_right)))
    (fi_law : PySem.W.nsIn K mainGlobals "law" = some (some (.ref f_law)))
    (pg_Doc : PySem.W.plainGet K C_Doc Str.empty = true)
    (hd_Doc : PySem.W.hasDictIn K C_Doc = true)
    (po_Doc : PySem.W.plainOver K C_Doc = true)
    (sa_Doc : PySem.W.findIn K (.ref C_Doc) "__setattr__" = some (some (.builtin "object.__setattr__")))
    (mk_Doc : PySem.W.makesIn K C_Doc = true)
    (kc_Doc : PySem.W.keepIn K (.ref C_Doc) = true)
    (na_Doc__rows : PySem.W.findIn K (.ref C_Doc) "_rows" = some none)
    (na_Doc_facts : PySem.W.findIn K (.ref C_Doc) "facts" = some none)
    (na_Doc_group_facts : PySem.W.findIn K (.ref C_Doc) "group_facts" = some none)
    (i_Doc_1 : PySem.W.findIn K (.ref C_Doc) "__class__" = some (some (.builtin "object.__class__")))
    (i_Doc_2 : PySem.W.specialIn K (.builtin "object.__class__") "__get__" = some (some (.builtin "getset_descriptor.__get__")))
    (i_Doc_3 : PySem.W.takesIn K (.builtin "object.__class__") = some true)
    (i_Doc_4 : PySem.W.mroIn K C_Doc (.type "object") = some true)
    (ic_Doc : PySem.W.isClsIn K C_Doc = true)
    (tc_Doc : PySem.W.typeIn K (.ref C_Doc) = some (.type "type"))
    (i_Doc_6 : PySem.W.subIn K (.type "int") (.ref C_Doc) = some false)
    (i_Doc_7 : PySem.W.subIn K (.type "NoneType") (.ref C_Doc) = some false)
    (i_Doc_8 : PySem.W.subIn K (.type "list") (.ref C_Doc) = some false)
    (i_Doc_9 : PySem.W.notFirst K C_Doc (.ref C_Doc) = true)
    (i_Doc_10 : PySem.W.notFirst K C_Doc (.type "int") = true)
    (i_Doc_11 : PySem.W.notFirst K C_Doc (.type "NoneType") = true)
    (i_Doc_12 : PySem.W.notFirst K C_Doc (.type "list") = true)
    (ne_Doc_1 : K.lookup C_Doc = some (excClassObj nm_Doc q_Doc C_Doc N_Doc bs_Doc [.type "object"] true sn_Doc sub_Doc ab_Doc col_Doc dd_Doc k0_Doc k1_Doc k2_Doc k3_Doc k5_Doc "object.__new__"))
    (ne_Doc_2 : K.lookup N_Doc = some ⟨oc_Doc, od_Doc, .dict es_Doc n_Doc, sl_Doc⟩)
    (ne_Doc_3 : PySem.W.KeysLit w.params es_Doc.toList)
    (ne_Doc_4 : PySem.W.nsIn K N_Doc "__eq__" = some (some (.ref f_Doc___eq__)))
    (ne_Doc_5 : PySem.W.nsIn K N_Doc "__ne__" = some none)
    (is_Doc___init__ : PySem.W.isFn K (.ref f_Doc___init__) = true)
    (l_Doc___init__ : K.lookup f_Doc___init__ = some ⟨oc_Doc___init__, od_Doc___init__, .func (PySem.W.fnOf "__init__" "Doc.__init__" (defArgs s_Doc___init__) (defBody s_Doc___init__) (defScope s_Doc___init__) .none kV_Doc___init__ dc_Doc___init__ pm_Doc___init__ an_Doc___init__ cd_Doc___init__ ct_Doc___init__), sl_Doc___init__⟩)
    (cn_Doc___init__ : PySem.W.codeIn K cd_Doc___init__ "Doc.__init__" = true)
    (kp_Doc___init__ : PySem.W.keepIn K (.ref f_Doc___init__) = true)
    (is_Doc___eq__ : PySem.W.isFn K (.ref f_Doc___eq__) = true)
    (l_Doc___eq__ : K.lookup f_Doc___eq__ = some ⟨oc_Doc___eq__, od_Doc___eq__, .func (PySem.W.fnOf "__eq__" "Doc.__eq__" (defArgs s_Doc___eq__) (defBody s_Doc___eq__) (defScope s_Doc___eq__) .none kV_Doc___eq__ dc_Doc___eq__ pm_Doc___eq__ an_Doc___eq__ cd_Doc___eq__ ct_Doc___eq__), sl_Doc___eq__⟩)
    (cn_Doc___eq__ : PySem.W.codeIn K cd_Doc___eq__ "Doc.__eq__" = true)
    (kp_Doc___eq__ : PySem.W.keepIn K (.ref f_Doc___eq__) = true)
    (is_Doc_row_list : PySem.W.isFn K (.ref f_Doc_row_list) = true)
    (l_Doc_row_list : K.lookup f_Doc_row_list = some ⟨oc_Doc_row_list, od_Doc_row_list, .func (PySem.W.fnOf "row_list" "Doc.row_list" (defArgs s_Doc_row_list) (defBody s_Doc_row_list) (defScope s_Doc_row_list) .none kV_Doc_row_list dc_Doc_row_list pm_Doc_row_list an_Doc_row_list cd_Doc_row_list ct_Doc_row_list), sl_Doc_row_list⟩)
    (cn_Doc_row_list : PySem.W.codeIn K cd_Doc_row_list "Doc.row_list" = true)
    (kp_Doc_row_list : PySem.W.keepIn K (.ref f_Doc_row_list) = true)
    (sup_rd : PySem.W.readsIn K C_LayoutError (.type "type") = true)
    (sup_ga : PySem.W.specialIn K (.ref C_LayoutError) "__getattribute__" = some (some (.builtin "type.__getattribute__")))
    (sup_at : PySem.W.findCls K (.ref C_LayoutError) (.type "type") "__init__" = some (.val (.builtin "ArithmeticError.__init__")))
    (sup_ex : PySem.W.subIn K (.ref C_LayoutError) (.type "BaseException") = some true)
    (sup_hd : PySem.W.hasDictIn K C_LayoutError = true)
    (sup_ty : PySem.W.typeIn K (.ref C_LayoutError) = some (.type "type"))
    (exg_n : PySem.W.specialIn K (.builtin "object.__class__") "__get__" = some (some (.builtin "getset_descriptor.__get__")))
    (exg_t : PySem.W.takesIn K (.builtin "object.__class__") = some true)
    (ec_InvalidDoc : K.lookup C_InvalidDoc = some (excClassObj enm_InvalidDoc eq_InvalidDoc C_InvalidDoc eN_InvalidDoc ebs_InvalidDoc ebm_InvalidDoc true esn_InvalidDoc esub_InvalidDoc eab_InvalidDoc ecol_InvalidDoc edd_InvalidDoc ek0_InvalidDoc ek1_InvalidDoc ek2_InvalidDoc ek3_InvalidDoc ek5_InvalidDoc "ArithmeticError.__new__"))
    (eo_InvalidDoc : AX.overA ebm_InvalidDoc = true)
    (esa_InvalidDoc : PySem.W.findIn K (.ref C_InvalidDoc) "__setattr__" = some (some (.builtin "object.__setattr__")))
    (eex_InvalidDoc : PySem.W.subIn K (.ref C_InvalidDoc) (.type "BaseException") = some true)
    (ety_InvalidDoc : PySem.W.typeIn K (.ref C_InvalidDoc) = some (.type "type"))
    (ekp_InvalidDoc : PySem.W.keepIn K (.ref C_InvalidDoc) = true)
    (xg_InvalidDoc : PySem.W.findIn K (.ref C_InvalidDoc) "__getattribute__" = some (some (.builtin "BaseException.__getattribute__")))
    (xk_InvalidDoc : PySem.W.findIn K (.ref C_InvalidDoc) "__getattr__" = some none)
    (xd_InvalidDoc : PySem.W.hasDictIn K C_InvalidDoc = true)
    (xa_InvalidDoc : PySem.W.findIn K (.ref C_InvalidDoc) "__class__" = some (some (.builtin "object.__class__")))
    (xm_InvalidDoc : PySem.W.mroIn K C_InvalidDoc (.type "object") = some true)
    (xs_InvalidDoc : PySem.W.subIn K (.ref C_InvalidDoc) (.ref C_LayoutError) = some true)
    (kt_InvalidDoc_Arith : PySem.W.kitOne K (.ref C_InvalidDoc) (.type "ArithmeticError") = some true)
    (na_InvalidDoc_at : PySem.W.findIn K (.ref C_InvalidDoc) "at" = some none)
    (kt_InvalidDoc_InvalidBound : PySem.W.kitOne K (.ref C_InvalidDoc) (.ref C_InvalidBound) = some false)
    (kt_InvalidDoc_InvalidText : PySem.W.kitOne K (.ref C_InvalidDoc) (.ref C_InvalidText) = some false)
    (kt_InvalidDoc_InvalidValue : PySem.W.kitOne K (.ref C_InvalidDoc) (.ref C_InvalidValue) = some false)
    (kt_InvalidDoc_InvalidCall : PySem.W.kitOne K (.ref C_InvalidDoc) (.ref C_InvalidCall) = some false)
    (kt_InvalidDoc_LimitExceeded : PySem.W.kitOne K (.ref C_InvalidDoc) (.ref C_LimitExceeded) = some false)
    (l_InvalidDoc___init__ : K.lookup f_InvalidDoc___init__ = some ⟨oc_InvalidDoc___init__, od_InvalidDoc___init__, .func (PySem.W.fnOf "__init__" "InvalidDoc.__init__" (defArgs s_InvalidDoc___init__) (defBody s_InvalidDoc___init__) (defScope s_InvalidDoc___init__) .none kV_InvalidDoc___init__ dc_InvalidDoc___init__ pm_InvalidDoc___init__ an_InvalidDoc___init__ cd_InvalidDoc___init__ ct_InvalidDoc___init__), sl_InvalidDoc___init__⟩)
    (cn_InvalidDoc___init__ : PySem.W.codeIn K cd_InvalidDoc___init__ "InvalidDoc.__init__" = true)
    (kp_InvalidDoc___init__ : PySem.W.keepIn K (.ref f_InvalidDoc___init__) = true)
    (tyf_InvalidDoc___init__ : PySem.W.typeIn K (.ref f_InvalidDoc___init__) = some (.type "function"))
    (l__wall : K.lookup f__wall = some ⟨oc__wall, od__wall, .func (PySem.W.fnOf "_wall" "_wall" (defArgs s__wall) (defBody s__wall) (defScope s__wall) .none kV__wall dc__wall pm__wall an__wall cd__wall ct__wall), sl__wall⟩)
    (cn__wall : PySem.W.codeIn K cd__wall "_wall" = true)
    (kp__wall : PySem.W.keepIn K (.ref f__wall) = true)
    (l__shown : K.lookup f__shown = some ⟨oc__shown, od__shown, .func (PySem.W.fnOf "_shown" "_shown" (defArgs s__shown) (defBody s__shown) (defScope s__shown) .none kV__shown dc__shown pm__shown an__shown cd__shown ct__shown), sl__shown⟩)
    (cn__shown : PySem.W.codeIn K cd__shown "_shown" = true)
    (kp__shown : PySem.W.keepIn K (.ref f__shown) = true)
    (l_is_integer : K.lookup f_is_integer = some ⟨oc_is_integer, od_is_integer, .func (PySem.W.fnOf "is_integer" "is_integer" (defArgs s_is_integer) (defBody s_is_integer) (defScope s_is_integer) .none kV_is_integer dc_is_integer pm_is_integer an_is_integer cd_is_integer ct_is_integer), sl_is_integer⟩)
    (cn_is_integer : PySem.W.codeIn K cd_is_integer "is_integer" = true)
    (kp_is_integer : PySem.W.keepIn K (.ref f_is_integer) = true)
    (l_is_between : K.lookup f_is_between = some ⟨oc_is_between, od_is_between, .func (PySem.W.fnOf "is_between" "is_between" (defArgs s_is_between) (defBody s_is_between) (defScope s_is_between) .none kV_is_between dc_is_between pm_is_between an_is_between cd_is_between ct_is_between), sl_is_between⟩)
    (cn_is_between : PySem.W.codeIn K cd_is_between "is_between" = true)
    (kp_is_between : PySem.W.keepIn K (.ref f_is_between) = true)
    (l_copied_row : K.lookup f_copied_row = some ⟨oc_copied_row, od_copied_row, .func (PySem.W.fnOf "copied_row" "copied_row" (defArgs s_copied_row) (defBody s_copied_row) (defScope s_copied_row) .none kV_copied_row dc_copied_row pm_copied_row an_copied_row cd_copied_row ct_copied_row), sl_copied_row⟩)
    (cn_copied_row : PySem.W.codeIn K cd_copied_row "copied_row" = true)
    (kp_copied_row : PySem.W.keepIn K (.ref f_copied_row) = true)
    (l_is_row : K.lookup f_is_row = some ⟨oc_is_row, od_is_row, .func (PySem.W.fnOf "is_row" "is_row" (defArgs s_is_row) (defBody s_is_row) (defScope s_is_row) .none kV_is_row dc_is_row pm_is_row an_is_row cd_is_row ct_is_row), sl_is_row⟩)
    (cn_is_row : PySem.W.codeIn K cd_is_row "is_row" = true)
    (kp_is_row : PySem.W.keepIn K (.ref f_is_row) = true)
    (l__checked_rows : K.lookup f__checked_rows = some ⟨oc__checked_rows, od__checked_rows, .func (PySem.W.fnOf "_checked_rows" "_checked_rows" (defArgs s__checked_rows) (defBody s__checked_rows) (defScope s__checked_rows) .none kV__checked_rows dc__checked_rows pm__checked_rows an__checked_rows cd__checked_rows ct__checked_rows), sl__checked_rows⟩)
    (cn__checked_rows : PySem.W.codeIn K cd__checked_rows "_checked_rows" = true)
    (kp__checked_rows : PySem.W.keepIn K (.ref f__checked_rows) = true)
    (l__is_signs : K.lookup f__is_signs = some ⟨oc__is_signs, od__is_signs, .func (PySem.W.fnOf "_is_signs" "_is_signs" (defArgs s__is_signs) (defBody s__is_signs) (defScope s__is_signs) .none kV__is_signs dc__is_signs pm__is_signs an__is_signs cd__is_signs ct__is_signs), sl__is_signs⟩)
    (cn__is_signs : PySem.W.codeIn K cd__is_signs "_is_signs" = true)
    (kp__is_signs : PySem.W.keepIn K (.ref f__is_signs) = true)
    (l__is_parts : K.lookup f__is_parts = some ⟨oc__is_parts, od__is_parts, .func (PySem.W.fnOf "_is_parts" "_is_parts" (defArgs s__is_parts) (defBody s__is_parts) (defScope s__is_parts) .none kV__is_parts dc__is_parts pm__is_parts an__is_parts cd__is_parts ct__is_parts), sl__is_parts⟩)
    (cn__is_parts : PySem.W.codeIn K cd__is_parts "_is_parts" = true)
    (kp__is_parts : PySem.W.keepIn K (.ref f__is_parts) = true)
    (l__law_cell_at : K.lookup f__law_cell_at = some ⟨oc__law_cell_at, od__law_cell_at, .func (PySem.W.fnOf "_law_cell_at" "_law_cell_at" (defArgs s__law_cell_at) (defBody s__law_cell_at) (defScope s__law_cell_at) .none kV__law_cell_at dc__law_cell_at pm__law_cell_at an__law_cell_at cd__law_cell_at ct__law_cell_at), sl__law_cell_at⟩)
    (cn__law_cell_at : PySem.W.codeIn K cd__law_cell_at "_law_cell_at" = true)
    (kp__law_cell_at : PySem.W.keepIn K (.ref f__law_cell_at) = true)
    (l__law_source_of : K.lookup f__law_source_of = some ⟨oc__law_source_of, od__law_source_of, .func (PySem.W.fnOf "_law_source_of" "_law_source_of" (defArgs s__law_source_of) (defBody s__law_source_of) (defScope s__law_source_of) .none kV__law_source_of dc__law_source_of pm__law_source_of an__law_source_of cd__law_source_of ct__law_source_of), sl__law_source_of⟩)
    (cn__law_source_of : PySem.W.codeIn K cd__law_source_of "_law_source_of" = true)
    (kp__law_source_of : PySem.W.keepIn K (.ref f__law_source_of) = true)
    (l__law_next : K.lookup f__law_next = some ⟨oc__law_next, od__law_next, .func (PySem.W.fnOf "_law_next" "_law_next" (defArgs s__law_next) (defBody s__law_next) (defScope s__law_next) .none kV__law_next dc__law_next pm__law_next an__law_next cd__law_next ct__law_next), sl__law_next⟩)
    (cn__law_next : PySem.W.codeIn K cd__law_next "_law_next" = true)
    (kp__law_next : PySem.W.keepIn K (.ref f__law_next) = true)
    (l__law_one : K.lookup f__law_one = some ⟨oc__law_one, od__law_one, .func (PySem.W.fnOf "_law_one" "_law_one" (defArgs s__law_one) (defBody s__law_one) (defScope s__law_one) .none kV__law_one dc__law_one pm__law_one an__law_one cd__law_one ct__law_one), sl__law_one⟩)
    (cn__law_one : PySem.W.codeIn K cd__law_one "_law_one" = true)
    (kp__law_one : PySem.W.keepIn K (.ref f__law_one) = true)
    (l__law_signs : K.lookup f__law_signs = some ⟨oc__law_signs, od__law_signs, .func (PySem.W.fnOf "_law_signs" "_law_signs" (defArgs s__law_signs) (defBody s__law_signs) (defScope s__law_signs) .none kV__law_signs dc__law_signs pm__law_signs an__law_signs cd__law_signs ct__law_signs), sl__law_signs⟩)
    (cn__law_signs : PySem.W.codeIn K cd__law_signs "_law_signs" = true)
    (kp__law_signs : PySem.W.keepIn K (.ref f__law_signs) = true)
    (l__law_row : K.lookup f__law_row = some ⟨oc__law_row, od__law_row, .func (PySem.W.fnOf "_law_row" "_law_row" (defArgs s__law_row) (defBody s__law_row) (defScope s__law_row) .none kV__law_row dc__law_row pm__law_row an__law_row cd__law_row ct__law_row), sl__law_row⟩)
    (cn__law_row : PySem.W.codeIn K cd__law_row "_law_row" = true)
    (kp__law_row : PySem.W.keepIn K (.ref f__law_row) = true)
    (l__law_rows : K.lookup f__law_rows = some ⟨oc__law_rows, od__law_rows, .func (PySem.W.fnOf "_law_rows" "_law_rows" (defArgs s__law_rows) (defBody s__law_rows) (defScope s__law_rows) .none kV__law_rows dc__law_rows pm__law_rows an__law_rows cd__law_rows ct__law_rows), sl__law_rows⟩)
    (cn__law_rows : PySem.W.codeIn K cd__law_rows "_law_rows" = true)
    (kp__law_rows : PySem.W.keepIn K (.ref f__law_rows) = true)
    (l__law_said : K.lookup f__law_said = some ⟨oc__law_said, od__law_said, .func (PySem.W.fnOf "_law_said" "_law_said" (defArgs s__law_said) (defBody s__law_said) (defScope s__law_said) .none kV__law_said dc__law_said pm__law_said an__law_said cd__law_said ct__law_said), sl__law_said⟩)
    (cn__law_said : PySem.W.codeIn K cd__law_said "_law_said" = true)
    (kp__law_said : PySem.W.keepIn K (.ref f__law_said) = true)
    (l__law_odd : K.lookup f__law_odd = some ⟨oc__law_odd, od__law_odd, .func (PySem.W.fnOf "_law_odd" "_law_odd" (defArgs s__law_odd) (defBody s__law_odd) (defScope s__law_odd) .none kV__law_odd dc__law_odd pm__law_odd an__law_odd cd__law_odd ct__law_odd), sl__law_odd⟩)
    (cn__law_odd : PySem.W.codeIn K cd__law_odd "_law_odd" = true)
    (kp__law_odd : PySem.W.keepIn K (.ref f__law_odd) = true)
    (l__law_edge : K.lookup f__law_edge = some ⟨oc__law_edge, od__law_edge, .func (PySem.W.fnOf "_law_edge" "_law_edge" (defArgs s__law_edge) (defBody s__law_edge) (defScope s__law_edge) .none kV__law_edge dc__law_edge pm__law_edge an__law_edge cd__law_edge ct__law_edge), sl__law_edge⟩)
    (cn__law_edge : PySem.W.codeIn K cd__law_edge "_law_edge" = true)
    (kp__law_edge : PySem.W.keepIn K (.ref f__law_edge) = true)
    (l__law_deep_right : K.lookup f__law_deep_right = some ⟨oc__law_deep_right, od__law_deep_right, .func (PySem.W.fnOf "_law_deep_right" "_law_deep_right" (defArgs s__law_deep_right) (defBody s__law_deep_right) (defScope s__law_deep_right) .none kV__law_deep_right dc__law_deep_right pm__law_deep_right an__law_deep_right cd__law_deep_right ct__law_deep_right), sl__law_deep_right⟩)
    (cn__law_deep_right : PySem.W.codeIn K cd__law_deep_right "_law_deep_right" = true)
    (kp__law_deep_right : PySem.W.keepIn K (.ref f__law_deep_right) = true)
    (l_law : K.lookup f_law = some ⟨oc_law, od_law, .func (PySem.W.fnOf "law" "law" (defArgs s_law) (defBody s_law) (defScope s_law) .none kV_law dc_law pm_law an_law cd_law ct_law), sl_law⟩)
    (cn_law : PySem.W.codeIn K cd_law "law" = true)
    (kp_law : PySem.W.keepIn K (.ref f_law) = true)
    (g_MOST_ROWS : PySem.W.nsIn K mainGlobals "MOST_ROWS" = some (some (.int 200 t_MOST_ROWS)))
    (g_MOST_PARTS : PySem.W.nsIn K mainGlobals "MOST_PARTS" = some (some (.int 8 t_MOST_PARTS)))
    (g_MOST_NEST : PySem.W.nsIn K mainGlobals "MOST_NEST" = some (some (.int 8 t_MOST_NEST)))
    (g_MOST_TEXT_SIGNS : PySem.W.nsIn K mainGlobals "MOST_TEXT_SIGNS" = some (some (.int 20 t_MOST_TEXT_SIGNS)))
    (g_MOST_LINE_SIGNS : PySem.W.nsIn K mainGlobals "MOST_LINE_SIGNS" = some (some (.int 3 t_MOST_LINE_SIGNS)))
    (g_ROW_LENGTHS : PySem.W.nsIn K mainGlobals "ROW_LENGTHS" = some (some (.ref D_ROW_LENGTHS)))
    (kl_ROW_LENGTHS : K.lookup D_ROW_LENGTHS = some ⟨.type "dict", none, .dict es_ROW_LENGTHS n_ROW_LENGTHS, #[]⟩)
    (kk_ROW_LENGTHS : PySem.W.KeysLit w.params es_ROW_LENGTHS.toList)
    (kw_ROW_LENGTHS : (D_ROW_LENGTHS == sysModules) = false)
    (ks_ROW_LENGTHS : L2.keysL es_ROW_LENGTHS.toList = some (["text", "line", "hard", "cat", "nest", "align", "group"] : List Str))
    (k_ROW_LENGTHS_text : PySem.W.nsIn K D_ROW_LENGTHS "text" = some (some (.int 2 t_ROW_LENGTHS_text)))
    (k_ROW_LENGTHS_line : PySem.W.nsIn K D_ROW_LENGTHS "line" = some (some (.int 2 t_ROW_LENGTHS_line)))
    (k_ROW_LENGTHS_hard : PySem.W.nsIn K D_ROW_LENGTHS "hard" = some (some (.int 1 t_ROW_LENGTHS_hard)))
    (k_ROW_LENGTHS_cat : PySem.W.nsIn K D_ROW_LENGTHS "cat" = some (some (.int 2 t_ROW_LENGTHS_cat)))
    (k_ROW_LENGTHS_nest : PySem.W.nsIn K D_ROW_LENGTHS "nest" = some (some (.int 3 t_ROW_LENGTHS_nest)))
    (k_ROW_LENGTHS_align : PySem.W.nsIn K D_ROW_LENGTHS "align" = some (some (.int 2 t_ROW_LENGTHS_align)))
    (k_ROW_LENGTHS_group : PySem.W.nsIn K D_ROW_LENGTHS "group" = some (some (.int 2 t_ROW_LENGTHS_group)))
    (z_ArithmeticError : PySem.W.nsIn K mainGlobals "ArithmeticError" = some none)
    (z_bool : PySem.W.nsIn K mainGlobals "bool" = some none)
    (z_enumerate : PySem.W.nsIn K mainGlobals "enumerate" = some none)
    (z_int : PySem.W.nsIn K mainGlobals "int" = some none)
    (z_isinstance : PySem.W.nsIn K mainGlobals "isinstance" = some none)
    (z_len : PySem.W.nsIn K mainGlobals "len" = some none)
    (z_list : PySem.W.nsIn K mainGlobals "list" = some none)
    (z_max : PySem.W.nsIn K mainGlobals "max" = some none)
    (z_range : PySem.W.nsIn K mainGlobals "range" = some none)
    (z_repr : PySem.W.nsIn K mainGlobals "repr" = some none)
    (z_str : PySem.W.nsIn K mainGlobals "str" = some none)
    (z_tuple : PySem.W.nsIn K mainGlobals "tuple" = some none)
    (kx_str_Doc : PySem.W.kitOne K (.type "str") (.ref C_Doc) = some false)
    (kx_dict_Doc : PySem.W.kitOne K (.type "dict") (.ref C_Doc) = some false)
    (kx_Doc_str : PySem.W.kitOne K (.ref C_Doc) (.type "str") = some false)
    (ab_Group : PySem.W.nsIn K D_ROW_LENGTHS "Group" = some none)
    (ab_fold : PySem.W.nsIn K D_ROW_LENGTHS "fold" = some none)
    (kx_Doc_list : PySem.W.kitOne K (.ref C_Doc) (.type "list") = some false)
    (cd_of_law : cd_law = .ref cc_law)
    (tab_law : PySem.W.tabIn K "law" = some (cc_law, cP_law))
    (hd_of_law : PySem.W.codeHdIn K cc_law cP_law = true)
    (no_law : K.lookup cP_law = none)
    (cd_of__law_deep_right : cd__law_deep_right = .ref cc__law_deep_right)
    (tab__law_deep_right : PySem.W.tabIn K "_law_deep_right" = some (cc__law_deep_right, cP__law_deep_right))
    (hd_of__law_deep_right : PySem.W.codeHdIn K cc__law_deep_right cP__law_deep_right = true)
    (no__law_deep_right : K.lookup cP__law_deep_right = none)
    (nt__law_deep_right : cP_law ≠ cP__law_deep_right)
    (mt__law_deep_right : cP__law_deep_right ∈ ts)
    : ∃ W fl, Txt w K mg W ∧ W.tp__law_deep_right ∈ ts ∧ cP_law ≠ W.tp__law_deep_right ∧ ∃ fd, mg "law" = some (.ref fl) ∧ Fun K "law" "law" s_law fl fd ∧ Binds K fd ["_law_script"] [] ∧ fd.code = .ref cc_law ∧ PySem.W.codeHdIn K cc_law cP_law = true ∧ K.lookup cP_law = none := by
  have F_law := fun_mk (st := s_law) l_law cn_law kp_law
  refine ⟨{ c_LayoutError := C_LayoutError, c_InvalidDoc := C_InvalidDoc, c_InvalidBound := C_InvalidBound, c_InvalidText := C_InvalidText, c_InvalidValue := C_InvalidValue, c_InvalidCall := C_InvalidCall, c_LimitExceeded := C_LimitExceeded, c_Doc := C_Doc, ROW_LENGTHS := D_ROW_LENGTHS, tc__law_deep_right := cc__law_deep_right, tp__law_deep_right := cP__law_deep_right }, f_law, {
      n_ArithmeticError := PySem.W.mg_none_of X G z_ArithmeticError,
      n_bool := PySem.W.mg_none_of X G z_bool,
      n_enumerate := PySem.W.mg_none_of X G z_enumerate,
      n_int := PySem.W.mg_none_of X G z_int,
      n_isinstance := PySem.W.mg_none_of X G z_isinstance,
      n_len := PySem.W.mg_none_of X G z_len,
      n_list := PySem.W.mg_none_of X G z_list,
      n_max := PySem.W.mg_none_of X G z_max,
      n_range := PySem.W.mg_none_of X G z_range,
      n_repr := PySem.W.mg_none_of X G z_repr,
      n_str := PySem.W.mg_none_of X G z_str,
      n_tuple := PySem.W.mg_none_of X G z_tuple,
      g_MOST_ROWS := ⟨t_MOST_ROWS, PySem.W.mg_of X G g_MOST_ROWS⟩,
      g_MOST_PARTS := ⟨t_MOST_PARTS, PySem.W.mg_of X G g_MOST_PARTS⟩,
      g_MOST_NEST := ⟨t_MOST_NEST, PySem.W.mg_of X G g_MOST_NEST⟩,
      g_MOST_TEXT_SIGNS := ⟨t_MOST_TEXT_SIGNS, PySem.W.mg_of X G g_MOST_TEXT_SIGNS⟩,
      g_MOST_LINE_SIGNS := ⟨t_MOST_LINE_SIGNS, PySem.W.mg_of X G g_MOST_LINE_SIGNS⟩,
      g_ROW_LENGTHS := PySem.W.mg_of X G g_ROW_LENGTHS,
      k_ROW_LENGTHS := ⟨_, _, kl_ROW_LENGTHS, kk_ROW_LENGTHS, kw_ROW_LENGTHS⟩,
      kt_ROW_LENGTHS := ⟨_, _, kl_ROW_LENGTHS, kw_ROW_LENGTHS, ks_ROW_LENGTHS⟩,
      k_ROW_LENGTHS_text := ⟨_, k_ROW_LENGTHS_text⟩,
      k_ROW_LENGTHS_line := ⟨_, k_ROW_LENGTHS_line⟩,
      k_ROW_LENGTHS_hard := ⟨_, k_ROW_LENGTHS_hard⟩,
      k_ROW_LENGTHS_cat := ⟨_, k_ROW_LENGTHS_cat⟩,
      k_ROW_LENGTHS_nest := ⟨_, k_ROW_LENGTHS_nest⟩,
      k_ROW_LENGTHS_align := ⟨_, k_ROW_LENGTHS_align⟩,
      k_ROW_LENGTHS_group := ⟨_, k_ROW_LENGTHS_group⟩,
      c_LayoutError := PySem.W.mg_of X G a_LayoutError,
      c_InvalidDoc := PySem.W.mg_of X G a_InvalidDoc,
      c_InvalidBound := PySem.W.mg_of X G a_InvalidBound,
      c_InvalidText := PySem.W.mg_of X G a_InvalidText,
      c_InvalidValue := PySem.W.mg_of X G a_InvalidValue,
      c_InvalidCall := PySem.W.mg_of X G a_InvalidCall,
      c_LimitExceeded := PySem.W.mg_of X G a_LimitExceeded,
      c_Doc := PySem.W.mg_of X G a_Doc,
      cl_Doc := ⟨pg_Doc, hd_Doc, po_Doc, sa_Doc⟩,
      i_Doc := ⟨i_Doc_1, i_Doc_2, i_Doc_3, i_Doc_4, kit_self, kit_not (by decide) ic_Doc tc_Doc i_Doc_6, kit_not (by decide) ic_Doc tc_Doc i_Doc_7, kit_not (by decide) ic_Doc tc_Doc i_Doc_8, i_Doc_9, i_Doc_10, i_Doc_11, i_Doc_12⟩,
      ne_Doc := ⟨f_Doc___eq__, nm_Doc, q_Doc, N_Doc, bs_Doc, sn_Doc, sub_Doc, ab_Doc, col_Doc, dd_Doc, k0_Doc, k1_Doc, k2_Doc, k3_Doc, k5_Doc, oc_Doc, od_Doc, es_Doc, n_Doc, sl_Doc, ne_Doc_1, ne_Doc_2, strKeys_of ne_Doc_3, ne_Doc_4, ne_Doc_5, fi_Doc___eq__⟩,
      na_Doc__rows := na_Doc__rows,
      na_Doc_facts := na_Doc_facts,
      na_Doc_group_facts := na_Doc_group_facts,
      f_Doc___init__ := methDef_mk (st := s_Doc___init__) fi_Doc___init__ is_Doc___init__ l_Doc___init__ cn_Doc___init__ kp_Doc___init__ (fun _ _ _ _ _ _ us hl => match us, hl with | [_, _], _ => rfl),
      f_Doc___eq__ := methDef_mk (st := s_Doc___eq__) fi_Doc___eq__ is_Doc___eq__ l_Doc___eq__ cn_Doc___eq__ kp_Doc___eq__ (fun _ _ _ _ _ _ us hl => match us, hl with | [_, _], _ => rfl),
      f_Doc_row_list := methDef_mk (st := s_Doc_row_list) fi_Doc_row_list is_Doc_row_list l_Doc_row_list cn_Doc_row_list kp_Doc_row_list (fun _ _ _ _ _ _ us hl => match us, hl with | [_], _ => rfl),
      mk_Doc := ⟨mk_Doc, kc_Doc⟩,
      e_InvalidDoc := ⟨PySem.W.mg_of X G a_InvalidDoc, ⟨⟨_, _, _, _, _, _, _, _, _, _, _, _, _, _, _, ec_InvalidDoc, eo_InvalidDoc⟩, esa_InvalidDoc, eex_InvalidDoc, ety_InvalidDoc, ekp_InvalidDoc⟩, f_InvalidDoc___init__, _, fi_InvalidDoc___init__, tyf_InvalidDoc___init__, fun_mk (st := s_InvalidDoc___init__) l_InvalidDoc___init__ cn_InvalidDoc___init__ kp_InvalidDoc___init__, (fun_mk (st := s_InvalidDoc___init__) l_InvalidDoc___init__ cn_InvalidDoc___init__ kp_InvalidDoc___init__).binds (fun _ _ _ _ _ _ us hl => match us, hl with | [_, _], _ => rfl)⟩,
      x_InvalidDoc := ⟨xg_InvalidDoc, xk_InvalidDoc, eex_InvalidDoc, xd_InvalidDoc, xa_InvalidDoc, exg_n, exg_t, xm_InvalidDoc⟩,
      na_InvalidDoc_at := na_InvalidDoc_at,
      exm_InvalidDoc := PySem.W.exm_ref sup_ex sup_hd sup_ty xs_InvalidDoc,
      kt_InvalidDoc_InvalidDoc := kit_self,
      kt_InvalidDoc_InvalidBound := kt_InvalidDoc_InvalidBound,
      kt_InvalidDoc_InvalidText := kt_InvalidDoc_InvalidText,
      kt_InvalidDoc_InvalidValue := kt_InvalidDoc_InvalidValue,
      kt_InvalidDoc_InvalidCall := kt_InvalidDoc_InvalidCall,
      kt_InvalidDoc_LimitExceeded := kt_InvalidDoc_LimitExceeded,
      kt_InvalidDoc_Arith := kt_InvalidDoc_Arith,
      kx_str_Doc := kx_str_Doc,
      kx_dict_Doc := kx_dict_Doc,
      kx_Doc_str := kx_Doc_str,
      ab_Group := ab_Group,
      ab_fold := ab_fold,
      kx_Doc_list := kx_Doc_list,
      sup := ⟨⟨sup_rd, sup_ga⟩, sup_at⟩,
      f__wall := topDef_mk (st := s__wall) X G fi__wall l__wall cn__wall kp__wall (fun _ _ _ _ _ _ us hl => match us, hl with | [_], _ => rfl),
      f__shown := topDef_mk (st := s__shown) X G fi__shown l__shown cn__shown kp__shown (fun _ _ _ _ _ _ us hl => match us, hl with | [_], _ => rfl),
      f_is_integer := topDef_mk (st := s_is_integer) X G fi_is_integer l_is_integer cn_is_integer kp_is_integer (fun _ _ _ _ _ _ us hl => match us, hl with | [_], _ => rfl),
      f_is_between := topDef_mk (st := s_is_between) X G fi_is_between l_is_between cn_is_between kp_is_between (fun _ _ _ _ _ _ us hl => match us, hl with | [_, _, _], _ => rfl),
      f_copied_row := topDef_mk (st := s_copied_row) X G fi_copied_row l_copied_row cn_copied_row kp_copied_row (fun _ _ _ _ _ _ us hl => match us, hl with | [_], _ => rfl),
      f_is_row := topDef_mk (st := s_is_row) X G fi_is_row l_is_row cn_is_row kp_is_row (fun _ _ _ _ _ _ us hl => match us, hl with | [_, _], _ => rfl),
      f__checked_rows := topDef_mk (st := s__checked_rows) X G fi__checked_rows l__checked_rows cn__checked_rows kp__checked_rows (fun _ _ _ _ _ _ us hl => match us, hl with | [_], _ => rfl),
      f__is_signs := topDef_mk (st := s__is_signs) X G fi__is_signs l__is_signs cn__is_signs kp__is_signs (fun _ _ _ _ _ _ us hl => match us, hl with | [_, _], _ => rfl),
      f__is_parts := topDef_mk (st := s__is_parts) X G fi__is_parts l__is_parts cn__is_parts kp__is_parts (fun _ _ _ _ _ _ us hl => match us, hl with | [_, _], _ => rfl),
      f__law_cell_at := topDef_mk (st := s__law_cell_at) X G fi__law_cell_at l__law_cell_at cn__law_cell_at kp__law_cell_at (fun _ _ _ _ _ _ us hl => match us, hl with | [_, _], _ => rfl),
      f__law_source_of := topDef_mk (st := s__law_source_of) X G fi__law_source_of l__law_source_of cn__law_source_of kp__law_source_of (fun _ _ _ _ _ _ us hl => match us, hl with | [_], _ => rfl),
      f__law_next := topDef_mk (st := s__law_next) X G fi__law_next l__law_next cn__law_next kp__law_next (fun _ _ _ _ _ _ us hl => match us, hl with | [_, _], _ => rfl),
      f__law_one := topDef_mk (st := s__law_one) X G fi__law_one l__law_one cn__law_one kp__law_one (fun _ _ _ _ _ _ us hl => match us, hl with | [_, _], _ => rfl),
      f__law_signs := topDef_mk (st := s__law_signs) X G fi__law_signs l__law_signs cn__law_signs kp__law_signs (fun _ _ _ _ _ _ us hl => match us, hl with | [_, _], _ => rfl),
      f__law_row := topDef_mk (st := s__law_row) X G fi__law_row l__law_row cn__law_row kp__law_row (fun _ _ _ _ _ _ us hl => match us, hl with | [_, _], _ => rfl),
      f__law_rows := topDef_mk (st := s__law_rows) X G fi__law_rows l__law_rows cn__law_rows kp__law_rows (fun _ _ _ _ _ _ us hl => match us, hl with | [_, _], _ => rfl),
      f__law_said := topDef_mk (st := s__law_said) X G fi__law_said l__law_said cn__law_said kp__law_said (fun _ _ _ _ _ _ us hl => match us, hl with | [_], _ => rfl),
      f__law_odd := topDef_mk (st := s__law_odd) X G fi__law_odd l__law_odd cn__law_odd kp__law_odd (fun _ _ _ _ _ _ us hl => match us, hl with | [_, _], _ => rfl),
      f__law_edge := topDef_mk (st := s__law_edge) X G fi__law_edge l__law_edge cn__law_edge kp__law_edge (fun _ _ _ _ _ _ us hl => match us, hl with | [_], _ => rfl),
      f__law_deep_right := topDef_mk (st := s__law_deep_right) X G fi__law_deep_right l__law_deep_right cn__law_deep_right kp__law_deep_right (fun _ _ _ _ _ _ us hl => match us, hl with | [_], _ => rfl),
      f_law := topDef_mk (st := s_law) X G fi_law l_law cn_law kp_law (fun _ _ _ _ _ _ us hl => match us, hl with | [_], _ => rfl),
      w__law_deep_right := ⟨⟨f__law_deep_right, _, PySem.W.mg_of X G fi__law_deep_right, fun_mk (st := s__law_deep_right) l__law_deep_right cn__law_deep_right kp__law_deep_right, (fun_mk (st := s__law_deep_right) l__law_deep_right cn__law_deep_right kp__law_deep_right).binds (fun _ _ _ _ _ _ us hl => match us, hl with | [_], _ => rfl), cd_of__law_deep_right⟩, hd_of__law_deep_right, no__law_deep_right⟩ }, mt__law_deep_right, nt__law_deep_right, _, PySem.W.mg_of X G fi_law, F_law, F_law.binds (fun _ _ _ _ _ _ us hl => match us, hl with | [_], _ => rfl), cd_of_law, hd_of_law, no_law⟩
theorem two {α : Type} {P : α → Prop} {a b : α} (ha : P a) (hb : P b) : ∀ p ∈ [a, b], P p := fun p hp => by
  rcases List.mem_cons.mp hp with rfl | hp
  · exact ha
  · rw [List.mem_singleton.mp hp]
    exact hb
theorem walk {l : PySem.W.OpenLaw} {q : Program} {loose : List Str} {XP : (Str → Option Value) → Heap → Prop} {YP : World → Heap → Prop} {d : DefRec} {KK : Params → PySem.W.Frag} {ts : List Addr} (hn : l.most = some 63) (hdf : d.params.defaults = []) (hname : d.name = "law")
    (hY : ∀ (w : World) (h : Heap), YP w h → (KK w.params).In h) (hT : ∀ (w : World) (h : Heap), YP w h → ∀ P ∈ ts, h.get? P = some (PySem.W.tabObj #[]))
    (F : ∀ (w : World) (mg : Str → Option Value) (h : Heap), (KK w.params).In h → h.Ns mainGlobals mg → ∃ cC cP : Addr, cP ∈ ts ∧ ∃ W fl, Txt w (KK w.params) mg W ∧ W.tp__law_deep_right ∈ ts ∧ cP ≠ W.tp__law_deep_right ∧ ∃ fd, mg "law" = some (.ref fl) ∧ Fun (KK w.params) "law" "law" s_law fl fd ∧ Binds (KK w.params) fd ["_law_script"] [] ∧
      fd.code = .ref cC ∧ PySem.W.codeHdIn (KK w.params) cC cP = true ∧ (KK w.params).lookup cP = none) :
    PySem.W.WalkO q loose XP YP l.row.toRowW d [] (fun f vs => PySem.call f vs) :=
  walk_ofTs (n := 63) (k := 14) (x := "_law_script") (K := KK) (CX := fun _ => CX0) hn (by decide) hdf ⟨rfl, by decide, by decide⟩ hY (fun w mg fa h Y KX G hmg => by
    obtain ⟨cC, cP, hm, W, fl, T, hmD, hne, fd, h1, h2, h3, hc, hh, hno⟩ := F w mg h KX G
    rw [hname, h1] at hmg
    cases hmg
    have wD := T.w__law_deep_right
    refine ⟨fd, [(cC, cP), (W.tc__law_deep_right, W.tp__law_deep_right)], sp_law (KK w.params) cP W.tp__law_deep_right, two (hT w h Y cP hm) (hT w h Y _ hmD), two hno wD.no, two (PySem.W.codeHd_of_K KX hh) (PySem.W.codeHd_of_K KX wD.code), fun s u => ?_, fun H a ns hl _ ht hS => ?_, fun base _ _ TB => ?_⟩
    · obtain ⟨oc, od, kV, doc, pm, an, cdv, ct, osl, rfl, _, _⟩ := h2.ex
      exact .of_eq rfl
    · exact ⟨a, ns, rfl, hS, hl, two (TabS.nil (ht _ List.mem_cons_self)) (TabS.nil (ht _ (List.mem_cons_of_mem _ List.mem_cons_self))), fun _ => rfl⟩
    · exact fn_law T hne (TB _ List.mem_cons_self) (TB _ (List.mem_cons_of_mem _ List.mem_cons_self)) h2 hc)
    fun _ _ _ _ _ h => h
end Lw

open PySem PySem.W PyProof.Rows in
set_option maxRecDepth 100000 in
set_option maxHeartbeats 0 in
theorem PySem.Challenge.cw_farlayout_k01_what_is_a_document_holds : PySem.Challenge.rw_farlayout_k01_what_is_a_document.Holds := by
  w_on; o_law; k_head; (case hw => w_witness2)
  k_fill
  refine Lw.walk (l := PySem.Challenge.rw_farlayout_k01_what_is_a_document) rfl rfl rfl (fun w h Y => PySem.W.km_in_of Y) (fun w h Y => PySem.W.km_tabs_of Y) ?F
  case F =>
    intro w mg h KX G
    refine' ⟨_, _, ?mem, Lw.all_mk (w := w) KX G ?a_LayoutError ?a_InvalidDoc ?a_InvalidBound ?a_InvalidText ?a_InvalidValue ?a_InvalidCall ?a_LimitExceeded ?a_Doc ?fi_Doc___init__ ?fi_Doc___eq__ ?fi_Doc_row_list ?fi_InvalidDoc___init__ ?fi__wall ?fi__shown ?fi_is_integer ?fi_is_between ?fi_copied_row ?fi_is_row ?fi__checked_rows ?fi__is_signs ?fi__is_parts ?fi__law_cell_at ?fi__law_source_of ?fi__law_next ?fi__law_one ?fi__law_signs ?fi__law_row ?fi__law_rows ?fi__law_said ?fi__law_odd ?fi__law_edge ?fi__law_deep_right ?fi_law ?pg_Doc ?hd_Doc ?po_Doc ?sa_Doc ?mk_Doc ?kc_Doc ?na_Doc__rows ?na_Doc_facts ?na_Doc_group_facts ?i_Doc_1 ?i_Doc_2 ?i_Doc_3 ?i_Doc_4 ?ic_Doc ?tc_Doc ?i_Doc_6 ?i_Doc_7 ?i_Doc_8 ?i_Doc_9 ?i_Doc_10 ?i_Doc_11 ?i_Doc_12 ?ne_Doc_1 ?ne_Doc_2 ?ne_Doc_3 ?ne_Doc_4 ?ne_Doc_5 ?is_Doc___init__ ?l_Doc___init__ ?cn_Doc___init__ ?kp_Doc___init__ ?is_Doc___eq__ ?l_Doc___eq__ ?cn_Doc___eq__ ?kp_Doc___eq__ ?is_Doc_row_list ?l_Doc_row_list ?cn_Doc_row_list ?kp_Doc_row_list ?sup_rd ?sup_ga ?sup_at ?sup_ex ?sup_hd ?sup_ty ?exg_n ?exg_t ?ec_InvalidDoc ?eo_InvalidDoc ?esa_InvalidDoc ?eex_InvalidDoc ?ety_InvalidDoc ?ekp_InvalidDoc ?xg_InvalidDoc ?xk_InvalidDoc ?xd_InvalidDoc ?xa_InvalidDoc ?xm_InvalidDoc ?xs_InvalidDoc ?kt_InvalidDoc_Arith ?na_InvalidDoc_at ?kt_InvalidDoc_InvalidBound ?kt_InvalidDoc_InvalidText ?kt_InvalidDoc_InvalidValue ?kt_InvalidDoc_InvalidCall ?kt_InvalidDoc_LimitExceeded ?l_InvalidDoc___init__ ?cn_InvalidDoc___init__ ?kp_InvalidDoc___init__ ?tyf_InvalidDoc___init__ ?l__wall ?cn__wall ?kp__wall ?l__shown ?cn__shown ?kp__shown ?l_is_integer ?cn_is_integer ?kp_is_integer ?l_is_between ?cn_is_between ?kp_is_between ?l_copied_row ?cn_copied_row ?kp_copied_row ?l_is_row ?cn_is_row ?kp_is_row ?l__checked_rows ?cn__checked_rows ?kp__checked_rows ?l__is_signs ?cn__is_signs ?kp__is_signs ?l__is_parts ?cn__is_parts ?kp__is_parts ?l__law_cell_at ?cn__law_cell_at ?kp__law_cell_at ?l__law_source_of ?cn__law_source_of ?kp__law_source_of ?l__law_next ?cn__law_next ?kp__law_next ?l__law_one ?cn__law_one ?kp__law_one ?l__law_signs ?cn__law_signs ?kp__law_signs ?l__law_row ?cn__law_row ?kp__law_row ?l__law_rows ?cn__law_rows ?kp__law_rows ?l__law_said ?cn__law_said ?kp__law_said ?l__law_odd ?cn__law_odd ?kp__law_odd ?l__law_edge ?cn__law_edge ?kp__law_edge ?l__law_deep_right ?cn__law_deep_right ?kp__law_deep_right ?l_law ?cn_law ?kp_law ?g_MOST_ROWS ?g_MOST_PARTS ?g_MOST_NEST ?g_MOST_TEXT_SIGNS ?g_MOST_LINE_SIGNS ?g_ROW_LENGTHS ?kl_ROW_LENGTHS ?kk_ROW_LENGTHS ?kw_ROW_LENGTHS ?ks_ROW_LENGTHS ?k_ROW_LENGTHS_text ?k_ROW_LENGTHS_line ?k_ROW_LENGTHS_hard ?k_ROW_LENGTHS_cat ?k_ROW_LENGTHS_nest ?k_ROW_LENGTHS_align ?k_ROW_LENGTHS_group ?z_ArithmeticError ?z_bool ?z_enumerate ?z_int ?z_isinstance ?z_len ?z_list ?z_max ?z_range ?z_repr ?z_str ?z_tuple ?kx_str_Doc ?kx_dict_Doc ?kx_Doc_str ?ab_Group ?ab_fold ?kx_Doc_list ?cd_of_law ?tab_law ?hd_of_law ?no_law ?cd_of__law_deep_right ?tab__law_deep_right ?hd_of__law_deep_right ?no__law_deep_right ?nt__law_deep_right ?mt__law_deep_right⟩
    (case a_LayoutError => k_is)
    (case a_InvalidDoc => k_is)
    (case a_InvalidBound => k_is)
    (case a_InvalidText => k_is)
    (case a_InvalidValue => k_is)
    (case a_InvalidCall => k_is)
    (case a_LimitExceeded => k_is)
    (case a_Doc => k_is)
    (case fi_Doc___init__ => k_is)
    (case fi_Doc___eq__ => k_is)
    (case fi_Doc_row_list => k_is)
    (case fi_InvalidDoc___init__ => k_is)
    (case fi__wall => k_is)
    (case fi__shown => k_is)
    (case fi_is_integer => k_is)
    (case fi_is_between => k_is)
    (case fi_copied_row => k_is)
    (case fi_is_row => k_is)
    (case fi__checked_rows => k_is)
    (case fi__is_signs => k_is)
    (case fi__is_parts => k_is)
    (case fi__law_cell_at => k_is)
    (case fi__law_source_of => k_is)
    (case fi__law_next => k_is)
    (case fi__law_one => k_is)
    (case fi__law_signs => k_is)
    (case fi__law_row => k_is)
    (case fi__law_rows => k_is)
    (case fi__law_said => k_is)
    (case fi__law_odd => k_is)
    (case fi__law_edge => k_is)
    (case fi__law_deep_right => k_is)
    (case fi_law => k_is)
    (case pg_Doc => k_is)
    (case hd_Doc => k_is)
    (case po_Doc => k_is)
    (case sa_Doc => k_is)
    (case mk_Doc => k_is)
    (case kc_Doc => k_is)
    (case na_Doc__rows => k_is)
    (case na_Doc_facts => k_is)
    (case na_Doc_group_facts => k_is)
    (case i_Doc_1 => k_is)
    (case i_Doc_2 => k_is)
    (case i_Doc_3 => k_is)
    (case i_Doc_4 => k_is)
    (case ic_Doc => k_is)
    (case tc_Doc => k_is)
    (case i_Doc_6 => k_is)
    (case i_Doc_7 => k_is)
    (case i_Doc_8 => k_is)
    (case i_Doc_9 => k_is)
    (case i_Doc_10 => k_is)
    (case i_Doc_11 => k_is)
    (case i_Doc_12 => k_is)
    (case ne_Doc_1 => k_is)
    (case ne_Doc_2 => k_is)
    (case ne_Doc_3 => k_keys)
    (case ne_Doc_4 => k_is)
    (case ne_Doc_5 => k_is)
    (case is_Doc___init__ => k_is)
    (case l_Doc___init__ => k_is)
    (case cn_Doc___init__ => k_is)
    (case kp_Doc___init__ => k_is)
    (case is_Doc___eq__ => k_is)
    (case l_Doc___eq__ => k_is)
    (case cn_Doc___eq__ => k_is)
    (case kp_Doc___eq__ => k_is)
    (case is_Doc_row_list => k_is)
    (case l_Doc_row_list => k_is)
    (case cn_Doc_row_list => k_is)
    (case kp_Doc_row_list => k_is)
    (case sup_rd => k_is)
    (case sup_ga => k_is)
    (case sup_at => k_is)
    (case sup_ex => k_is)
    (case sup_hd => k_is)
    (case sup_ty => k_is)
    (case exg_n => k_is)
    (case exg_t => k_is)
    (case ec_InvalidDoc => k_is)
    (case eo_InvalidDoc => rfl)
    (case esa_InvalidDoc => k_is)
    (case eex_InvalidDoc => k_is)
    (case ety_InvalidDoc => k_is)
    (case ekp_InvalidDoc => k_is)
    (case xg_InvalidDoc => k_is)
    (case xk_InvalidDoc => k_is)
    (case xd_InvalidDoc => k_is)
    (case xa_InvalidDoc => k_is)
    (case xm_InvalidDoc => k_is)
    (case xs_InvalidDoc => k_is)
    (case kt_InvalidDoc_Arith => first | k_is | decide +kernel | kernel_rfl)
    (case na_InvalidDoc_at => k_is)
    (case kt_InvalidDoc_InvalidBound => first | k_is | decide +kernel | kernel_rfl)
    (case kt_InvalidDoc_InvalidText => first | k_is | decide +kernel | kernel_rfl)
    (case kt_InvalidDoc_InvalidValue => first | k_is | decide +kernel | kernel_rfl)
    (case kt_InvalidDoc_InvalidCall => first | k_is | decide +kernel | kernel_rfl)
    (case kt_InvalidDoc_LimitExceeded => first | k_is | decide +kernel | kernel_rfl)
    (case l_InvalidDoc___init__ => k_is)
    (case cn_InvalidDoc___init__ => k_is)
    (case kp_InvalidDoc___init__ => k_is)
    (case tyf_InvalidDoc___init__ => k_is)
    (case l__wall => k_is)
    (case cn__wall => k_is)
    (case kp__wall => k_is)
    (case l__shown => k_is)
    (case cn__shown => k_is)
    (case kp__shown => k_is)
    (case l_is_integer => k_is)
    (case cn_is_integer => k_is)
    (case kp_is_integer => k_is)
    (case l_is_between => k_is)
    (case cn_is_between => k_is)
    (case kp_is_between => k_is)
    (case l_copied_row => k_is)
    (case cn_copied_row => k_is)
    (case kp_copied_row => k_is)
    (case l_is_row => k_is)
    (case cn_is_row => k_is)
    (case kp_is_row => k_is)
    (case l__checked_rows => k_is)
    (case cn__checked_rows => k_is)
    (case kp__checked_rows => k_is)
    (case l__is_signs => k_is)
    (case cn__is_signs => k_is)
    (case kp__is_signs => k_is)
    (case l__is_parts => k_is)
    (case cn__is_parts => k_is)
    (case kp__is_parts => k_is)
    (case l__law_cell_at => k_is)
    (case cn__law_cell_at => k_is)
    (case kp__law_cell_at => k_is)
    (case l__law_source_of => k_is)
    (case cn__law_source_of => k_is)
    (case kp__law_source_of => k_is)
    (case l__law_next => k_is)
    (case cn__law_next => k_is)
    (case kp__law_next => k_is)
    (case l__law_one => k_is)
    (case cn__law_one => k_is)
    (case kp__law_one => k_is)
    (case l__law_signs => k_is)
    (case cn__law_signs => k_is)
    (case kp__law_signs => k_is)
    (case l__law_row => k_is)
    (case cn__law_row => k_is)
    (case kp__law_row => k_is)
    (case l__law_rows => k_is)
    (case cn__law_rows => k_is)
    (case kp__law_rows => k_is)
    (case l__law_said => k_is)
    (case cn__law_said => k_is)
    (case kp__law_said => k_is)
    (case l__law_odd => k_is)
    (case cn__law_odd => k_is)
    (case kp__law_odd => k_is)
    (case l__law_edge => k_is)
    (case cn__law_edge => k_is)
    (case kp__law_edge => k_is)
    (case l__law_deep_right => k_is)
    (case cn__law_deep_right => k_is)
    (case kp__law_deep_right => k_is)
    (case l_law => k_is)
    (case cn_law => k_is)
    (case kp_law => k_is)
    (case g_MOST_ROWS => k_is)
    (case g_MOST_PARTS => k_is)
    (case g_MOST_NEST => k_is)
    (case g_MOST_TEXT_SIGNS => k_is)
    (case g_MOST_LINE_SIGNS => k_is)
    (case g_ROW_LENGTHS => k_is)
    (case kl_ROW_LENGTHS => k_is)
    (case kk_ROW_LENGTHS => k_keys)
    (case kw_ROW_LENGTHS => decide)
    (case ks_ROW_LENGTHS => rfl)
    (case k_ROW_LENGTHS_text => k_is)
    (case k_ROW_LENGTHS_line => k_is)
    (case k_ROW_LENGTHS_hard => k_is)
    (case k_ROW_LENGTHS_cat => k_is)
    (case k_ROW_LENGTHS_nest => k_is)
    (case k_ROW_LENGTHS_align => k_is)
    (case k_ROW_LENGTHS_group => k_is)
    (case z_ArithmeticError => k_is)
    (case z_bool => k_is)
    (case z_enumerate => k_is)
    (case z_int => k_is)
    (case z_isinstance => k_is)
    (case z_len => k_is)
    (case z_list => k_is)
    (case z_max => k_is)
    (case z_range => k_is)
    (case z_repr => k_is)
    (case z_str => k_is)
    (case z_tuple => k_is)
    (case kx_str_Doc => first | k_is | decide +kernel | kernel_rfl)
    (case kx_dict_Doc => first | k_is | decide +kernel | kernel_rfl)
    (case kx_Doc_str => first | k_is | decide +kernel | kernel_rfl)
    (case ab_Group => k_is)
    (case ab_fold => k_is)
    (case kx_Doc_list => first | k_is | decide +kernel | kernel_rfl)
    (case cd_of_law => rfl)
    (case tab_law => first | k_is | rfl | kernel_rfl)
    (case hd_of_law => first | k_is | rfl | kernel_rfl)
    (case no_law => first | k_is | rfl | kernel_rfl)
    (case cd_of__law_deep_right => rfl)
    (case tab__law_deep_right => first | k_is | rfl | kernel_rfl)
    (case hd_of__law_deep_right => first | k_is | rfl | kernel_rfl)
    (case no__law_deep_right => first | k_is | rfl | kernel_rfl)
    (case nt__law_deep_right => decide)
    (case mt__law_deep_right => first | exact List.mem_cons_self | decide | k_mem)
    (case mem => first | exact List.mem_cons_self | decide | k_mem)
