import PyProof.Rows.All
import Wide.All
import OpenK.AllK
import Wide.FinOn
import HandS.ForMost
import HandS.IsInst
import HandS.OwnEq
import HandS.More
import HandS.Text
import HandS.Conv
import HandS.Evl
import HandS.MakeKwOnly
import PyProof.ListStr
import PyProof.ReprRoads
import PyProof.Rows.PlainNe
import PyProof.InstNe
import HandS.Walk
import HandS.Iter
import HandS.RaiseMore
import HandS.Defaults
import HandS.ForExc
import HandS.ExcInit
import HandS.ExcIs
import HandS.ExcField
import HandS.ClsMeth
import HandS.FStr
import KE.KExcInit
import HandS.Lambda
import HandS.EndTab
import HandS.SetFor
import KE.KNestM
import HandS.Style
import HandS.Flow
import HandS.Dict
import HandS.Zip
import HandS.List
import HandS.StrMore
import PySem.Challenge.RW_farlayout_k33_nodes_of_a_kind
set_option Elab.async false
set_option linter.all false
set_option maxRecDepth 100000
/-! Views: a part of the abstract heap of which facts are told; what is made is added to it, what is changed lies outside. -/
namespace VW
open PySem L2

structure Gr (S : Addr → Prop) (V H V' H' : Hp) : Prop where
  v : Same V V'
  s : Same V' H'
  k : ∀ b o, ¬ S b → H b = some o → H' b = some o
  n : ∀ b, H b ≠ none → H' b ≠ none ∧ V' b = V b

abbrev S0 : Addr → Prop := fun _ => False

theorem some_ne {x : Option HO} {o : HO} (h : x = some o) : x ≠ none := by rw [h]; exact fun z => nomatch z
section
variable {S S' : Addr → Prop} {V H V' H' V2 H2 : Hp} {p a : Addr} {o : HO}

theorem Gr.refl (h : Same V H) : Gr S V H V H := ⟨Same.refl _, h, fun _ _ _ e => e, fun _ e => ⟨e, rfl⟩⟩
theorem Gr.trans (a : Gr S V H V' H') (b : Gr S V' H' V2 H2) : Gr S V H V2 H2 :=
  ⟨a.v.trans b.v, b.s, fun x o hx e => b.k x o hx (a.k x o hx e), fun x e => ⟨(b.n x (a.n x e).1).1, ((b.n x (a.n x e).1).2).trans (a.n x e).2⟩⟩
theorem Gr.back (g : Gr S V H V' H') : Gr S V H V H' := ⟨Same.refl _, g.v.trans g.s, g.k, fun x e => ⟨(g.n x e).1, rfl⟩⟩
theorem Gr.weak (hS : ∀ b, S b → S' b) (g : Gr S V H V' H') : Gr S' V H V' H' := ⟨g.v, g.s, fun b o hb e => g.k b o (fun z => hb (hS b z)) e, g.n⟩
theorem Gr.of0 (g : Gr S0 V H V' H') : Gr S V H V' H' := g.weak fun _ z => z.elim
theorem Gr.same (g : Gr S0 V H V' H') : Same H H' := fun b o e => g.k b o (fun z => z) e
theorem Gr.free (g : Gr S V H V' H') (h : H' p = none) : H p = none := by
  cases e : H p with
  | none => rfl
  | some o => exact absurd h (g.n p (by rw [e]; exact fun z => nomatch z)).1
theorem vfree (s : Same V H) (h : H p = none) : V p = none := s.free h
/-- a new object, told of -/
theorem Gr.new (g : Gr S V H V' H') (h : H' p = none) : Gr S V H (upd V' p o) (upd H' p o) := by
  refine ⟨fun b u e => ?_, fun b u e => ?_, fun b u hb e => ?_, fun b e => ?_⟩
  · have q := g.v b u e
    rw [upd_ne (ne_of_none (g.s b u q) h)]
    exact q
  · by_cases hb : b = p
    · subst hb
      rw [upd_same] at e ⊢
      exact e
    · rw [upd_ne hb] at e ⊢
      exact g.s b u e
  · have q := g.k b u hb e
    rw [upd_ne (ne_of_none q h)]
    exact q
  · have hb : b ≠ p := fun z => by
      subst z
      exact e (g.free h)
    rw [upd_ne hb, upd_ne hb]
    exact g.n b e
/-- a new object, not told of -/
theorem Gr.newH (g : Gr S V H V' H') (h : H' p = none) : Gr S V H V' (upd H' p o) := by
  refine ⟨g.v, fun b u e => ?_, fun b u hb e => ?_, fun b e => ?_⟩
  · have q := g.s b u e
    rw [upd_ne (ne_of_none q h)]
    exact q
  · have q := g.k b u hb e
    rw [upd_ne (ne_of_none q h)]
    exact q
  · have hb : b ≠ p := fun z => by
      subst z
      exact e (g.free h)
    rw [upd_ne hb]
    exact g.n b e
/-- what is outside of the view is changed -/
theorem Gr.mut (g : Gr S V H V' H') (hS : S p ∨ H p = none) (hv : V' p = none) : Gr S V H V' (upd H' p o) := by
  refine ⟨g.v, fun b u e => ?_, fun b u hb e => ?_, fun b e => ⟨?_, (g.n b e).2⟩⟩
  · have hb : b ≠ p := fun z => by
      subst z
      rw [hv] at e
      cases e
    rw [upd_ne hb]
    exact g.s b u e
  · have hbp : b ≠ p := fun z => by
      subst z
      rcases hS with hS | hS
      · exact hb hS
      · rw [hS] at e
        cases e
    rw [upd_ne hbp]
    exact g.k b u hb e
  · by_cases hb : b = p
    · subst hb
      rw [upd_same]
      exact fun z => nomatch z
    · rw [upd_ne hb]
      exact (g.n b e).1
/-- what was outside is told of from now on: p is new since H -/
theorem Gr.tell (g : Gr S V H V' H') (h0 : H p = none) (h : H' p = some o) (hv : V' p = none) : Gr S V H (upd V' p o) H' := by
  refine ⟨fun b u e => ?_, fun b u e => ?_, g.k, fun b e => ⟨(g.n b e).1, ?_⟩⟩
  · have q := g.v b u e
    rw [upd_ne (ne_of_none q hv)]
    exact q
  · by_cases hb : b = p
    · subst hb
      rw [upd_same] at e
      rw [h]
      exact e
    · rw [upd_ne hb] at e
      exact g.s b u e
  · have hb : b ≠ p := fun z => by
      subst z
      exact e h0
    rw [upd_ne hb]
    exact (g.n b e).2
theorem Gr.grow (g : Gr S V H V' H') (e : Same H' H2) : Gr S V H V' H2 :=
  ⟨g.v, g.s.trans e, fun b o hb q => e b o (g.k b o hb q), fun b q => ⟨(by
    cases z : H' b with
    | none => exact absurd z (g.n b q).1
    | some o => exact some_ne (e b o z)), (g.n b q).2⟩⟩
/-- all that is new is told of, but for M -/
noncomputable def allU (M : Addr → Prop) (H H' V' : Hp) : Hp := by
  classical exact fun b => if H b = none ∧ ¬ M b then H' b else V' b
theorem allU_new {M : Addr → Prop} (h : H p = none) (hM : ¬ M p) : allU M H H' V' p = H' p := by
  unfold allU
  exact if_pos ⟨h, hM⟩
theorem allU_old {M : Addr → Prop} (h : H p ≠ none) : allU M H H' V' p = V' p := by
  unfold allU
  exact if_neg fun z => h z.1
theorem allU_M {M : Addr → Prop} (h : M p) : allU M H H' V' p = V' p := by
  unfold allU
  exact if_neg fun z => z.2 h
theorem Gr.all (M : Addr → Prop) (h0 : Same V H) (g : Gr S V H V' H') : Gr S V H (allU M H H' V') H' := by
  refine ⟨fun b o e => ?_, fun b o e => ?_, g.k, fun b e => ⟨(g.n b e).1, (allU_old e).trans (g.n b e).2⟩⟩
  · rw [allU_old (some_ne (h0 b o e))]
    exact g.v b o e
  · by_cases hb : H b = none
    · by_cases hM : M b
      · rw [allU_M hM] at e
        exact g.s b o e
      · rw [allU_new hb hM] at e
        exact e
    · rw [allU_old hb] at e
      exact g.s b o e
theorem Gr.allSame (M : Addr → Prop) (g : Gr S V H V' H') : Same V' (allU M H H' V') := fun b o e => by
  by_cases hb : H b = none
  · by_cases hM : M b
    · rw [allU_M hM]
      exact e
    · rw [allU_new hb hM]
      exact g.s b o e
  · rw [allU_old hb]
    exact e
/-- what was made first and changed afterwards is new -/
theorem Gr.under (hD : H p = none) (g : Gr (fun b => b = p) V (upd H p o) V' H') : Gr S V H V' H' := by
  refine ⟨g.v, g.s, fun b u _ e => ?_, fun b e => ?_⟩
  · have hb := ne_of_none e hD
    exact g.k b u hb (by rw [upd_ne hb]; exact e)
  · have hb : b ≠ p := fun z => e (by rw [z]; exact hD)
    exact g.n b (by rw [upd_ne hb]; exact e)
theorem Gr.out (g : Gr S V H V' H') (h : H p ≠ none) (hv : V p = none) : V' p = none := (g.n p h).2.trans hv
theorem Gr.there (g : Gr S V H V' H') (h : H p ≠ none) : H' p ≠ none := (g.n p h).1
end

section
variable {K : PySem.W.Frag} {H H' : Hp}
theorem rdS {a : Addr} {u : HO} (e : Same H H') (h : Rd H a u) : Rd H' a u := by
  rcases h with h | ⟨o, h⟩
  · exact Or.inl (e a _ h)
  · exact Or.inr ⟨o, e a _ h⟩
theorem sqlS {a : Addr} {xs : List V} (e : Same H H') (h : SqL K H a xs) : SqL K H' a xs := e.seq h
theorem sqtS {a : Addr} {xs : List V} (e : Same H H') (h : SqT K H a xs) : SqT K H' a xs := by
  rcases h with h | h
  · exact Or.inl (rdS e h)
  · exact Or.inr h
theorem sqlO {a : Addr} {xs : List V} (h : H a = some (.lst xs)) : SqL K H a xs := Or.inl (Or.inl h)
theorem sqtO {a : Addr} {xs : List V} (h : H a = some (.tup xs)) : SqT K H a xs := Or.inl (Or.inl h)
mutual
theorem dpS (e : Same H H') : ∀ {d : PyData} {v : V}, Dp K H v d → Dp K H' v d
  | .none, _, h => by cases h; exact .non
  | .bool _, _, h => by cases h; exact .bl _
  | .int _, _, h => by cases h; exact .int _
  | .str _, _, h => by cases h; exact .str _
  | .list _, _, h => by
    cases h with
    | lst hs ha => exact .lst (sqlS e hs) (dpsS e ha)
  | .tuple _, _, h => by
    cases h with
    | tup hs ha => exact .tup (sqtS e hs) (dpsS e ha)
  | .dict _, _, h => by cases h
theorem dpsS (e : Same H H') : ∀ {ds : List PyData} {vs : List V}, DpAll K H vs ds → DpAll K H' vs ds
  | [], _, h => by cases h; exact .nil
  | _ :: _, _, h => by
    cases h with
    | cons h1 h2 => exact .cons (dpS e h1) (dpsS e h2)
end
theorem dps_length : ∀ {ds : List PyData} {vs : List V}, DpAll K H vs ds → vs.length = ds.length
  | [], _, h => by cases h; rfl
  | _ :: _, _, h => by
    cases h with
    | cons h1 h2 => rw [List.length_cons, List.length_cons, dps_length h2]
theorem dps_get : ∀ {ds : List PyData} {vs : List V} {i : Nat} {v : V}, DpAll K H vs ds → vs[i]? = some v → ∃ d, ds[i]? = some d ∧ Dp K H v d
  | [], _, i, v, h, e => by cases h; simp at e
  | d :: ds, _, 0, v, h, e => by
    cases h with
    | cons h1 h2 =>
      simp at e
      subst e
      exact ⟨d, by simp, h1⟩
  | d :: ds, _, i + 1, v, h, e => by
    cases h with
    | cons h1 h2 =>
      simp at e
      obtain ⟨d', q1, q2⟩ := dps_get h2 e
      exact ⟨d', by simpa using q1, q2⟩
theorem dps_append {vs ws : List V} {ds es : List PyData} (h : DpAll K H vs ds) (h2 : DpAll K H ws es) : DpAll K H (vs ++ ws) (ds ++ es) := by
  induction vs generalizing ds with
  | nil => cases h; exact h2
  | cons v vs ih =>
    cases h with
    | cons h1 h3 => exact .cons h1 (ih h3)
theorem dps_take {vs : List V} {ds : List PyData} (n : Nat) (h : DpAll K H vs ds) : DpAll K H (vs.take n) (ds.take n) := by
  induction vs generalizing ds n with
  | nil => cases h; simp; exact .nil
  | cons v vs ih =>
    cases h with
    | cons h1 h3 =>
      cases n with
      | zero => exact .nil
      | succ n => exact .cons h1 (ih n h3)
theorem dps_drop {vs : List V} {ds : List PyData} (n : Nat) (h : DpAll K H vs ds) : DpAll K H (vs.drop n) (ds.drop n) := by
  induction vs generalizing ds n with
  | nil => cases h; simp; exact .nil
  | cons v vs ih =>
    cases h with
    | cons h1 h3 =>
      cases n with
      | zero => exact .cons h1 h3
      | succ n => exact ih n h3
theorem dps_ints (ns : List Int) : DpAll K H (ns.map V.int) (ns.map PyData.int) := by
  induction ns with
  | nil => exact .nil
  | cons n ns ih => exact .cons (.int n) ih
theorem dps_of_ints {vs : List V} {ns : List Int} (h : DpAll K H vs (ns.map PyData.int)) : vs = ns.map V.int := by
  induction ns generalizing vs with
  | nil => cases h; rfl
  | cons n ns ih =>
    cases h with
    | cons h1 h2 =>
      cases h1
      rw [ih h2]
      rfl
end
theorem same_new {H : Hp} {p : Addr} {o : HO} (h : H p = none) : Same H (upd H p o) := fun b u e => by rw [upd_ne (ne_of_none e h)]; exact e
/-- all but s -/
noncomputable def hide (s : Addr) (H : Hp) : Hp := by
  classical exact fun b => if b = s then none else H b
theorem hide_at {s : Addr} {H : Hp} : hide s H s = none := by
  unfold hide
  exact if_pos rfl
theorem hide_ne {s b : Addr} {H : Hp} (h : b ≠ s) : hide s H b = H b := by
  unfold hide
  exact if_neg h
theorem hide_same {s : Addr} {H : Hp} : Same (hide s H) H := fun b o e => by
  by_cases h : b = s
  · rw [h, hide_at] at e
    cases e
  · rw [hide_ne h] at e
    exact e
theorem hide_in {s : Addr} {U H : Hp} (h : Same U H) (hs : U s = none) : Same U (hide s H) := fun b o e => by
  have hb : b ≠ s := fun z => by
    rw [z, hs] at e
    cases e
  rw [hide_ne hb]
  exact h b o e
end VW

/-! More rules over the hand layer: a def by its name, list(text), repr(data), w.get(k) of a written dict, == and != by an own __eq__. -/
namespace L2
open PySem PySem.Spec PyProof.Rows

/-! ### a def of the text, by its name -/
structure DefOk (P : Program) (w : World) (K : PySem.W.Frag) (mg : Str → Option Value) (base : Heap) (x : Str) (st : Stmt) (ps : List Str) (k : Nat) (sp : Sp) : Prop where
  ex : ∃ f fd, mg x = some (.ref f) ∧ Fun K x x st f fd ∧ Binds K fd ps [] ∧ FnOk P w K mg base CX0 k f fd ps sp
structure TopDef (K : PySem.W.Frag) (mg : Str → Option Value) (x : Str) (st : Stmt) (ps : List Str) : Prop where
  ex : ∃ f fd, mg x = some (.ref f) ∧ Fun K x x st f fd ∧ Binds K fd ps []
section
variable {X : Cx}
theorem pe_callD {x : Str} {st : Stmt} {ps : List Str} {k : Nat} {sp : Sp} {e : Expr} {es : List Expr} {t : TA} {p pos : Pos} (D : DefOk X.prog X.w X.K X.mg X.base x st ps k sp) (hr : Room k X.A) (ha : PA X (e :: es) t) (hg : Gl X x := by rfl)
    (hdb : (x == ("__debug__" : Str)) = false := by decide) (he : starEach (e :: es) X.env = (false, eval e X.env) :: starEach es X.env := by rfl) (hpl : (backTo pos (starEach es X.env)).any (·.1) = false := by rfl) :
    PE X (.Call (.Name x p) (e :: es) [] pos) (tCall sp [] E0 t) := by
  obtain ⟨f, fd, hm, hk, hb, F⟩ := D.ex
  exact pe_call F hr hg hm hk.kp hb .nil pass0 ha hdb he hpl
theorem pe_callD0 {x : Str} {st : Stmt} {ps : List Str} {k : Nat} {sp : Sp} {p pos : Pos} (D : DefOk X.prog X.w X.K X.mg X.base x st ps k sp) (hr : Room k X.A) (hg : Gl X x := by rfl) (hdb : (x == ("__debug__" : Str)) = false := by decide) :
    PE X (.Call (.Name x p) [] [] pos) (tCall sp [] E0 tNil) := by
  obtain ⟨f, fd, hm, hk, hb, F⟩ := D.ex
  exact pe_call0 F hr hg hm hk.kp hb .nil pass0 hdb
theorem pe_globI {x : Str} {i : Int} {pos : Pos} (h : ∃ t, X.mg x = some (.int i t)) (hg : Gl X x := by rfl) (hd : (x == ("__debug__" : Str)) = false := by decide) : PE X (.Name x pos) (tC (.int i)) := by
  obtain ⟨t, h⟩ := h
  exact pe_glob hg h ⟨t, rfl⟩ hd
/-- the body of a def, as a rule for its promise -/
theorem TopDef.ok {P : Program} {w : World} {K : PySem.W.Frag} {mg : Str → Option Value} {base : Heap} {x : Str} {st : Stmt} {N ps : List Str} {k : Nat} {sp : Sp} (T : TopDef K mg x st ps) (S : FnScope N ps (defScope st)) (len : ∀ vs H Q E, sp vs H Q E → vs.length = ps.length)
    (hbody : ∀ (f : Addr) (cdv : Value) (A : Around) (outer : List Env) (s : Shared) (H : Hp) (vs : List V) (Q : VK) (E : XK), Room k (A.deeper (envOfC x (defScope st) s.heap.objs.size f cdv)) → sp vs H Q E →
      ∃ t, PSs (cxOf CX0 P w K mg base N x (defScope st) f cdv A outer s H E).nox (defBody st) t ∧ t { nx := fun _ H' => Q .non H', rt := Q } (start N vs) H) : DefOk P w K mg base x st ps (k + 1) sp := by
  obtain ⟨f, fd, hm, F, hb⟩ := T.ex
  exact ⟨f, fd, hm, F, hb, F.ok S len (hbody f)⟩
end
theorem topDef_mk {K : PySem.W.Frag} {mg : Str → Option Value} {h : Heap} {f : Addr} {x : Str} {st : Stmt} {ps : List Str} {oc : Value} {od an : Option Addr} {osl : Array (Option Value)} {kV doc pm cdv ct : Value} (X : K.In h) (G : h.Ns mainGlobals mg)
    (a : PySem.W.nsIn K mainGlobals x = some (some (.ref f)))
    (l : K.lookup f = some ⟨oc, od, .func (PySem.W.fnOf x x (defArgs st) (defBody st) (defScope st) .none kV doc pm an cdv ct), osl⟩)
    (c : PySem.W.codeIn K cdv x = true) (k : PySem.W.keepIn K (.ref f) = true)
    (hb : ∀ (kV doc pm : Value) (an : Option Addr) (cdv ct : Value) (us : List Value), us.length = ps.length → bindArgs (PySem.W.fnOf x x (defArgs st) (defBody st) (defScope st) .none kV doc pm an cdv ct) ⟨us, []⟩ = pure (ps.zip us)) : TopDef K mg x st ps :=
  have F := fun_mk (st := st) l c k
  ⟨f, _, PySem.W.mg_of X G a, F, F.binds hb⟩

/-! ### list(text) -/
theorem call_list_text {X : Cx} (hc : X.calm = true) : CallR X (.type "list") (fun xs H Q => ∃ z : Str, xs = [.str z] ∧ z.cps.size ≤ sizeLine ∧ ∀ l, H l = none → Q (.ref l) (upd H l (.lst (z.cps.toList.map fun c => V.str ⟨#[c]⟩)))) := by
  intro pins s σ H xs us Q I r h
  obtain ⟨z, rfl, hz, q⟩ := h
  obtain ⟨u, rfl, t, rfl⟩ := vals1 r
  refine PySem.call_list_str (I.ok.hd hc) z t (fun h' tk acc' c' hk hS hacc => ?_) hz
  refine ⟨.ref s.heap.objs.size, _, I.laid (t' := tk) hk (Nat.le_refl _) (show ObjOk X.prog X.w _ h' _ (.lst (z.cps.toList.map fun c => V.str ⟨#[c]⟩)) from ⟨?_, acc'.toList, c', ?_, ?_⟩), rfl, q _ (I.hok.fresh (Nat.le_refl _))⟩
  · rw [List.length_map, Array.length_toList]
    exact hz
  · refine vals_of_at (by rw [List.length_map, Array.length_toList, Array.length_toList]; exact hacc.1.symm) fun j x w h1 h2 => ?_
    have h3 := hacc.2 j w (by rw [← Array.getElem?_toList]; exact h2)
    obtain ⟨c, t', e1, e2⟩ := h3
    have e3 : z.cps.toList[j]? = some c := by rw [Array.getElem?_toList]; exact e1
    rw [List.getElem?_map, e3] at h1
    cases h1
    exact ⟨t', e2⟩
  · rw [Array.toArray_toList]
    exact hS

/-! ### repr of data -/
theorem call_reprD {X : Cx} (hu : X.A.units + 65 < cLine) (hg : X.A.guards = some []) : CallR X (.builtin "repr") (fun xs H Q => ∃ a d, xs = [.ref a] ∧ Dp X.K H (.ref a) d ∧ d.showable = true ∧ d.hasDict = false ∧ d.depth ≤ 64 ∧ d.shown.length ≤ sizeLine ∧ Q (.str d.shown) H) := by
  intro pins s σ H xs us Q I r h
  obtain ⟨a, d, rfl, hd, h1, h2, h3, h4, q⟩ := h
  obtain ⟨u, rfl, rx⟩ := vals1 r
  obtain ⟨as, hr⟩ := Dp.reads I d _ u hd rx
  cases rx
  refine PySem.repr_of_reads' (h₀ := s.heap) hr h1 (PyData.noDict_hsm h2) hg (by omega) (fun _ _ e => e) (fun h' u tk hk => ?_) h4
  exact ⟨.str d.shown, H, I.kept (t' := tk) hk, ⟨u, rfl⟩, q⟩

/-! ### w.get(k), w a dict of the module whose keys are texts -/
def tKGet (K : PySem.W.Frag) (w : World) (td ty : TE) : TE := fun σ H Q => td σ H fun x H1 => ∃ a es n, x = .ref a ∧ K.lookup a = some ⟨.type "dict", none, .dict es n, #[]⟩ ∧ PySem.W.KeysLit w.params es.toList ∧ (a == sysModules) = false ∧
  ty σ H1 fun y H2 => ∃ z r v, y = .str z ∧ PySem.W.nsIn K a z = some r ∧ RelV v (r.getD .none) ∧ Q v H2
theorem pe_dgetK {X : Cx} {o e : Expr} {apos cpos : Pos} {td ty : TE} (ho : PE X o td) (he : PE X e ty) (m : M1 X o "get" apos e cpos) : PE X (.Call (.Attribute o "get" apos) [e] [] cpos) (tKGet X.K X.w td ty) := by
  refine ⟨fun pins s σ H Q I h => ?_⟩
  refine wpAny_Call_method m.base m.few m.line PySem.F.plainAttrs_dict PySem.F.slot_dict_get PySem.F.type_dict_get (thn (ho.run pins s σ H _ I h) fun u s1 ⟨x, H1, I1, rx, a, es, n, ex, hl, hk, low, q1⟩ => ?_)
  subst ex
  obtain rfl : u = Value.ref a := rx
  have hm := PySem.W.mapOf_K (prog := X.prog) (w := X.w) I1.kIn hl hk
  refine ⟨hm.typeIs, hm.noDict, ?_⟩
  rw [m.trees]
  refine Calls.callWith_builtin rfl (Calls.evalArgs_plain (Calls.spliced_cons (thn (he.run pins s1 σ H1 _ I1 q1) fun iv s2 ⟨y, H2, I2, ry, z, r, v, ey, e, rv, q2⟩ => Calls.spliced_nil ?_)))
  subst ey
  obtain ⟨t, rfl⟩ := (show ∃ t, iv = Value.str z t from ry)
  have hm2 := PySem.W.mapOf_K (prog := X.prog) (w := X.w) I2.kIn hl hk
  refine call_meetsIn PySem.F.slot_dict_get hm2.typeIs PySem.F.entry_dict_get (PySem.F.args_dict_get_2 _ _) (meets_dict_get (strKind X.prog X.w) a (strKind_is X.prog X.w z t) low) ⟨_, hm2, ?_⟩
  rw [PySem.W.find_K hl e]
  exact ⟨v, H2, I2.tok _, rv, q2⟩

/-! ### == and != of an instance whose class has an own __eq__ (and no __ne__) -/
/-- what the right side is -/
inductive Rhs (K : PySem.W.Frag) (H : Hp) : V → Value → Prop where
  | int (i : Int) : Rhs K H (.int i) (.type "int")
  | non : Rhs K H .non (.type "NoneType")
  | lst {a : Addr} {xs : List V} (e : H a = some (.lst xs)) : Rhs K H (.ref a) (.type "list")
  | ins {a C dx : Addr} {fs : List (Str × V)} (e : H a = some (.ins C dx fs)) : Rhs K H (.ref a) (.ref C)
theorem Rhs.looks {X : Cx} {pins : List (Addr × Obj)} {σ : St} {H : Hp} {s : Shared} {y : V} {u t : Value} {M : Model} (I : Inv X pins σ H s) (r : RelV y u) (h : Rhs X.K H y t) : PySem.W.Looks M s.heap (typeOf u) t := by
  cases h with
  | int i =>
    obtain ⟨tk, rfl⟩ := r
    exact PySem.W.Looks.of_pure rfl
  | non =>
    cases r
    exact PySem.W.Looks.of_pure rfl
  | @lst a xs e =>
    cases r
    obtain ⟨_, its, n, _, h1⟩ := (show ObjOk X.prog X.w H s.heap a (.lst xs) from I.hok a _ e)
    exact (PySem.W.Looks.ld h1).andThen .now
  | @ins a C dx fs e =>
    cases r
    obtain ⟨mA, J, _⟩ := ins_get I.hok e
    obtain ⟨od, J, _⟩ := J.look
    exact J.type
/-- the class at C has the own __eq__ that keeps sp -/
structure EqOk (P : Program) (w : World) (K : PySem.W.Frag) (mg : Str → Option Value) (base : Heap) (C : Addr) (k : Nat) (sp : Sp) : Prop where
  ex : ∃ f fd, PySem.W.findIn K (.ref C) "__eq__" = some (some (.ref f)) ∧ PySem.W.isFn K (.ref f) = true ∧ Binds K fd ["self", "other"] [] ∧ FnOk P w K mg base CX0 k f fd ["self", "other"] sp
def rEqO (K : PySem.W.Frag) (C : Addr) (sp : Sp) : R2 := fun x y H Q => ∃ a dx fs t, x = .ref a ∧ H a = some (.ins C dx fs) ∧ Rhs K H y t ∧ PySem.W.notFirst K C t = true ∧ sp [x, y] H (fun v H' => ∃ b, v = .bl b ∧ Q (.bl b) H') E0
section
variable {X : Cx} {C : Addr} {k : Nat} {sp : Sp}
theorem run_eqO (D : EqOk X.prog X.w X.K X.mg X.base C k sp) {A : Around} {pins : List (Addr × Obj)} {σ : St} {H : Hp} {s : Shared} {a dx : Addr} {fs : List (Str × V)} {y : V} {v t : Value} {R : Bool → Shared → Prop} (hr : Room k A) (hf : A.frames = X.A.frames)
    (I : Inv X pins σ H s) (e : H a = some (.ins C dx fs)) (ry : RelV y v) (hR : Rhs X.K H y t) (hn : PySem.W.notFirst X.K C t = true)
    (hs : sp [.ref a, y] H (fun v H' => ∃ b, v = .bl b ∧ ∀ s', Inv X pins σ H' s' → R b s') E0) :
    wpAny (model X.prog X.w) A (richCompare .Eq (.ref a) v) (fun r s' => ∃ b, r = .bool b ∧ R b s') X.xe s := by
  obtain ⟨f, fd, h1, h2, hb, F⟩ := D.ex
  obtain ⟨mA, J, _⟩ := ins_get I.hok e
  obtain ⟨od, J, _⟩ := J.look
  obtain ⟨m, hF⟩ := I.fr
  refine PySem.W.cmp_K (op := .Eq) (tb := t) hr.units0 hF I.ok.mod.kin J (hR.looks I ry) hn h1 h2 ?_
  have e0 : Env0 X.prog X.w X.K X.mg X.base A X.stack s H := by
    have e := I.env0
    exact ⟨by rw [hf]; exact e.frames, e.mod, e.bs, e.bsz, e.funs, e.frf, e.hok, e.bare⟩
  have hl := F.len _ _ _ _ hs
  have r2 : Vals [V.ref a, y] [Value.ref a, v] := .cons rfl (.cons ry .nil)
  refine wpAny_call (codeAny_mono (F.run A X.stack s H ⟨[.ref a, v], []⟩ [.ref a, v] [.ref a, y] _ E0 hr e0 (by
    have := hb s [.ref a, v] I.kIn (by simpa using hl)
    simpa using this) r2 hs) fun r s' hq => ?_)
  cases r with
  | error e => exact False.elim hq
  | ok fl =>
    cases fl with
    | ret w =>
      obtain ⟨z, H', I', rz, b, ez, ex⟩ := I.after hq
      subst ez
      cases rz
      exact ⟨b, rfl, ex s' I'⟩
    | next => exact False.elim hq
    | brk => exact False.elim hq
    | cont => exact False.elim hq
theorem op_eqO (D : EqOk X.prog X.w X.K X.mg X.base C k sp) (hr : Room k X.A) (mono : ∀ vs H Q Q' E, (∀ v H', Q v H' → Q' v H') → sp vs H Q E → sp vs H Q' E) : OpR X (compareOp .Eq) (rEqO X.K C sp) := by
  intro pins s σ H x y v u Q I rx ry h
  obtain ⟨a, dx, fs, t, rfl, e, hR, hn, hs⟩ := h
  cases rx
  show wpAny (model X.prog X.w) X.A (richCompare .Eq (.ref a) u) (EP X pins σ Q) X.xe s
  refine wpAny_mono (run_eqO D (R := fun b s' => ∃ H', Inv X pins σ H' s' ∧ Q (.bl b) H') hr rfl I e ry hR hn (mono _ _ _ _ _ (fun v H' z => ?_) hs)) (fun r s' z => ?_) fun _ _ z => z
  · obtain ⟨b, ev, q⟩ := z
    exact ⟨b, ev, fun s' I' => ⟨H', I', q⟩⟩
  · obtain ⟨b, rfl, H', I', q⟩ := z
    exact ⟨.bl b, H', I', rfl, q⟩
end

/-! ### a method of a class, by its name -/
structure MethDef (K : PySem.W.Frag) (C : Addr) (m qual : Str) (st : Stmt) (ps : List Str) : Prop where
  ex : ∃ f fd, PySem.W.findIn K (.ref C) m = some (some (.ref f)) ∧ PySem.W.isFn K (.ref f) = true ∧ Fun K m qual st f fd ∧ Binds K fd ps []
theorem methDef_mk {K : PySem.W.Frag} {C f : Addr} {x q : Str} {st : Stmt} {ps : List Str} {oc : Value} {od an : Option Addr} {osl : Array (Option Value)} {kV doc pm cdv ct : Value}
    (a : PySem.W.findIn K (.ref C) x = some (some (.ref f))) (i : PySem.W.isFn K (.ref f) = true)
    (l : K.lookup f = some ⟨oc, od, .func (PySem.W.fnOf x q (defArgs st) (defBody st) (defScope st) .none kV doc pm an cdv ct), osl⟩)
    (c : PySem.W.codeIn K cdv q = true) (k : PySem.W.keepIn K (.ref f) = true)
    (hb : ∀ (kV doc pm : Value) (an : Option Addr) (cdv ct : Value) (us : List Value), us.length = ps.length → bindArgs (PySem.W.fnOf x q (defArgs st) (defBody st) (defScope st) .none kV doc pm an cdv ct) ⟨us, []⟩ = pure (ps.zip us)) : MethDef K C x q st ps :=
  have F := fun_mk (st := st) l c k
  ⟨f, _, a, i, F, F.binds hb⟩
/-- a method that keeps its promise -/
structure MethOk (P : Program) (w : World) (K : PySem.W.Frag) (mg : Str → Option Value) (base : Heap) (C : Addr) (m q : Str) (st : Stmt) (ps : List Str) (k : Nat) (sp : Sp) : Prop where
  ex : ∃ f fd, PySem.W.findIn K (.ref C) m = some (some (.ref f)) ∧ PySem.W.isFn K (.ref f) = true ∧ Fun K m q st f fd ∧ Binds K fd ps [] ∧ FnOk P w K mg base CX0 k f fd ps sp
theorem MethDef.ok {P : Program} {w : World} {K : PySem.W.Frag} {mg : Str → Option Value} {base : Heap} {C : Addr} {m q : Str} {st : Stmt} {N ps : List Str} {k : Nat} {sp : Sp} (T : MethDef K C m q st ps) (S : FnScope N ps (defScope st)) (len : ∀ vs H Q E, sp vs H Q E → vs.length = ps.length)
    (hbody : ∀ (f : Addr) (cdv : Value) (A : Around) (outer : List Env) (s : Shared) (H : Hp) (vs : List V) (Q : VK) (E : XK), Room k (A.deeper (envOfC q (defScope st) s.heap.objs.size f cdv)) → sp vs H Q E →
      ∃ t, PSs (cxOf CX0 P w K mg base N q (defScope st) f cdv A outer s H E).nox (defBody st) t ∧ t { nx := fun _ H' => Q .non H', rt := Q } (start N vs) H) : MethOk P w K mg base C m q st ps (k + 1) sp := by
  obtain ⟨f, fd, h1, h2, F, hb⟩ := T.ex
  exact ⟨f, fd, h1, h2, F, hb, F.ok S len (hbody f)⟩
section
variable {X : Cx} {C : Addr} {m q : Str} {st : Stmt} {ps : List Str} {k : Nat} {sp : Sp} {o e : Expr} {es : List Expr} {ta : TE} {t tk : TA} {apos pos p : Pos} {pl : Sem Bool} {x : Str}
theorem pe_methD (D : MethOk X.prog X.w X.K X.mg X.base C m q st ps k sp) (c : Cls X.K C) (hr : Room k X.A) (he : PE X o ta) (ha : PA X (e :: es) t)
    (hst : starEach (e :: es) X.env = (false, eval e X.env) :: starEach es X.env := by rfl) (hpl : (backTo pos (starEach es X.env)).any (·.1) = false := by rfl)
    (ht : eval (.Call (.Attribute o m apos) (e :: es) [] pos) X.env = (do
      let ov ← eval o X.env
      standAt apos.atName
      let (f, first) ← holding [ov] (getMethod ov m pl)
      callWith pos f first (backTo pos (starEach (e :: es) X.env)) (backToKw pos (keywordEach [] X.env))) := by rfl) :
    PE X (.Call (.Attribute o m apos) (e :: es) [] pos) (tMeth C m sp [] E0 ta t) := by
  obtain ⟨f, fd, h1, h2, h3, hb, F⟩ := D.ex
  exact pe_meth he c ⟨h1, h2, h3.kp⟩ F hr hb .nil pass0 ha hst hpl ht
theorem pe_methD0 (D : MethOk X.prog X.w X.K X.mg X.base C m q st ps k sp) (c : Cls X.K C) (hr : Room k X.A) (he : PE X o ta)
    (ht : eval (.Call (.Attribute o m apos) [] [] pos) X.env = (do
      let ov ← eval o X.env
      standAt apos.atName
      let (f, first) ← holding [ov] (getMethod ov m pl)
      callWith pos f first (backTo pos (starEach [] X.env)) (backToKw pos (keywordEach [] X.env))) := by rfl) :
    PE X (.Call (.Attribute o m apos) [] [] pos) (tMeth C m sp [] E0 ta tNil) := by
  obtain ⟨f, fd, h1, h2, h3, hb, F⟩ := D.ex
  exact pe_meth0 he c ⟨h1, h2, h3.kp⟩ F hr hb .nil pass0 ht
/-- C(e, ..) -/
theorem pe_makeD (D : MethOk X.prog X.w X.K X.mg X.base C "__init__" q st ps k sp) (hmk : PySem.W.makesIn X.K C = true ∧ PySem.W.keepIn X.K (.ref C) = true) (hm : X.mg x = some (.ref C)) (hr : Room (k + 1) X.A) (ha : PA X (e :: es) t) (hg : Gl X x := by rfl)
    (hdb : (x == ("__debug__" : Str)) = false := by decide) (he : starEach (e :: es) X.env = (false, eval e X.env) :: starEach es X.env := by rfl) (hpl : (backTo pos (starEach es X.env)).any (·.1) = false := by rfl) :
    PE X (.Call (.Name x p) (e :: es) [] pos) (tMake C sp [] E0 t) := by
  obtain ⟨f, fd, h1, h2, h3, hb, F⟩ := D.ex
  exact pe_make ⟨hmk.1, h1, h2, hmk.2⟩ F hr hg hm hb .nil pass0 ha hdb he hpl
/-- C(k = e, ..): all by keywords in their order -/
theorem Fun.kbn {K : PySem.W.Frag} {x q : Str} {st : Stmt} {f : Addr} {fd : FuncData} {ps ks : List Str} {n : Nat} (F : Fun K x q st f fd)
    (h : ∀ (kV doc pm : Value) (an : Option Addr) (cdv ct : Value) (us ws : List Value), us.length = n → ws.length = ks.length → bindArgs (PySem.W.fnOf x q (defArgs st) (defBody st) (defScope st) .none kV doc pm an cdv ct) ⟨us, ks.zip ws⟩ = pure (ps.zip (us ++ ws))) :
    KBn K fd ps n ks (fun us ws => us ++ ws) (fun vs zs => vs ++ zs) := by
  obtain ⟨oc, od, kV, doc, pm, an, cdv, ct, osl, rfl, lk, hcd⟩ := F.ex
  exact ⟨fun s us ws _ l1 l2 => .of_eq (h kV doc pm an cdv ct us ws l1 l2), fun a b => a.append b⟩
theorem pe_makeD_kw {kws : List Keyword} {ks : List Str} (D : MethOk X.prog X.w X.K X.mg X.base C "__init__" q st ps k sp) (hmk : PySem.W.makesIn X.K C = true ∧ PySem.W.keepIn X.K (.ref C) = true) (hm : X.mg x = some (.ref C)) (hr : Room (k + 1) X.A)
    (h : ∀ (kV doc pm : Value) (an : Option Addr) (cdv ct : Value) (us ws : List Value), us.length = 1 → ws.length = ks.length → bindArgs (PySem.W.fnOf "__init__" q (defArgs st) (defBody st) (defScope st) .none kV doc pm an cdv ct) ⟨us, ks.zip ws⟩ = pure (ps.zip (us ++ ws)))
    (hkw : PK X kws tk) (hg : Gl X x := by rfl)
    (hall : (backToKw pos (keywordEach kws X.env)).all (·.1.isSome) = true := by rfl) (hks : (backToKw pos (keywordEach kws X.env)).filterMap (·.1) = ks := by rfl) (hdb : (x == ("__debug__" : Str)) = false := by decide)
    (hpl : ((backTo pos (starEach [] X.env)).any (·.1) || (backToKw pos (keywordEach kws X.env)).any (·.1.isNone)) = false := by rfl) :
    PE X (.Call (.Name x p) [] kws pos) (tMakeK C 0 ks.length sp (fun vs zs => vs ++ zs) E0 tNil tk) := by
  obtain ⟨f, fd, h1, h2, h3, hb, F⟩ := D.ex
  exact pe_makeK0 ⟨hmk.1, h1, h2, hmk.2⟩ F hr hg hm (h3.kbn h) pass0 hkw hall hks hdb hpl
end
/-- what isinstance and == ask of a class of the text -/
structure ClsIsi (K : PySem.W.Frag) (C : Addr) : Prop where
  ha : PySem.W.findIn K (.ref C) "__class__" = some (some (.builtin "object.__class__"))
  hn : PySem.W.specialIn K (.builtin "object.__class__") "__get__" = some (some (.builtin "getset_descriptor.__get__"))
  htk : PySem.W.takesIn K (.builtin "object.__class__") = some true
  hm : PySem.W.mroIn K C (.type "object") = some true
  self_ : PySem.W.kitOne K (.ref C) (.ref C) = some true
  int_ : PySem.W.kitOne K (.type "int") (.ref C) = some false
  non_ : PySem.W.kitOne K (.type "NoneType") (.ref C) = some false
  lst_ : PySem.W.kitOne K (.type "list") (.ref C) = some false
  nSelf : PySem.W.notFirst K C (.ref C) = true
  nInt : PySem.W.notFirst K C (.type "int") = true
  nNon : PySem.W.notFirst K C (.type "NoneType") = true
  nLst : PySem.W.notFirst K C (.type "list") = true
/-! ### the same rules with the written part named (within a comprehension) -/
section
variable {X : Cx} {K : PySem.W.Frag}
theorem ix_tupK (h : X.K = K := by rfl) : IxR X (rIxT K) := by
  subst h
  exact ix_tup
theorem ix_listK (h : X.K = K := by rfl) : IxR X (rIxL K) := by
  subst h
  exact ix_list
theorem call_lenK (h : X.K = K := by rfl) : CallR X (.builtin "len") (fun xs H Q => ∃ x n, xs = [x] ∧ LenV K x H n ∧ Q (.int n) H) := by
  subst h
  exact call_len
theorem call_isiK' (h : X.K = K := by rfl) : CallR X (.builtin "isinstance") (rIsi K) := by
  subst h
  exact call_isi
theorem call_list_ofK (h : X.K = K := by rfl) : CallR X (.type "list") (fun xs H Q => ∃ p ys, xs = [.ref p] ∧ (SqL K H p ys ∨ SqT K H p ys) ∧ ∀ l, H l = none → Q (.ref l) (upd H l (.lst ys))) := by
  subst h
  exact call_list_of
end
end L2

/-! The law's own def where it asks repr: its promise for the claim's caller alone (nothing is being shown around it), and its end. -/
namespace L2
open PySem PySem.Spec PyProof.Rows
/-- a promise that holds where nothing is being shown around the call -/
structure FnOkG (P : Program) (w : World) (K : PySem.W.Frag) (mg : Str → Option Value) (base : Heap) (k : Nat) (f : Addr) (fd : FuncData) (ps : List Str) (sp : Sp) : Prop where
  len : ∀ vs H Q E, sp vs H Q E → vs.length = ps.length
  go : ∀ (A : Around) (outer : List Env) (st : Shared) (H : Hp) (args : Args) (us : List Value) (vs : List V) (Q : VK) (E : XK), A.guards = some [] → Room k A → Env0 P w K mg base A outer st H → BindsTo st fd args (ps.zip us) →
    Vals vs us → sp vs H Q E → codeAny (model P w) A (.call (.ref f) args) (CR CX0 outer P w H st Q E) st
theorem some_neq {α : Type} {x : Option α} {o : α} (h : x = some o) : x ≠ none := by
  rw [h]
  exact fun z => nomatch z
section
variable {P : Program} {w : World} {K : PySem.W.Frag} {mg : Str → Option Value} {base : Heap}
theorem Fun.okG {x qual : Str} {d : Stmt} {f : Addr} {fd : FuncData} {N ps : List Str} {k : Nat} {sp : Sp} (F : Fun K x qual d f fd) (S : FnScope N ps (defScope d)) (len : ∀ vs H Q E, sp vs H Q E → vs.length = ps.length)
    (body : ∀ (cdv : Value) (A : Around) (outer : List Env) (st : Shared) (H : Hp) (vs : List V) (Q : VK) (E : XK), (A.deeper (envOfC qual (defScope d) st.heap.objs.size f cdv)).guards = some [] →
      Room k (A.deeper (envOfC qual (defScope d) st.heap.objs.size f cdv)) → sp vs H Q E →
      ∃ t, PSs (cxOf CX0 P w K mg base N qual (defScope d) f cdv A outer st H E).nox (defBody d) t ∧ t { nx := fun _ H' => Q .non H', rt := Q } (start N vs) H) : FnOkG P w K mg base (k + 1) f fd ps sp := by
  obtain ⟨oc, od, kV, doc, pm, an, cdv, ct, osl, rfl, at_f, cod⟩ := F.ex
  refine ⟨len, fun A outer st H args us vs Q E hgd room e0 hbd rel ask => ?_⟩
  have n_args := len _ _ _ _ ask
  have inK : K.In st.heap := e0.mod.kin.keeps fun b o q => (e0.bs b o q).1
  have noLim : st.heap.NoLimit := e0.mod.nolimit.keeps fun b o q => (e0.bs b o q).1
  have kinds : ∀ y ∈ ps.zip us, (defScope d).names.lookup y.1 = some .local ∨ ((defScope d).names.lookup y.1 = some .cell ∧ ((cellsFrom (st.heap.objs.size + 1) (defScope d).names []).lookup y.1).isSome = true) :=
    fun ⟨nm, u⟩ hy => (S.par nm (List.of_mem_zip hy).1).elim (fun q => .inl q) fun q => .inr ⟨q, PySem.W.cellsFrom_some _ _ _ (.inl q)⟩
  refine codeAny_call_function room.depth (inK _ _ at_f) rfl S.co S.gen rfl (PySem.W.codeRec_of inK cod) (hbd _ _ _ _ (wpAny_newFunctionEnv_cells S.kind kinds fun env he s1 x => ?_))
  subst he
  refine ⟨noLim.keeps x.toInCall.keep, codeAny_func ?_⟩
  obtain ⟨t, ht, hq⟩ := body cdv A outer st H vs Q E hgd (room.deeper _) ask
  refine wpAny_mono (ht.nox.run [] s1 (start N vs) H _ (inv_start S room.hd e0 n_args rel x) hq) (fun fl s' z => ?_) fun e s' z => z
  cases fl with
  | ret u =>
    obtain ⟨v, σ', H', J, rv, q⟩ := z
    exact ⟨v, H', J.os, J.bare, J.base, J.hok, rv, q⟩
  | next =>
    obtain ⟨σ', H', J, q⟩ := z
    exact ⟨V.non, H', J.os, J.bare, J.base, J.hok, rfl, q⟩
  | brk => exact z.elim fun _ z => z.elim fun _ z => z.2.elim
  | cont => exact z.elim fun _ z => z.elim fun _ z => z.2.elim
/-- the end: the law's call from the claim's caller -/
theorem law_callG {mb : Str → Option Value} {k : Nat} {fa a : Addr} {fd : FuncData} {x : Str} {sp : Sp} {st : Shared} {vs : List Value} {ns : List Int}
    (inK : K.In st.heap) (gl : st.heap.Ns mainGlobals mg) (bl : st.heap.Ns builtinsNs mb) (bb : ∀ x : Str, x ≠ "__name__" → mb x = bootBuiltins x) (lim : st.heap.NoLimit) (gens : st.gens = #[])
    (obj : st.heap.get? a = some { cls := .type "list", data := .seq vs.toArray }) (areInts : IntsAre vs ns) (short : ns.length ≤ sizeLine) (room : Room k callerA)
    (F : ∀ base : Heap, K.In base → base.Ns mainGlobals mg → FnOkG P w K mg base k fa fd [x] sp) (binds : ∀ (s : Shared) (u : Value), BindsTo s fd ⟨[u], []⟩ [(x, u)])
    (ask : ∀ H : Hp, SqL K H a (ns.map V.int) → sp [.ref a] H (fun v _ => v = .bl true) fun _ _ _ => False) :
    codeAny (model P w) callerA (.call (.ref fa) ⟨[.ref a], []⟩) (fun r s' => r = .ok (.ret (.bool true)) ∧ OldK st.heap s'.heap ∧ s'.os = st.os ∧ AllBare s'.gens) st := by
  have rel := vals_ints areInts
  have n_vs := areInts.length
  -- H: nothing is told of, or the script alone, as a thing that stays
  have core : ∀ H : Hp, (∀ b, H b = none ∨ ∃ ob xs, H b = some (.frz ob (.lst xs))) → SqL K H a (ns.map V.int) → HOk P w H st.heap → (∀ b, H b ≠ none → b = a) → (H a ≠ none → K.lookup a = none) →
      codeAny (model P w) callerA (.call (.ref fa) ⟨[.ref a], []⟩) (fun r s' => r = .ok (.ret (.bool true)) ∧ OldK st.heap s'.heap ∧ s'.os = st.os ∧ AllBare s'.gens) st := by
    intro H hO hS hok only_a notK
    have stands : ∀ {b : Addr} {o : Obj}, st.heap.get? b = some o → H b = none → (hidT st.heap H).get? b = some o := fun e n => hidT_get e n
    have free_of : ∀ {b : Addr}, b ≠ a → H b = none := fun {b} hb => by
      cases q : H b with
      | none => rfl
      | some u => exact absurd (only_a b (some_neq q)) hb
    have keepNs : ∀ {b : Addr} {m : Str → Option Value}, st.heap.Ns b m → (hidT st.heap H).Ns b m := fun {b m} ⟨o, es, ep, e, hdat, more⟩ => ⟨o, es, ep, stands e (free_of fun eq => by
      rw [eq, obj] at e
      cases e
      cases hdat), hdat, more⟩
    have inB : K.In (hidT st.heap H) := fun b o e => stands (inK b o e) (by
      cases q : H b with
      | none => rfl
      | some u =>
        have eq := only_a b (some_neq q)
        subst eq
        rw [notK (some_neq q)] at e
        cases e)
    have md : Mod K mg (hidT st.heap H) := ⟨inB, keepNs gl, ⟨mb, keepNs bl, bb⟩, lim.elim fun mc h => ⟨mc, keepNs h.1, h.2⟩⟩
    have e0 : Env0 P w K mg (hidT st.heap H) callerA [] st H := ⟨rfl, md, fun b o e => of_hidT e, Nat.le_of_eq (hidT_size _ _), trivial, fun b hb => (List.not_mem_nil (a := b) hb).elim, hok, .of_eq gens⟩
    refine codeAny_mono ((F _ inB (keepNs gl)).go callerA [] st H ⟨[.ref a], []⟩ [.ref a] [.ref a] _ _ rfl room e0 (binds st (.ref a)) (.cons rfl .nil) (ask H hS)) fun r s' z => ?_
    cases r with
    | error e => exact False.elim z
    | ok fl =>
      cases fl with
      | next => exact False.elim z
      | brk => exact False.elim z
      | cont => exact False.elim z
      | ret u =>
        obtain ⟨v, H', eos, br, un, ok2, rv, (ev : v = .bl true)⟩ := z
        subst ev
        cases rv
        refine ⟨rfl, OldK.of_keep fun b o e => ?_, eos, br⟩
        rcases hO b with q | ⟨ob, xs, q⟩
        · exact un.keep b o e q (fun z => (List.not_mem_nil (a := b) z).elim) (by simp)
        · have h1 := (hok b _ q).1
          have h2 := (ok2 b _ (un.frzs b ob _ q)).1
          rw [e] at h1
          cases h1
          exact h2
  cases at_a : K.lookup a with
  | some o =>
    have e := inK a o at_a
    rw [obj] at e
    cases e
    exact core (fun _ => none) (fun _ => .inl rfl) (.inr ⟨_, vs.toArray, _, at_a, rfl, rfl, rfl, by rw [List.size_toArray, n_vs]; exact short, by simpa using rel⟩) (fun b u z => nomatch z) (fun b z => absurd rfl z) fun z => absurd rfl z
  | none =>
    have yes : ∀ {b : Addr} {u : HO}, (if b = a then some (HO.frz { cls := .type "list", data := .seq vs.toArray } (.lst (ns.map V.int))) else none) = some u → b = a ∧ u = .frz { cls := .type "list", data := .seq vs.toArray } (.lst (ns.map V.int)) := fun {b u} z => by
      by_cases hb : b = a
      · rw [if_pos hb] at z
        exact ⟨hb, (Option.some.inj z).symm⟩
      · rw [if_neg hb] at z
        cases z
    refine core (fun b => if b = a then some (.frz { cls := .type "list", data := .seq vs.toArray } (.lst (ns.map V.int))) else none) (fun b => ?_) (.inl (.inr ⟨{ cls := .type "list", data := .seq vs.toArray }, if_pos rfl⟩)) (fun b u z => ?_) (fun b z => ?_) fun _ => at_a
    · by_cases hb : b = a
      · exact .inr ⟨_, _, if_pos hb⟩
      · exact .inl (if_neg hb)
    · obtain ⟨rfl, rfl⟩ := yes z
      exact ⟨obj, by rw [List.length_map]; exact short, vs, _, rel, obj⟩
    · by_cases hb : b = a
      · exact hb
      · exact absurd (if_neg hb) z
theorem walk_G {l : PySem.W.OpenLaw} {n k : Nat} {q : Program} {loose : List Str} {XP : (Str → Option Value) → Heap → Prop} {YP : World → Heap → Prop} {d : DefRec} {KK : Params → PySem.W.Frag} {sp : World → Sp} {x : Str}
    (hn : l.most = some n) (hn2 : n ≤ sizeLine) (hdf : d.params.defaults = []) (room : Room k callerA) (hY : ∀ (w : World) (h : Heap), YP w h → (KK w.params).In h)
    (F : ∀ (w : World) (mg : Str → Option Value) (fa : Addr) (h : Heap), (KK w.params).In h → h.Ns mainGlobals mg → mg d.name = some (.ref fa) →
      ∃ fd : FuncData, (∀ (s : Shared) (u : Value), BindsTo s fd ⟨[u], []⟩ [(x, u)]) ∧ ∀ base : Heap, (KK w.params).In base → base.Ns mainGlobals mg → FnOkG l.prog w (KK w.params) mg base k fa fd [x] (sp w))
    (ask : ∀ (w : World) (H : Hp) (a : Addr) (ns : List Int), ns.length ≤ n → SqL (KK w.params) H a (ns.map V.int) → sp w [.ref a] H (fun v _ => v = .bl true) fun _ _ _ => False) :
    PySem.W.WalkO q loose XP YP l.row.toRowW d [] (fun f vs => PySem.call f vs) :=
  Att.attach_call hn hdf fun w s₀ s₁ mg mb fa o pm cd doc a vs ns G Y ho hd hcd hmg hobj hints hlen hgens => by
    obtain ⟨fd, hb, hF⟩ := F w mg fa _ (hY w _ Y) G.T.g hmg
    exact law_callG (hY w _ Y) G.T.g G.T.b G.T.builtins G.T.nolimit hgens hobj hints (Nat.le_trans hlen hn2) room hF hb fun H hS => ask w H a ns hlen hS
end
end L2

/-! != by an own __eq__ without __ne__; a list of one such instance == a list of one other value. -/
namespace L2
open PySem PySem.Spec PyProof.Rows
/-- the class at C has an own __eq__ at f, and no __ne__; it stands on object alone -/
structure ClsNe (K : PySem.W.Frag) (C : Addr) : Prop where
  ex : ∃ (f : Addr) (nm q : Str) (N : Addr) (bs : List Value) (sn : List Str) (sub : List Value) (ab : Bool) (col : Option Bool) (dd : Option Addr) (k0 k1 k2 k3 k5 : Option Value) (oc : Value) (od : Option Addr) (es : Array DictEntry) (n : Nat) (sl : Array (Option Value)),
    K.lookup C = some (excClassObj nm q C N bs [.type "object"] true sn sub ab col dd k0 k1 k2 k3 k5 "object.__new__") ∧ K.lookup N = some ⟨oc, od, .dict es n, sl⟩ ∧ StrKeys es ∧ PySem.W.nsIn K N "__eq__" = some (some (.ref f)) ∧ PySem.W.nsIn K N "__ne__" = some none ∧
    PySem.W.findIn K (.ref C) "__eq__" = some (some (.ref f))
theorem find_of_nsIn {K : PySem.W.Frag} {N : Addr} {oc : Value} {od : Option Addr} {es : Array DictEntry} {n : Nat} {sl : Array (Option Value)} {x : Str} {r : Option Value} (h : K.lookup N = some ⟨oc, od, .dict es n, sl⟩) (e : PySem.W.nsIn K N x = some r) : nsFind es x = r := by
  unfold PySem.W.nsIn at e
  rw [h] at e
  dsimp only at e
  unfold nsFind findBy
  rw [← Array.find?_toList]
  have alt : ∀ en : DictEntry, Value.isStr en.key x = en.key.isStr x := fun _ => rfl
  cases q : es.toList.find? (·.key.isStr x) with
  | some en =>
    rw [q] at e
    simp only [Option.some.injEq] at e
    rw [← e]
    rfl
  | none =>
    rw [q] at e
    dsimp only at e
    split at e
    · cases e
    · cases e
      rfl
theorem strKeys_of {P : Params} {es : Array DictEntry} (h : PySem.W.KeysLit P es.toList) : StrKeys es := fun e he => by
  obtain ⟨x, t, e1, _⟩ := h.all e (Array.mem_toList_iff.mpr he)
  exact ⟨x, t, e1⟩
theorem kit_self {K : PySem.W.Frag} {C : Addr} : PySem.W.kitOne K (.ref C) (.ref C) = some true := if_pos (beq_self_eq_true _)
theorem kit_not {K : PySem.W.Frag} {C : Addr} {t : Value} {b : Bool} (hne : (match t with | .ref _ => false | _ => true) = true) (h1 : PySem.W.isClsIn K C = true) (h2 : PySem.W.typeIn K (.ref C) = some (.type "type")) (h3 : PySem.W.subIn K t (.ref C) = some b) : PySem.W.kitOne K t (.ref C) = some b := by
  have e : (t == Value.ref C) = false := by
    cases q : t == Value.ref C with
    | false => rfl
    | true =>
      have := eq_of_beq q
      subst this
      cases hne
  have h1' : (PySem.W.clsIn K C).isSome = true := h1
  show (if (t == Value.ref C) = true then some true else if ((PySem.W.clsIn K C).isSome && PySem.W.typeIn K (.ref C) == some (.type "type")) = true then PySem.W.subIn K t (.ref C) else none) = some b
  rw [e, if_neg Bool.false_ne_true, if_pos (by rw [h1', h2]; rfl)]
  exact h3
theorem isFn_obj {K : PySem.W.Frag} {f : Addr} (h : PySem.W.isFn K (.ref f) = true) : ∃ o, K.lookup f = some o ∧ o.cls = .type "function" := by
  unfold PySem.W.isFn at h
  exact Option.map_eq_some_iff.mp (beq_iff_eq.mp h)
def rNeO (C : Addr) (sp : Sp) : R2 := fun x y H Q => ∃ a b dx fs dy gs, x = .ref a ∧ y = .ref b ∧ H a = some (.ins C dx fs) ∧ H b = some (.ins C dy gs) ∧ sp [x, y] H (fun v H' => ∃ k, v = .bl k ∧ Q (.bl (!k)) H') E0
section
variable {X : Cx} {C : Addr} {k : Nat} {sp : Sp}
theorem op_neO (D : EqOk X.prog X.w X.K X.mg X.base C k sp) (N : ClsNe X.K C) (hr : Room (k + 1) X.A) (mono : ∀ vs H Q Q' E, (∀ v H', Q v H' → Q' v H') → sp vs H Q E → sp vs H Q' E) : OpR X (compareOp .NotEq) (rNeO C sp) := by
  intro pins s σ H x y v u Q I rx ry h
  obtain ⟨a, b, dx, fs, dy, gs, rfl, rfl, ea, eb, hs⟩ := h
  cases rx
  cases ry
  obtain ⟨f, fd, h1, h2, hb, F⟩ := D.ex
  obtain ⟨f', nm, q, NN, bs, sn, sub, ab, col, dd, k0, k1, k2, k3, k5, oc, od, es, n, sl, l1, l2, sk, e1, e2, e3⟩ := N.ex
  obtain rfl : f = f' := by
    have z := h1.symm.trans e3
    cases z
    rfl
  obtain ⟨mA, J, _⟩ := ins_get I.hok ea
  obtain ⟨oA, J, _⟩ := J.look
  obtain ⟨mB, J2, _⟩ := ins_get I.hok eb
  obtain ⟨oB, J2, _⟩ := J2.look
  obtain ⟨of, lf, cf⟩ := isFn_obj h2
  have base : s.heap.OwnEqNoNe a C f "object" [.type "object"] :=
    ⟨_, of, nm, q, NN, bs, true, sn, sub, ab, col, dd, k0, k1, k2, k3, k5, "object.__new__", nsFind es, _, J.at_, J.cls, I.kIn _ _ l1, ⟨_, es, n, I.kIn _ _ l2, rfl, sk, fun _ => rfl⟩, find_of_nsIn l2 e1, I.kIn _ _ lf, cf, PySem.F.mro_object, PySem.F.cmp_object.eq.lookup, find_of_nsIn l2 e2⟩
  have e0 : Env0 X.prog X.w X.K X.mg X.base X.A.in1 X.stack s H := I.env0.in1
  have hl := F.len _ _ _ _ hs
  have r2 : Vals [V.ref a, V.ref b] [Value.ref a, Value.ref b] := .cons rfl (.cons rfl .nil)
  have run := F.run X.A.in1 X.stack s H ⟨[.ref a, .ref b], []⟩ [.ref a, .ref b] [.ref a, .ref b] _ E0 hr.in1 e0 (by
    have := hb s [.ref a, .ref b] I.kIn (by simpa using hl)
    simpa using this) r2 hs
  obtain ⟨hp, g, d, t, os⟩ := s
  refine compareOp_ne_ownEq PySem.F.cmp_object base J2.at_ J2.cls (by have := hr.un; omega) (wpAny_call (codeAny_mono run fun r s' hq => ?_))
  cases r with
  | error e => exact False.elim hq
  | ok fl =>
    cases fl with
    | ret w =>
      obtain ⟨z, H', I', rz, b', ez, ex⟩ := I.after hq
      subst ez
      cases rz
      exact ⟨b', rfl, .bl (!b'), H', I', rfl, ex⟩
    | next => exact False.elim hq
    | brk => exact False.elim hq
    | cont => exact False.elim hq
end
end L2
namespace GQ1
open PySem PySem.SeqAt GQ
open AutoSeq1 (wpAny_loadPart')
open MeetsSeq MeetsSeq2 MeetsSeq3 SeqRoads2
section
variable {prog : Program} {w : World} {A : Around} {E : Value → Shared → Prop}
/-- two lists of one item each, whose items are not equal -/
theorem one_ne {l b : Addr} {x y : Value} {xs ys : Array Value} {n m : Nat} {st : Shared} {Q : Value → Shared → Prop} (hu : A.units < cLine) (hl : st.heap.get? l = some { cls := .type "list", data := .seq xs n }) (hb : st.heap.get? b = some { cls := .type "list", data := .seq ys m })
    (sx : xs.size = 1) (sy : ys.size = 1) (ex : xs[((0 : Int)).toNat]? = some x) (ey : ys[((0 : Int)).toNat]? = some y)
    (item : wpAny (model prog w) A.in1 (eqBool x y) (fun r s' => r = false ∧ (∃ zs us n' m', s'.heap.get? l = some { cls := .type "list", data := .seq zs n' } ∧ s'.heap.get? b = some { cls := .type "list", data := .seq us m' } ∧ zs[((0 : Int)).toNat]?.isSome = true ∧ us[((0 : Int)).toNat]?.isSome = true) ∧ Q (.bool false) s') E st) :
    wpAny (model prog w) A (richCompare .Eq (.ref l) (.ref b)) Q E st := by
  refine wpAny_richCompare_same_room (op := .Eq) ⟨_, hl, rfl⟩ ⟨_, hb, rfl⟩ F.slot_list_eq (call_here F.slot_list_eq ⟨_, hl, rfl⟩ F.entry_list_eq (F.args_list_eq_2 _ _) ?_) hu
  have sub := AutoSeq1.sub_list_list
  have turn : wpAny (model prog w) A.in1 (Builtin.«list.__eq__.loop» ⟨[.ref l, .ref b, rawInt 0, rawInt 2], []⟩) (FinOf prog w A (wants (fun v s' => v ≠ .notImplemented ∧ Q v s') E)) (fun e s' => wants (fun v s' => v ≠ .notImplemented ∧ Q v s') E (.error e) s') st := by
    obtain ⟨hp, g, d, tk, os⟩ := st
    wp_walk using wpAny_loadPart' hl, wpAny_loadPart' hb
    rw [ex, ey]
    refine wpAny_bind (wpAny_mono item (fun r s2 q => ?_) fun _ _ z => z)
    obtain ⟨hr, ⟨zs, us, n', m', hl2, hb2, i1, i2⟩, q⟩ := q
    subst hr
    obtain ⟨z, e1⟩ := Option.isSome_iff_exists.mp i1
    obtain ⟨u, e2⟩ := Option.isSome_iff_exists.mp i2
    obtain ⟨hp2, g2, d2, tk2, os2⟩ := s2
    wp_walk using wpAny_loadPart' hl2, wpAny_loadPart' hb2
    rw [e1, e2]
    wp_walk
    exact ⟨(fun z => nomatch z), q⟩
  have same : ¬ (xs.size != ys.size) = true := by simp [sx, sy]
  obtain ⟨hp, g, d, tk, os⟩ := st
  wp_walk using wpAny_loadPart' hl, wpAny_loadPart' hb
  exact ⟨plainId_quiet plain_eq_loop _, codeAny_builtin entry_eq_loop (by
    rw [Around.under_plainId plain_eq_loop _]
    exact turn)⟩
theorem eq_other {a : Addr} {y : Value} {st : Shared} {Q : Bool → Shared → Prop} (hy : y = .none) (h : wpAny (model prog w) A (richCompare .Eq (.ref a) y) (fun v s' => ∃ r, v = .bool r ∧ Q r s') E st) : wpAny (model prog w) A (eqBool (.ref a) y) Q E st := by
  subst hy
  unfold eqBool
  refine wpAny_holding ?_
  refine wpAny_ite_split (fun z => absurd (eq_of_beq z) (fun z => nomatch z)) fun _ => ?_
  refine wpAny_bind (wpAny_mono h (fun v s' hv => ?_) fun _ _ z => z)
  obtain ⟨r, rfl, q⟩ := hv
  exact wpAny_truthy_bool q
end
end GQ1
namespace L2
open PySem PySem.Spec PyProof.Rows
section
variable {X : Cx} {C : Addr} {k : Nat} {sp : Sp}
/-- [a] == [None], a an instance that is not equal to None -/
def rEq1 (K : PySem.W.Frag) (C : Addr) (sp : Sp) : R2 := fun x y H Q => ∃ l b a dx fs, x = .ref l ∧ y = .ref b ∧ H l = some (.lst [.ref a]) ∧ H b = some (.lst [.non]) ∧ H a = some (.ins C dx fs) ∧ PySem.W.notFirst K C (.type "NoneType") = true ∧ sp [.ref a, .non] H (fun v H' => v = .bl false ∧ H' = H) E0 ∧ Q (.bl false) H
theorem op_eq1 (D : EqOk X.prog X.w X.K X.mg X.base C k sp) (hr : Room (k + 1) X.A) (mono : ∀ vs H Q Q' E, (∀ v H', Q v H' → Q' v H') → sp vs H Q E → sp vs H Q' E) : OpR X (compareOp .Eq) (rEq1 X.K C sp) := by
  intro pins s σ H x y v u Q I rx ry h
  obtain ⟨l, b, a, dx, fs, rfl, rfl, hl, hb, ha, hn, hs, q⟩ := h
  cases rx
  cases ry
  obtain ⟨_, its, n, r1, h1⟩ := (show ObjOk X.prog X.w H s.heap l (.lst [.ref a]) from I.hok l _ hl)
  obtain ⟨_, its2, m, r2, h2⟩ := (show ObjOk X.prog X.w H s.heap b (.lst [.non]) from I.hok b _ hb)
  cases r1 with | cons q1 t1 =>
  cases t1
  cases q1
  cases r2 with | cons q2 t2 =>
  cases t2
  cases q2
  show wpAny (model X.prog X.w) X.A (richCompare .Eq (.ref l) (.ref b)) (EP X pins σ Q) X.xe s
  refine GQ1.one_ne (x := .ref a) (y := .none) hr.units0 h1 h2 rfl rfl rfl rfl (GQ1.eq_other rfl (wpAny_mono (run_eqO D (R := fun c s' => c = false ∧ Inv X pins σ H s' ∧ True) (hr.in1) rfl I ha (show RelV .non Value.none from rfl) .non hn (mono _ _ _ _ _ (fun v H' z => ?_) hs)) (fun r s' z => ?_) fun _ _ z => z))
  · obtain ⟨rfl, rfl⟩ := z
    exact ⟨false, rfl, fun s' I' => ⟨rfl, I', True.intro⟩⟩
  · obtain ⟨c, rfl, rfl, I', _⟩ := z
    obtain ⟨_, jts, n', r1, g1⟩ := (show ObjOk X.prog X.w H s'.heap l (.lst [.ref a]) from I'.hok l _ hl)
    obtain ⟨_, jts2, m', r2, g2⟩ := (show ObjOk X.prog X.w H s'.heap b (.lst [.non]) from I'.hok b _ hb)
    cases r1 with | cons q1 t1 =>
    cases t1
    cases q1
    cases r2 with | cons q2 t2 =>
    cases t2
    cases q2
    exact ⟨false, rfl, rfl, ⟨_, _, n', m', g1, g2, rfl, rfl⟩, .bl false, H, I', rfl, q⟩
end
end L2

/-! for k in w, w a dict of the module whose keys are texts. -/
namespace L2
open PySem PySem.Spec PyProof.Rows
/-- the keys of such a dict -/
def keysL : List DictEntry → Option (List Str)
  | [] => some []
  | e :: r => match e.key, keysL r with
    | .str z _, some zs => some (z :: zs)
    | _, _ => none
theorem keysL_cons {e : DictEntry} {r : List DictEntry} {ks : List Str} (h : keysL (e :: r) = some ks) : ∃ z t zs, e.key = .str z t ∧ keysL r = some zs ∧ ks = z :: zs := by
  unfold keysL at h
  split at h
  · rename_i z t zs e1 e2
    cases h
    exact ⟨z, t, zs, e1, e2, rfl⟩
  · cases h
theorem keysL_len : ∀ {es : List DictEntry} {ks : List Str}, keysL es = some ks → ks.length = es.length
  | [], ks, h => by
    cases h
    rfl
  | e :: r, ks, h => by
    obtain ⟨z, t, zs, _, h2, rfl⟩ := keysL_cons h
    rw [List.length_cons, List.length_cons, keysL_len h2]
theorem keysL_get : ∀ {es : List DictEntry} {ks : List Str} {i : Nat}, keysL es = some ks → i < ks.length → ∃ e z t, es[i]? = some e ∧ e.key = .str z t ∧ ks[i]? = some z
  | [], ks, i, h, hi => by
    cases h
    exact absurd hi (Nat.not_lt_zero _)
  | e :: r, ks, i, h, hi => by
    obtain ⟨z, t, zs, h1, h2, rfl⟩ := keysL_cons h
    cases i with
    | zero => exact ⟨e, z, t, rfl, h1, rfl⟩
    | succ i =>
      obtain ⟨e', z', t', a, b, c⟩ := keysL_get h2 (i := i) (by simpa using hi)
      exact ⟨e', z', t', by simpa using a, b, by simpa using c⟩
/-- turns over the texts ks -/
def Iwk (ks : List Str) : It := ⟨fun i _ => i < ks.length, fun i H x H' => H' = H ∧ ∃ z, ks[i]? = some z ∧ x = .str z, fun i _ => ks.length ≤ i⟩
theorem walk_wk {ks : List Str} : Walk (Iwk ks) ks.length (fun _ => True) (fun i H x H' => H' = H ∧ ∃ z, ks[i]? = some z ∧ x = .str z) :=
  ⟨fun _ _ h _ => h, fun _ _ => Nat.le_refl _, fun _ _ _ _ _ _ y => y⟩
section
variable {P : Program} {w : World} {K : PySem.W.Frag} {tg : Expr}
theorem turn_wk {a : Addr} {es : Array DictEntry} {n : Nat} {ks : List Str} (it : Addr) (hl : K.lookup a = some ⟨.type "dict", none, .dict es n, #[]⟩) (hk : keysL es.toList = some ks) :
    Turn P w K tg (Iwk ks) [it] it (fun i h => h.IsKeyIter it a i ks.length n) where
  mem := List.mem_singleton.mpr rfl
  obj := fun i h st b hb => by
    obtain rfl : b = it := List.mem_singleton.mp hb
    obtain ⟨o, e1, _, e3⟩ := st
    exact ⟨o, e1, fun v z => by rw [e3] at z; cases z⟩
  keep := fun i h h' st k => st.at fun o e => k it (List.mem_singleton.mpr rfl) o e
  item := by
    intro X eP ew eK hc i pins s σ H E I hf st hg
    subst eP ew eK
    obtain ⟨f0, f1, f2, f3, f4, f5⟩ := hf it (List.mem_singleton.mpr rfl)
    obtain ⟨en, z, tk, e1, e2, e3⟩ := keysL_get hk hg
    have hsz : es.size = ks.length := by rw [keysL_len hk, Array.length_toList]
    refine next_key_item st (I.kIn _ _ hl) rfl hsz (by rw [← Array.getElem?_toList]; exact e1) fun h' st' sb => ?_
    have J : Inv X pins σ H { s with heap := h' } := I.turned (t' := s.toks) (fun b o hb q => (sb.2 b hb).trans q) f0 f1 f3 f4 f5
    obtain ⟨o, q1, q2, q3⟩ := id st'
    refine ⟨en.key, rfl, go_of (s := { s with heap := h' }) q1 q2 q3 (by decide) ⟨.str z, H, J, ?_, ⟨rfl, z, e3, rfl⟩, st', fun b hb => (hf b hb).1⟩⟩
    rw [e2]
    exact ⟨tk, rfl⟩
  done := by
    intro X eP ew eK hc i pins s σ H E I hf st hg
    subst eP ew eK
    obtain ⟨f0, f1, f2, f3, f4, f5⟩ := hf it (List.mem_singleton.mpr rfl)
    have hsz : es.size = ks.length := by rw [keysL_len hk, Array.length_toList]
    exact next_key_end (I.ok.hd hc) st (I.kIn _ _ hl) rfl hsz hg fun h' eb => ⟨rfl, I.turned (t' := s.toks) (fun b o hb q => eb b o hb q) f0 f1 f3 f4 f5⟩
  self := fun B j s Q E turned more => by
    have hT := turned.typeIs
    exact wpAny_pyIter_slot hT F.slot_dict_keyiterator_iter (wpAny_call_entry F.slot_dict_keyiterator_iter hT F.entry_dict_keyiterator_iter (wpAny_pure ⟨_, rfl, "dict_keyiterator", _, hT, F.slot_dict_keyiterator_next.lookup, more⟩) (F.args_dict_keyiterator_iter_1 _))
end
def iWk (K : PySem.W.Frag) (td : TE) : TI := fun σ H R => td σ H fun x H1 => ∃ a es n ks, x = .ref a ∧ K.lookup a = some ⟨.type "dict", none, .dict es n, #[]⟩ ∧ (a == sysModules) = false ∧ keysL es.toList = some ks ∧ R (Iwk ks) H1
theorem pi_wk {X : Cx} {tg e : Expr} {td : TE} (he : PE X e td) : PI X tg e (iWk X.K td) := by
  refine ⟨fun pins s σ H R I h => ?_⟩
  refine thn (he.run pins s σ H _ I h) fun u s1 ⟨x, H1, I1, rx, a, es, n, ks, ex, hl, hs, hk, q⟩ => ?_
  subst ex
  obtain rfl : u = Value.ref a := rx
  have hsz : es.size = ks.length := by rw [keysL_len hk, Array.length_toList]
  refine iter_keys hs (I1.kIn _ _ hl) ⟨rfl, rfl, rfl⟩ rfl (pi_one (tk := s1.toks) I1 _ (turn_wk _ hl hk) ⟨_, Heap.get?_push_size _ rfl, rfl, ?_⟩ q)
  rw [hsz] <;> rfl
end L2

/-! Documents as plain data: rows, their texts, and how a text is read. -/
namespace Lw
open PySem L2
def GoodS (n : Nat) (z : Str) : Prop := z.cps.size ≤ n ∧ ∀ c ∈ z.cps.toList, 32 ≤ c ∧ c ≤ 126
inductive Row where
  | text (z : Str) | line (z : Str) | hard | cat (ps : List Int) | nest (n j : Int) | align (j : Int) | group (j : Int)
def Row.data : Row → PyData
  | .text z => .tuple [.str "text", .str z]
  | .line z => .tuple [.str "line", .str z]
  | .hard => .tuple [.str "hard"]
  | .cat ps => .tuple [.str "cat", .list (ps.map .int)]
  | .nest n j => .tuple [.str "nest", .int n, .int j]
  | .align j => .tuple [.str "align", .int j]
  | .group j => .tuple [.str "group", .int j]
def Row.ok (k : Nat) : Row → Prop
  | .text z => GoodS 20 z
  | .line z => GoodS 3 z
  | .hard => True
  | .cat ps => ps.length ≤ 8 ∧ ∀ j ∈ ps, 0 ≤ j ∧ j < k
  | .nest n j => 0 ≤ n ∧ n ≤ 8 ∧ 0 ≤ j ∧ j < k
  | .align j => 0 ≤ j ∧ j < k
  | .group j => 0 ≤ j ∧ j < k
theorem GoodS.mono {n m : Nat} {z : Str} (h : GoodS n z) (hm : n ≤ m) : GoodS m z := ⟨Nat.le_trans h.1 hm, h.2⟩
def OkRows (rs : List Row) : Prop := ∀ (i : Nat) (r : Row), rs[i]? = some r → Row.ok i r
theorem OkRows.snoc {rs : List Row} {r : Row} (h : OkRows rs) (hr : r.ok rs.length) : OkRows (rs ++ [r]) := fun i q e => by
  rcases Nat.lt_trichotomy i rs.length with l | l | l
  · rw [List.getElem?_append_left l] at e
    exact h i q e
  · subst l
    rw [List.getElem?_append_right (Nat.le_refl _), Nat.sub_self] at e
    cases e
    exact hr
  · rw [List.getElem?_eq_none (by rw [List.length_append, List.length_singleton]; omega)] at e
    cases e
def Row.kind : Row → Str
  | .text _ => "text" | .line _ => "line" | .hard => "hard" | .cat _ => "cat" | .nest _ _ => "nest" | .align _ => "align" | .group _ => "group"

/-! ### a line is read -/
def comm : List Nat → List Nat → Nat
  | a :: as, b :: bs => if a = b then comm as bs + 1 else 0
  | _, _ => 0
/-- digits of a number less than e -/
def digs (e : Nat) : List Nat → Option Nat → Nat → Option Nat × Nat
  | [], n, s => (n, s)
  | c :: r, n, s => if 48 ≤ c ∧ c ≤ 57 then (if n = some 0 ∨ e ≤ n.getD 0 * 10 + (c - 48) then (n, s) else digs e r (some (n.getD 0 * 10 + (c - 48))) (s + 1)) else (n, s)
def rdNum (l : List Nat) (s e : Nat) : Option Nat × Nat := if e = 0 ∨ l[s]? ≠ some 32 then (none, s) else digs e (l.drop (s + 1)) none (s + 1)
def good (c : Nat) : Bool := decide (32 ≤ c ∧ c ≤ 126)
def run : Nat → List Nat → Nat
  | 0, _ => 0
  | _ + 1, [] => 0
  | m + 1, c :: r => if good c then run m r + 1 else 0
/-- k: the length of the kind -/
def rdStr (k : Nat) (l : List Nat) (most : Nat) : Option (List Nat) × Nat :=
  if l[k]? ≠ some 32 then (none, k) else if k + 1 + run most (l.drop (k + 1)) < l.length then (none, k + 1 + run most (l.drop (k + 1))) else (some (l.drop (k + 1)), k + 1 + run most (l.drop (k + 1)))
def rdParts (l : List Nat) (k : Nat) : Nat → Nat → List Nat → Option (List Nat) × Nat
  | 0, s, ps => if s < l.length then (none, s) else (some ps, s)
  | m + 1, s, ps => if s < l.length then (match rdNum l s k with | (none, t) => (none, t) | (some p, t) => rdParts l k m t (ps ++ [p])) else (some ps, s)
def rdNums (l : List Nat) : List Nat → Nat → List Nat → Option (List Nat) × Nat
  | [], s, fs => if s < l.length then (none, s) else (some fs, s)
  | e :: es, s, fs => match rdNum l s e with | (none, t) => (none, t) | (some n, t) => rdNums l es t (fs ++ [n])
inductive Kind where
  | text | line | hard | cat | nest | align | group
  deriving DecidableEq
def Kind.str : Kind → Str
  | .text => "text" | .line => "line" | .hard => "hard" | .cat => "cat" | .nest => "nest" | .align => "align" | .group => "group"
def Kind.cps (q : Kind) : List Nat := q.str.cps.toList
def kinds : List Kind := [.text, .line, .hard, .cat, .nest, .align, .group]
def Kind.needs : Kind → Bool
  | .nest => true | .align => true | .group => true | _ => false
def strOf (l : List Nat) : Str := ⟨l.toArray⟩
def rdKind (q : Kind) (l : List Nat) (k : Nat) : Option Row × Nat :=
  if k = 0 ∧ q.needs = true then (none, 0) else
  if comm q.cps l < q.cps.length then (none, comm q.cps l) else
  match q with
  | .text => match rdStr 4 l 20 with | (none, s) => (none, s) | (some z, s) => (some (.text (strOf z)), s)
  | .line => match rdStr 4 l 3 with | (none, s) => (none, s) | (some z, s) => (some (.line (strOf z)), s)
  | .cat => match rdParts l k 8 3 [] with | (none, s) => (none, s) | (some ps, s) => (some (.cat (ps.map Int.ofNat)), s)
  | .nest => match rdNums l [9, k] 4 [] with | (some [n, j], s) => (some (.nest n j), s) | (_, s) => (none, s)
  | .hard => match rdNums l [] 4 [] with | (some _, s) => (some .hard, s) | (none, s) => (none, s)
  | .align => match rdNums l [k] 5 [] with | (some [j], s) => (some (.align j), s) | (_, s) => (none, s)
  | .group => match rdNums l [k] 5 [] with | (some [j], s) => (some (.group j), s) | (_, s) => (none, s)
def rdRow (l : List Nat) (k : Nat) : List Kind → Nat → Option Row × Nat
  | [], m => (none, m)
  | q :: qs, m => match rdKind q l k with | (some r, s) => (some r, s) | (none, s) => rdRow l k qs (max m s)
def rdDoc : List (List Nat) → List Row → Except (Nat × Nat) (List Row)
  | [], rs => .ok rs
  | l :: ls, rs => if rs.length = 200 then .error (200, 0) else match rdRow l rs.length kinds 0 with | (none, s) => .error (rs.length, s) | (some r, _) => rdDoc ls (rs ++ [r])

/-! ### what is read is a row -/
theorem digs_lt {e : Nat} : ∀ {l : List Nat} {n : Option Nat} {s : Nat} {m t : Nat}, digs e l n s = (some m, t) → (∀ a, n = some a → a < e) → m < e
  | [], n, s, m, t, h, hn => by
    cases h
    exact hn m rfl
  | c :: r, n, s, m, t, h, hn => by
    unfold digs at h
    split at h
    · split at h
      · cases h
        exact hn m rfl
      · rename_i h2
        refine digs_lt h fun a ha => ?_
        cases ha
        omega
    · cases h
      exact hn m rfl
theorem rdNum_lt {l : List Nat} {s e m t : Nat} (h : rdNum l s e = (some m, t)) : m < e := by
  unfold rdNum at h
  split at h
  · cases h
  · exact digs_lt h fun a ha => nomatch ha
theorem run_le : ∀ (m : Nat) (l : List Nat), run m l ≤ m ∧ run m l ≤ l.length
  | 0, l => ⟨Nat.le_refl _, Nat.zero_le _⟩
  | m + 1, [] => ⟨Nat.zero_le _, Nat.zero_le _⟩
  | m + 1, c :: r => by
    have := run_le m r
    unfold run
    rw [List.length_cons]
    split <;> omega
theorem run_good : ∀ (m : Nat) (l : List Nat) (i : Nat), i < run m l → ∃ c, l[i]? = some c ∧ good c = true
  | 0, l, i, h => absurd h (Nat.not_lt_zero _)
  | m + 1, [], i, h => absurd h (Nat.not_lt_zero _)
  | m + 1, c :: r, i, h => by
    unfold run at h
    split at h
    · rename_i hc
      cases i with
      | zero => exact ⟨c, rfl, hc⟩
      | succ i => exact run_good m r i (by omega)
    · omega
theorem rdStr_ok {k most s : Nat} {l z : List Nat} (h : rdStr k l most = (some z, s)) : GoodS most (strOf z) := by
  unfold rdStr at h
  split at h
  · cases h
  split at h
  · cases h
  rename_i h2
  cases h
  have r1 := run_le most (l.drop (k + 1))
  rw [List.length_drop] at r1
  refine ⟨?_, fun c hc => ?_⟩
  · show (l.drop (k + 1)).toArray.size ≤ most
    rw [List.size_toArray, List.length_drop]
    omega
  · obtain ⟨i, hi⟩ := List.mem_iff_getElem?.mp (show c ∈ l.drop (k + 1) by simpa [strOf] using hc)
    have hlt : i < (l.drop (k + 1)).length := (List.getElem?_eq_some_iff.mp hi).1
    rw [List.length_drop] at hlt
    obtain ⟨d, h1, h2⟩ := run_good most (l.drop (k + 1)) i (by omega)
    rw [hi] at h1
    cases h1
    exact of_decide_eq_true h2
theorem rdParts_ok {l : List Nat} {k : Nat} : ∀ {m s : Nat} {ps qs : List Nat} {t : Nat}, rdParts l k m s ps = (some qs, t) → (∀ p ∈ ps, p < k) → qs.length ≤ ps.length + m ∧ ∀ p ∈ qs, p < k
  | 0, s, ps, qs, t, h, hp => by
    unfold rdParts at h
    split at h <;> cases h
    exact ⟨Nat.le_refl _, hp⟩
  | m + 1, s, ps, qs, t, h, hp => by
    unfold rdParts at h
    split at h
    · split at h
      · cases h
      · rename_i p t' e
        have := rdParts_ok h fun q hq => by
          rcases List.mem_append.mp hq with hq | hq
          · exact hp q hq
          · rw [List.mem_singleton.mp hq]
            exact rdNum_lt e
        rw [List.length_append, List.length_singleton] at this
        exact ⟨by omega, this.2⟩
    · cases h
      exact ⟨by omega, hp⟩
theorem rdNums1 {l : List Nat} {e s j t : Nat} {fs : List Nat} (h : rdNums l [e] s [] = (some fs, t)) : ∃ j, fs = [j] ∧ j < e := by
  unfold rdNums at h
  split at h
  · cases h
  · rename_i n t' e1
    unfold rdNums at h
    split at h <;> cases h
    exact ⟨n, rfl, rdNum_lt e1⟩
theorem rdNums2 {l : List Nat} {e e' s j t : Nat} {fs : List Nat} (h : rdNums l [e, e'] s [] = (some fs, t)) : ∃ i j, fs = [i, j] ∧ i < e ∧ j < e' := by
  unfold rdNums at h
  split at h
  · cases h
  · rename_i n t' e1
    unfold rdNums at h
    split at h
    · cases h
    · rename_i m t2 e2
      unfold rdNums at h
      split at h <;> cases h
      exact ⟨n, m, rfl, rdNum_lt e1, rdNum_lt e2⟩
theorem rdKind_ok {q : Kind} {l : List Nat} {k s : Nat} {r : Row} (h : rdKind q l k = (some r, s)) : r.ok k := by
  unfold rdKind at h
  split at h
  · cases h
  split at h
  · cases h
  cases q with
  | text =>
    dsimp only at h
    split at h <;> cases h
    exact rdStr_ok (by assumption)
  | line =>
    dsimp only at h
    split at h <;> cases h
    exact rdStr_ok (by assumption)
  | hard =>
    dsimp only at h
    split at h <;> cases h
    exact True.intro
  | cat =>
    dsimp only at h
    split at h <;> cases h
    rename_i ps e
    have := rdParts_ok e fun p hp => nomatch hp
    refine ⟨by rw [List.length_map]; simpa using this.1, fun j hj => ?_⟩
    obtain ⟨n, hn, rfl⟩ := List.mem_map.mp hj
    exact ⟨Int.natCast_nonneg n, Int.ofNat_lt.mpr (this.2 n hn)⟩
  | nest =>
    dsimp only at h
    split at h <;> cases h
    rename_i n j e
    obtain ⟨a, b, e1, h1, h2⟩ := rdNums2 (j := 0) e
    cases e1
    exact ⟨Int.natCast_nonneg _, by omega, Int.natCast_nonneg _, Int.ofNat_lt.mpr h2⟩
  | align =>
    dsimp only at h
    split at h <;> cases h
    rename_i j e
    obtain ⟨a, e1, h1⟩ := rdNums1 (j := 0) e
    cases e1
    exact ⟨Int.natCast_nonneg _, Int.ofNat_lt.mpr h1⟩
  | group =>
    dsimp only at h
    split at h <;> cases h
    rename_i j e
    obtain ⟨a, e1, h1⟩ := rdNums1 (j := 0) e
    cases e1
    exact ⟨Int.natCast_nonneg _, Int.ofNat_lt.mpr h1⟩
theorem rdRow_ok {l : List Nat} {k : Nat} {r : Row} {s : Nat} : ∀ {qs : List Kind} {m : Nat}, rdRow l k qs m = (some r, s) → r.ok k
  | [], m, h => by cases h
  | q :: qs, m, h => by
    unfold rdRow at h
    split at h
    · cases h
      exact rdKind_ok (by assumption)
    · exact rdRow_ok h
theorem rdDoc_ok : ∀ {ls : List (List Nat)} {rs qs : List Row}, rdDoc ls rs = .ok qs → OkRows rs → rs.length ≤ 200 → OkRows qs ∧ qs.length ≤ 200 ∧ qs.length = rs.length + ls.length
  | [], rs, qs, h, ho, hl => by
    cases h
    exact ⟨ho, hl, rfl⟩
  | l :: ls, rs, qs, h, ho, hl => by
    unfold rdDoc at h
    split at h
    · cases h
    split at h
    · cases h
    · rename_i hne r s e
      have := rdDoc_ok h (ho.snoc (rdRow_ok e)) (by rw [List.length_append, List.length_singleton]; omega)
      rw [List.length_append, List.length_singleton] at this
      rw [List.length_cons]
      exact ⟨this.1, this.2.1, by omega⟩

/-! ### the text of a row, and back -/
def dg (n : Nat) : List Nat := if n < 10 then [48 + n] else if n < 100 then [48 + n / 10, 48 + n % 10] else [48 + n / 100, 48 + n / 10 % 10, 48 + n % 10]
/-- the words of a row behind its kind -/
def Row.words : Row → List (List Nat)
  | .text z => [z.cps.toList]
  | .line z => [z.cps.toList]
  | .hard => []
  | .cat ps => ps.map fun p => dg p.toNat
  | .nest n j => [dg n.toNat, dg j.toNat]
  | .align j => [dg j.toNat]
  | .group j => [dg j.toNat]
def tailL (ws : List (List Nat)) : List Nat := ws.flatMap fun w => 32 :: w
def Row.q : Row → Kind
  | .text _ => .text | .line _ => .line | .hard => .hard | .cat _ => .cat | .nest _ _ => .nest | .align _ => .align | .group _ => .group
def Row.codes (r : Row) : List Nat := r.q.cps ++ tailL r.words
theorem digs_dg {e n : Nat} {r : List Nat} {s : Nat} (hn : n < e) (he : e ≤ 1000) (hr : r = [] ∨ ∃ t, r = 32 :: t) : digs e (dg n ++ r) none s = (some n, s + (dg n).length) := by
  have stop : ∀ (m : Nat) (s : Nat), digs e r (some m) s = (some m, s) := fun m s => by
    rcases hr with rfl | ⟨t, rfl⟩
    · rfl
    · unfold digs
      rw [if_neg (by decide)]
  have step : ∀ (o : Option Nat) (d : Nat) (s : Nat) (t : List Nat), d < 10 → o ≠ some 0 → o.getD 0 * 10 + d < e → digs e ((48 + d) :: t) o s = digs e t (some (o.getD 0 * 10 + d)) (s + 1) := fun o d s t hd ho hlt => by
    conv => lhs; unfold digs
    rw [if_pos (by omega), show 48 + d - 48 = d by omega, if_neg (by rintro (h | h) <;> first | exact ho h | omega)]
  unfold dg
  split
  · rename_i h
    rw [List.cons_append, step none n s _ h (fun z => nomatch z) (by simpa using hn)]
    simpa using stop n (s + 1)
  split
  · rename_i h1 h
    rw [List.cons_append, step none (n / 10) s _ (by omega) (fun z => nomatch z) (by simp; omega), List.cons_append, step _ (n % 10) _ _ (by omega) (fun z => by
      have := Option.some.inj z
      simp at this
      omega) (by simp; omega)]
    have e1 : (some (Option.getD none 0 * 10 + n / 10)).getD 0 * 10 + n % 10 = n := by simp; omega
    rw [e1]
    exact stop n (s + 2)
  · rename_i h1 h
    rw [List.cons_append, step none (n / 100) s _ (by omega) (fun z => nomatch z) (by simp; omega), List.cons_append, step _ (n / 10 % 10) _ _ (by omega) (fun z => by
      have := Option.some.inj z
      simp at this
      omega) (by simp; omega), List.cons_append, step _ (n % 10) _ _ (by omega) (fun z => by
      have := Option.some.inj z
      simp at this
      omega) (by simp; omega)]
    have e1 : (some ((some (Option.getD none 0 * 10 + n / 100)).getD 0 * 10 + n / 10 % 10)).getD 0 * 10 + n % 10 = n := by simp; omega
    rw [e1]
    exact stop n (s + 3)
/-- l is p, then w -/
theorem rdNum_dg {p : List Nat} {e n : Nat} {r : List Nat} (hn : n < e) (he : e ≤ 1000) (hr : r = [] ∨ ∃ t, r = 32 :: t) : rdNum (p ++ 32 :: (dg n ++ r)) p.length e = (some n, p.length + (1 + (dg n).length)) := by
  unfold rdNum
  rw [if_neg (by
    rintro (h | h)
    · omega
    · exact h (by rw [List.getElem?_append_right (Nat.le_refl _), Nat.sub_self]; rfl)), show p ++ 32 :: (dg n ++ r) = (p ++ [32]) ++ (dg n ++ r) by simp, List.drop_append_of_le_length (by simp), show List.drop (p.length + 1) (p ++ [32]) = [] from List.drop_eq_nil_of_le (by simp), List.nil_append, digs_dg hn he hr]
  congr 1
  omega
theorem tail_shape (ws : List (List Nat)) : tailL ws = [] ∨ ∃ t, tailL ws = 32 :: t := by
  cases ws with
  | nil => exact .inl rfl
  | cons w ws => exact .inr ⟨w ++ tailL ws, by simp [tailL]⟩
theorem tail_cons (w : List Nat) (ws : List (List Nat)) : tailL (w :: ws) = 32 :: (w ++ tailL ws) := by simp [tailL]
theorem rdParts_back {k : Nat} (hk : k ≤ 1000) : ∀ (ps : List Nat) (p : List Nat) (m : Nat) (qs : List Nat), ps.length ≤ m → (∀ j ∈ ps, j < k) → ∃ t, rdParts (p ++ tailL (ps.map dg)) k m p.length qs = (some (qs ++ ps), t)
  | [], p, 0, qs, hm, hj => ⟨p.length, by
    unfold rdParts
    rw [if_neg (by simp [tailL])]
    simp⟩
  | [], p, m + 1, qs, hm, hj => ⟨p.length, by
    unfold rdParts
    rw [if_neg (by simp [tailL])]
    simp⟩
  | j :: ps, p, 0, qs, hm, hj => absurd hm (by simp)
  | j :: ps, p, m + 1, qs, hm, hj => by
    have e := rdNum_dg (p := p) (hj j List.mem_cons_self) hk (tail_shape (ps.map dg))
    obtain ⟨t, ht⟩ := rdParts_back hk ps (p ++ 32 :: dg j) m (qs ++ [j]) (by simpa using hm) fun i hi => hj i (List.mem_cons_of_mem _ hi)
    refine ⟨t, ?_⟩
    rw [List.map_cons, tail_cons]
    unfold rdParts
    rw [if_pos (by rw [List.length_append, List.length_cons]; omega), e]
    dsimp only
    have e2 : p.length + (1 + (dg j).length) = (p ++ 32 :: dg j).length := by rw [List.length_append, List.length_cons]; omega
    have e3 : p ++ 32 :: (dg j ++ tailL (ps.map dg)) = (p ++ 32 :: dg j) ++ tailL (ps.map dg) := by simp
    rw [e2, e3, ht]
    simp
theorem rdNums_back : ∀ (es ns : List Nat) (p : List Nat) (qs : List Nat), es.length = ns.length → (∀ (i e n : Nat), es[i]? = some e → ns[i]? = some n → n < e ∧ e ≤ 1000) → ∃ t, rdNums (p ++ tailL (ns.map dg)) es p.length qs = (some (qs ++ ns), t)
  | [], [], p, qs, hl, h => ⟨p.length, by
    unfold rdNums
    rw [if_neg (by simp [tailL])]
    simp⟩
  | [], n :: ns, p, qs, hl, h => absurd hl (by simp)
  | e :: es, [], p, qs, hl, h => absurd hl (by simp)
  | e :: es, n :: ns, p, qs, hl, h => by
    obtain ⟨h1, h2⟩ := h 0 e n rfl rfl
    have e1 := rdNum_dg (p := p) h1 h2 (tail_shape (ns.map dg))
    obtain ⟨t, ht⟩ := rdNums_back es ns (p ++ 32 :: dg n) (qs ++ [n]) (by simpa using hl) fun i a b ha hb => h (i + 1) a b ha hb
    refine ⟨t, ?_⟩
    rw [List.map_cons, tail_cons]
    unfold rdNums
    rw [e1]
    dsimp only
    have e2 : p.length + (1 + (dg n).length) = (p ++ 32 :: dg n).length := by rw [List.length_append, List.length_cons]; omega
    have e3 : p ++ 32 :: (dg n ++ tailL (ns.map dg)) = (p ++ 32 :: dg n) ++ tailL (ns.map dg) := by simp
    rw [e2, e3, ht]
    simp
theorem run_all : ∀ (l : List Nat) (m : Nat), l.length ≤ m → (∀ c ∈ l, good c = true) → run m l = l.length
  | [], 0, _, _ => rfl
  | [], _ + 1, _, _ => rfl
  | c :: r, 0, h, _ => absurd h (by simp)
  | c :: r, m + 1, h, hg => by
    unfold run
    rw [if_pos (hg c List.mem_cons_self), run_all r m (by simpa using h) fun d hd => hg d (List.mem_cons_of_mem _ hd)]
    rfl
theorem rdStr_back {p : List Nat} {z : Str} {most : Nat} (h : GoodS most z) : ∃ t, rdStr p.length (p ++ 32 :: z.cps.toList) most = (some z.cps.toList, t) := by
  have e : (p ++ 32 :: z.cps.toList).drop (p.length + 1) = z.cps.toList := by
    rw [show p ++ 32 :: z.cps.toList = (p ++ [32]) ++ z.cps.toList by simp, List.drop_append_of_le_length (by simp), show List.drop (p.length + 1) (p ++ [32]) = [] from List.drop_eq_nil_of_le (by simp), List.nil_append]
  have hr := run_all z.cps.toList most (by simpa using h.1) fun c hc => decide_eq_true (h.2 c hc)
  refine ⟨p.length + 1 + z.cps.toList.length, ?_⟩
  unfold rdStr
  rw [if_neg (by
    intro hne
    exact hne (by rw [List.getElem?_append_right (Nat.le_refl _), Nat.sub_self]; rfl)), e, hr, if_neg (by rw [List.length_append, List.length_cons]; omega)]
theorem comm_self : ∀ (a b : List Nat), comm a (a ++ b) = a.length
  | [], b => by cases b <;> rfl
  | c :: a, b => by
    rw [List.cons_append]
    unfold comm
    rw [if_pos rfl, comm_self a b]
    rfl
theorem cps_text : Kind.cps .text = [116, 101, 120, 116] := by decide +kernel
theorem cps_line : Kind.cps .line = [108, 105, 110, 101] := by decide +kernel
theorem cps_hard : Kind.cps .hard = [104, 97, 114, 100] := by decide +kernel
theorem cps_cat : Kind.cps .cat = [99, 97, 116] := by decide +kernel
theorem cps_nest : Kind.cps .nest = [110, 101, 115, 116] := by decide +kernel
theorem cps_align : Kind.cps .align = [97, 108, 105, 103, 110] := by decide +kernel
theorem cps_group : Kind.cps .group = [103, 114, 111, 117, 112] := by decide +kernel
theorem rdKind_back {r : Row} {k : Nat} (h : r.ok k) (hk : k ≤ 1000) : ∃ t, rdKind r.q r.codes k = (some r, t) := by
  have h0 : ¬ (k = 0 ∧ r.q.needs = true) := by
    rintro ⟨rfl, hn⟩
    cases r with
    | nest n j => exact absurd (show 0 ≤ n ∧ n ≤ 8 ∧ 0 ≤ j ∧ j < (0 : Nat) from h) (by omega)
    | align j => exact absurd (show 0 ≤ j ∧ j < (0 : Nat) from h) (by omega)
    | group j => exact absurd (show 0 ≤ j ∧ j < (0 : Nat) from h) (by omega)
    | _ => cases hn
  unfold rdKind
  rw [if_neg h0, if_neg (by unfold Row.codes; rw [comm_self]; omega)]
  cases r with
  | text z =>
    obtain ⟨t, ht⟩ := rdStr_back (p := Kind.cps .text) (z := z) (most := 20) h
    refine ⟨t, ?_⟩
    have e : Row.codes (.text z) = Kind.cps .text ++ 32 :: z.cps.toList := by simp [Row.codes, Row.words, Row.q, tailL]
    have e4 : (Kind.cps .text).length = 4 := by rw [cps_text]; rfl
    rw [e4] at ht
    show (match rdStr 4 (Row.codes (.text z)) 20 with | (none, s) => (none, s) | (some z, s) => (some (Row.text (strOf z)), s)) = _
    rw [e, ht]
    rfl
  | line z =>
    obtain ⟨t, ht⟩ := rdStr_back (p := Kind.cps .line) (z := z) (most := 3) h
    refine ⟨t, ?_⟩
    have e : Row.codes (.line z) = Kind.cps .line ++ 32 :: z.cps.toList := by simp [Row.codes, Row.words, Row.q, tailL]
    have e4 : (Kind.cps .line).length = 4 := by rw [cps_line]; rfl
    rw [e4] at ht
    show (match rdStr 4 (Row.codes (.line z)) 3 with | (none, s) => (none, s) | (some z, s) => (some (Row.line (strOf z)), s)) = _
    rw [e, ht]
    rfl
  | hard =>
    obtain ⟨t, ht⟩ := rdNums_back [] [] (Kind.cps .hard) [] rfl fun i e n a => by simp at a
    have e4 : (Kind.cps .hard).length = 4 := by rw [cps_hard]; rfl
    rw [e4] at ht
    refine ⟨t, ?_⟩
    show (match rdNums (Row.codes .hard) [] 4 [] with | (some _, s) => (some Row.hard, s) | (none, s) => (none, s)) = _
    rw [show Row.codes .hard = Kind.cps .hard ++ tailL (([] : List Nat).map dg) from rfl, ht]
  | cat ps =>
    obtain ⟨h8, hp⟩ := h
    obtain ⟨t, ht⟩ := rdParts_back hk (ps.map Int.toNat) (Kind.cps .cat) 8 [] (by rw [List.length_map]; exact h8) fun j hj => by
      obtain ⟨i, hi, rfl⟩ := List.mem_map.mp hj
      have := hp i hi
      omega
    have e3 : (Kind.cps .cat).length = 3 := by rw [cps_cat]; rfl
    rw [e3] at ht
    refine ⟨t, ?_⟩
    show (match rdParts (Row.codes (.cat ps)) k 8 3 [] with | (none, s) => (none, s) | (some ps, s) => (some (Row.cat (ps.map Int.ofNat)), s)) = _
    have e : Row.codes (.cat ps) = Kind.cps .cat ++ tailL ((ps.map Int.toNat).map dg) := by simp [Row.codes, Row.words, Row.q, List.map_map, Function.comp_def]
    rw [e, ht]
    dsimp only
    have e2 : (([] : List Nat) ++ ps.map Int.toNat).map Int.ofNat = ps := by
      rw [List.nil_append, List.map_map]
      clear ht e h8 h0
      induction ps with
      | nil => rfl
      | cons j ps ih =>
        rw [List.map_cons, ih fun i hi => hp i (List.mem_cons_of_mem _ hi)]
        have := (hp j List.mem_cons_self).1
        congr 1
        show (j.toNat : Int) = j
        omega
    rw [e2]
  | nest n j =>
    obtain ⟨n0, n8, j0, jk⟩ := h
    obtain ⟨t, ht⟩ := rdNums_back [9, k] [n.toNat, j.toNat] (Kind.cps .nest) [] rfl fun i a b ha hb => by
      match i, ha, hb with
      | 0, ha, hb => cases ha; cases hb; omega
      | 1, ha, hb => cases ha; cases hb; omega
      | i + 2, ha, hb => simp at ha
    have e4 : (Kind.cps .nest).length = 4 := by rw [cps_nest]; rfl
    rw [e4] at ht
    refine ⟨t, ?_⟩
    show (match rdNums (Row.codes (.nest n j)) [9, k] 4 [] with | (some [n, j], s) => (some (Row.nest n j), s) | (_, s) => (none, s)) = _
    rw [show Row.codes (.nest n j) = Kind.cps .nest ++ tailL ([n.toNat, j.toNat].map dg) from rfl, ht]
    dsimp only [List.nil_append]
    rw [show ((n.toNat : Nat) : Int) = n by omega, show ((j.toNat : Nat) : Int) = j by omega]
  | align j =>
    obtain ⟨j0, jk⟩ := h
    obtain ⟨t, ht⟩ := rdNums_back [k] [j.toNat] (Kind.cps .align) [] rfl fun i a b ha hb => by
      match i, ha, hb with
      | 0, ha, hb => cases ha; cases hb; omega
      | i + 1, ha, hb => simp at ha
    have e4 : (Kind.cps .align).length = 5 := by rw [cps_align]; rfl
    rw [e4] at ht
    refine ⟨t, ?_⟩
    show (match rdNums (Row.codes (.align j)) [k] 5 [] with | (some [j], s) => (some (Row.align j), s) | (_, s) => (none, s)) = _
    rw [show Row.codes (.align j) = Kind.cps .align ++ tailL ([j.toNat].map dg) from rfl, ht]
    dsimp only [List.nil_append]
    rw [show ((j.toNat : Nat) : Int) = j by omega]
  | group j =>
    obtain ⟨j0, jk⟩ := h
    obtain ⟨t, ht⟩ := rdNums_back [k] [j.toNat] (Kind.cps .group) [] rfl fun i a b ha hb => by
      match i, ha, hb with
      | 0, ha, hb => cases ha; cases hb; omega
      | i + 1, ha, hb => simp at ha
    have e4 : (Kind.cps .group).length = 5 := by rw [cps_group]; rfl
    rw [e4] at ht
    refine ⟨t, ?_⟩
    show (match rdNums (Row.codes (.group j)) [k] 5 [] with | (some [j], s) => (some (Row.group j), s) | (_, s) => (none, s)) = _
    rw [show Row.codes (.group j) = Kind.cps .group ++ tailL ([j.toNat].map dg) from rfl, ht]
    dsimp only [List.nil_append]
    rw [show ((j.toNat : Nat) : Int) = j by omega]
/-- another kind does not read it -/
theorem comm_head {a b : Nat} {as bs : List Nat} (h : a ≠ b) : comm (a :: as) (b :: bs) = 0 := by
  unfold comm
  exact if_neg h
theorem rdKind_other {q q' : Kind} {l t : List Nat} {k : Nat} (h : q ≠ q') (e : l = q'.cps ++ t) : rdKind q l k = (none, 0) := by
  have c0 : comm q.cps l = 0 := by
    rw [e]
    cases q <;> cases q' <;> first | exact absurd rfl h | skip
    all_goals (simp only [cps_text, cps_line, cps_hard, cps_cat, cps_nest, cps_align, cps_group, List.cons_append]; exact comm_head (by decide))
  have hq : 0 < q.cps.length := by cases q <;> decide +kernel
  unfold rdKind
  split
  · rfl
  · rw [c0, if_pos hq]
theorem rdRow_back {r : Row} {k : Nat} (h : r.ok k) (hk : k ≤ 1000) : ∃ t, rdRow r.codes k kinds 0 = (some r, t) := by
  obtain ⟨t, ht⟩ := rdKind_back h hk
  refine ⟨t, ?_⟩
  have other : ∀ q, q ≠ r.q → rdKind q r.codes k = (none, 0) := fun q hq => rdKind_other hq rfl
  have go : ∀ qs m, r.q ∈ qs → rdRow r.codes k qs m = (some r, t) := fun qs => by
    induction qs with
    | nil => intro m hm; cases hm
    | cons q qs ih =>
      intro m hm
      by_cases e : q = r.q
      · unfold rdRow
        rw [e, ht]
      · unfold rdRow
        rw [other q e]
        exact ih _ ((List.mem_cons.mp hm).resolve_left fun z => e z.symm)
  exact go kinds 0 (by cases r <;> simp [Row.q, kinds])
theorem rdDoc_back : ∀ (qs rs : List Row), OkRows (rs ++ qs) → (rs ++ qs).length ≤ 200 → rdDoc (qs.map Row.codes) rs = .ok (rs ++ qs)
  | [], rs, _, _ => by simp [rdDoc]
  | q :: qs, rs, ho, hl => by
    rw [List.length_append, List.length_cons] at hl
    obtain ⟨t, ht⟩ := rdRow_back (r := q) (k := rs.length) (ho rs.length q (by rw [List.getElem?_append_right (Nat.le_refl _), Nat.sub_self]; rfl)) (by omega)
    rw [List.map_cons]
    unfold rdDoc
    rw [if_neg (by omega), ht]
    have e : rs ++ q :: qs = (rs ++ [q]) ++ qs := by simp
    have := rdDoc_back qs (rs ++ [q]) (by rw [← e]; exact ho) (by rw [← e, List.length_append, List.length_cons]; omega)
    rw [e]
    exact this
end Lw

/-! Texts as lists of signs. -/
namespace Lw
open PySem PySem.Spec PyProof.Rows L2
/-- a number, or None -/
def optI : Option Nat → V
  | none => .non
  | some n => .int n
abbrev cl (z : Str) : List Nat := z.cps.toList
theorem cl_len (z : Str) : (cl z).length = z.length := Array.length_toList
theorem cl_inj {a b : Str} (h : cl a = cl b) : a = b := Str.ext' (Array.toList_inj.mp h)
theorem cl_one (c : Nat) : cl ⟨#[c]⟩ = [c] := rfl
theorem cut_take (z : Str) (i j : Nat) (hij : i ≤ j) : cl (cutS z (some (i : Int)) (some (j : Int))) = ((cl z).drop i).take (j - i) := by
  unfold cutS
  rw [HT.sIx_nat, HT.sIx_nat]
  show ((cl z).drop (min i z.length)).take (min j z.length - min i z.length) = _
  by_cases h : i ≤ z.length
  · rw [Nat.min_eq_left h]
    by_cases h2 : j ≤ z.length
    · rw [Nat.min_eq_left h2]
    · rw [Nat.min_eq_right (by omega), List.take_of_length_le (by rw [List.length_drop, cl_len]; omega), List.take_of_length_le (by rw [List.length_drop, cl_len]; omega)]
  · rw [Nat.min_eq_right (by omega : z.length ≤ i), Nat.min_eq_right (by omega : z.length ≤ j), Nat.sub_self, List.take_zero, List.drop_of_length_le (by rw [cl_len]; omega), List.take_nil]
theorem cut_from (z : Str) (i : Nat) : cl (cutS z (some (i : Int)) none) = (cl z).drop i := by
  unfold cutS
  rw [HT.sIx_nat, HT.sIx_none]
  show ((cl z).drop (min i z.length)).take (z.length - min i z.length) = _
  by_cases h : i ≤ z.length
  · rw [Nat.min_eq_left h, List.take_of_length_le (by rw [List.length_drop, cl_len]; omega)]
  · rw [Nat.min_eq_right (by omega), Nat.sub_self, List.take_zero, List.drop_of_length_le (by rw [cl_len]; omega)]
theorem cut_one (z : Str) (i : Nat) : cl (cutS z (some (i : Int)) (some ((i : Int) + 1))) = ((cl z).drop i).take 1 := by
  have := cut_take z i (i + 1) (by omega)
  rw [show i + 1 - i = 1 by omega] at this
  exact this
theorem take1 (l : List Nat) (i : Nat) : (l.drop i).take 1 = match l[i]? with | some c => [c] | none => [] := by
  cases h : l[i]? with
  | none =>
    have := List.getElem?_eq_none_iff.mp h
    rw [List.drop_of_length_le this, List.take_nil]
  | some c =>
    obtain ⟨hi, e⟩ := List.getElem?_eq_some_iff.mp h
    rw [List.drop_eq_getElem_cons hi, e]
    rfl
/-- z[i:i+1] == the sign c -/
theorem cut_eq (z : Str) (i c : Nat) : decide (V.str (cutS z (some (i : Int)) (some ((i : Int) + 1))) = V.str ⟨#[c]⟩) = decide ((cl z)[i]? = some c) := by
  have e := cut_one z i
  rw [take1] at e
  by_cases h : (cl z)[i]? = some c
  · rw [h] at e
    rw [decide_eq_true h, decide_eq_true (by rw [cl_inj (a := cutS z _ _) (b := ⟨#[c]⟩) e])]
  · rw [decide_eq_false h, decide_eq_false (fun q => h ?_)]
    rw [V.str.inj q] at e
    cases h2 : (cl z)[i]? with
    | none => rw [h2] at e; cases e
    | some d =>
      rw [h2] at e
      rw [List.cons.inj e |>.1]
theorem lt1 (a b : Nat) : decide (([a] : List Nat) < [b]) = decide (a < b) := by
  by_cases h : a < b
  · rw [decide_eq_true h]
    exact decide_eq_true (show List.Lex _ _ _ from List.Lex.rel h)
  · rw [decide_eq_false h, decide_eq_false]
    intro z
    cases z with
    | rel h' => exact h h'
    | cons h' => cases h'
theorem not_lt1 (a b : Nat) : (!decide (([a] : List Nat) < [b])) = decide (b ≤ a) := by
  rw [lt1]
  by_cases z : a < b
  · rw [decide_eq_true z, decide_eq_false (by omega)]
    rfl
  · rw [decide_eq_false z, decide_eq_true (by omega)]
    rfl
theorem from0 (c : Nat) : (!decide (({ cps := #[c] } : Str).cps.toList < (Str.ofString "0").cps.toList)) = decide (48 ≤ c) := not_lt1 c 48
theorem to9 (c : Nat) : (!decide ((Str.ofString "9").cps.toList < ({ cps := #[c] } : Str).cps.toList)) = decide (c ≤ 57) := not_lt1 57 c
theorem fromB (c : Nat) : (!decide (({ cps := #[c] } : Str).cps.toList < (Str.ofString " ").cps.toList)) = decide (32 ≤ c) := not_lt1 c 32
theorem toT (c : Nat) : (!decide ((Str.ofString "~").cps.toList < ({ cps := #[c] } : Str).cps.toList)) = decide (c ≤ 126) := not_lt1 126 c
theorem scal_opt (o : Option Nat) (i : Int) : scal (optI o) (.int i) = true := by cases o <;> rfl
theorem tru_opt {K : PySem.W.Frag} {H : Hp} (o : Option Nat) : TruV K (optI o) H (match o with | none => false | some n => (n : Int) != 0) := by cases o <;> rfl
/-- what is told of the sign at i -/
theorem at_sign {z : Str} {i : Nat} (h : i < z.length) : ∃ c, (cl z)[i]? = some c ∧ atI (cl z) (i : Int) = some c :=
  ⟨(cl z)[i]'(by rw [cl_len]; exact h), List.getElem?_eq_getElem _, atI_nat (List.getElem?_eq_getElem _)⟩
theorem digit_text (c : Nat) (h : 48 ≤ c ∧ c ≤ 57) : PySem.intText? ⟨#[c]⟩ = some ((c - 48 : Nat) : Int) := by
  have : ∀ d, d < 10 → PySem.intText? ⟨#[48 + d]⟩ = some ((d : Nat) : Int) := by decide +kernel
  have e := this (c - 48) (by omega)
  rw [show 48 + (c - 48) = c by omega] at e
  exact e
theorem dg_text : ∀ n : Nat, n < 1000 → cl (toString (n : Int) : Str) = dg n := by
  have h : (List.range 1000).all (fun n : Nat => decide (cl (toString (n : Int) : Str) = dg n)) = true := by decide +kernel
  intro n hn
  exact of_decide_eq_true (List.all_eq_true.mp h n (List.mem_range.mpr hn))
theorem drop_step {α : Type} {l : List α} {m : Nat} {c : α} (h : l[m]? = some c) : l.drop m = c :: l.drop (m + 1) := by
  obtain ⟨hi, e⟩ := List.getElem?_eq_some_iff.mp h
  rw [List.drop_eq_getElem_cons hi, e]
theorem drop_end {l : List Nat} {m : Nat} (h : l[m]? = none) : l.drop m = [] := List.drop_of_length_le (List.getElem?_eq_none_iff.mp h)
theorem comm_go {a b : List Nat} {m c : Nat} (ha : a[m]? = some c) (hb : b[m]? = some c) : comm (a.drop m) (b.drop m) = comm (a.drop (m + 1)) (b.drop (m + 1)) + 1 := by
  rw [drop_step ha, drop_step hb]
  conv => lhs; unfold comm
  rw [if_pos rfl]
theorem comm_stop {a b : List Nat} {m : Nat} (h : a[m]? = none ∨ a[m]? ≠ b[m]?) : comm (a.drop m) (b.drop m) = 0 := by
  cases ha : a[m]? with
  | none =>
    rw [drop_end ha]
    rfl
  | some c =>
    cases hb : b[m]? with
    | none =>
      rw [drop_end hb, drop_step ha]
      rfl
    | some d =>
      rw [drop_step ha, drop_step hb]
      unfold comm
      rw [if_neg]
      rintro rfl
      rcases h with h | h
      · rw [ha] at h
        cases h
      · exact h (ha.trans hb.symm)
theorem run_go {l : List Nat} {m n c : Nat} (h : l[m]? = some c) (hg : good c = true) : run (n + 1) (l.drop m) = run n (l.drop (m + 1)) + 1 := by
  rw [drop_step h]
  conv => lhs; unfold run
  rw [if_pos hg]
theorem run_stop {l : List Nat} {m n : Nat} (h : n = 0 ∨ l[m]? = none ∨ ∃ c, l[m]? = some c ∧ good c = false) : run n (l.drop m) = 0 := by
  rcases h with rfl | h | ⟨c, h, hg⟩
  · unfold run
    rfl
  · rw [drop_end h]
    cases n <;> rfl
  · rw [drop_step h]
    cases n with
    | zero => rfl
    | succ n =>
      unfold run
      rw [hg]
      rfl
theorem digs_in {e m c : Nat} {l : List Nat} {o : Option Nat} (h : l[m]? = some c) (hc : 48 ≤ c ∧ c ≤ 57) (ho : o ≠ some 0) (he : o.getD 0 * 10 + (c - 48) < e) : digs e (l.drop m) o m = digs e (l.drop (m + 1)) (some (o.getD 0 * 10 + (c - 48))) (m + 1) := by
  rw [drop_step h]
  conv => lhs; unfold digs
  rw [if_pos hc, if_neg (by rintro (z | z) <;> first | exact ho z | omega)]
theorem digs_out {e m c : Nat} {l : List Nat} {o : Option Nat} (h : l[m]? = some c) (hc : ¬ (48 ≤ c ∧ c ≤ 57) ∨ o = some 0 ∨ e ≤ o.getD 0 * 10 + (c - 48)) : digs e (l.drop m) o m = (o, m) := by
  rw [drop_step h]
  unfold digs
  by_cases h1 : 48 ≤ c ∧ c ≤ 57
  · rw [if_pos h1, if_pos (hc.resolve_left fun z => z h1)]
  · rw [if_neg h1]
end Lw
namespace Lw
open PySem PySem.Spec PyProof.Rows L2
def RowV (K : PySem.W.Frag) (U : Hp) (v : V) : Option Row → Prop
  | none => v = .non
  | some r => Dp K U v r.data
theorem strOf_cl (z : Str) : strOf (cl z) = z := cl_inj (by simp [strOf])
end Lw
namespace Lw
open PySem PySem.Spec PyProof.Rows L2 TL
theorem join_tail (w : List Nat) (ws : List (List Nat)) : joinL [32] (w :: ws) = w ++ tailL ws := by
  induction ws generalizing w with
  | nil => simp [tailL, joinL]
  | cons v ws ih =>
    show w ++ ([32] ++ joinL [32] (v :: ws)) = _
    rw [ih, tail_cons]
    rfl
theorem dg_len (n : Nat) : (dg n).length ≤ 3 := by
  unfold dg
  split
  · simp
  split <;> simp
theorem dg_clean (n : Nat) (h : n < 1000) : ∀ c ∈ dg n, 48 ≤ c ∧ c ≤ 57 := by
  intro c hc
  unfold dg at hc
  split at hc
  · simp at hc
    omega
  split at hc <;> simp at hc <;> omega
theorem tail_len (m : Nat) : ∀ (ws : List (List Nat)), (∀ w ∈ ws, w.length ≤ m) → (tailL ws).length ≤ ws.length * (m + 1)
  | [], _ => by simp [tailL]
  | w :: ws, h => by
    rw [tail_cons, List.length_cons, List.length_append, List.length_cons, Nat.succ_mul]
    have := tail_len m ws fun v hv => h v (List.mem_cons_of_mem _ hv)
    have := h w List.mem_cons_self
    omega
theorem kind_short (q : Kind) : q.cps.length ≤ 5 ∧ ∀ c ∈ q.cps, 97 ≤ c ∧ c ≤ 122 := by cases q <;> decide +kernel
theorem codes_len {r : Row} {k : Nat} (h : r.ok k) : r.codes.length ≤ 64 := by
  have hk := (kind_short r.q).1
  unfold Row.codes
  rw [List.length_append]
  cases r with
  | text z =>
    have := tail_len 20 [cl z] fun w hw => by rw [List.mem_singleton.mp hw, cl_len]; exact h.1
    show _ + (tailL [cl z]).length ≤ 64
    simp at this
    omega
  | line z =>
    have := tail_len 20 [cl z] fun w hw => by rw [List.mem_singleton.mp hw, cl_len]; exact Nat.le_trans h.1 (by decide)
    show _ + (tailL [cl z]).length ≤ 64
    simp at this
    omega
  | hard =>
    show _ + 0 ≤ 64
    omega
  | cat ps =>
    have := tail_len 3 (ps.map fun p => dg p.toNat) fun w hw => by
      obtain ⟨p, _, rfl⟩ := List.mem_map.mp hw
      exact dg_len _
    rw [List.length_map] at this
    have h8 : ps.length ≤ 8 := h.1
    show _ + (tailL (ps.map fun p => dg p.toNat)).length ≤ 64
    omega
  | nest n j =>
    have := tail_len 3 [dg n.toNat, dg j.toNat] fun w hw => by
      simp at hw
      rcases hw with rfl | rfl <;> exact dg_len _
    simp at this
    show _ + (tailL [dg n.toNat, dg j.toNat]).length ≤ 64
    omega
  | align j =>
    have := tail_len 3 [dg j.toNat] fun w hw => by rw [List.mem_singleton.mp hw]; exact dg_len _
    simp at this
    show _ + (tailL [dg j.toNat]).length ≤ 64
    omega
  | group j =>
    have := tail_len 3 [dg j.toNat] fun w hw => by rw [List.mem_singleton.mp hw]; exact dg_len _
    simp at this
    show _ + (tailL [dg j.toNat]).length ≤ 64
    omega
theorem words_clean {r : Row} {k : Nat} (h : r.ok k) (hk : k ≤ 1000) : ∀ w ∈ r.words, ∀ c ∈ w, 32 ≤ c ∧ c ≤ 126 := by
  have num : ∀ (j : Int), 0 ≤ j → j < 1000 → ∀ c ∈ dg j.toNat, 32 ≤ c ∧ c ≤ 126 := fun j h0 h1 c hc => by
    have := dg_clean j.toNat (by omega) c hc
    omega
  cases r with
  | text z =>
    intro w hw c hc
    rw [show w = cl z from List.mem_singleton.mp hw] at hc
    exact h.2 c hc
  | line z =>
    intro w hw c hc
    rw [show w = cl z from List.mem_singleton.mp hw] at hc
    exact h.2 c hc
  | hard =>
    intro w hw
    cases hw
  | cat ps =>
    intro w hw c hc
    obtain ⟨p, hp, rfl⟩ := List.mem_map.mp hw
    have := h.2 p hp
    exact num p this.1 (by omega) c hc
  | nest n j =>
    obtain ⟨n0, n8, j0, jk⟩ := h
    intro w hw c hc
    simp [Row.words] at hw
    rcases hw with rfl | rfl
    · exact num n n0 (by omega) c hc
    · exact num j j0 (by omega) c hc
  | align j =>
    intro w hw c hc
    rw [show w = dg j.toNat from List.mem_singleton.mp hw] at hc
    have h : 0 ≤ j ∧ j < k := h
    exact num j h.1 (by omega) c hc
  | group j =>
    intro w hw c hc
    rw [show w = dg j.toNat from List.mem_singleton.mp hw] at hc
    have h : 0 ≤ j ∧ j < k := h
    exact num j h.1 (by omega) c hc
theorem codes_clean {r : Row} {k : Nat} (h : r.ok k) (hk : k ≤ 1000) : ∀ c ∈ r.codes, 32 ≤ c ∧ c ≤ 126 := by
  intro c hc
  rcases List.mem_append.mp hc with hc | hc
  · have := (kind_short r.q).2 c hc
    omega
  · obtain ⟨w, hw, hc⟩ := List.mem_flatMap.mp hc
    rcases List.mem_cons.mp hc with rfl | hc
    · omega
    · exact words_clean h hk w hw c hc
/-- a text, or a number, as str() has it -/
theorem call_str_is {X : Cx} : CallR X (.type "str") (fun xs H Q => (∃ i, xs = [.int i] ∧ i.natAbs.log2 < 1920 ∧ Q (.str (toString i)) H) ∨ (∃ a, xs = [.str a] ∧ Q (.str a) H)) :=
  fun pins s σ H xs us Q I r h => h.elim (call_str_int pins s σ H xs us Q I r) (SkE.call_str_str pins s σ H xs us Q I r)
theorem small_log {i : Int} (h : i.natAbs < 2 ^ 64) : i.natAbs.log2 < 1920 := by
  by_cases h0 : i.natAbs = 0
  · rw [h0]
    decide
  · exact Nat.lt_of_lt_of_le ((Nat.log2_lt h0).mpr h) (by decide)
theorem lines_len {m : Nat} : ∀ (zs : List Str), (∀ z ∈ zs, z.length ≤ m) → (zs.map (·.length)).sum ≤ zs.length * m
  | [], _ => Nat.zero_le _
  | z :: zs, h => by
    rw [List.map_cons, List.sum_cons, List.length_cons, Nat.succ_mul]
    have := lines_len zs fun y hy => h y (List.mem_cons_of_mem _ hy)
    have := h z List.mem_cons_self
    omega
theorem joinL_len (m : Nat) : ∀ (ls : List (List Nat)), (∀ l ∈ ls, l.length ≤ m) → (joinL [10] ls).length ≤ ls.length * (m + 1)
  | [], _ => Nat.zero_le _
  | [p], h => by
    have := h p (List.mem_singleton.mpr rfl)
    show p.length ≤ 1 * (m + 1)
    omega
  | p :: q :: r, h => by
    show (p ++ ([10] ++ joinL [10] (q :: r))).length ≤ _
    rw [List.length_append, List.length_append, show (p :: q :: r).length = (q :: r).length + 1 from rfl, Nat.succ_mul]
    have := joinL_len m (q :: r) fun l hl => h l (List.mem_cons_of_mem _ hl)
    have := h p List.mem_cons_self
    have e1 : ([10] : List Nat).length = 1 := rfl
    omega
end Lw

/-! f(k = v, ..): a def called by the names of its parameters alone. -/
namespace L2
open PySem PySem.Spec PyProof.Rows
def tKwOnly (m : Nat) (sp : Sp) (gV : List V → List V) (tk : TA) : TE := fun σ H Q => tk σ H fun zs H1 => zs.length = m ∧ sp (gV zs) H1 Q E0
section
variable {X : Cx} {x : Str} {st : Stmt} {ps ks : List Str} {k : Nat} {sp : Sp} {kws : List Keyword} {tk : TA} {p pos : Pos} {g : List Value → List Value} {gV : List V → List V}
theorem pe_kwD (D : DefOk X.prog X.w X.K X.mg X.base x st ps k sp) (hr : Room k X.A) (rel : ∀ {zs : List V} {ws : List Value}, Vals zs ws → Vals (gV zs) (g ws))
    (hb : ∀ (kV doc pm : Value) (an : Option Addr) (cdv ct : Value) (ws : List Value), ws.length = ks.length → bindArgs (PySem.W.fnOf x x (defArgs st) (defBody st) (defScope st) .none kV doc pm an cdv ct) ⟨[], ks.zip ws⟩ = pure (ps.zip (g ws)))
    (hkw : PK X kws tk) (hg : Gl X x := by rfl) (named : (backToKw pos (keywordEach kws X.env)).all (·.1.isSome) = true := by rfl) (hks : (backToKw pos (keywordEach kws X.env)).filterMap (·.1) = ks := by rfl)
    (hdb : (x == ("__debug__" : Str)) = false := by decide) (plain : ((backTo pos (starEach [] X.env)).any (·.1) || (backToKw pos (keywordEach kws X.env)).any (·.1.isNone)) = false := by rfl) :
    PE X (.Call (.Name x p) [] kws pos) (tKwOnly ks.length sp gV tk) := by
  obtain ⟨f, fd, hm, F, _, G⟩ := D.ex
  have kp := F.kp
  obtain ⟨oc, od, kV, doc, pm, an, cdv, ct, osl, rfl, lk, hcd⟩ := F.ex
  refine ⟨fun pins s σ H Q I h => wpAny_Call_Name_kw (ld_glob I hg hm (PySem.W.callWith_KW0 (h₀ := X.base) I.ok.mod.kin kp named (thn (hkw.run pos pins s σ H _ I h) fun ws s2 ⟨zs, H2, I2, rz, l2, q⟩ => ⟨I2.kIn, ?_⟩) plain) hdb)⟩
  rw [hks]
  have r2 := rel rz
  refine wpAny_call (codeAny_mono (G.run X.A X.stack s2 H2 ⟨[], ks.zip ws⟩ (g ws) (gV zs) Q E0 hr I2.env0 (.of_eq (hb _ _ _ _ _ _ ws (rz.length.symm.trans l2))) r2 q) fun r s' z => ?_)
  cases r with
  | error e => exact pass0 pins σ H2 s2 e s' I2 z
  | ok fl =>
    cases fl with
    | ret u => exact I2.after z
    | next => exact False.elim z
    | brk => exact False.elim z
    | cont => exact False.elim z
end
end L2

/-! Error classes over a class of the text that stands over ArithmeticError: made, raised, asked. -/
namespace PySem
namespace AX
open PySem.W PySem.Calls PyProof.Rows PySem.HandSPX PySem.OEX
abbrev arith : List Value := [.type "ArithmeticError", .type "Exception", .type "BaseException", .type "object"]
/-- classes of the text, then ArithmeticError's own line -/
def overA : List Value → Bool
  | .ref _ :: r => overA r
  | l => l == arith
theorem overA_own {l : List Value} : overA l = true → ∃ rs : List Addr, l = rs.map Value.ref ++ arith := by
  induction l with
  | nil => intro z; exact absurd z (by decide)
  | cons v r ih =>
    intro z
    by_cases q : ∃ c, v = .ref c
    · obtain ⟨c, rfl⟩ := q
      obtain ⟨rs, e⟩ := ih z
      exact ⟨c :: rs, by rw [e]; rfl⟩
    · refine ⟨[], ?_⟩
      cases v <;> first | exact absurd ⟨_, rfl⟩ q | exact beq_iff_eq.mp z
theorem own_pass (self : Value) : ∀ rs : List Addr, refuseLoop self "__setattr__" (rs.map Value.ref ++ arith) = pure ()
  | [] => F.store_ArithmeticError.passes self
  | c :: rs => by
    rw [List.map_cons, List.cons_append, refuseLoop_ref]
    exact own_pass self rs
theorem own_has (X : String) : ∀ rs : List Addr, (rs.map Value.ref ++ arith).contains (.type X) = arith.contains (.type X)
  | [] => rfl
  | c :: rs => by
    rw [List.map_cons, List.cons_append, List.contains_cons, own_has X rs]
    rfl
theorem over_pass {l : List Value} (self : Value) (h : overA l = true) : refuseLoop self "__setattr__" l = pure () := by
  obtain ⟨rs, rfl⟩ := overA_own h
  exact own_pass self rs
theorem over_has {l : List Value} (X : String) (h : overA l = true) : l.contains (.type X) = arith.contains (.type X) := by
  obtain ⟨rs, rfl⟩ := overA_own h
  exact own_has X rs
theorem over_some {l : List Value} (h : overA l = true) : l.isEmpty = false := by
  cases l with
  | nil => exact absurd h (by decide)
  | cons _ _ => rfl
section
open Builtin Builtin.ObjectAttr
variable {P : Program} {w : World} {A : Around} {R : Result → Shared → Prop} {g0 : Heap} {gs : Array GenState} {dr : Drawn} {n : Nat} {os : OsState} {K : W.Frag} {f : Str} {tk : Tok} {v : Value} {e C : Addr} {fv : Array Value} {cl : ClassData}
/-- e.f = v where e has its dict, or none as yet: what the checks ahead of the store ask -/
theorem store_ahead {od : Option Obj} {oe : Obj} (inK : K.In g0) (J : W.InstAt g0 e oe C od) (hc : W.clsIn K C = some cl) (over : overA cl.mro = true) (free : W.findIn K (.ref C) f = some none)
    (go : wpAny (model P w) A.in1 (storeInOwnDict (.ref e) (.ref C) (.str f tk) f v false) (fun r z => match r with | .done u => R (.ok u) z | .again c => c.quiet = true ∧ codeAny (model P w) A c R z) (fun x z => R (.error x) z) ⟨g0, gs, dr, n, os⟩) :
    codeAny (model P w) A (.call (.builtin "object.__setattr__") ⟨[.ref e, .str f tk, v], []⟩) R ⟨g0, gs, dr, n, os⟩ := by
  have B := F.store_object
  have isObj : cl.mro.contains (.type "object") = true := (over_has "object" over).trans (by decide +kernel)
  have inst : W.Looks (model P w) g0 (isInstance (.ref e) (.type "object")) true :=
    J.type.andThen (W.looks_mroIn inK (by unfold W.mroIn; rw [hc, Option.bind_some, if_neg (by rw [over_some over]; decide), isObj]))
  refine codeAny_call_builtin B.slot.plain B.entry (@W.check_slot (model P w) _ _ ⟨g0, gs, dr, n, os⟩ "object.__setattr__" "object" "__setattr__" (.ref e) [.str f tk, v] [] _ B.kind B.split inst (B.args (.ref e) (.str f tk) v) ?_)
  have line : W.Looks (model P w) g0 (mroOf (.ref C)) cl.mro := (W.looks_clsIn inK hc).andThen .now
  have taker : W.Looks (model P w) g0 (storeTaker? none) none := .now
  rw [W.osa_eq, refuse_eq]
  refine wpAny_bind (wpAny_bind (J.type.at (wpAny_bind (line.at ?_))))
  rw [over_pass _ over]
  exact wpAny_pure (wpAny_bind (J.type.at (wpAny_bind ((W.looks_findIn inK free).at (wpAny_bind (taker.at go))))))
/-- the first field -/
theorem field_one (inK : K.In g0) (at_e : g0.get? e = some { cls := .ref C, data := .fields fv }) (hc : W.clsIn K C = some cl) (over : overA cl.mro = true) (own : cl.hasDict = true) (free : W.findIn K (.ref C) f = some none)
    (done : ∀ g1 n1 dx, (∀ b u, b ≠ e → g0.get? b = some u → g1.get? b = some u) → g0.objs.size ≤ dx → dx ≠ e → g1.get? e = some { cls := .ref C, dict := some dx, data := .fields fv } →
      g1.Ns1 dx (fun y => if y = f then some v else none) → R (.ok (.ret .none)) ⟨g1, gs, dr, n1, os⟩) :
    codeAny (model P w) A (.call (.builtin "object.__setattr__") ⟨[.ref e, .str f tk, v], []⟩) R ⟨g0, gs, dr, n, os⟩ := by
  refine store_ahead inK (oe := { cls := .ref C, data := .fields fv }) (od := none) ⟨at_e, rfl, rfl, trivial⟩ hc over free ?_
  have e_old : e ≠ g0.objs.size := Nat.ne_of_lt (Heap.lt_size at_e)
  have cld : W.Looks (model P w) g0 (classData C) cl := W.looks_clsIn inK hc
  obtain ⟨q1, q2, q3, q4, q5, q6, q7, q8, q9, q10, q11⟩ := cl
  dsimp only at own
  subst own
  unfold storeInOwnDict ownDictForStores
  repeat (first | with_reducible refine store_in_new ?_ ?_ | with_reducible refine wpAny_loadPart_at at_e ?_ | with_reducible refine cld.at ?_ | wp_step)
  · exact ⟨_, #[], _, (Heap.get?_update_ne _ _ _ _ e_old.symm).trans (Heap.get?_push_at rfl rfl), rfl, fun x hx => absurd hx (by simp), fun _ => rfl⟩
  · intro g1 n1 names same
    have at1 : (g0.push { cls := .type "dict", data := .dict #[] }).get? e = some { cls := .ref C, data := .fields fv } := Heap.get?_push_of_some _ at_e
    refine done g1 n1 g0.objs.size (fun b u hb hu => ?_) (Nat.le_refl _) e_old.symm ?_ names
    · exact (same.2 b (Nat.ne_of_lt (Heap.lt_size hu))).trans ((Heap.get?_update_ne _ _ _ _ hb).trans (Heap.get?_push_of_some _ hu))
    · exact (same.2 e e_old).trans (Heap.get?_update_self _ at1 rfl)
/-- a further field -/
theorem field_more {dx : Addr} {old : Str → Option Value} {ns : List Str} (inK : K.In g0) (at_e : g0.get? e = some { cls := .ref C, dict := some dx, data := .fields fv }) (nsd : g0.Ns1 dx old) (few : Within old ns) (many : ns.length ≤ 1000)
    (hc : W.clsIn K C = some cl) (over : overA cl.mro = true) (own : cl.hasDict = true) (free : W.findIn K (.ref C) f = some none)
    (done : ∀ g1 n1, (∀ b u, b ≠ dx → g0.get? b = some u → g1.get? b = some u) → g1.Ns1 dx (fun y => if y = f then some v else old y) → R (.ok (.ret .none)) ⟨g1, gs, dr, n1, os⟩) :
    codeAny (model P w) A (.call (.builtin "object.__setattr__") ⟨[.ref e, .str f tk, v], []⟩) R ⟨g0, gs, dr, n, os⟩ := by
  obtain ⟨oD, esD, epD, hoD, hdD, _⟩ := nsd.count few
  refine store_ahead inK (oe := { cls := .ref C, dict := some dx, data := .fields fv }) (od := some oD) ⟨at_e, rfl, rfl, hoD⟩ hc over free ?_
  have cld : W.Looks (model P w) g0 (classData C) cl := W.looks_clsIn inK hc
  obtain ⟨q1, q2, q3, q4, q5, q6, q7, q8, q9, q10, q11⟩ := cl
  dsimp only at own
  subst own
  unfold storeInOwnDict ownDictForStores
  repeat (first | with_reducible refine store_in_old nsd few many ?_ | with_reducible refine wpAny_loadPart_at at_e ?_ | with_reducible refine cld.at ?_ | wp_step)
  intro g1 n1 names same
  exact done g1 n1 (fun b u hb hu => (same.2 b hb).trans hu) names
end
end AX
end PySem

namespace L2
open PySem PySem.Spec PyProof.Rows PySem.AX
/-- what the text says of such a class -/
structure AeC (K : PySem.W.Frag) (C : Addr) : Prop where
  cls : ∃ nm q N bs bm sn sub ab col dd k0 k1 k2 k3 k5, K.lookup C = some (excClassObj nm q C N bs bm true sn sub ab col dd k0 k1 k2 k3 k5 "ArithmeticError.__new__") ∧ overA bm = true
  sa : PySem.W.findIn K (.ref C) "__setattr__" = some (some (.builtin "object.__setattr__"))
  ex : PySem.W.subIn K (.ref C) (.type "BaseException") = some true
  ty : PySem.W.typeIn K (.ref C) = some (.type "type")
  kp : PySem.W.keepIn K (.ref C) = true
theorem AeC.data {K : PySem.W.Frag} {C : Addr} (T : AeC K C) : ∃ cl : ClassData, PySem.W.clsIn K C = some cl ∧ overA cl.mro = true ∧ cl.hasDict = true := by
  obtain ⟨nm, q, N, bs, bm, sn, sub, ab, col, dd, k0, k1, k2, k3, k5, hC, over⟩ := T.cls
  refine ⟨{ name := nm, bases := bs, mro := .ref C :: bm, ns := N, qualname := q, hasDict := true, slotNames := sn, subclasses := sub, abstract := ab, collection := col, hasDel := false }, ?_, over, rfl⟩
  unfold PySem.W.clsIn
  rw [hC] <;> rfl
section
variable {X : Cx} {pins : List (Addr × Obj)} {σ : St} {H : Hp} {s : Shared} {e C dx : Addr} {f : Str} {y : V} {u : Value} {fs : List (Str × V)} {Q : Unit → Shared → Prop} {E : Value → Shared → Prop} {A : Around}
theorem set_one (T : AeC X.K C) (J : Inv X pins σ H s) (he : H e = some (exo e C none)) (free : PySem.W.findIn X.K (.ref C) f = some none) (ry : RelV y u)
    (go : ∀ dx s', H dx = none → dx ≠ e → Inv X pins σ (upd (upd H dx (exd dx [(f, y)])) e (exo e C (some dx))) s' → Q () s') : wpAny (model X.prog X.w) A (setAttr (.ref e) f u) Q E s := by
  obtain ⟨cl, hcl, over, own⟩ := T.data
  obtain ⟨t1, at_e⟩ := exo_at J.hok he
  obtain ⟨g0, gs, dr, n, os⟩ := s
  refine PySem.W.set_plain J.kIn (ox := { cls := .ref C, dict := none, data := .fields #[.ref t1, .none, .none, .none, .bool false, .none] }) (od := none) ⟨at_e, rfl, rfl, trivial⟩ T.sa (field_one J.kIn at_e hcl over own free fun g1 n1 dx old new ne at1 names => ?_)
  have dxH : H dx = none := J.hok.fresh new
  have off : ∀ {b : Addr} {o : Obj}, g0.get? b = some o → b ≠ dx := fun q => Nat.ne_of_lt (Nat.lt_of_lt_of_le (Heap.lt_size q) new)
  have offe : ∀ {b : Addr}, H b = none → b ≠ e := fun {b} q z => by
    rw [z, he] at q
    cases q
  -- what is tracked but for e stands as it stood
  have stands : ∀ {b : Addr} {o : HO}, H b = some o → b ≠ e → (upd (upd H dx (exd dx [(f, y)])) e (exo e C (some dx))) b = some o := fun {b o} q z => by
    rw [upd_ne z, upd_ne (ne_of_none q dxH)]
    exact q
  have un : Un X.fs [] H (upd (upd H dx (exd dx [(f, y)])) e (exo e C (some dx))) g0 g1 := {
    keep := fun b o q z _ _ => old b o (offe z) q
    slot := fun b o q z _ _ => ⟨o.slots, old b o (offe z) q⟩
    free := fun b o q z _ => by
      rw [upd_ne (offe z), upd_ne (off q)]
      exact z
    there := fun b o q _ => by
      by_cases hb : b = e
      · subst hb
        exact ⟨_, at1⟩
      · exact ⟨o, old b o hb q⟩
    tups := fun b vs q => stands q (at_ne he q exo_tup)
    frzs := fun b o v q => stands q (at_ne he q exo_frz)
    tbls := fun b ps q => ⟨#[], by rw [stands q (at_ne he q exo_tbl)]; simp⟩ }
  refine go dx _ dxH ne (J.un (t' := n1) un fun b o q => ?_)
  by_cases hb : b = e
  · rw [hb, upd_same] at q
    rw [hb, ← Option.some.inj q]
    exact exo_ok at1
  · rw [upd_ne hb] at q
    by_cases hd : b = dx
    · rw [hd, upd_same] at q
      rw [hd, ← Option.some.inj q]
      exact exd_ok names (relO_put (fs := []) ry fun _ => True.intro)
    · rw [upd_ne hd] at q
      have apart : ∀ {c : Addr}, (c = b ∨ H c = some (.own b)) → c ≠ e := fun {c} hc => by
        rcases hc with rfl | hc
        · exact hb
        · exact at_ne he hc exo_own
      exact (J.hok b o q).stay (fun c v hc z => old c v (apart hc) z) (fun c hc => stands hc (at_ne he hc exo_own)) (fun c vs hc => stands hc (at_ne he hc exo_tup))
theorem set_more (T : AeC X.K C) (J : Inv X pins σ H s) (he : H e = some (exo e C (some dx))) (hd : H dx = some (exd dx fs)) (few : fs.length ≤ 900) (free : PySem.W.findIn X.K (.ref C) f = some none) (ry : RelV y u)
    (go : ∀ s', Inv X pins σ (upd H dx (exd dx ((f, y) :: fs))) s' → Q () s') : wpAny (model X.prog X.w) A (setAttr (.ref e) f u) Q E s := by
  obtain ⟨cl, hcl, over, own⟩ := T.data
  obtain ⟨t1, at_e⟩ := exo_at J.hok he
  obtain ⟨mA, names, rel⟩ := exd_at J.hok hd
  have within := within_of rel
  obtain ⟨g0, gs, dr, n, os⟩ := s
  obtain ⟨oD, _, _, hoD, _, _⟩ := names.count within
  refine PySem.W.set_plain J.kIn (ox := { cls := .ref C, dict := some dx, data := .fields #[.ref t1, .none, .none, .none, .bool false, .none] }) (od := some oD) ⟨at_e, rfl, rfl, hoD⟩ T.sa
    (field_more J.kIn at_e names within (by rw [List.length_map]; omega) hcl over own free fun g1 n1 old names1 => ?_)
  obtain ⟨o1, _, _, there, _⟩ := id names1
  exact go _ (J.write (t' := n1) (x := dx) (e := dx) (o := exd dx ((f, y) :: fs)) (by rw [hd]; exact True.intro) (.inl rfl) old ⟨o1, there⟩ (exd_ok names1 (relO_put ry rel)))
/-- ArithmeticError.__init__(e, ..) of one that is being made -/
theorem init_over {us : List Value} {Q : Value → Shared → Prop} (T : AeC X.K C) (J : Inv X pins σ H s) (he : H e = some (exo e C none)) (hl : us.length ≤ sizeLine) (go : ∀ s', Inv X pins σ H s' → Q .none s') :
    wpAny (model X.prog X.w) A (call (.builtin "ArithmeticError.__init__") (.ref e :: us)) Q E s := by
  obtain ⟨nm, q, N, bs, bm, sn, sub, ab, col, dd, k0, k1, k2, k3, k5, hC, over⟩ := T.cls
  obtain ⟨t1, at_e⟩ := exo_at J.hok he
  obtain ⟨g0, gs, dr, n, os⟩ := s
  refine wpAny_call (PySem.HandSPX.init_base F.excBase_ArithmeticError (fun Y => over_has Y over) (J.kIn _ _ hC) at_e hl fun g1 t2 old at1 => ?_)
  have J1 := J.write (t' := n) (x := e) (e := e) (o := exo e C none) (by rw [he]; exact True.intro) (.inl rfl) old ⟨_, at1⟩ (exo_ok at1)
  rw [show upd H e (exo e C none) = H from funext fun b => if hb : b = e then by rw [hb, upd_same, he] else upd_ne hb] at J1
  exact go _ J1
end
/-! ### readings and rules -/
/-- L.__init__(self, text), L the class of the text above -/
def tSupI (K : PySem.W.Frag) (ta : TA) : TE := fun σ H Q => ta σ H fun vs H1 => ∃ (e C : Addr) (ws : List V), vs = .ref e :: ws ∧ ws.length ≤ 1000 ∧ AeC K C ∧ H1 e = some (exo e C none) ∧ Q .non H1
/-- self.f = y -/
def tFst (K : PySem.W.Frag) (f : Str) (to te : TE) : TS := fun D σ H => te σ H fun y H1 => to σ H1 fun x H2 => ∃ e C : Addr, x = .ref e ∧ AeC K C ∧ PySem.W.findIn K (.ref C) f = some none ∧
  ((H2 e = some (exo e C none) ∧ ∀ dx, H2 dx = none → dx ≠ e → D.nx σ (upd (upd H2 dx (exd dx [(f, y)])) e (exo e C (some dx)))) ∨
    ∃ (dx : Addr) (fs : List (Str × V)), H2 e = some (exo e C (some dx)) ∧ H2 dx = some (exd dx fs) ∧ fs.length ≤ 900 ∧ D.nx σ (upd H2 dx (exd dx ((f, y) :: fs))))
/-- what is asked of L to read L.__init__ -/
structure SupC (K : PySem.W.Frag) (L : Addr) (mc : Value) : Prop where
  rd : ClX.CRead K L mc
  at_ : PySem.W.findCls K (.ref L) mc "__init__" = some (.val (.builtin "ArithmeticError.__init__"))
section
variable {X : Cx} {o e : Expr} {es : List Expr} {to te : TE} {ta : TA} {f x : Str} {p p' p1 p2 pos : Pos} {L : Addr} {mc : Value}
theorem pe_supinit {pl : Sem Bool} (S : SupC X.K L mc) (hm : X.mg x = some (.ref L)) (ha : PA X (e :: es) ta) (hg : Gl X x := by rfl) (hdb : (x == ("__debug__" : Str)) = false := by decide)
    (hc : eval (.Call (.Attribute (.Name x p1) "__init__" p2) (e :: es) [] pos) X.env = (do
      let ov ← eval (.Name x p1) X.env
      standAt p2.atName
      let (f, first) ← holding [ov] (getMethod ov "__init__" pl)
      callWith pos f first (backTo pos (starEach (e :: es) X.env)) (backToKw pos (keywordEach [] X.env))) := by rfl)
    (he : starEach (e :: es) X.env = (false, eval e X.env) :: starEach es X.env := by rfl) (hpl : (backTo pos (starEach es X.env)).any (·.1) = false := by rfl) :
    PE X (.Call (.Attribute (.Name x p1) "__init__" p2) (e :: es) [] pos) (tSupI X.K ta) := by
  refine ⟨fun pins s σ H Q J h => PySem.W.methodCall_KW (ld_glob J hg hm (PySem.W.method_cls J.kIn S.rd.ga (PySem.W.cls_value J.kIn S.rd.rd S.at_ rfl ?_)) hdb) hc⟩
  refine PyProof.Rows.callWith_method1 (thn (ha.run pos pins _ σ H _ (J.tok _) h) fun us s1 ⟨vs, H1, J1, r1, er, C, ws, ev, hl, T, at_e, q⟩ => ?_) he hpl
  subst ev
  cases r1 with
  | @cons _ u0 _ ur ra rest =>
    obtain rfl : u0 = Value.ref er := ra
    exact init_over T J1 at_e (by rw [← Paired.length rest, sizeLine_eq]; omega) fun s' J2 => ⟨.non, H1, J2, rfl, q⟩
theorem ps_field (ho : PE X o to) (he : PE X e te) (hs : swapsWith e (some (.Attribute o f p')) pos.line X.env = pure false := by rfl) : PS X (.Assign [.Attribute o f p'] e pos) (tFst X.K f to te) := by
  refine ⟨fun pins s σ H D J h => plainObj_wpAny_Assign_Attribute (thn (he.run pins s σ H _ J h) fun v s1 ⟨y, H1, J1, r1, q1⟩ => thn (ho.run pins s1 σ H1 _ J1 q1) fun u s2 hu => ?_) hs⟩
  obtain ⟨x, H2, J2, r2, er, C, rfl, T, free, q⟩ := hu
  obtain rfl : u = Value.ref er := r2
  rcases q with ⟨at_e, q⟩ | ⟨dx, fs, at_e, at_d, few, q⟩
  · exact set_one T J2 at_e free r1 fun dx s' n ne J3 => ⟨σ, _, J3, q dx n ne⟩
  · exact set_more T J2 at_e at_d few free r1 fun s' J3 => ⟨σ, _, J3, q⟩
/-- C(e, ..), to be raised -/
theorem pmk_over {CX : CXT} {C fI : Addr} {k : Nat} {fd : FuncData} {ps : List Str} {sp : Sp} (T : AeC X.K C) (at_i : PySem.W.findIn X.K (.ref C) "__init__" = some (some (.ref fI))) (ty_i : PySem.W.typeIn X.K (.ref fI) = some (.type "function"))
    (G : FnOk X.prog X.w X.K X.mg X.base CX k fI fd ps sp) (hr : Room (k + 1) X.A) (hb : Binds X.K fd ps []) (hx : Passes CX X (fun _ _ _ => False)) (hm : X.mg x = some (.ref C)) (ha : PA X (e :: es) ta) (hg : Gl X x := by rfl)
    (hdb : (x == ("__debug__" : Str)) = false := by decide) (he : starEach (e :: es) X.env = (false, eval e X.env) :: starEach es X.env := by rfl) (hpl : (backTo pos (starEach es X.env)).any (·.1) = false := by rfl) :
    PMk X (.Call (.Name x p) (e :: es) [] pos) (tMkO C sp [] ta) := by
  intro pins s σ H Q J h
  obtain ⟨nm, q, N, bs, bm, sn, sub, ab, col, dd, k0, k1, k2, k3, k5, hC, over⟩ := T.cls
  refine wpAny_Call_Name_kw (ld_glob J hg hm (PySem.W.callWith_K (h₀ := X.base) J.ok.mod.kin T.kp (thn (ha.run pos pins s σ H _ J h) fun us s1 ⟨vs, H1, J1, r1, few, q1⟩ => ⟨J1.kIn, ?_⟩) he hpl) hdb)
  obtain ⟨g0, gs, dr, tk, os⟩ := s1
  have nextE : g0.objs.size ≤ g0.objs.size + 1 := Nat.le_succ _
  have noE : H1 (g0.objs.size + 1) = none := J1.hok.fresh nextE
  have ask := q1 (g0.objs.size + 1) noE
  have old : ∀ b o, g0.get? b = some o → ((g0.push (PySem.W.kdv_tup us)).push (PySem.HandSPX.excO C g0.objs.size)).get? b = some o := fun b o z => Heap.get?_push_of_some _ (Heap.get?_push_of_some _ z)
  have at_e : ((g0.push (PySem.W.kdv_tup us)).push (PySem.HandSPX.excO C g0.objs.size)).get? (g0.objs.size + 1) = some (PySem.HandSPX.excO C g0.objs.size) := by heap_get
  have J2 : Inv X pins σ (upd H1 (g0.objs.size + 1) (exo (g0.objs.size + 1) C none)) ⟨(g0.push (PySem.W.kdv_tup us)).push (PySem.HandSPX.excO C g0.objs.size), gs, dr, tk, os⟩ := J1.laid (t' := tk) old nextE (exo_ok at_e)
  rw [List.append_nil] at ask
  have r2 : Vals (V.ref (g0.objs.size + 1) :: vs) (Value.ref (g0.objs.size + 1) :: us) := .cons rfl r1
  have n_us : (Value.ref (g0.objs.size + 1) :: us).length = ps.length := r2.length.symm.trans (G.len _ _ _ _ ask)
  have us_few : us.length ≤ sizeLine := by
    rw [← Paired.length r1, sizeLine_eq]
    omega
  have bound := hb _ (Value.ref (g0.objs.size + 1) :: us) J2.kIn (by rw [List.append_nil]; exact n_us)
  rw [List.append_nil] at bound
  refine wpAny_call (PySem.HandSPX.call_own F.excBase_ArithmeticError (fun Y => over_has Y over) (J1.kIn _ _ hC) (PySem.W.looks_findIn J1.kIn at_i) (fun self => PySem.W.bind_fn J1.kIn self ty_i) us_few
    (codeAny_mono (G.run _ X.stack _ _ ⟨Value.ref (g0.objs.size + 1) :: us, []⟩ (Value.ref (g0.objs.size + 1) :: us) _ _ (fun _ _ _ => False) (hr.make C us []) (J2.env0.make C us []) bound r2 ask) fun r s' z => ?_))
  cases r with
  | error er => exact hx pins σ _ _ er s' J2 z
  | ok fl =>
    cases fl with
    | next => exact z.elim
    | brk => exact z.elim
    | cont => exact z.elim
    | ret u =>
      obtain ⟨v, H2, os2, bare2, un2, hok2, rv, ev, d, fs, ea, ed, free_d, q2⟩ := z
      subst ev
      obtain ⟨g2, gs2, dr2, tk2, os'⟩ := s'
      exact ⟨rv, mk_end (raises_own T.ex T.ty) J1 nextE old un2 hok2 os2 bare2 ea ed free_d q2⟩
end
end L2

/-! Caught errors that have fields; lambdas handed to a def; defs that raise. -/
namespace PySem.W
open PySem PySem.Spec PySem.Calls PyProof.Rows
section
variable {prog : Program} {w : World} {A : Around} {E : Value → Shared → Prop} {K : Frag} {s : Shared} {x D : Addr} {ox : Obj} {od : Option Obj}
theorem find_dataO {C : Addr} {name : Str} {a g : Value} (hc : (clsIn K C).isSome = true) (ha : findIn K (.ref C) name = some (some a)) (hg : specialIn K a "__get__" = some (some g)) (ht : takesIn K a = some true) : findObj K C od name = some (.bind g a) := by
  obtain ⟨cd, e⟩ := Option.isSome_iff_exists.mp hc
  unfold findObj
  rw [e, Option.bind_some, ha, Option.bind_some]
  simp only [hg, ht, Option.bind_some]
/-- x.__class__ of an error that may have a dict -/
theorem classE {Q : Option Value → Shared → Prop} (ga : findIn K (.ref D) "__getattribute__" = some (some (.builtin "BaseException.__getattribute__"))) (gg : findIn K (.ref D) "__getattr__" = some none) (isE : subIn K (.ref D) (.type "BaseException") = some true)
    (hasD : hasDictIn K D = true) (atC : findIn K (.ref D) "__class__" = some (some (.builtin "object.__class__"))) (getC : specialIn K (.builtin "object.__class__") "__get__" = some (some (.builtin "getset_descriptor.__get__")))
    (takC : takesIn K (.builtin "object.__class__") = some true) (objD : mroIn K D (.type "object") = some true) (inK : K.In s.heap) (J : InstAt s.heap x ox D od) (go : Q (some (.ref D)) { s with toks := s.toks + 1 }) :
    wpAny (model prog w) A (getAttr? (.ref x) "__class__") Q E s := by
  have hf : findObj K D od "__class__" = some (.bind (.builtin "getset_descriptor.__get__") (.builtin "object.__class__")) := find_dataO (by obtain ⟨cd, hc, _⟩ := any_some hasD; rw [hc]; rfl) atC getC takC
  obtain ⟨g0, gs, dr, n, os⟩ := s
  have T0 := J.type (M := model prog w)
  have T1 := looks_findIn (M := model prog w) inK ga
  have T2 := looks_findIn (M := model prog w) inK gg
  have T3 := looks_find (M := model prog w) inK J hf
  have over : Looks (model prog w) g0 (isInstance (.ref x) (.type "BaseException")) true := T0.andThen (looks_subIn inK isE)
  have no : (Value.builtin "BaseException.__getattribute__" == Value.builtin "object.__getattribute__") = false := by decide +kernel
  unfold getAttr? getAttrBy? getAttrBy
  refine wpAny_bind (wpAny_mkText (wpAny_bind (wpAny_attempt (wpAny_holding (wpAny_bind (T0.at (wpAny_bind (T1.at ?_))))))))
  show wpAny _ _ (if (onTheHeap (Value.ref D) && Value.builtin "BaseException.__getattribute__" == Value.builtin "object.__getattribute__") = true then _ else _) _ _ _
  rw [no, Bool.and_false, if_neg Bool.false_ne_true]
  unfold getAttrByItsOwn hookBefore
  refine wpAny_bind ?_
  rw [if_pos (show onTheHeap (Value.ref D) = true from rfl)]
  refine T2.at (wpAny_bind (wpAny_attempt (wpAny_holding ?_)))
  unfold callGetattribute
  rw [show (false && onTheHeap (Value.builtin "BaseException.__getattribute__")) = false from rfl, if_neg Bool.false_ne_true]
  unfold boundAndCalled
  rw [PySem.F.excAttr_ValueError.ga.bind (.ref x)]
  refine wpAny_bind (wpAny_pure ?_)
  show wpAny _ _ (call (.builtin "BaseException.__getattribute__") [.ref x, .str "__class__" n]) _ _ _
  refine wpAny_call (codeAny_call_builtin PySem.F.excAttr_ValueError.ga.plain PySem.F.entry_bexc_ga ?_)
  refine @check_slot (model prog w) _ _ ⟨g0, gs, dr, n + 1, os⟩ "BaseException.__getattribute__" "BaseException" "__getattribute__" (.ref x) [.str "__class__" n] [] _ (by decide +kernel) (by decide +kernel) over (PySem.F.args_bexc_ga (.ref x) (.str "__class__" n)) ?_
  unfold Builtin.«object.__getattribute__»
  refine wpAny_bind (wpAny_of_eq (a := ((Value.ref x : Value), [Value.str "__class__" n])) (by first | rfl | (simp only [slotArgs]; rfl)) ?_)
  refine wpAny_bind (wpAny_pure (wpAny_bind (T0.at (wpAny_bind (T3.at ?_)))))
  show wpAny _ _ (holding [Value.builtin "object.__class__"] (call (.builtin "getset_descriptor.__get__") [.builtin "object.__class__", .ref x, .ref D]) >>= ret) _ _ _
  refine wpAny_bind (wpAny_holding (wpAny_call (class_get (s := ⟨g0, gs, dr, n + 1, os⟩) (ox := ox) (od := od) inK J objD (wpAny_pure ?_))))
  show wpAny _ _ (handedOut (.ref D)) _ _ _
  rw [handedOut_of (v := .ref D) rfl]
  first | exact wpAny_pure (wpAny_pure go) | exact wpAny_pure go | exact wpAny_pure (wpAny_bind (wpAny_pure (wpAny_pure go)))
theorem kitE (ga : findIn K (.ref D) "__getattribute__" = some (some (.builtin "BaseException.__getattribute__"))) (gg : findIn K (.ref D) "__getattr__" = some none) (isE : subIn K (.ref D) (.type "BaseException") = some true) (hasD : hasDictIn K D = true)
    (atC : findIn K (.ref D) "__class__" = some (some (.builtin "object.__class__"))) (getC : specialIn K (.builtin "object.__class__") "__get__" = some (some (.builtin "getset_descriptor.__get__"))) (takC : takesIn K (.builtin "object.__class__") = some true)
    (objD : mroIn K D (.type "object") = some true) : KitX K (.ref x) (.ref D) (fun h => InstAt h x ox D od) := by
  have lk : ∃ o' c' cd sl, K.lookup D = some ⟨o', c', .cls cd, sl⟩ := by
    obtain ⟨cd, hc, _⟩ := any_some hasD
    unfold clsIn at hc
    split at hc
    · exact ⟨_, _, _, _, by assumption⟩
    · cases hc
  obtain ⟨o', c', cd, sl, lk⟩ := lk
  exact {
    ty := fun _ _ _ J => J.type
    it := fun _ _ inK _ => by
      intro A' Q' E' s' k q
      unfold isType loadHead
      exact wpAny_bind (wpAny_loadPart (k _ _ (inK _ _ lk)) (wpAny_pure q))
    ne := fun h tp dd its n sl inK htp => Bool.eq_false_iff.mpr fun q => by
      obtain rfl : D = tp := Value.ref.inj (beq_iff_eq.mp q)
      have z := (inK _ _ lk).symm.trans htp
      cases z
    ca := fun inK J k => classE ga gg isE hasD atC getC takC objD inK J k }
end
end PySem.W

namespace L2
open PySem PySem.Spec PyProof.Rows
/-- isinstance(e, c), e the error that the suite holds, with its fields at dd -/
def rIsF (K : PySem.W.Frag) (cls : Value) (d : Option Addr) (a : Addr) : List V → Hp → VK → Prop := fun xs H Q =>
  ∃ (D dd : Addr) (fs : List (Str × V)) (c : V) (cv : Value) (b : Bool), cls = .ref D ∧ d = some dd ∧ ExcC K D ∧ H dd = some (.xd fs) ∧ xs = [.ref a, c] ∧ (∀ u, RelV c u → u = cv) ∧ PySem.W.kitOne K (.ref D) cv = some b ∧ Q (.bl b) H
theorem call_isF {X : Cx} {a : Addr} {cls : Value} {d : Option Addr} {oe : Obj} {pn : List (Addr × Obj)} (hz : Zc cls d oe) (hf : ∃ vs, oe.data = .fields vs) : CallR (X.suite a ((a, oe) :: pn)) (.builtin "isinstance") (rIsF X.K cls d a) := by
  intro pins s σ H xs us Q J r h
  obtain ⟨D, dd, fs, c, cv, b, rfl, rfl, C, hd, rfl, hcv, k, q⟩ := h
  cases r with
  | cons rx rr =>
    cases rr with
    | cons rt rr =>
      cases rr
      cases rx
      obtain rfl := hcv _ rt
      obtain ⟨at_a, _⟩ := J.pin (a, oe) (List.mem_append.mpr (.inl List.mem_cons_self))
      obtain ⟨mA, names, _⟩ := (show ObjOk X.prog X.w H s.heap dd (.xd fs) from J.hok dd _ hd)
      obtain ⟨od, at_d, _⟩ := lookIn_ns names
      obtain ⟨vs, hv⟩ := hf
      have I0 : PySem.W.InstAt s.heap a oe D (some od) := ⟨at_a, hz.1, by unfold PySem.W.notCls; rw [hv] <;> rfl, by rw [hz.2]; exact at_d⟩
      exact PySem.W.kia_one (PySem.W.kitE C.hg C.hk C.hs C.hd C.ha C.hn C.ht C.hm) J.kIn I0 k (fun z => nomatch z) fun tk => ⟨.bl b, H, J.kept (t' := tk) fun _ _ z => z, rfl, q⟩
/-- xs.count(True), xs a list of bools -/
def eqT : Value → Bool
  | .bool b => b
  | _ => false
theorem bools_count : ∀ {bs : List Bool} {its : List Value}, Vals (bs.map V.bl) its → its.countP eqT = bs.count true
  | [], _, h => by cases h; rfl
  | b :: bs, _, h => by
    cases h with
    | cons h1 h2 =>
      cases h1
      rw [List.countP_cons, bools_count h2, List.count_cons]
      cases b <;> rfl
theorem bools_mem : ∀ {bs : List Bool} {its : List Value}, Vals (bs.map V.bl) its → ∀ y ∈ its, ∃ b, y = .bool b
  | [], _, h, y, hy => by
    cases h
    cases hy
  | b :: bs, _, h, y, hy => by
    cases h with
    | cons h1 h2 =>
      rcases List.mem_cons.mp hy with rfl | hy
      · exact ⟨b, h1⟩
      · exact bools_mem h2 y hy
theorem mt_countT {X : Cx} : MtR X "list.count" (fun x xs H Q => ∃ (p : Addr) (bs : List Bool), x = .ref p ∧ xs = [.bl true] ∧ SqL X.K H p (bs.map V.bl) ∧ Q (.int (bs.count true : Nat)) H) := by
  intro pins s σ H x xs v us Q J r rs h
  obtain ⟨p, bs, rfl, rfl, hs, q⟩ := h
  cases r
  obtain ⟨u, rfl, ru⟩ := rs.one
  cases ru
  obtain ⟨its, rv, ⟨⟨cls, dd, data, sl⟩, n, ho, hc, hdn, hd⟩, hlen⟩ := J.list hs
  simp only at hc hd
  subst hc hd
  refine call_meets PySem.F.slot_list_count ⟨_, ho, rfl⟩ PySem.F.entry_list_count (PySem.F.args_list_count_2 _ _)
    (SeqAt.list_countAt p its.toArray n dd sl (.bool true) eqT) ⟨ho, fun y hy => ?_, ?_⟩
  · obtain ⟨b, rfl⟩ := bools_mem rv y (by simpa using hy)
    have z := SeqAt.EqAt.bool_bool (A := X.A.in1) (s := s) b true
    rw [show (b == true) = eqT (.bool b) by cases b <;> rfl] at z
    exact z
  · have ec : its.toArray.toList.countP eqT = bs.count true := by rw [List.toList_toArray]; exact bools_count rv
    refine ⟨.int (bs.count true : Nat), H, J.tok _, ⟨s.toks, ?_⟩, q⟩
    show Value.int ((its.toArray.toList.countP eqT : Nat) : Int) s.toks = _
    rw [ec]
end L2
namespace L2
open PySem PySem.Spec PyProof.Rows LamX
theorem kany_yes {K : PySem.W.Frag} {t c : Value} {r : List Value} (h : PySem.W.kitOne K t c = some true) : PySem.W.kitAny K t (c :: r) = some true := by
  unfold PySem.W.kitAny
  rw [h]
theorem kany_no {K : PySem.W.Frag} {t c : Value} {r : List Value} {b : Option Bool} (h : PySem.W.kitOne K t c = some false) (h2 : PySem.W.kitAny K t r = b) : PySem.W.kitAny K t (c :: r) = b := by
  unfold PySem.W.kitAny
  rw [h]
  exact h2
/-! ### defs that raise -/
structure DefOkX (P : Program) (w : World) (K : PySem.W.Frag) (mg : Str → Option Value) (base : Heap) (x : Str) (st : Stmt) (ps : List Str) (k : Nat) (sp : Sp) : Prop where
  ex : ∃ f fd, mg x = some (.ref f) ∧ Fun K x x st f fd ∧ Binds K fd ps [] ∧ FnOk P w K mg base (L2.CX P w) k f fd ps sp
section
variable {P : Program} {w : World} {K : PySem.W.Frag} {mg : Str → Option Value} {base : Heap}
theorem TopDef.okX {x : Str} {st : Stmt} {N ps : List Str} {k : Nat} {sp : Sp} (T : TopDef K mg x st ps) (S : FnScope N ps (defScope st)) (len : ∀ vs H Q E, sp vs H Q E → vs.length = ps.length)
    (hbody : ∀ (f : Addr) (cdv : Value) (A : Around) (outer : List Env) (s : Shared) (H : Hp) (vs : List V) (Q : VK) (E : XK), Room k (A.deeper (envOfC x (defScope st) s.heap.objs.size f cdv)) → sp vs H Q E →
      ∃ t, PSs (cxOf (L2.CX P w) P w K mg base N x (defScope st) f cdv A outer s H E) (defBody st) t ∧ t { nx := fun _ H' => Q .non H', rt := Q } (start N vs) H) : DefOkX P w K mg base x st ps (k + 1) sp := by
  obtain ⟨f, fd, hm, F, hb⟩ := T.ex
  exact ⟨f, fd, hm, F, hb, F.okX S len (hbody f)⟩
end
section
variable {X : Cx} {x : Str} {st : Stmt} {ps : List Str} {k : Nat} {sp : Sp} {e : Expr} {es : List Expr} {t : TA} {p pos : Pos} {E : XK} {W : WX}
/-- a call of a def that may raise; what it raises is wished for by E -/
theorem pe_callX (D : DefOkX X.prog X.w X.K X.mg X.base x st ps k sp) (hr : Room k X.A) (tk : Takes X W) (hW : ∀ cls d σ H, E cls d H → W cls d σ H) (ha : PA X (e :: es) t) (hg : Gl X x := by rfl)
    (hdb : (x == ("__debug__" : Str)) = false := by decide) (he : starEach (e :: es) X.env = (false, eval e X.env) :: starEach es X.env := by rfl) (hpl : (backTo pos (starEach es X.env)).any (·.1) = false := by rfl) :
    PE X (.Call (.Name x p) (e :: es) [] pos) (tCall sp [] E t) := by
  obtain ⟨f, fd, hm, hk, hb, F⟩ := D.ex
  exact pe_call F hr hg hm hk.kp hb .nil (passes_call tk hW) ha hdb he hpl
/-- .. that raises nothing here -/
theorem pe_callX0 (D : DefOkX X.prog X.w X.K X.mg X.base x st ps k sp) (hr : Room k X.A) (ha : PA X (e :: es) t) (hg : Gl X x := by rfl)
    (hdb : (x == ("__debug__" : Str)) = false := by decide) (he : starEach (e :: es) X.env = (false, eval e X.env) :: starEach es X.env := by rfl) (hpl : (backTo pos (starEach es X.env)).any (·.1) = false := by rfl) :
    PE X (.Call (.Name x p) (e :: es) [] pos) (tCall sp [] E0 t) := by
  obtain ⟨f, fd, hm, hk, hb, F⟩ := D.ex
  exact pe_call F hr hg hm hk.kp hb .nil passL ha hdb he hpl
end
/-! ### error classes of the text -/
structure ErrDef (K : PySem.W.Frag) (mg : Str → Option Value) (x q : Str) (C : Addr) (st : Stmt) (ps : List Str) : Prop where
  g : mg x = some (.ref C)
  ae : AeC K C
  init : ∃ f fd, PySem.W.findIn K (.ref C) "__init__" = some (some (.ref f)) ∧ PySem.W.typeIn K (.ref f) = some (.type "function") ∧ Fun K "__init__" q st f fd ∧ Binds K fd ps []
/-- its __init__ keeps sp -/
structure ErrOk (P : Program) (w : World) (K : PySem.W.Frag) (mg : Str → Option Value) (base : Heap) (x : Str) (C : Addr) (ps : List Str) (k : Nat) (sp : Sp) : Prop where
  g : mg x = some (.ref C)
  ae : AeC K C
  ex : ∃ f fd, PySem.W.findIn K (.ref C) "__init__" = some (some (.ref f)) ∧ PySem.W.typeIn K (.ref f) = some (.type "function") ∧ Binds K fd ps [] ∧ FnOk P w K mg base CX0 k f fd ps sp
theorem ErrDef.ok {P : Program} {w : World} {K : PySem.W.Frag} {mg : Str → Option Value} {base : Heap} {x q : Str} {C : Addr} {st : Stmt} {N ps : List Str} {k : Nat} {sp : Sp} (T : ErrDef K mg x q C st ps) (S : FnScope N ps (defScope st)) (len : ∀ vs H Q E, sp vs H Q E → vs.length = ps.length)
    (hbody : ∀ (f : Addr) (cdv : Value) (A : Around) (outer : List Env) (s : Shared) (H : Hp) (vs : List V) (Q : VK) (E : XK), Room k (A.deeper (envOfC q (defScope st) s.heap.objs.size f cdv)) → sp vs H Q E →
      ∃ t, PSs (cxOf CX0 P w K mg base N q (defScope st) f cdv A outer s H E).nox (defBody st) t ∧ t { nx := fun _ H' => Q .non H', rt := Q } (start N vs) H) : ErrOk P w K mg base x C ps (k + 1) sp := by
  obtain ⟨f, fd, h1, h2, F, hb⟩ := T.init
  exact ⟨T.g, T.ae, f, fd, h1, h2, hb, F.ok S len (hbody f)⟩
theorem pmk_err {X : Cx} {x : Str} {C : Addr} {ps : List Str} {k : Nat} {sp : Sp} {e : Expr} {es : List Expr} {ta : TA} {p pos : Pos} (D : ErrOk X.prog X.w X.K X.mg X.base x C ps k sp) (hr : Room (k + 1) X.A) (ha : PA X (e :: es) ta) (hg : Gl X x := by rfl)
    (hdb : (x == ("__debug__" : Str)) = false := by decide) (he : starEach (e :: es) X.env = (false, eval e X.env) :: starEach es X.env := by rfl) (hpl : (backTo pos (starEach es X.env)).any (·.1) = false := by rfl) :
    PMk X (.Call (.Name x p) (e :: es) [] pos) (tMkO C sp [] ta) := by
  obtain ⟨f, fd, h1, h2, hb, F⟩ := D.ex
  exact pmk_over D.ae h1 h2 F hr hb pass0 D.g ha hg hdb he hpl
/-- what a made error leaves: its fields at d; what was there stands -/
def made1 (C e : Addr) (f : Str) (v : V) (H : Hp) (Q : VK) : Prop := ∀ (H1 : Hp) (d : Addr), Same H H1 → H1 d = none → d ≠ e → Q .non (upd (upd H1 d (exd d [(f, v)])) e (exo e C (some d)))
def spErr1 (C : Addr) (f : Str) (ok : V → Prop) : Sp := fun vs H Q _ => ∃ (e : Addr) (v : V), vs = [.ref e, v] ∧ H e = some (exo e C none) ∧ ok v ∧ made1 C e f v H Q
def spErr2 (C : Addr) (f g : Str) (ok : V → Prop) : Sp := fun vs H Q _ => ∃ (e : Addr) (u v : V), vs = [.ref e, u, v] ∧ H e = some (exo e C none) ∧ ok u ∧ ok v ∧
  ∀ (H1 : Hp) (d : Addr), Same H H1 → H1 d = none → d ≠ e → Q .non (upd (upd H1 d (exd d [(g, v), (f, u)])) e (exo e C (some d)))
theorem exo_new {H : Hp} {e : Addr} {o : HO} (h : H e = none) : Same H (upd H e o) := fun b u q => by rw [upd_ne (ne_of_none q h)]; exact q
/-- the reading of raise C(v) -/
theorem raise_core {C e d : Addr} {fs : List (Str × V)} {H H1 : Hp} (he : H e = none) (s : Same (upd H e (exo e C none)) H1) (hd : H1 d = none) (ne : d ≠ e) :
    Same H (upd (del (upd (upd H1 d (exd d fs)) e (exo e C (some d))) e) d (.xd fs)) ∧ H d = none ∧ (upd (del (upd (upd H1 d (exd d fs)) e (exo e C (some d))) e) d (.xd fs)) d = some (.xd fs) := by
  have free : H d = none := by
    cases q : H d with
    | none => rfl
    | some o =>
      have := s d o (by rw [upd_ne ne]; exact q)
      rw [hd] at this
      cases this
  refine ⟨fun b o q => ?_, free, upd_same⟩
  have hb : b ≠ e := ne_of_none q he
  have hbd : b ≠ d := ne_of_none q free
  rw [upd_ne hbd, del_ne hb, upd_ne hb, upd_ne hbd]
  exact s b o (by rw [upd_ne hb]; exact q)
theorem raise1 {C e : Addr} {f : Str} {ok : V → Prop} {v : V} {H : Hp} {R : Value → Option Addr → Hp → Prop} {E : XK} (he : H e = none) (hv : ok v) (k : ∀ (d : Addr) (H' : Hp), Same H H' → H d = none → H' d = some (.xd [(f, v)]) → R (.ref C) (some d) H') :
    spErr1 C f ok [.ref e, v] (upd H e (exo e C none)) (fun w H2 => w = .non ∧ ∃ (d : Addr) (fs : List (Str × V)), H2 e = some (exo e C (some d)) ∧ H2 d = some (exd d fs) ∧ H d = none ∧ R (.ref C) (some d) (upd (del H2 e) d (.xd fs))) E := by
  refine ⟨e, v, rfl, upd_same, hv, fun H1 d s hd ne => ⟨rfl, d, [(f, v)], upd_same, by rw [upd_ne ne]; exact upd_same, ?_⟩⟩
  obtain ⟨a, b, c⟩ := raise_core (fs := [(f, v)]) he s hd ne
  exact ⟨b, k d _ a b c⟩
theorem raise2 {C e : Addr} {f g : Str} {ok : V → Prop} {u v : V} {H : Hp} {R : Value → Option Addr → Hp → Prop} {E : XK} (he : H e = none) (hu : ok u) (hv : ok v) (k : ∀ (d : Addr) (H' : Hp), Same H H' → H d = none → H' d = some (.xd [(g, v), (f, u)]) → R (.ref C) (some d) H') :
    spErr2 C f g ok [.ref e, u, v] (upd H e (exo e C none)) (fun w H2 => w = .non ∧ ∃ (d : Addr) (fs : List (Str × V)), H2 e = some (exo e C (some d)) ∧ H2 d = some (exd d fs) ∧ H d = none ∧ R (.ref C) (some d) (upd (del H2 e) d (.xd fs))) E := by
  refine ⟨e, u, v, rfl, upd_same, hu, hv, fun H1 d s hd ne => ⟨rfl, d, [(g, v), (f, u)], upd_same, by rw [upd_ne ne]; exact upd_same, ?_⟩⟩
  obtain ⟨a, b, c⟩ := raise_core (fs := [(g, v), (f, u)]) he s hd ne
  exact ⟨b, k d _ a b c⟩
/-- a text or a number that is not too great: it can be shown -/
def Shows (v : V) : Prop := (∃ z : Str, v = .str z ∧ z.length ≤ 1000) ∨ ∃ i : Int, v = .int i ∧ i.natAbs < 2 ^ 64 ∧ (toString i : Str).length ≤ 1000
/-! ### a law's def whose code object is known -/
structure LawDef (K : PySem.W.Frag) (mg : Str → Option Value) (x : Str) (st : Stmt) (ps : List Str) (c P : Addr) : Prop where
  ex : ∃ f fd, mg x = some (.ref f) ∧ Fun K x x st f fd ∧ Binds K fd ps [] ∧ fd.code = .ref c
  code : PySem.W.codeHdIn K c P = true
  no : K.lookup P = none
theorem Fun.okC {P : Program} {w : World} {K : PySem.W.Frag} {mg : Str → Option Value} {base : Heap} {x q : Str} {st : Stmt} {f c : Addr} {fd : FuncData} {N ps : List Str} {k : Nat} {sp : Sp} (F : Fun K x q st f fd) (hc : fd.code = .ref c) (S : FnScope N ps (defScope st)) (len : ∀ vs H Q E, sp vs H Q E → vs.length = ps.length)
    (hbody : ∀ (A : Around) (outer : List Env) (s : Shared) (H : Hp) (vs : List V) (Q : VK) (E : XK), Room k (A.deeper (envOfC q (defScope st) s.heap.objs.size f (.ref c))) → sp vs H Q E →
      ∃ t, PSs (cxOf CX0 P w K mg base N q (defScope st) f (.ref c) A outer s H E).nox (defBody st) t ∧ t { nx := fun _ H' => Q .non H', rt := Q } (start N vs) H) : FnOk P w K mg base CX0 (k + 1) f fd ps sp := by
  obtain ⟨oc, od, kV, doc, pm, an, cdv, ct, osl, rfl, lk, hcd⟩ := F.ex
  obtain rfl : cdv = .ref c := hc
  exact fn_of lk hcd S len fun A outer s H vs Q E hr hsp => by
    obtain ⟨t, h, z⟩ := hbody A outer s H vs Q E hr hsp
    exact ⟨t, h.nox, z⟩
/-- the slots are as many as the names -/
theorem Takes.len {X : Cx} {W : WX} (tk : Takes X W) : Takes X (fun cls d σ H => σ.length = X.N.length → W cls d σ H) := fun u s' ⟨a, B, sI, pins, σ, H, cls, d, e, I, nb, up, sky, na, os, ag, w⟩ => tk u s' ⟨a, B, sI, pins, σ, H, cls, d, e, I, nb, up, sky, na, os, ag, w I.len⟩
/-- a method of a built-in type, the written part named -/
theorem pe_bmK {X : Cx} {K : PySem.W.Frag} {T id : String} {name : Str} {r : V → List V → Hp → VK → Prop} {o e : Expr} {es : List Expr} {to : TE} {t : TA} {apos cpos : Pos} (pa : PlainAttrs T) (slot : Slot T name id) (hty : typeOf (.builtin id) = pure (.type "method_descriptor")) (hm : MtR X id r) (ho : PE X o to) (ha : PA X (e :: es) t)
    (hK : X.K = K := by rfl) (hbase : attributeBase o name X.env (eval o X.env) = eval o X.env := by rfl)
    (few : ((backTo cpos (starEach (e :: es) X.env)).all (fun x => !x.1) && (backToKw cpos (keywordEach [] X.env)).all (fun x => x.1.isSome) && decide ((e :: es).length + ([] : List Keyword).length + (if ([] : List Keyword).isEmpty then 0 else 1) < 30)) = true := by rfl)
    (one : (apos.endLine == cpos.line) = true := by rfl) (he : starEach (e :: es) X.env = (false, eval e X.env) :: starEach es X.env := by rfl) (pl : (backTo cpos (starEach es X.env)).any (·.1) = false := by rfl) :
    PE X (.Call (.Attribute o name apos) (e :: es) [] cpos) (tBM K T r to t) := by
  subst hK
  exact pe_bm pa slot hty hm ho ha hbase few one he pl
theorem mt_countTK {X : Cx} {K : PySem.W.Frag} (hK : X.K = K := by rfl) : MtR X "list.count" (fun x xs H Q => ∃ (p : Addr) (bs : List Bool), x = .ref p ∧ xs = [.bl true] ∧ SqL K H p (bs.map V.bl) ∧ Q (.int (bs.count true : Nat)) H) := by
  subst hK
  exact mt_countT
/-- an expression that is never asked -/
theorem pe_false {X : Cx} {e : Expr} : PE X e (fun _ _ _ => False) := ⟨fun _ _ _ _ _ _ h => h.elim⟩
theorem xfc {K : PySem.W.Frag} {C : Addr} (T : ExcC K C) : XfC K C := ⟨T.hg, T.hk, T.hs, T.hd⟩
/-! ### x(lambda: body) -/
structure Asks (X : Cx) (x a : Str) (st : Stmt) (TT : (XK → Hp → VK → Prop) → Hp → VK → Prop) : Prop where
  ex : ∃ (g : Addr) (oc kV doc pm cdv ct : Value) (od an : Option Addr) (osl : Array (Option Value)) (Ng : List Str), X.mg x = some (.ref g) ∧ PySem.W.keepIn X.K (.ref g) = true ∧
    X.K.lookup g = some ⟨oc, od, .func (PySem.W.fnOf x x (defArgs st) (defBody st) (defScope st) .none kV doc pm an cdv ct), osl⟩ ∧ PySem.W.codeIn X.K cdv x = true ∧ Binds X.K (PySem.W.fnOf x x (defArgs st) (defBody st) (defScope st) .none kV doc pm an cdv ct) [a] [] ∧
    FnScope Ng [a] (defScope st) ∧ Ng[0]? = some a ∧ ∀ q, GivesTo X Ng x (defScope st) g cdv (defBody st) a q TT
theorem pe_ask {X : Cx} {T : List (Addr × Str)} {TT : (XK → Hp → VK → Prop) → Hp → VK → Prop} {x a : Str} {st : Stmt} {c P : Addr} {k : Nat} {params : Arguments} {body : Expr} {scope : Scope} {t : XK → TE} {p lpos pos : Pos} (D : Asks X x a st TT) (TB : TabB X.base X.mg c P) (hcode : X.env.code = .ref c)
    (hmT : (P, X.env.qual ++ "<lambda>") ∈ T) (hu : ∀ p ∈ T, p.1 = P → p.2 = X.env.qual ++ "<lambda>") (hr : Room (k + 2) X.A) (L : LamS X.env.scope scope)
    (hbody : ∀ (A : Around) (outer : List Env) (s : Shared) (H : Hp) (E : XK) (f c' : Addr), Room k (A.deeper (lamEnv X scope s.heap.objs.size f c')) → PE (lamCx X A outer s H E scope f c') body (t E))
    (hva : Vis (defScope st) a := by exact Or.inl rfl) (hg : Gl X x := by rfl) (hdef : defaultsOf params X.env = ([], []) := by rfl)
    (hbind : ∀ (q : Str) (cl : List (Str × Addr)) (pm cv ctv : Value), bindArgs (PySem.W.kla_fn "<lambda>" q params body scope cl pm cv ctv) ⟨[], []⟩ = pure [] := by intros; rfl)
    (hdb : (x == ("__debug__" : Str)) = false := by decide) (hd : (a == ("__debug__" : Str)) = false := by decide) (hcd : (a == ("__classdict__" : Str)) = false := by decide) :
    PE X (.Call (.Name x p) [.Lambda params body scope lpos] [] pos) (tLam T TT t) := by
  obtain ⟨g, oc, kV, doc, pm, cdv, ct, od, an, osl, Ng, hm, hk, lk, hcg, hb, Sg, hNg, hG⟩ := D.ex
  exact pe_lamcall hg hm hk lk hcg hb Sg hNg hva (hG _) TB hcode hmT hu hr L hdef hbind hbody hdb hd hcd
end L2

set_option maxHeartbeats 2000000
/-! My.Dt: texts times a number; new data of written displays. -/
namespace L2
open PySem PySem.Spec PyProof.Rows VW TL
def repS (z : Str) (n : Nat) : Str := ⟨(List.replicate n z.cps).foldl (· ++ ·) #[]⟩
def rRepS : R2 := fun x y H Q => ∃ (z : Str) (k : Int), x = .str z ∧ y = .int k ∧ 1 < k ∧ k < 1000 ∧ 0 < z.length ∧ z.length ≤ 1000 ∧ (repS z k.toNat).length ≤ sizeLine ∧ Q (.str (repS z k.toNat)) H
theorem op_repS {X : Cx} : OpR X (binaryOp .Mult) rRepS := by
  intro pins s σ H x y v u Q I rx ry h
  obtain ⟨z, k, rfl, rfl, h1, h2, h3, h4, h5, q⟩ := h
  obtain ⟨t, rfl⟩ := rx
  obtain ⟨t', rfl⟩ := ry
  have n1 : ¬ k < 1 := by omega
  have n2 : ¬ (k == 1 || z.length == 0) = true := by
    simp only [Bool.or_eq_true, beq_iff_eq]
    omega
  have n3 : z.length * k.toNat ≤ 1000 * 1000 := Nat.mul_le_mul h4 (by omega)
  refine P.mul_str ?_ (fun _ _ => ?_) (fun _ _ => ?_) ?_
  · rw [decide_eq_false (by omega), decide_eq_false (by omega)] <;> rfl
  · have : (1000 : Int) ≤ (2 ^ 63 - 1) / k := (Int.le_ediv_iff_mul_le (by omega)).mpr (by omega)
    omega
  · simp [Builtin.Str.tooLong, sizeLine]
    omega
  · rw [if_neg n1, if_neg n2]
    exact ⟨h5, .str (repS z k.toNat), H, I.tok _, ⟨_, rfl⟩, q⟩
section
variable {K : PySem.W.Frag} {σ : L2.St} {U0 H0 U H : Hp} {Q : VK} {p : Addr} {ds es : List PyData} {d : PyData} {t u : TE} {ta : TA}
/-- t makes d -/
def Fr8 (K : PySem.W.Frag) (σ : L2.St) (t : TE) (d : PyData) : Prop := ∀ (U H : Hp) (Q : VK), Same U H → (∀ v U' H', Gr S0 U H U' H' → Dp K U' v d → Q v H') → t σ H Q
def MkA (K : PySem.W.Frag) (σ : L2.St) (t : TA) (ds : List PyData) : Prop := ∀ (U H : Hp) (Q : List V → Hp → Prop), Same U H → (∀ vs U' H', Gr S0 U H U' H' → DpAll K U' vs ds → Q vs H') → t σ H Q
/-- t makes a text -/
def MkS (σ : L2.St) (t : TE) (z : Str) : Prop := ∀ (U H : Hp) (Q : VK), Same U H → (∀ U' H', Gr S0 U H U' H' → Q (.str z) H') → t σ H Q
/-- t makes a list of texts -/
def MkL (σ : L2.St) (t : TE) (ys : List Str) : Prop := ∀ (U H : Hp) (Q : VK), Same U H → (∀ p U' H', Gr S0 U H U' H' → H' p = some (.lst (ys.map V.str)) → Q (.ref p) H') → t σ H Q
theorem mk_non : Fr8 K σ (tC .non) .none := fun U H Q s k => k _ U H (.refl s) .non
theorem mk_int {i : Int} : Fr8 K σ (tC (.int i)) (.int i) := fun U H Q s k => k _ U H (.refl s) (.int i)
theorem mk_bl {i : Bool} : Fr8 K σ (tC (.bl i)) (.bool i) := fun U H Q s k => k _ U H (.refl s) (.bl i)
theorem mk_str {z : Str} (h : MkS σ t z) : Fr8 K σ t (.str z) := fun U H Q s k => h U H Q s fun U' H' g => k _ U' H' g (.str z)
theorem mks_c {z : Str} : MkS σ (tC (.str z)) z := fun U H Q s k => k U H (.refl s)
theorem mks_var {z : Str} {i : Nat} (h : σ[i]? = some (some (.str z))) : MkS σ (tVar i) z := fun U H Q s k => ⟨_, h, k U H (.refl s)⟩
theorem mks_add {y z : Str} (h : MkS σ t y) (h2 : MkS σ u z) (hl : y.length + z.length ≤ sizeLine) :
    MkS σ (tOp (fun x y H Q => ∃ i j : Str, x = V.str i ∧ y = V.str j ∧ i.length + j.length ≤ sizeLine ∧ Q (.str (i ++ j)) H) t u) (y ++ z) := fun U H Q s k =>
  h U H _ s fun U1 H1 g1 => h2 U1 H1 _ g1.s fun U2 H2 g2 => ⟨y, z, rfl, rfl, hl, k U2 H2 (g1.trans g2)⟩
theorem mks_rep {z : Str} {n : Int} (h : MkS σ t z) (h1 : 1 < n) (h2 : n < 1000) (h3 : 0 < z.length) (h4 : z.length ≤ 1000) (h5 : (repS z n.toNat).length ≤ sizeLine) : MkS σ (tOp rRepS t (tC (.int n))) (repS z n.toNat) := fun U H Q s k =>
  h U H _ s fun U1 H1 g1 => ⟨z, n, rfl, rfl, h1, h2, h3, h4, h5, k U1 H1 g1⟩
theorem mkl_one {z : Str} (h : MkS σ t z) : MkL σ (tLst (tCons t tNil)) [z] := fun U H Q s k =>
  h U H _ s fun U1 H1 g1 => ⟨Nat.le_of_ble_eq_true rfl, fun p hp => k p (upd U1 p (.lst [.str z])) _ (g1.new hp) upd_same⟩
theorem mkl_rep {z : Str} {n : Int} (h : MkL σ t [z]) (h1 : -(2 ^ 63) ≤ n) (h2 : n < 1000) : MkL σ (tOp rRep t (tC (.int n))) (List.replicate n.toNat z) := fun U H Q s k =>
  h U H _ s fun p U1 H1 g1 hp => ⟨p, n, [.str z], rfl, rfl, hp, h1, by omega, by rw [List.length_singleton]; exact Nat.le_trans (show 1 * n.toNat ≤ 1000 by omega) (by decide), fun q hq => by
    have e : (List.replicate n.toNat [V.str z]).flatten = (List.replicate n.toNat z).map V.str := by rw [List.flatten_replicate_singleton, List.map_replicate]
    refine k q (upd U1 q (.lst ((List.replicate n.toNat z).map V.str))) _ ?_ (by rw [e]; exact upd_same)
    rw [e]
    exact g1.new hq⟩
theorem mkl_cat {ys zs : List Str} (h : MkL σ t ys) (h2 : MkL σ u zs) (hl : ys.length + zs.length ≤ sizeLine) : MkL σ (tOp rCat t u) (ys ++ zs) := fun U H Q s k =>
  h U H _ s fun p U1 H1 g1 hp => h2 U1 H1 _ g1.s fun q U2 H2 g2 hq => ⟨p, q, _, _, rfl, rfl, g2.same _ _ hp, hq, by rw [List.length_map, List.length_map]; exact hl, fun r hr => by
    refine k r (upd U2 r (.lst ((ys ++ zs).map V.str))) _ ?_ (by rw [← List.map_append]; exact upd_same)
    rw [← List.map_append]
    exact (g1.trans g2).new hr⟩
theorem mks_join {z : Str} {ys : List Str} (h : MkL σ t ys) (hl : (List.map (fun x : Str => x.length) ys).sum + ys.length * z.length ≤ 16777216) :
    MkS σ (tM1 (fun x xs H Q => ∃ (a : Str) (p : Addr) (ys : List Str), x = V.str a ∧ xs = [V.ref p] ∧ (SqL K H p (ys.map V.str) ∨ SqT K H p (ys.map V.str)) ∧ (List.map (fun x : Str => x.length) ys).sum + ys.length * a.length ≤ 16777216 ∧ Q (.str (Txt.join a ys)) H) (tC (.str z)) t) (Txt.join z ys) := fun U H Q s k =>
  ⟨⟨z, rfl⟩, h U H _ s fun p U1 H1 g1 hp => ⟨z, p, ys, rfl, rfl, .inl (sqlO hp), hl, k U1 H1 g1⟩⟩
theorem mka_nil : MkA K σ tNil [] := fun U H Q s k => k [] U H (.refl s) .nil
theorem mka_cons (h : Fr8 K σ t d) (h2 : MkA K σ ta ds) : MkA K σ (tCons t ta) (d :: ds) := fun U H Q s k =>
  h U H _ s fun v U1 H1 g1 hd => h2 U1 H1 _ g1.s fun vs U2 H2 g2 hds => k (v :: vs) U2 H2 (g1.trans g2) (.cons (dpS g2.v hd) hds)
theorem mk_tup (h : MkA K σ ta ds) (hl : ds.length ≤ sizeLine) : Fr8 K σ (tTup ta) (.tuple ds) := fun U H Q s k =>
  h U H _ s fun vs U1 H1 g1 hd => ⟨by rw [dps_length hd]; exact hl, fun p hp => k (.ref p) (upd U1 p (.tup vs)) _ (g1.new hp) (.tup (sqtO upd_same) (dpsS (same_new (vfree g1.s hp)) hd))⟩
theorem mk_lst (h : MkA K σ ta ds) (hl : ds.length ≤ sizeLine) : Fr8 K σ (tLst ta) (.list ds) := fun U H Q s k =>
  h U H _ s fun vs U1 H1 g1 hd => ⟨by rw [dps_length hd]; exact hl, fun p hp => k (.ref p) (upd U1 p (.lst vs)) _ (g1.new hp) (.lst (sqlO upd_same) (dpsS (same_new (vfree g1.s hp)) hd))⟩
/-- a list that grows: p, new since H0, outside of the view -/
structure RowsAt (K : PySem.W.Frag) (U0 H0 U H : Hp) (p : Addr) (ds : List PyData) : Prop where
  g : Gr S0 U0 H0 U H
  n : H0 p = none
  o : U p = none
  h : ∃ vs, H p = some (.lst vs) ∧ DpAll K U vs ds
theorem rows_new (s : Gr S0 U0 H0 U H) (m : MkA K σ ta es) (hl : es.length ≤ sizeLine) (k : ∀ U' H' q, RowsAt K U0 H0 U' H' q es → Q (.ref q) H') : tLst ta σ H Q :=
  m U H _ s.s fun vs U1 H1 g1 hd => ⟨by rw [dps_length hd]; exact hl, fun p hp => k U1 _ p ⟨(s.trans g1).newH hp, (s.trans g1).free hp, vfree g1.s hp, vs, upd_same, hd⟩⟩
theorem rows_cat {i : Nat} (R : RowsAt K U0 H0 U H p ds) (hσ : σ[i]? = some (some (.ref p))) (m : MkA K σ ta es) (hl : ds.length + es.length ≤ sizeLine) (k : ∀ U' H' q, RowsAt K U0 H0 U' H' q (ds ++ es) → Q (.ref q) H') : tOp rCat (tVar i) (tLst ta) σ H Q := by
  obtain ⟨vs, hp, hv⟩ := R.h
  refine ⟨_, hσ, m U H _ R.g.s fun zs U1 H1 g1 hz => ⟨by rw [dps_length hz]; omega, fun b hb => ⟨p, b, vs, zs, rfl, rfl, by rw [upd_ne (ne_of_none (g1.same _ _ hp) hb)]; exact g1.same _ _ hp, upd_same, by rw [dps_length hz, dps_length hv]; exact hl, fun q hq => ?_⟩⟩⟩
  have G := ((R.g.trans g1).newH (o := .lst zs) hb)
  exact k U1 _ q ⟨G.newH hq, G.free hq, vfree G.s hq, _, upd_same, dps_append (dpsS g1.v hv) hz⟩
theorem rows_app {i : Nat} (R : RowsAt K U0 H0 U H p ds) (hσ : σ[i]? = some (some (.ref p))) (m : Fr8 K σ t d) (hl : ds.length < sizeLine) (k : ∀ U' H', RowsAt K U0 H0 U' H' p (ds ++ [d]) → Q .non H') : tBM K "list" rAppend (tVar i) (tCons t tNil) σ H Q := by
  obtain ⟨vs, hp, hv⟩ := R.h
  refine ⟨_, hσ, .inl ⟨rfl, vs, sqlO hp⟩, m U H _ R.g.s fun v U1 H1 g1 hd => ⟨p, vs, v, rfl, rfl, g1.same _ _ hp, by rw [dps_length hv]; exact hl, ?_⟩⟩
  have o1 : U1 p = none := g1.out (some_ne hp) R.o
  exact k U1 _ ⟨(R.g.trans g1).mut (.inr R.n) o1, R.n, o1, _, upd_same, dps_append (dpsS g1.v hv) (.cons hd .nil)⟩
end
end L2

set_option maxHeartbeats 2000000
/-! My.Mx: methods that may raise; makers C(..) that may raise. -/
namespace L2
open PySem PySem.Spec PyProof.Rows LamX
structure MethOkX (P : Program) (w : World) (K : PySem.W.Frag) (mg : Str → Option Value) (base : Heap) (C : Addr) (m q : Str) (st : Stmt) (ps : List Str) (k : Nat) (sp : Sp) : Prop where
  ex : ∃ f fd, PySem.W.findIn K (.ref C) m = some (some (.ref f)) ∧ PySem.W.isFn K (.ref f) = true ∧ Fun K m q st f fd ∧ Binds K fd ps [] ∧ FnOk P w K mg base (L2.CX P w) k f fd ps sp
theorem MethDef.okX {P : Program} {w : World} {K : PySem.W.Frag} {mg : Str → Option Value} {base : Heap} {C : Addr} {m q : Str} {st : Stmt} {N ps : List Str} {k : Nat} {sp : Sp} (T : MethDef K C m q st ps) (S : FnScope N ps (defScope st)) (len : ∀ vs H Q E, sp vs H Q E → vs.length = ps.length)
    (hbody : ∀ (f : Addr) (cdv : Value) (A : Around) (outer : List Env) (s : Shared) (H : Hp) (vs : List V) (Q : VK) (E : XK), Room k (A.deeper (envOfC q (defScope st) s.heap.objs.size f cdv)) → sp vs H Q E →
      ∃ t, PSs (cxOf (L2.CX P w) P w K mg base N q (defScope st) f cdv A outer s H E) (defBody st) t ∧ t { nx := fun _ H' => Q .non H', rt := Q } (start N vs) H) : MethOkX P w K mg base C m q st ps (k + 1) sp := by
  obtain ⟨f, fd, h1, h2, F, hb⟩ := T.ex
  exact ⟨f, fd, h1, h2, F, hb, F.okX S len (hbody f)⟩
section
variable {X : Cx} {C : Addr} {q : Str} {st : Stmt} {ps : List Str} {k : Nat} {sp : Sp} {e : Expr} {es : List Expr} {t tk : TA} {pos p : Pos} {x : Str} {E : XK} {W : WX}
/-- C(e, ..) that may raise: what it raises is wished for by E -/
theorem pe_makeX (D : MethOkX X.prog X.w X.K X.mg X.base C "__init__" q st ps k sp) (hmk : PySem.W.makesIn X.K C = true ∧ PySem.W.keepIn X.K (.ref C) = true) (hm : X.mg x = some (.ref C)) (hr : Room (k + 1) X.A) (tk : Takes X W) (hW : ∀ cls d σ H, E cls d H → W cls d σ H) (ha : PA X (e :: es) t) (hg : Gl X x := by rfl)
    (hdb : (x == ("__debug__" : Str)) = false := by decide) (he : starEach (e :: es) X.env = (false, eval e X.env) :: starEach es X.env := by rfl) (hpl : (backTo pos (starEach es X.env)).any (·.1) = false := by rfl) :
    PE X (.Call (.Name x p) (e :: es) [] pos) (tMake C sp [] E t) := by
  obtain ⟨f, fd, h1, h2, h3, hb, F⟩ := D.ex
  exact pe_make ⟨hmk.1, h1, h2, hmk.2⟩ F hr hg hm hb .nil (passes_call tk hW) ha hdb he hpl
/-- C(k = e, ..) that may raise -/
theorem pe_makeX_kw {kws : List Keyword} {ks : List Str} {tkk : TA} (D : MethOkX X.prog X.w X.K X.mg X.base C "__init__" q st ps k sp) (hmk : PySem.W.makesIn X.K C = true ∧ PySem.W.keepIn X.K (.ref C) = true) (hm : X.mg x = some (.ref C)) (hr : Room (k + 1) X.A) (tk : Takes X W) (hW : ∀ cls d σ H, E cls d H → W cls d σ H)
    (h : ∀ (kV doc pm : Value) (an : Option Addr) (cdv ct : Value) (us ws : List Value), us.length = 1 → ws.length = ks.length → bindArgs (PySem.W.fnOf "__init__" q (defArgs st) (defBody st) (defScope st) .none kV doc pm an cdv ct) ⟨us, ks.zip ws⟩ = pure (ps.zip (us ++ ws)))
    (hkw : PK X kws tkk) (hg : Gl X x := by rfl)
    (hall : (backToKw pos (keywordEach kws X.env)).all (·.1.isSome) = true := by rfl) (hks : (backToKw pos (keywordEach kws X.env)).filterMap (·.1) = ks := by rfl) (hdb : (x == ("__debug__" : Str)) = false := by decide)
    (hpl : ((backTo pos (starEach [] X.env)).any (·.1) || (backToKw pos (keywordEach kws X.env)).any (·.1.isNone)) = false := by rfl) :
    PE X (.Call (.Name x p) [] kws pos) (tMakeK C 0 ks.length sp (fun vs zs => vs ++ zs) E tNil tkk) := by
  obtain ⟨f, fd, h1, h2, h3, hb, F⟩ := D.ex
  exact pe_makeK0 ⟨hmk.1, h1, h2, hmk.2⟩ F hr hg hm (h3.kbn h) (passes_call tk hW) hkw hall hks hdb hpl
end
end L2

set_option maxHeartbeats 2000000
/-! My.Ky: a written tuple of numbers of a module as the key of an entry; what the dict holds behind is not told. -/
namespace L2
open PySem PySem.Spec PyProof.Rows
def KTup (K : PySem.W.Frag) (b : Addr) (ks : List Key) : Prop := ∃ o its n, K.lookup b = some o ∧ o.cls = Value.type "tuple" ∧ o.data = Data.seq its n ∧ ∀ (P : Program) (w : World), ItemsAre (mixKind P w) ks its.toList
/-- something stands there -/
abbrev anyO : HO := .ext fun _ => True
def sPutX (K : PySem.W.Frag) (ks : List Key) (td ty tv : TE) : TS := fun D σ H => tv σ H fun _ H1 => td σ H1 fun x H2 => ty σ H2 fun y H3 => ∃ a b, x = .ref a ∧ H3 a = some (.dT []) ∧ y = .ref b ∧ KTup K b ks ∧ D.nx σ (upd H3 a anyO)
section
variable {X : Cx} {o i value : Expr} {pos pos' : Pos} {td ty tv : TE} {ks : List Key}
theorem ps_dputX (hu : X.A.units + 1 < cLine) (ho : PE X o td) (hi : PE X i ty) (hv : PE X value tv) (sw : swapsWith value (some (o.Subscript i pos')) pos.line X.env = pure false := by rfl) : PS X (.Assign [o.Subscript i pos'] value pos) (sPutX X.K ks td ty tv) := by
  refine ⟨fun pins s σ H D I h => wpAny_Assign_Subscript ?_ sw⟩
  refine thn (hv.run pins s σ H _ I h) fun v s1 hq1 => ?_
  obtain ⟨v', H1, I1, rv, h1⟩ := hq1
  refine thn (ho.run pins s1 σ H1 _ I1 h1) fun ov s2 hq2 => ?_
  obtain ⟨x, H2, I2, rx, h2⟩ := hq2
  refine thn (hi.run pins s2 σ H2 _ I2 h2) fun iv s3 hq3 => ?_
  obtain ⟨y, H3, I3, ry, h3⟩ := hq3
  obtain ⟨a, b, rfl, ha, rfl, ⟨ob, its, n, hk, hc, hd, hi⟩, k⟩ := h3
  cases rx
  cases ry
  obtain ⟨_, hs, xs, kt, di⟩ := dt_of I3.hok ha
  cases kt
  have hb : (tupleKind (mixKind X.prog X.w)).is s3.heap ks b := ⟨ob, its, n, I3.kIn _ _ hk, hc, hd, hi _ _⟩
  refine wpAny_setItem_heap (knd := tupleKind (mixKind X.prog X.w)) (tupleKind_room_in1 hu) hb di (fun h' d' sb => ?_) (Nat.zero_le _)
  refine ⟨σ, upd H3 a anyO, ?_, k⟩
  have hsome : ∃ q, h'.get? a = some q := by
    obtain ⟨o, _, _, e, _⟩ := d'
    exact ⟨o, e⟩
  exact d_write I3 (by rw [ha]; trivial) sb hsome ⟨trivial, hsome, fun _ _ _ _ => trivial⟩
theorem pe_globS {x z : Str} {pos : Pos} (h : ∃ t, X.mg x = some (.str z t)) (hg : Gl X x := by rfl) (hd : (x == ("__debug__" : Str)) = false := by decide) : PE X (.Name x pos) (tC (.str z)) := by
  obtain ⟨t, h⟩ := h
  exact pe_glob (v := .str z) hg h ⟨t, rfl⟩ hd
def gFld (K : PySem.W.Frag) (ta : TE) (f : Str) : TG := fun v σ H Q => ta σ H fun x H1 => ∃ a C dx fs, x = .ref a ∧ H1 a = some (.ins C dx fs) ∧ Cls K C ∧ NoAttr K C f ∧ fs.length < 1000 ∧ Q σ (upd H1 a (.ins C dx (putF f v fs)))
/-- o.f as a target among several -/
theorem pg_fld {f : Str} {ta : TE} (ho : PE X o ta) : PG X (.Attribute o f pos) (gFld X.K ta f) := by
  refine ⟨fun pins s σ H v u Q I rv h => ?_⟩
  rw [arm_assign_Attribute]
  refine wpAny_bind (wpAny_holding (thn (ho.run pins s σ H _ I h) fun ov s1 hq => ?_))
  obtain ⟨x, H1, I1, rx, a, C, dx, fs, rfl, ha, hc, hn, hl, k⟩ := hq
  cases rx
  refine wpAny_bind (wpAny_standAt ?_)
  refine wpAny_bind (wpAny_holding (setattr_ok I1 ha hc hn hl rv fun s' I' => ?_))
  exact wpAny_release ⟨σ, _, I', k⟩
end
/-! a written dict of a module: k in w, w[k] -/
def tKIn (K : PySem.W.Frag) (w : World) (ty td : TE) : TE := fun σ H Q => ty σ H fun y H1 => td σ H1 fun x H2 => ∃ a es n, x = .ref a ∧ K.lookup a = some ⟨.type "dict", none, .dict es n, #[]⟩ ∧ PySem.W.KeysLit w.params es.toList ∧ (a == sysModules) = false ∧
  ∃ z r, y = .str z ∧ PySem.W.nsIn K a z = some r ∧ Q (.bl r.isSome) H2
def tKIx (K : PySem.W.Frag) (w : World) (td ty : TE) : TE := fun σ H Q => td σ H fun x H1 => ty σ H1 fun y H2 => ∃ a es n, x = .ref a ∧ K.lookup a = some ⟨.type "dict", none, .dict es n, #[]⟩ ∧ PySem.W.KeysLit w.params es.toList ∧ (a == sysModules) = false ∧
  ∃ z u v, y = .str z ∧ PySem.W.nsIn K a z = some (some u) ∧ RelV v u ∧ Q v H2
section
variable {X : Cx} {o i : Expr} {pos : Pos} {td ty : TE}
theorem pc_dinK (hi : PE X i ty) (ho : PE X o td) : PC X CmpOp.In i o (tKIn X.K X.w ty td) := by
  refine ⟨fun pins s σ H Q I h => thn (hi.run pins s σ H _ I h) fun iv s1 hq1 => ?_⟩
  obtain ⟨y, H1, I1, ry, h1⟩ := hq1
  refine thn (ho.run pins s1 σ H1 _ I1 h1) fun ov s2 hq2 => ?_
  obtain ⟨x, H2, I2, rx, a, es, n, rfl, hl, hk, low, z, r, rfl, e, k⟩ := hq2
  cases rx
  obtain ⟨t, rfl⟩ := (show ∃ t, iv = Value.str z t from ry)
  have hm := PySem.W.mapOf_K (prog := X.prog) (w := X.w) I2.kIn hl hk
  refine wpAny_in_of (knd := strKind X.prog X.w) (strKind_is X.prog X.w z t) low hm ?_
  rw [PySem.W.find_K hl e]
  exact ⟨.bl r.isSome, H2, I2.tok _, rfl, k⟩
theorem pe_dixK (ho : PE X o td) (hi : PE X i ty) (hn : NoSl i) : PE X (o.Subscript i pos) (tKIx X.K X.w td ty) := by
  refine ⟨fun pins s σ H Q I h => subD_of (T := "dict") (PySem.Slot.lookup PySem.F.slot_dict_getitem) hn (thn (ho.run pins s σ H _ I h) fun ov s1 hq1 => ?_)⟩
  obtain ⟨x, H1, I1, rx, h1⟩ := hq1
  refine thn (hi.run pins s1 σ H1 _ I1 h1) fun iv s2 hq2 => ?_
  obtain ⟨y, H2, I2, ry, a, es, n, rfl, hl, hk, low, z, u, v, rfl, e, rv, k⟩ := hq2
  cases rx
  obtain ⟨t, rfl⟩ := (show ∃ t, iv = Value.str z t from ry)
  have hm := PySem.W.mapOf_K (prog := X.prog) (w := X.w) I2.kIn hl hk
  refine ⟨hm.typeIs, wpAny_getItem_of (knd := strKind X.prog X.w) (strKind_is X.prog X.w z t) hm (PySem.W.find_K hl e) ?_⟩
  exact ⟨v, H2, I2.tok _, rv, k⟩
theorem pe_fldK {e : Expr} {f : Str} {ta : TE} {K : PySem.W.Frag} (he : PE X e ta) (hb : attributeBase e f X.env (eval e X.env) = eval e X.env) (hK : X.K = K := by rfl) : PE X (e.Attribute f pos) (tFld K ta f) := by
  subst hK
  exact pe_fld he hb
theorem pe_revLK {e : Expr} {te : TE} {k : Nat} {p1 p2 p3 pos : Pos} {K : PySem.W.Frag} (he : PE X e te) (hK : X.K = K := by rfl) : PE X (e.Subscript (Expr.Slice none none (some (Expr.UnaryOp UnaryOp.USub (Expr.Constant (Const.int 1) k p1) p2)) p3) pos) (tRevL K te) := by
  subst hK
  exact pe_revL he
end
end L2

set_option maxHeartbeats 2000000
/-! My.Kn: k not in w, w a written dict of a module. -/
namespace L2
open PySem PySem.Spec PyProof.Rows
def tKNotIn (K : PySem.W.Frag) (w : World) (ty td : TE) : TE := fun σ H Q => ty σ H fun y H1 => td σ H1 fun x H2 => ∃ a es n, x = .ref a ∧ K.lookup a = some ⟨.type "dict", none, .dict es n, #[]⟩ ∧ PySem.W.KeysLit w.params es.toList ∧ (a == sysModules) = false ∧
  ∃ z r, y = .str z ∧ PySem.W.nsIn K a z = some r ∧ Q (.bl (!r.isSome)) H2
section
variable {X : Cx} {o i : Expr} {pos : Pos} {td ty : TE}
theorem pc_dnotinK (hi : PE X i ty) (ho : PE X o td) : PC X CmpOp.NotIn i o (tKNotIn X.K X.w ty td) := by
  refine ⟨fun pins s σ H Q I h => thn (hi.run pins s σ H _ I h) fun iv s1 hq1 => ?_⟩
  obtain ⟨y, H1, I1, ry, h1⟩ := hq1
  refine thn (ho.run pins s1 σ H1 _ I1 h1) fun ov s2 hq2 => ?_
  obtain ⟨x, H2, I2, rx, a, es, n, rfl, hl, hk, low, z, r, rfl, e, k⟩ := hq2
  cases rx
  obtain ⟨t, rfl⟩ := (show ∃ t, iv = Value.str z t from ry)
  have hm := PySem.W.mapOf_K (prog := X.prog) (w := X.w) I2.kIn hl hk
  refine wpAny_notIn_of (knd := strKind X.prog X.w) (strKind_is X.prog X.w z t) low hm ?_
  rw [PySem.W.find_K hl e]
  exact ⟨.bl (!r.isSome), H2, I2.tok _, rfl, k⟩
end
end L2

set_option maxHeartbeats 2000000
/-! My.Kt: t + u of tuples, whichever is empty. -/
namespace L2
open PySem PySem.Spec PyProof.Rows
theorem tuple_addW0 (l b : Addr) (items items2 : Array Value) (n n2 : Nat) (dd dd2 : Option Addr) (sl sl2 : Array (Option Value)) (h : items.isEmpty = true) :
    Meets (Builtin.«tuple.__add__» { pos := [Value.ref l, Value.ref b] }) fun x R s =>
      s.heap.get? l = some { cls := Value.type "tuple", dict := dd, data := Data.seq items n, slots := sl } ∧
        s.heap.get? b = some { cls := Value.type "tuple", dict := dd2, data := Data.seq items2 n2, slots := sl2 } ∧ R (Except.ok (Flow.ret (Value.ref b))) s := by
  refine Meets.of_wp fun prog w A R s ⟨h1, h2, hR⟩ => ?_
  unfold Builtin.«tuple.__add__»
  refine wpAny_bind (wpAny_pure ?_)
  refine wpAny_bind (wpAny_isInstance (T := "tuple") ⟨_, h2, rfl⟩ PySem.AutoSeq1.sub_tuple_tuple ?_)
  refine wpAny_bind ?_
  unfold Builtin.Tuple.tupleItemsOf
  refine wpAny_bind (wpAny_seqItems h1 rfl ?_)
  refine wpAny_pure ?_
  refine wpAny_bind (wpAny_bind (wpAny_seqItems h2 rfl (wpAny_pure ?_)))
  refine wpAny_ite_true (decide_eq_true h) ?_
  refine wpAny_bind ?_
  unfold Builtin.Tuple.tupleIsExact
  refine wpAny_bind (wpAny_typeOf (T := "tuple") ⟨_, h2, rfl⟩ (wpAny_pure ?_))
  refine wpAny_ite_true rfl ?_
  exact wpAny_bind (wpAny_rule (wpAny_pure ⟨_, rfl, hR⟩))
def rCatT0 (K : PySem.W.Frag) : R2 := fun x y H Q => ∃ a b xs ys, x = .ref a ∧ y = .ref b ∧ SqT K H a xs ∧ SqT K H b ys ∧ xs.length + ys.length ≤ sizeLine ∧ (xs = [] → Q (.ref b) H) ∧ (xs ≠ [] → ys = [] → Q (.ref a) H) ∧ (xs ≠ [] → ys ≠ [] → ∀ (p : Addr), H p = none → Q (.ref p) (upd H p (.tup (xs ++ ys))))
/-- t + u, whichever is empty -/
theorem op_catT0 {X : Cx} : OpR X (binaryOp .Add) (rCatT0 X.K) := by
  intro pins s σ H x y v u Q I rx ry ⟨a, b, xs, ys, ex, ey, ha, hb, hl, k0, k1, k2⟩
  by_cases h : xs = []
  · subst ex
    subst ey
    cases rx
    cases ry
    obtain ⟨its, v1, ⟨⟨c1, dd, da, sl⟩, e1, c1', n1, d1⟩, _⟩ := I.tuple ha
    obtain ⟨its2, v2, ⟨⟨c2, dd2, da2, sl2⟩, e2, c2', n2, d2⟩, _⟩ := I.tuple hb
    subst h
    cases v1
    have c1' : c1 = _ := c1'
    have c2' : c2 = _ := c2'
    have d1 : da = _ := d1
    have d2 : da2 = _ := d2
    subst c1' c2' d1 d2
    refine concat_meets ⟨_, e1, rfl⟩ ⟨_, e2, rfl⟩ noFill_tuple_add seq_tuple_add F.slot_tuple_add F.entry_tuple_add (F.args_tuple_add_2 _ _) (tuple_addW0 a b #[] _ _ _ _ _ _ _ rfl) ⟨e1, e2, ?_⟩
    exact ⟨.ref b, H, I, rfl, k0 rfl⟩
  · exact op_catT pins s σ H x y v u Q I rx ry ⟨a, b, xs, ys, ex, ey, ha, hb, h, hl, k1 h, k2 h⟩
theorem op_catT0K {X : Cx} {K : PySem.W.Frag} (hK : X.K = K := by rfl) : OpR X (binaryOp .Add) (rCatT0 K) := by
  subst hK
  exact op_catT0
end L2

set_option maxHeartbeats 4000000
/-! My.Zm: zip(xs, t) of a list and a tuple. -/
namespace RM
open PySem L2 RZ
section
variable {prog : Program} {w : World} {A : Around} {E : Value → Shared → Prop} {s : Shared} {z TI TO i1 i2 l1 l2 : Addr} {k1 k2 : Nat} {xs ys : Array Value} {x y a b : Value}
theorem zipM_next_item {Q : Value → Shared → Prop} (ap : ZipApart z TI TO i1 i2 l1 l2) (hz : IsZip s.heap z TI TO Value.none) (hTI : IsPair s.heap TI (Value.ref i1) (Value.ref i2)) (hTO : IsPair s.heap TO a b) (h1 : s.heap.IsListIter i1 l1 k1) (h2 : s.heap.IsTupleIter i2 l2 k2)
    (hx : s.heap.IsList l1 xs) (hy : s.heap.IsTuple l2 ys) (ex : xs[k1]? = some x) (ey : ys[k2]? = some y)
    (h : ∀ (h' : Heap), IsZip h' z TI TO (rawInt ↑s.heap.objs.size) → IsPair h' TO x y → h'.IsListIter i1 l1 (k1 + 1) → h'.IsTupleIter i2 l2 (k2 + 1) → IsPair h' s.heap.objs.size x y → h'.objs.size = s.heap.objs.size + 1 →
      (∀ (c : Addr) (o : Obj), c ≠ z → c ≠ TO → c ≠ i1 → c ≠ i2 → s.heap.get? c = some o → h'.get? c = some o) → Q (Value.ref s.heap.objs.size) { heap := h', gens := s.gens, drawn := s.drawn, toks := s.toks, os := s.os }) :
    wpAny (model prog w) A (Builtin.«zip.__next__» { pos := [Value.ref z] }) (fun fin s' => ∃ v, fin = Fin.done (Flow.ret v) ∧ Q v s') E s := by
  unfold Builtin.«zip.__next__»
  refine wpAny_bind (wpAny_pure ?_)
  refine wpAny_bind (wpAny_field hz rfl rfl ?_)
  refine wpAny_bind (wpAny_field hz rfl rfl ?_)
  refine wpAny_bind (wpAny_seqItems hTI rfl ?_)
  refine wpAny_bind ?_
  unfold Builtin.SmallTypes.ownedTupleIsFree
  refine wpAny_bind (wpAny_field hz rfl rfl ?_)
  refine wpAny_pure ?_
  refine wpAny_bind (wpAny_rule ?_)
  refine wpAny_bind (wpAny_field hz rfl rfl ?_)
  refine wpAny_bind (wpAny_setField_rec hz (Nat.lt_of_lt_of_eq (by decide : 0 < 5) rfl) fun ha ea sa => ?_)
  refine wpAny_bind ?_
  rw [show (#[Value.ref i1, Value.ref i2] : Array Value).toList.zipIdx = [(Value.ref i1, 0), (Value.ref i2, 1)] from rfl, List.forIn_cons]
  refine wpAny_bind ?_
  refine wpAny_bind (wpAny_onRaise ?_)
  have e0 : (#[Value.none, Value.bool false, Value.bool false, Value.ref TI, Value.ref TO][2] == Value.bool true) = false := rfl
  refine wpAny_bind (M := model prog w) (wpAny_nextOf_list_item (h1.extBut sa.extBut ap.i1z) (hx.extBut sa.extBut ap.l1z) ex fun hb i1b sb => ?_)
  refine wpAny_pure ?_
  have tob : IsPair hb TO a b := sb.extBut _ _ ap.TOi1 (sa.extBut _ _ ap.TOz hTO)
  refine wpAny_bind (wpAny_seqItems tob rfl ?_)
  refine wpAny_bind (wpAny_updateSeq_pair (a := a) (b := b) tob fun hc ec sc => ?_)
  refine wpAny_bind (wpAny_letGo ?_)
  refine wpAny_pure ?_
  show wpAny _ _ (forIn [(Value.ref i2, 1)] (none, ()) _) _ _ _
  rw [List.forIn_cons]
  refine wpAny_bind ?_
  refine wpAny_bind (wpAny_onRaise ?_)
  have i2c : hc.IsTupleIter i2 l2 k2 := ((h2.extBut sa.extBut ap.i2z).extBut sb.extBut ap.i12.symm).extBut sc.extBut ap.TOi2.symm
  have l2c : hc.IsTuple l2 ys := ((hy.extBut sa.extBut ap.l2z).extBut sb.extBut ap.l2i1).extBut sc.extBut ap.l2TO
  refine wpAny_bind (M := model prog w) (nextOf_tuple_item i2c l2c ey fun hd i2d sd => ?_)
  refine wpAny_pure ?_
  have tod : IsPair hd TO x b := sd.extBut _ _ ap.TOi2 ec
  refine wpAny_bind (wpAny_seqItems tod rfl ?_)
  refine wpAny_bind (wpAny_updateSeq_pair (a := x) (b := b) tod fun he ee se => ?_)
  refine wpAny_bind (wpAny_letGo ?_)
  refine wpAny_pure ?_
  show wpAny _ _ (forIn [] (none, ()) _) _ _ _
  refine wpAny_pure ?_
  refine wpAny_bind (wpAny_seqItems ee rfl ?_)
  refine wpAny_bind (wpAny_newTuple ?_ (Nat.le_of_ble_eq_true rfl))
  unfold Builtin.SmallTypes.ownedTupleHandOut
  have ez : he.get? z = some { cls := Value.type "zip", data := Data.fields #[Value.ellipsis, Value.bool false, Value.bool false, Value.ref TI, Value.ref TO] } := se.extBut _ _ ap.TOz.symm (sd.extBut _ _ ap.i2z.symm (sc.extBut _ _ ap.TOz.symm (sb.extBut _ _ ap.i1z.symm ea)))
  refine wpAny_bind (wpAny_bind (wpAny_setField_rec (Heap.get?_push_of_some _ ez) (Nat.lt_of_lt_of_eq (by decide : 0 < 5) rfl) fun hf ef sf => ?_))
  refine wpAny_setField_rec ef (Nat.lt_of_lt_of_eq (by decide : 1 < 5) rfl) fun hg eg sg => ?_
  have sa : Heap.SameBut z s.heap ha := sa
  have sb : Heap.SameBut i1 ha hb := sb
  have sc : Heap.SameBut TO hb hc := sc
  have sd : Heap.SameBut i2 hc hd := sd
  have se : Heap.SameBut TO hd he := se
  have ee : IsPair he TO x y := ee
  have hsz : he.objs.size = s.heap.objs.size := by rw [se.1, sd.1, sc.1, sb.1, sa.1]
  have sf : Heap.SameBut z (he.push { cls := Value.type "tuple", data := Data.seq #[x, y] }) hf := sf
  have sg : Heap.SameBut z hf hg := sg
  have eg : IsZip hg z TI TO (rawInt ↑he.objs.size) := eg
  have kg : ∀ (c : Addr) (o : Obj), c ≠ z → he.get? c = some o → hg.get? c = some o := fun c o hc e => sg.extBut _ _ hc (sf.extBut _ _ hc (Heap.get?_push_of_some _ e))
  have kb : ∀ (c : Addr) (o : Obj), c ≠ z → c ≠ TO → c ≠ i2 → hb.get? c = some o → hg.get? c = some o := fun c o h1 h2 h3 e => kg c o h1 (se.extBut _ _ h2 (sd.extBut _ _ h3 (sc.extBut _ _ h2 e)))
  have i1b : hb.IsListIter i1 l1 (k1 + 1) := i1b
  have i2d : hd.IsTupleIter i2 l2 (k2 + 1) := i2d
  have hzs : he.objs.size ≠ z := Nat.ne_of_gt (Heap.lt_size ez)
  refine wpAny_pure ⟨_, rfl, ?_⟩
  have := h hg (by rw [← hsz]; exact eg) (kg _ _ ap.TOz ee) (by obtain ⟨o, e, r⟩ := i1b; exact ⟨o, kb _ _ ap.i1z ap.TOi1.symm ap.i12 e, r⟩) (by obtain ⟨o, e, r⟩ := i2d; exact ⟨o, kg _ _ ap.i2z (se.extBut _ _ ap.TOi2.symm e), r⟩)
    (by rw [← hsz]; exact sg.extBut _ _ hzs (sf.extBut _ _ hzs (Heap.get?_push_size he rfl))) (by rw [sg.1, sf.1, Heap.size_push, hsz]) (fun c o h1 h2 h3 h4 e => kb c o h1 h2 h4 (sb.extBut _ _ h3 (sa.extBut _ _ h1 e)))
  rw [← hsz] at this
  exact this
theorem zipM_next_end {Q : PySem.Fin → Shared → Prop} (hA : A.handled = none) (ap : ZipApart z TI TO i1 i2 l1 l2) (hz : IsZip s.heap z TI TO Value.none) (hTI : IsPair s.heap TI (Value.ref i1) (Value.ref i2)) (hTO : IsPair s.heap TO a b) (h1 : s.heap.IsListIter i1 l1 k1) (h2 : s.heap.IsTupleIter i2 l2 k2)
    (hx : s.heap.IsList l1 xs) (hy : s.heap.IsTuple l2 ys) (ex : xs[k1]? = some x) (ey : ys[k2]? = none)
    (h : ∀ (h' : Heap) (e : Addr), (∀ (c : Addr) (o : Obj), c ≠ z → c ≠ TO → c ≠ i1 → c ≠ i2 → s.heap.get? c = some o → h'.get? c = some o) → (∃ o, h'.get? e = some o ∧ o.cls = Value.type "StopIteration") →
      E (Value.ref e) { heap := h', gens := s.gens, drawn := s.drawn, toks := s.toks, os := s.os }) :
    wpAny (model prog w) A (Builtin.«zip.__next__» { pos := [Value.ref z] }) Q E s := by
  unfold Builtin.«zip.__next__»
  refine wpAny_bind (wpAny_pure ?_)
  refine wpAny_bind (wpAny_field hz rfl rfl ?_)
  refine wpAny_bind (wpAny_field hz rfl rfl ?_)
  refine wpAny_bind (wpAny_seqItems hTI rfl ?_)
  refine wpAny_bind ?_
  unfold Builtin.SmallTypes.ownedTupleIsFree
  refine wpAny_bind (wpAny_field hz rfl rfl ?_)
  refine wpAny_pure ?_
  refine wpAny_bind (wpAny_rule ?_)
  refine wpAny_bind (wpAny_field hz rfl rfl ?_)
  refine wpAny_bind (wpAny_setField_rec hz (Nat.lt_of_lt_of_eq (by decide : 0 < 5) rfl) fun ha ea sa => ?_)
  refine wpAny_bind ?_
  rw [show (#[Value.ref i1, Value.ref i2] : Array Value).toList.zipIdx = [(Value.ref i1, 0), (Value.ref i2, 1)] from rfl, List.forIn_cons]
  refine wpAny_bind ?_
  refine wpAny_bind (wpAny_onRaise ?_)
  refine wpAny_bind (M := model prog w) (wpAny_nextOf_list_item (h1.extBut sa.extBut ap.i1z) (hx.extBut sa.extBut ap.l1z) ex fun hb i1b sb => ?_)
  refine wpAny_pure ?_
  have tob : IsPair hb TO a b := sb.extBut _ _ ap.TOi1 (sa.extBut _ _ ap.TOz hTO)
  refine wpAny_bind (wpAny_seqItems tob rfl ?_)
  refine wpAny_bind (wpAny_updateSeq_pair (a := a) (b := b) tob fun hc ec sc => ?_)
  refine wpAny_bind (wpAny_letGo ?_)
  refine wpAny_pure ?_
  show wpAny _ _ (forIn [(Value.ref i2, 1)] (none, ()) _) _ _ _
  rw [List.forIn_cons]
  refine wpAny_bind ?_
  refine wpAny_bind (wpAny_onRaise ?_)
  have i2c : hc.IsTupleIter i2 l2 k2 := ((h2.extBut sa.extBut ap.i2z).extBut sb.extBut ap.i12.symm).extBut sc.extBut ap.TOi2.symm
  have l2c : hc.IsTuple l2 ys := ((hy.extBut sa.extBut ap.l2z).extBut sb.extBut ap.l2i1).extBut sc.extBut ap.l2TO
  have ez : hc.get? z = some { cls := Value.type "zip", data := Data.fields #[Value.ellipsis, Value.bool false, Value.bool false, Value.ref TI, Value.ref TO] } := sc.extBut _ _ ap.TOz.symm (sb.extBut _ _ ap.i1z.symm ea)
  refine wpAny_bind (M := model prog w) (nextOf_tuple_end hA i2c l2c ey fun hd e sd st => ?_)
  refine wpAny_setField_rec (sd _ _ ap.i2z.symm ez) (Nat.lt_of_lt_of_eq (by decide : 0 < 5) rfl) fun he ee se => ?_
  have sa : Heap.SameBut z s.heap ha := sa
  have sb : Heap.SameBut i1 ha hb := sb
  have sc : Heap.SameBut TO hb hc := sc
  have sd : Heap.ExtBut i2 hc hd := sd
  have se : Heap.SameBut z hd he := se
  refine h he e (fun c o h1 h2 h3 h4 q => se.extBut _ _ h1 (sd _ _ h4 (sc.extBut _ _ h2 (sb.extBut _ _ h3 (sa.extBut _ _ h1 q))))) ?_
  obtain ⟨o, e1, e2⟩ := st
  by_cases hez : e = z
  · exfalso
    rw [hez] at e1
    have e1 : hd.get? z = some o := e1
    rw [sd _ _ ap.i2z.symm ez] at e1
    cases e1
    have e2 : Value.type "zip" = Value.type "StopIteration" := e2
    injection e2 with e2
    exact absurd e2 (by decide)
  · exact ⟨o, se.extBut _ _ hez e1, e2⟩
theorem pyNext_zipM_item {Q : Option Value → Shared → Prop} (ap : ZipApart z TI TO i1 i2 l1 l2) (hz : IsZip s.heap z TI TO Value.none) (hTI : IsPair s.heap TI (Value.ref i1) (Value.ref i2)) (hTO : IsPair s.heap TO a b) (h1 : s.heap.IsListIter i1 l1 k1) (h2 : s.heap.IsTupleIter i2 l2 k2)
    (hx : s.heap.IsList l1 xs) (hy : s.heap.IsTuple l2 ys) (ex : xs[k1]? = some x) (ey : ys[k2]? = some y)
    (h : ∀ (h' : Heap), IsZip h' z TI TO (rawInt ↑s.heap.objs.size) → IsPair h' TO x y → h'.IsListIter i1 l1 (k1 + 1) → h'.IsTupleIter i2 l2 (k2 + 1) → IsPair h' s.heap.objs.size x y → h'.objs.size = s.heap.objs.size + 1 →
      (∀ (c : Addr) (o : Obj), c ≠ z → c ≠ TO → c ≠ i1 → c ≠ i2 → s.heap.get? c = some o → h'.get? c = some o) → Q (some (Value.ref s.heap.objs.size)) { heap := h', gens := s.gens, drawn := s.drawn, toks := s.toks, os := s.os }) :
    wpAny (model prog w) A (pyNext (Value.ref z)) Q E s := by
  have hty : s.TypeIs (Value.ref z) "zip" := ⟨_, hz, rfl⟩
  unfold pyNext
  refine wpAny_bind (wpAny_attempt (wpAny_callSpecial?_slot hty F.slot_zip_next (wpAny_call_entry F.slot_zip_next hty F.entry_zip_next (zipM_next_item ap hz hTI hTO h1 h2 hx hy ex ey fun h' q1 q2 q3 q4 q5 q6 q7 => ?_) (F.args_zip_next_1 _))))
  exact wpAny_pure (h h' q1 q2 q3 q4 q5 q6 q7)
theorem pyNext_zipM_end {Q : Option Value → Shared → Prop} (hA : A.handled = none) (ap : ZipApart z TI TO i1 i2 l1 l2) (hz : IsZip s.heap z TI TO Value.none) (hTI : IsPair s.heap TI (Value.ref i1) (Value.ref i2)) (hTO : IsPair s.heap TO a b) (h1 : s.heap.IsListIter i1 l1 k1) (h2 : s.heap.IsTupleIter i2 l2 k2)
    (hx : s.heap.IsList l1 xs) (hy : s.heap.IsTuple l2 ys) (ex : xs[k1]? = some x) (ey : ys[k2]? = none)
    (h : ∀ (h' : Heap), (∀ (c : Addr) (o : Obj), c ≠ z → c ≠ TO → c ≠ i1 → c ≠ i2 → s.heap.get? c = some o → h'.get? c = some o) → Q none { heap := h', gens := s.gens, drawn := s.drawn, toks := s.toks, os := s.os }) :
    wpAny (model prog w) A (pyNext (Value.ref z)) Q E s := by
  have hty : s.TypeIs (Value.ref z) "zip" := ⟨_, hz, rfl⟩
  unfold pyNext
  refine wpAny_bind (wpAny_attempt (wpAny_callSpecial?_slot hty F.slot_zip_next (wpAny_call_entry F.slot_zip_next hty F.entry_zip_next (zipM_next_end hA ap hz hTI hTO h1 h2 hx hy ex ey fun h' e q1 q2 => ?_) (F.args_zip_next_1 _))))
  obtain ⟨o, e1, e2⟩ := q2
  refine wpAny_bind (wpAny_isInstance (T := "StopIteration") ⟨_, e1, e2⟩ isSubtype_stop ?_)
  exact wpAny_pure (h h' q1)
end
def ItzM (K : PySem.W.Frag) (a b : Addr) : It where
  go := fun i H => ∃ xs ys x y, SqL K H a xs ∧ SqT K H b ys ∧ xs[i]? = some x ∧ ys[i]? = some y
  yld := fun i H v H' => ∃ T x y, v = V.ref T ∧ H T = none ∧ H' = upd H T (HO.tup [x, y]) ∧ (∀ (xs : List V), SqL K H a xs → xs[i]? = some x) ∧ ∀ (ys : List V), SqT K H b ys → ys[i]? = some y
  stop := fun i H => ∃ xs ys x, SqL K H a xs ∧ SqT K H b ys ∧ xs[i]? = some x ∧ ys.length ≤ i
theorem turn_zipM {P : Program} {w : World} {K : PySem.W.Frag} {elts : List Expr} {kk : Nat} {tpos : Pos} {a b z TI TO i1 i2 : Addr} (ap : ZipApart z TI TO i1 i2 a b) :
    Turn P w K (Expr.Tuple elts kk tpos) (ItzM K a b) [z, TI, TO, i1, i2] z fun i h =>
      IsZip h z TI TO Value.none ∧ IsPair h TI (Value.ref i1) (Value.ref i2) ∧ (∃ x y, IsPair h TO x y) ∧ h.IsListIter i1 a i ∧ h.IsTupleIter i2 b i := by
  refine ⟨List.mem_cons_self, ?_, ?_, ?_, ?_, ?_⟩
  · rintro i h ⟨h1, h2, ⟨x, y, h3⟩, ⟨o4, e4, c4, d4⟩, ⟨o5, e5, c5, d5⟩⟩ b' hb
    simp only [List.mem_cons, List.not_mem_nil, or_false] at hb
    rcases hb with rfl | rfl | rfl | rfl | rfl
    · exact ⟨_, h1, fun v e => nomatch e⟩
    · exact ⟨_, h2, fun v e => nomatch e⟩
    · exact ⟨_, h3, fun v e => nomatch e⟩
    · exact ⟨_, e4, fun v e => by rw [d4] at e; cases e⟩
    · exact ⟨_, e5, fun v e => by rw [d5] at e; cases e⟩
  · rintro i h h' ⟨h1, h2, ⟨x, y, h3⟩, ⟨o4, e4, r4⟩, ⟨o5, e5, r5⟩⟩ hk
    exact ⟨hk z (by simp) _ h1, hk TI (by simp) _ h2, ⟨x, y, hk TO (by simp) _ h3⟩, ⟨o4, hk i1 (by simp) _ e4, r4⟩, ⟨o5, hk i2 (by simp) _ e5, r5⟩⟩
  · rintro X rfl rfl rfl hc i pins s σ H E I hfp ⟨h1, h2, ⟨x0, y0, h3⟩, h4, h5⟩ ⟨xs, ys, x, y, hl, ht, ex, ey⟩
    obtain ⟨its, v1, p1, _⟩ := I.list hl
    obtain ⟨its2, v2, p2, _⟩ := I.tuple ht
    obtain ⟨u, eu, ru⟩ := v1.get ex
    obtain ⟨u2, eu2, ru2⟩ := v2.get ey
    refine pyNext_zipM_item ap h1 h2 h3 h4 h5 p1.isList p2 (x := u) (y := u2) (by rw [List.getElem?_toArray]; exact eu) (by rw [List.getElem?_toArray]; exact eu2) fun h' q1 q2 q3 q4 q5 q6 q7 => ⟨_, rfl, ?_⟩
    refine wpAny_letOwnedTupleGo_zip q1 fun h'' r1 r2 => ?_
    have hT : H s.heap.objs.size = none := I.hok.fresh (Nat.le_refl _)
    have r2 : Heap.SameBut z h' h'' := r2
    have nz : s.heap.objs.size ≠ z := Nat.ne_of_gt (Heap.lt_size h1)
    have I2 := I.turnedNew (h' := h'') (t' := s.toks) (ch := [z, TI, TO, i1, i2]) (T := s.heap.objs.size) (ob := .tup [x, y]) (fun b o hb e => by
      simp only [List.mem_cons, List.not_mem_nil, or_false, not_or] at hb
      exact r2.extBut _ _ hb.1 (q7 b o hb.1 hb.2.2.1 hb.2.2.2.1 hb.2.2.2.2 e)) hfp (Nat.le_refl _) ⟨Nat.le_of_ble_eq_true rfl, [u, u2], .cons ru (.cons ru2 .nil), ⟨_, r2.extBut _ _ nz q5, rfl, _, rfl⟩⟩
    refine ⟨.ref s.heap.objs.size, _, I2, rfl, ⟨_, x, y, rfl, hT, rfl, fun xs' e => ?_, fun ys' e => ?_⟩, ?_, fun b hb => ?_⟩
    · rw [← I.list_inj hl e]; exact ex
    · rw [← I.tuple_inj ht e]; exact ey
    · obtain ⟨o3, e3, r3⟩ := q3
      obtain ⟨o4, e4, r4⟩ := q4
      have hTI : h'.get? TI = _ := q7 TI _ ap.TIz ap.TITO ap.TIi1 ap.TIi2 h2
      exact ⟨r1, r2.extBut _ _ ap.TIz hTI, ⟨u, u2, r2.extBut _ _ ap.TOz q2⟩, ⟨o3, r2.extBut _ _ ap.i1z e3, r3⟩, ⟨o4, r2.extBut _ _ ap.i2z e4, r4⟩⟩
    · have hb' := (hfp b hb).1
      have hbl : b < s.heap.objs.size := by
        simp only [List.mem_cons, List.not_mem_nil, or_false] at hb
        rcases hb with rfl | rfl | rfl | rfl | rfl
        · exact Heap.lt_size h1
        · exact Heap.lt_size h2
        · exact Heap.lt_size h3
        · obtain ⟨o, e, _⟩ := h4; exact Heap.lt_size e
        · obtain ⟨o, e, _⟩ := h5; exact Heap.lt_size e
      rw [upd_ne (Nat.ne_of_lt hbl)]
      exact hb'
  · rintro X rfl rfl rfl hc i pins s σ H E I hfp ⟨h1, h2, ⟨x0, y0, h3⟩, h4, h5⟩ ⟨xs, ys, x, hl, ht, ex, ey⟩
    obtain ⟨its, v1, p1, _⟩ := I.list hl
    obtain ⟨its2, v2, p2, _⟩ := I.tuple ht
    obtain ⟨u, eu, ru⟩ := v1.get ex
    refine pyNext_zipM_end (I.ok.hd hc) ap h1 h2 h3 h4 h5 p1.isList p2 (x := u) (by rw [List.getElem?_toArray]; exact eu) (by rw [List.getElem?_toArray, List.getElem?_eq_none_iff, ← v2.length]; exact ey) fun h' q7 => ⟨rfl, ?_⟩
    refine I.turnedL (t' := s.toks) (ch := [z, TI, TO, i1, i2]) (fun b o hb e => ?_) hfp
    simp only [List.mem_cons, List.not_mem_nil, or_false, not_or] at hb
    exact q7 b o hb.1 hb.2.2.1 hb.2.2.2.1 hb.2.2.2.2 e
  · rintro A i s Q E ⟨h1, _⟩ hq
    exact wpAny_pyIter_zip h1 hq
abbrev zmH1 (h : Heap) (l1 : Addr) : Heap := h.push { cls := Value.type "list_iterator", data := Data.fields #[Value.ref l1, Value.int 0 0] }
abbrev zmH2 (h : Heap) (l1 l2 : Addr) : Heap := (zmH1 h l1).push { cls := Value.type "tuple_iterator", data := Data.fields #[Value.ref l2, Value.int 0 0] }
abbrev zmH3 (h : Heap) (l1 l2 : Addr) : Heap := (zmH2 h l1 l2).push { cls := Value.type "tuple", data := Data.seq #[Value.ref h.objs.size, Value.ref (zmH1 h l1).objs.size] }
abbrev zmH4 (h : Heap) (l1 l2 : Addr) : Heap := (zmH3 h l1 l2).push { cls := Value.type "tuple", data := Data.seq #[Value.none, Value.none] }
abbrev zmH5 (h : Heap) (l1 l2 : Addr) : Heap := (zmH4 h l1 l2).push { cls := Value.type "zip", data := Data.fields #[Value.none, Value.bool false, Value.bool false, Value.ref (zmH2 h l1 l2).objs.size, Value.ref (zmH3 h l1 l2).objs.size] }
theorem meets_zipM_new (l1 l2 : Addr) (xs ys : Array Value) : Meets (Builtin.«zip.__new__» { pos := [Value.type "zip", Value.ref l1, Value.ref l2] }) fun x R s =>
    s.heap.IsList l1 xs ∧ s.heap.IsTuple l2 ys ∧ R (Except.ok (Flow.ret (Value.ref (zmH4 s.heap l1 l2).objs.size))) { heap := zmH5 s.heap l1 l2, gens := s.gens, drawn := s.drawn, toks := s.toks, os := s.os } := by
  refine Meets.of_wp fun prog w A R s ⟨h1, h2, hR⟩ => ?_
  unfold Builtin.«zip.__new__»
  refine wpAny_bind ?_
  unfold Builtin.SmallTypes.newClass
  refine wpAny_bind (wpAny_pure ?_)
  refine wpAny_bind (wpAny_of_eq sub_zip ?_)
  refine wpAny_pure ?_
  refine wpAny_ite_false rfl ?_
  refine wpAny_bind ?_
  unfold Builtin.SmallTypes.iterAll
  show wpAny _ _ (do let its ← forIn [Value.ref l1, Value.ref l2] #[] _; pure its.toList) _ _ _
  refine wpAny_bind ?_
  rw [List.forIn_cons]
  refine wpAny_bind (wpAny_bind (wpAny_holding (wpAny_pyIter_list h1 ?_)))
  refine wpAny_pure ?_
  show wpAny _ _ (forIn [Value.ref l2] _ _) _ _ _
  rw [List.forIn_cons]
  refine wpAny_bind (wpAny_bind (wpAny_holding (wpAny_pyIter_tuple (items := ys) ?_ ?_)))
  · obtain ⟨o, e, r⟩ := h2
    exact ⟨o, Heap.get?_push_of_some _ e, r⟩
  refine wpAny_pure ?_
  show wpAny _ _ (forIn [] _ _) _ _ _
  refine wpAny_pure (wpAny_pure ?_)
  refine wpAny_bind (wpAny_newTuple ?_ (Nat.le_of_ble_eq_true rfl))
  refine wpAny_bind (wpAny_newTuple ?_ (Nat.le_of_ble_eq_true rfl))
  unfold Builtin.SmallTypes.newRecord
  refine wpAny_bind (wpAny_newObj_type ?_ (hd := (Nat.le_of_ble_eq_true rfl : 5 ≤ sizeLine + 2)))
  exact wpAny_pure ⟨_, rfl, hR⟩
theorem call_zipM {prog : Program} {w : World} {A : Around} {E : Value → Shared → Prop} {s : Shared} {l1 l2 : Addr} {xs ys : Array Value} {Q : Value → Shared → Prop} (h1 : s.heap.IsList l1 xs) (h2 : s.heap.IsTuple l2 ys)
    (h : ∀ (h' : Heap), IsZip h' (s.heap.objs.size + 4) (s.heap.objs.size + 2) (s.heap.objs.size + 3) Value.none → IsPair h' (s.heap.objs.size + 2) (Value.ref s.heap.objs.size) (Value.ref (s.heap.objs.size + 1)) → IsPair h' (s.heap.objs.size + 3) Value.none Value.none →
      h'.IsListIter s.heap.objs.size l1 0 → h'.IsTupleIter (s.heap.objs.size + 1) l2 0 → h'.objs.size = s.heap.objs.size + 5 → (∀ (c : Addr) (o : Obj), s.heap.get? c = some o → h'.get? c = some o) →
      Q (Value.ref (s.heap.objs.size + 4)) { heap := h', gens := s.gens, drawn := s.drawn, toks := s.toks, os := s.os }) :
    wpAny (model prog w) A (call (Value.type "zip") [Value.ref l1, Value.ref l2]) Q E s := by
  refine callType_new F.called_zip (by decide) (F.typeCall_zip_2 _ _) (F.newCall_zip_2 _ _) (fun _ => F.args_object_init_3 _ _ _) F.entry_zip_new (meets_zipM_new l1 l2 xs ys) ⟨h1, h2, ?_⟩
  have z1 : (zmH1 s.heap l1).objs.size = s.heap.objs.size + 1 := Heap.size_push _ _
  have z2 : (zmH2 s.heap l1 l2).objs.size = s.heap.objs.size + 2 := by rw [Heap.size_push, z1]
  have z3 : (zmH3 s.heap l1 l2).objs.size = s.heap.objs.size + 3 := by rw [Heap.size_push, z2]
  have z4 : (zmH4 s.heap l1 l2).objs.size = s.heap.objs.size + 4 := by rw [Heap.size_push, z3]
  have z5 : (zmH5 s.heap l1 l2).objs.size = s.heap.objs.size + 5 := by rw [Heap.size_push, z4]
  have g1 : (zmH1 s.heap l1).get? s.heap.objs.size = some _ := Heap.get?_push_size _ rfl
  have g2 : (zmH2 s.heap l1 l2).get? (zmH1 s.heap l1).objs.size = some _ := Heap.get?_push_size _ rfl
  have g3 : (zmH3 s.heap l1 l2).get? (zmH2 s.heap l1 l2).objs.size = some _ := Heap.get?_push_size _ rfl
  have g4 : (zmH4 s.heap l1 l2).get? (zmH3 s.heap l1 l2).objs.size = some _ := Heap.get?_push_size _ rfl
  have g5 : (zmH5 s.heap l1 l2).get? (zmH4 s.heap l1 l2).objs.size = some _ := Heap.get?_push_size _ rfl
  rw [z1] at g2
  rw [z2] at g3
  rw [z3] at g4
  rw [z4] at g5
  have up2 : ∀ (c : Addr) (o : Obj), (zmH1 s.heap l1).get? c = some o → (zmH5 s.heap l1 l2).get? c = some o := fun c o e => Heap.get?_push_of_some _ (Heap.get?_push_of_some _ (Heap.get?_push_of_some _ (Heap.get?_push_of_some _ e)))
  rw [z4]
  rw [z1] at g3
  rw [z2, z3] at g5
  show _ ∧ _
  refine ⟨⟨_, g5, rfl⟩, h _ g5 (Heap.get?_push_of_some _ (Heap.get?_push_of_some _ g3)) (Heap.get?_push_of_some _ g4) ⟨_, up2 _ _ g1, rfl, rfl⟩ ⟨_, Heap.get?_push_of_some _ (Heap.get?_push_of_some _ (Heap.get?_push_of_some _ g2)), rfl, rfl⟩ z5 fun c o e => up2 _ _ (Heap.get?_push_of_some _ e)⟩
def iZipM (K : PySem.W.Frag) (ta : TA) : TI := fun σ H R => ta σ H fun vs H1 => ∃ a b xs ys, vs = [.ref a, .ref b] ∧ SqL K H1 a xs ∧ SqT K H1 b ys ∧ R (ItzM K a b) H1
theorem pi_zipM {X : Cx} {e e2 : Expr} {ta : TA} {p pos tpos : Pos} {elts : List Expr} {kk : Nat} (hg : Gl X "zip") (hm : X.mg "zip" = none) (ha : PA X [e, e2] ta)
    (he : starEach [e, e2] X.env = (false, eval e X.env) :: starEach [e2] X.env := by rfl) (hpl : ((backTo pos (starEach [e2] X.env)).any fun x => x.fst) = false := by rfl) :
    PI X (Expr.Tuple elts kk tpos) ((Expr.Name "zip" p).Call [e, e2] [] pos) (iZipM X.K ta) := by
  refine ⟨fun pins s σ H R I h => ?_⟩
  refine PyProof.Rows.Call_ (ld_blt I hg hm PyProof.Rows.boot_zip (PyProof.Rows.callWith_type1 (thn (ha.run pos pins s σ H _ I h) fun us s1 hq => ?_) he hpl))
  obtain ⟨vs, H1, I1, r1, a, b, xs, ys, rfl, hl, ht, hR⟩ := hq
  cases r1 with
  | cons ra r1 =>
    cases r1 with
    | cons rb r1 =>
      cases r1
      cases ra
      cases rb
      obtain ⟨its, v1, p1, _⟩ := I1.list hl
      obtain ⟨its2, v2, p2, _⟩ := I1.tuple ht
      have la := p1.lt
      have lb : b < s1.heap.objs.size := by
        obtain ⟨o, e, _⟩ := p2
        exact Heap.lt_size e
      refine call_zipM p1.isList p2 fun h' q1 q2 q3 q4 q5 q6 q7 => ?_
      have I2 := I1.kept (t' := s1.toks) q7
      refine wpAny_pyIter_zip q1 ⟨_, _, _, _, H1, rfl, I2, turn_zipM (PySem.W.ktu_apart _ _ _ la lb), ⟨q1, q2, ⟨_, _, q3⟩, q4, q5⟩, fun b' hb => ?_, hR⟩
      have hbl : s1.heap.objs.size ≤ b' := by
        simp only [List.mem_cons, List.not_mem_nil, or_false] at hb
        rcases hb with rfl | rfl | rfl | rfl | rfl <;> omega
      exact I1.fpOk hbl (I1.hok.fresh hbl)
theorem for_zipM {K : PySem.W.Frag} {a b : Addr} {xs ys : List V} {g : TG} {tb : TS} {D : Ends} {σ : L2.St} {H : Hp} (hl : ys.length < xs.length) (Pv : Nat → L2.St → Hp → Prop) (h0 : Pv 0 σ H) (hq : ∀ i σ H, Pv i σ H → SqL K H a xs ∧ SqT K H b ys)
    (hs : ∀ (i : Nat) (x y : V) (T : Addr) (σ : L2.St) (H : Hp), xs[i]? = some x → ys[i]? = some y → Pv i σ H → H T = none → g (V.ref T) σ (upd H T (HO.tup [x, y])) fun σ2 H2 => tb { nx := Pv (i + 1), rt := D.rt, bk := D.nx, ct := Pv (i + 1) } σ2 H2)
    (hd : ∀ (σ : L2.St) (H : Hp), Pv ys.length σ H → D.nx σ H) :
    ∃ W : Nat → Nat → L2.St → Hp → Prop, (∃ m, W 0 m σ H) ∧ ∀ (i m : Nat) (σ : L2.St) (H : Hp), W i m σ H →
      (ItzM K a b).stop i H ∧ D.nx σ H ∨ (ItzM K a b).go i H ∧ ∃ N : L2.St → Hp → Prop, (∀ (σ' : L2.St) (H' : Hp), N σ' H' → ∃ m', m' < m ∧ W (i + 1) m' σ' H') ∧
        ∀ (v : V) (H' : Hp), (ItzM K a b).yld i H v H' → g v σ H' fun σ2 H2 => tb { nx := N, rt := D.rt, bk := D.nx, ct := N } σ2 H2 := by
  refine ⟨fun i m σ H => i ≤ ys.length ∧ m = ys.length - i ∧ Pv i σ H, ⟨_, Nat.zero_le _, rfl, h0⟩, fun i m σ H ⟨hi, hm, hp⟩ => ?_⟩
  obtain ⟨q1, q2⟩ := hq i σ H hp
  by_cases he : i = ys.length
  · subst he
    exact .inl ⟨⟨xs, ys, _, q1, q2, List.getElem?_eq_getElem hl, Nat.le_refl _⟩, hd σ H hp⟩
  · have hi2 : i < ys.length := by omega
    have hi3 : i < xs.length := by omega
    refine .inr ⟨⟨xs, ys, _, _, q1, q2, List.getElem?_eq_getElem hi3, List.getElem?_eq_getElem hi2⟩, Pv (i + 1), fun σ' H' h => ⟨ys.length - (i + 1), by omega, by omega, rfl, h⟩, ?_⟩
    rintro v H' ⟨T, x, y, rfl, hT, rfl, e1, e2⟩
    exact hs i x y T σ H (e1 xs q1) (e2 ys q2) hp hT
end RM

set_option maxHeartbeats 2000000
/-! My.Lc: xs + ys of lists, whichever stands in the module or is handed in. -/
namespace L2
open PySem PySem.Spec PyProof.Rows
def rCatL (K : PySem.W.Frag) : R2 := fun x y H Q => ∃ a b xs ys, x = .ref a ∧ y = .ref b ∧ SqL K H a xs ∧ SqL K H b ys ∧ xs.length + ys.length ≤ sizeLine ∧ ∀ (p : Addr), H p = none → Q (.ref p) (upd H p (.lst (xs ++ ys)))
theorem op_catL {X : Cx} : OpR X (binaryOp .Add) (rCatL X.K) := by
  intro pins s σ H x y v u Q I rx ry ⟨a, b, xs, ys, ex, ey, ha, hb, hl, k⟩
  subst ex
  subst ey
  cases rx
  cases ry
  obtain ⟨its, v1, ⟨⟨c1, dd, da, sl⟩, n1, e1, c1', hd1, d1⟩, _⟩ := I.list ha
  obtain ⟨its2, v2, ⟨⟨c2, dd2, da2, sl2⟩, n2, e2, c2', hd2, d2⟩, _⟩ := I.list hb
  have c1' : c1 = _ := c1'
  have c2' : c2 = _ := c2'
  have d1 : da = _ := d1
  have d2 : da2 = _ := d2
  subst c1' c2' d1 d2
  have hsz : its.toArray.size + its2.toArray.size ≤ sizeLine := by
    rw [List.size_toArray, List.size_toArray, ← v1.length, ← v2.length]
    exact hl
  refine concat_meets ⟨_, e1, rfl⟩ ⟨_, e2, rfl⟩ noFill_list_add seq_list_add F.slot_list_add F.entry_list_add (F.args_list_add_2 _ _) (list_addW a b _ _ _ _ _ _ _ _ hsz) ⟨e1, e2, ?_⟩
  rw [List.append_toArray]
  exact ⟨.ref s.heap.objs.size, _, I.lnew (v1.append v2) (by rw [List.length_append]; exact hl), rfl, k _ I.fresh⟩
theorem op_catLK {X : Cx} {K : PySem.W.Frag} (hK : X.K = K := by rfl) : OpR X (binaryOp .Add) (rCatL K) := by
  subst hK
  exact op_catL
end L2

namespace Lw
open PySem PySem.Spec PyProof.Rows L2 VW TL
def top (i : Nat) : Stmt := PySem.Challenge.pw_farlayout_k33_nodes_of_a_kind.main.body.getD i (.Pass ⟨0, 0, 0, 0⟩)
abbrev s__wall : Stmt := (top 0)
abbrev s_InvalidDoc___init__ : Stmt := (inClass (top 3) 0)
abbrev s_InvalidPath___init__ : Stmt := (inClass (top 4) 0)
abbrev s_InvalidBound___init__ : Stmt := (inClass (top 5) 0)
abbrev s__shown : Stmt := (top 6)
abbrev s_is_integer : Stmt := (top 8)
abbrev s_is_between : Stmt := (top 9)
abbrev s_Doc___init__ : Stmt := (inClass (top 17) 0)
abbrev s_Doc___eq__ : Stmt := (inClass (top 17) 1)
abbrev s_Doc_row_list : Stmt := (inClass (top 17) 2)
abbrev s_rows_in : Stmt := (top 18)
abbrev s_copied_row : Stmt := (top 19)
abbrev s_is_row : Stmt := (top 20)
abbrev s__checked_rows : Stmt := (top 21)
abbrev s__is_signs : Stmt := (top 22)
abbrev s__is_parts : Stmt := (top 23)
abbrev s_check_doc : Stmt := (top 26)
abbrev s_check_number : Stmt := (top 27)
abbrev s_rows_on_path : Stmt := (top 29)
abbrev s_count_all : Stmt := (top 32)
abbrev s_count_ahead : Stmt := (top 33)
abbrev s_path_of_number : Stmt := (top 34)
abbrev s__is_chosen : Stmt := (top 35)
abbrev s__counts_below : Stmt := (top 36)
abbrev s_Row___init__ : Stmt := (inClass (top 44) 0)
abbrev s_Row__add_kind : Stmt := (inClass (top 44) 1)
abbrev s_Row__add_groups : Stmt := (inClass (top 44) 2)
abbrev s_Row__add_steps : Stmt := (inClass (top 44) 3)
abbrev s_Row__add_bases : Stmt := (inClass (top 44) 4)
abbrev s_Facts___init__ : Stmt := (inClass (top 45) 0)
abbrev s_facts_of : Stmt := (top 46)
abbrev s__new_facts : Stmt := (top 47)
abbrev s_kind_total : Stmt := (top 49)
abbrev s_path_of_kind : Stmt := (top 50)
abbrev s_kinds_before : Stmt := (top 51)
abbrev s__checked_kind : Stmt := (top 52)
abbrev s__checked_path : Stmt := (top 53)
abbrev s_node_total : Stmt := (top 55)
abbrev s_group_total : Stmt := (top 56)
abbrev s__law_well : Stmt := (top 58)
abbrev s__law_draw : Stmt := (top 59)
abbrev s__law_pick : Stmt := (top 60)
abbrev s__law_below : Stmt := (top 61)
abbrev s__law_row : Stmt := (top 62)
abbrev s__law_rows : Stmt := (top 63)
abbrev s__law_nodes : Stmt := (top 64)
abbrev s__law_is_refused : Stmt := (top 65)
abbrev s__law_right : Stmt := (top 66)
abbrev s_law : Stmt := (top 67)
structure Wd where
  c_LayoutError : Addr
  c_InvalidDoc : Addr
  c_InvalidPath : Addr
  c_InvalidBound : Addr
  c_Doc : Addr
  c_Row : Addr
  c_Facts : Addr
  ROW_LENGTHS : Addr
  LEAF_BREAKS : Addr
  LONE : Addr
  BROKEN_LINE : Addr
  none_ : Unit := ()
structure Txt (w : World) (K : PySem.W.Frag) (mg : Str → Option Value) (W : Wd) : Prop where
  n_bool : mg "bool" = none
  n_enumerate : mg "enumerate" = none
  n_int : mg "int" = none
  n_isinstance : mg "isinstance" = none
  n_len : mg "len" = none
  n_list : mg "list" = none
  n_min : mg "min" = none
  n_range : mg "range" = none
  n_str : mg "str" = none
  n_sum : mg "sum" = none
  n_tuple : mg "tuple" = none
  n_zip : mg "zip" = none
  g_MOST_ROWS : ∃ t, mg "MOST_ROWS" = some (.int 200 t)
  g_MOST_PARTS : ∃ t, mg "MOST_PARTS" = some (.int 8 t)
  g_MOST_NEST : ∃ t, mg "MOST_NEST" = some (.int 8 t)
  g_MOST_TEXT_SIGNS : ∃ t, mg "MOST_TEXT_SIGNS" = some (.int 20 t)
  g_MOST_LINE_SIGNS : ∃ t, mg "MOST_LINE_SIGNS" = some (.int 3 t)
  g_ROW_LENGTHS : mg "ROW_LENGTHS" = some (.ref W.ROW_LENGTHS)
  k_ROW_LENGTHS : ∃ es n, K.lookup W.ROW_LENGTHS = some ⟨.type "dict", none, .dict es n, #[]⟩ ∧ PySem.W.KeysLit w.params es.toList ∧ (W.ROW_LENGTHS == sysModules) = false
  k_ROW_LENGTHS_text : ∃ t, PySem.W.nsIn K W.ROW_LENGTHS "text" = some (some (.int 2 t))
  k_ROW_LENGTHS_line : ∃ t, PySem.W.nsIn K W.ROW_LENGTHS "line" = some (some (.int 2 t))
  k_ROW_LENGTHS_hard : ∃ t, PySem.W.nsIn K W.ROW_LENGTHS "hard" = some (some (.int 1 t))
  k_ROW_LENGTHS_cat : ∃ t, PySem.W.nsIn K W.ROW_LENGTHS "cat" = some (some (.int 2 t))
  k_ROW_LENGTHS_nest : ∃ t, PySem.W.nsIn K W.ROW_LENGTHS "nest" = some (some (.int 3 t))
  k_ROW_LENGTHS_align : ∃ t, PySem.W.nsIn K W.ROW_LENGTHS "align" = some (some (.int 2 t))
  k_ROW_LENGTHS_group : ∃ t, PySem.W.nsIn K W.ROW_LENGTHS "group" = some (some (.int 2 t))
  g_MOST_WIDTH : ∃ t, mg "MOST_WIDTH" = some (.int 40 t)
  g_ALL : ∃ t, mg "ALL" = some (.str "all" t)
  g_BARE : ∃ t, mg "BARE" = some (.int 0 t)
  g_LOOSE : ∃ t, mg "LOOSE" = some (.int 1 t)
  g_HARD : ∃ t, mg "HARD" = some (.int 2 t)
  g_LEAF_BREAKS : mg "LEAF_BREAKS" = some (.ref W.LEAF_BREAKS)
  k_LEAF_BREAKS : ∃ es n, K.lookup W.LEAF_BREAKS = some ⟨.type "dict", none, .dict es n, #[]⟩ ∧ PySem.W.KeysLit w.params es.toList ∧ (W.LEAF_BREAKS == sysModules) = false
  k_LEAF_BREAKS_line : ∃ t, PySem.W.nsIn K W.LEAF_BREAKS "line" = some (some (.int 1 t))
  k_LEAF_BREAKS_hard : ∃ t, PySem.W.nsIn K W.LEAF_BREAKS "hard" = some (some (.int 2 t))
  g_LONE : mg "LONE" = some (.ref W.LONE)
  q_LONE : L2.KTup K W.LONE [.inl (-1), .inl (-1), .inl (0)]
  g_BROKEN_LINE : mg "BROKEN_LINE" = some (.ref W.BROKEN_LINE)
  q_BROKEN_LINE : L2.KTup K W.BROKEN_LINE [.inl (1), .inl (1), .inl (0), .inl (1), .inl (0)]
  c_LayoutError : mg "LayoutError" = some (.ref W.c_LayoutError)
  c_InvalidDoc : mg "InvalidDoc" = some (.ref W.c_InvalidDoc)
  c_InvalidPath : mg "InvalidPath" = some (.ref W.c_InvalidPath)
  c_InvalidBound : mg "InvalidBound" = some (.ref W.c_InvalidBound)
  c_Doc : mg "Doc" = some (.ref W.c_Doc)
  c_Row : mg "Row" = some (.ref W.c_Row)
  c_Facts : mg "Facts" = some (.ref W.c_Facts)
  cl_Doc : Cls K W.c_Doc
  i_Doc : ClsIsi K W.c_Doc
  na_Doc__rows : NoAttr K W.c_Doc "_rows"
  na_Doc_facts : NoAttr K W.c_Doc "facts"
  na_Doc_group_facts : NoAttr K W.c_Doc "group_facts"
  f_Doc___init__ : MethDef K W.c_Doc "__init__" "Doc.__init__" s_Doc___init__ ["self", "rows"]
  f_Doc___eq__ : MethDef K W.c_Doc "__eq__" "Doc.__eq__" s_Doc___eq__ ["self", "other"]
  f_Doc_row_list : MethDef K W.c_Doc "row_list" "Doc.row_list" s_Doc_row_list ["self"]
  mk_Doc : PySem.W.makesIn K W.c_Doc = true ∧ PySem.W.keepIn K (.ref W.c_Doc) = true
  cl_Row : Cls K W.c_Row
  i_Row : ClsIsi K W.c_Row
  na_Row_number : NoAttr K W.c_Row "number"
  na_Row_kind : NoAttr K W.c_Row "kind"
  na_Row_parts : NoAttr K W.c_Row "parts"
  na_Row_string : NoAttr K W.c_Row "string"
  na_Row_more : NoAttr K W.c_Row "more"
  na_Row_wide : NoAttr K W.c_Row "wide"
  na_Row_lead : NoAttr K W.c_Row "lead"
  na_Row_breaks : NoAttr K W.c_Row "breaks"
  na_Row_groups : NoAttr K W.c_Row "groups"
  na_Row_is_still : NoAttr K W.c_Row "is_still"
  na_Row_inner : NoAttr K W.c_Row "inner"
  na_Row_matters : NoAttr K W.c_Row "matters"
  na_Row_ends : NoAttr K W.c_Row "ends"
  na_Row_has_last : NoAttr K W.c_Row "has_last"
  na_Row_steps : NoAttr K W.c_Row "steps"
  na_Row_known : NoAttr K W.c_Row "known"
  na_Row_opened : NoAttr K W.c_Row "opened"
  f_Row___init__ : MethDef K W.c_Row "__init__" "Row.__init__" s_Row___init__ ["self", "number", "row", "parts", "counts_groups"]
  f_Row__add_kind : MethDef K W.c_Row "_add_kind" "Row._add_kind" s_Row__add_kind ["self", "row"]
  f_Row__add_groups : MethDef K W.c_Row "_add_groups" "Row._add_groups" s_Row__add_groups ["self"]
  f_Row__add_steps : MethDef K W.c_Row "_add_steps" "Row._add_steps" s_Row__add_steps ["self"]
  f_Row__add_bases : MethDef K W.c_Row "_add_bases" "Row._add_bases" s_Row__add_bases ["self"]
  mk_Row : PySem.W.makesIn K W.c_Row = true ∧ PySem.W.keepIn K (.ref W.c_Row) = true
  cl_Facts : Cls K W.c_Facts
  i_Facts : ClsIsi K W.c_Facts
  na_Facts_rows : NoAttr K W.c_Facts "rows"
  na_Facts_last : NoAttr K W.c_Facts "last"
  na_Facts_counts_groups : NoAttr K W.c_Facts "counts_groups"
  na_Facts_laids : NoAttr K W.c_Facts "laids"
  na_Facts_counts : NoAttr K W.c_Facts "counts"
  na_Facts_mosts : NoAttr K W.c_Facts "mosts"
  na_Facts_flats : NoAttr K W.c_Facts "flats"
  na_Facts_flips : NoAttr K W.c_Facts "flips"
  na_Facts_agreed : NoAttr K W.c_Facts "agreed"
  na_Facts_alike : NoAttr K W.c_Facts "alike"
  na_Facts_latest : NoAttr K W.c_Facts "latest"
  na_Facts_is_new : NoAttr K W.c_Facts "is_new"
  f_Facts___init__ : MethDef K W.c_Facts "__init__" "Facts.__init__" s_Facts___init__ ["self", "rows", "counts_groups", "is_new"]
  mk_Facts : PySem.W.makesIn K W.c_Facts = true ∧ PySem.W.keepIn K (.ref W.c_Facts) = true
  e_InvalidBound : L2.ErrDef K mg "InvalidBound" "InvalidBound.__init__" W.c_InvalidBound s_InvalidBound___init__ ["self", "argument"]
  x_InvalidBound : L2.ExcC K W.c_InvalidBound
  na_InvalidBound_argument : PySem.W.findIn K (.ref W.c_InvalidBound) "argument" = some none
  exm_InvalidBound : PySem.W.exmOne K (.ref W.c_InvalidBound) (.ref W.c_LayoutError) = some true
  kt_InvalidBound_InvalidDoc : PySem.W.kitOne K (.ref W.c_InvalidBound) (.ref W.c_InvalidDoc) = some false
  kt_InvalidBound_InvalidPath : PySem.W.kitOne K (.ref W.c_InvalidBound) (.ref W.c_InvalidPath) = some false
  kt_InvalidBound_InvalidBound : PySem.W.kitOne K (.ref W.c_InvalidBound) (.ref W.c_InvalidBound) = some true
  kt_InvalidBound_Arith : PySem.W.kitOne K (.ref W.c_InvalidBound) (.type "ArithmeticError") = some true
  sup : L2.SupC K W.c_LayoutError (.type "type")
  exS : PySem.W.exmOne K (.ref W.c_InvalidBound) (.ref W.c_InvalidBound) = some true
  ab_cat : PySem.W.nsIn K W.LEAF_BREAKS "cat" = some none
  ab_group : PySem.W.nsIn K W.LEAF_BREAKS "group" = some none
  f__wall : TopDef K mg "_wall" s__wall ["k"]
  f__shown : TopDef K mg "_shown" s__shown ["field"]
  f_is_integer : TopDef K mg "is_integer" s_is_integer ["value"]
  f_is_between : TopDef K mg "is_between" s_is_between ["value", "least", "most"]
  f_rows_in : TopDef K mg "rows_in" s_rows_in ["doc"]
  f_copied_row : TopDef K mg "copied_row" s_copied_row ["row"]
  f_is_row : TopDef K mg "is_row" s_is_row ["row", "k"]
  f__checked_rows : TopDef K mg "_checked_rows" s__checked_rows ["rows"]
  f__is_signs : TopDef K mg "_is_signs" s__is_signs ["value", "most"]
  f__is_parts : TopDef K mg "_is_parts" s__is_parts ["value", "k"]
  f_check_doc : TopDef K mg "check_doc" s_check_doc ["doc"]
  f_check_number : TopDef K mg "check_number" s_check_number ["value", "least", "most", "argument"]
  f_rows_on_path : TopDef K mg "rows_on_path" s_rows_on_path ["last", "path"]
  f_count_all : TopDef K mg "count_all" s_count_all ["facts", "chosen"]
  f_count_ahead : TopDef K mg "count_ahead" s_count_ahead ["facts", "chosen", "path"]
  f_path_of_number : TopDef K mg "path_of_number" s_path_of_number ["facts", "chosen", "k"]
  f__is_chosen : TopDef K mg "_is_chosen" s__is_chosen ["row", "chosen"]
  f__counts_below : TopDef K mg "_counts_below" s__counts_below ["facts", "chosen"]
  f_facts_of : TopDef K mg "facts_of" s_facts_of ["doc"]
  f__new_facts : TopDef K mg "_new_facts" s__new_facts ["rows", "counts_groups"]
  f_kind_total : TopDef K mg "kind_total" s_kind_total ["doc", "kind"]
  f_path_of_kind : TopDef K mg "path_of_kind" s_path_of_kind ["doc", "kind", "k"]
  f_kinds_before : TopDef K mg "kinds_before" s_kinds_before ["doc", "kind", "path"]
  f__checked_kind : TopDef K mg "_checked_kind" s__checked_kind ["kind"]
  f__checked_path : TopDef K mg "_checked_path" s__checked_path ["facts", "chosen", "k"]
  f_node_total : TopDef K mg "node_total" s_node_total ["doc"]
  f_group_total : TopDef K mg "group_total" s_group_total ["doc"]
  f__law_well : TopDef K mg "_law_well" s__law_well ["_law_cell"]
  f__law_draw : TopDef K mg "_law_draw" s__law_draw ["_law_well_here", "_law_most"]
  f__law_pick : TopDef K mg "_law_pick" s__law_pick ["_law_well_here", "_law_some"]
  f__law_below : TopDef K mg "_law_below" s__law_below ["_law_row_here"]
  f__law_row : TopDef K mg "_law_row" s__law_row ["_law_well_here", "_law_k"]
  f__law_rows : TopDef K mg "_law_rows" s__law_rows ["_law_well_here"]
  f__law_nodes : TopDef K mg "_law_nodes" s__law_nodes ["_law_rows_here", "_law_at", "_law_path"]
  f__law_is_refused : TopDef K mg "_law_is_refused" s__law_is_refused ["_law_doc", "_law_kind", "_law_k"]
  f__law_right : TopDef K mg "_law_right" s__law_right ["_law_well_here", "_law_rows_here", "_law_kind"]
  f_law : TopDef K mg "law" s_law ["_law_script"]
local macro_rules | `(tactic| walk_at "rdc") => `(tactic| first | assumption | rfl | decide | omega | exact Or.inr ⟨by decide, by decide⟩ | exact ⟨by decide, by decide⟩ | exact ⟨by decide, by decide, by decide⟩ | (show (0 : Int) < _; omega) | (show (0 : Int) < _ ∧ _ < (1073741824 : Int); omega) | (show (-(2 ^ 64) < _ ∧ _ < 2 ^ 64) ∨ (-(2 ^ 64) < _ ∧ _ < 2 ^ 64); omega) | (show (-(2 ^ 64) < _ ∧ _ < 2 ^ 64) ∨ (-(2 ^ 64) < _ ∧ _ < 2 ^ 64); right; split <;> decide) | exact Nat.le_of_ble_eq_true rfl)
local macro_rules | `(tactic| walk_at "rd1") => `(tactic| first | refine ⟨_, rfl, ?_⟩ | refine And.intro (by walk_at "rdc") ?_ | refine ⟨_, _, rfl, rfl, ?_⟩ | refine Or.inl ⟨_, rfl, ?_⟩ | refine Or.inr ⟨_, rfl, ?_⟩ | refine ⟨_, _, _, _, rfl, rfl, sqlO (by first | assumption | exact upd_same), rfl, ?_⟩ | refine ⟨_, _, _, _, rfl, rfl, (by first | assumption | exact upd_same), rfl, ?_⟩)
local macro_rules | `(tactic| walk_at "rd") => `(tactic| repeat (walk_at "rd1"))

/-! ### the source of what is drawn -/
structure Src (U H : Hp) (s : Addr) : Prop where
  v : Same U H
  o : U s = none
  h : ∃ a b c : Int, H s = some (.lst [.int a, .int b, .int c])
abbrev G1 (s : Addr) : Addr → Prop := fun b => b = s
theorem Src.put {U H : Hp} {s : Addr} (S : Src U H s) (a b c : Int) : Gr (G1 s) U H U (upd H s (.lst [.int a, .int b, .int c])) ∧ Src U (upd H s (.lst [.int a, .int b, .int c])) s :=
  have g := (Gr.refl (S := G1 s) S.v).mut (o := .lst [.int a, .int b, .int c]) (.inl rfl) S.o
  ⟨g, g.s, S.o, a, b, c, upd_same⟩
theorem Src.new {U H : Hp} {s p : Addr} {o : HO} (S : Src U H s) (h : H p = none) : Gr (G1 s) U H (upd U p o) (upd H p o) ∧ Src (upd U p o) (upd H p o) s := by
  obtain ⟨a, b, c, e⟩ := S.h
  have g := (Gr.refl (S := G1 s) S.v).new (o := o) h
  have hne : s ≠ p := ne_of_none e h
  exact ⟨g, g.s, by rw [upd_ne hne]; exact S.o, a, b, c, by rw [upd_ne hne]; exact e⟩
theorem Src.mut {U H : Hp} {s p : Addr} {o : HO} (S : Src U H s) (hne : p ≠ s) (h : U p = none) : Src U (upd H p o) s := by
  obtain ⟨a, b, c, e⟩ := S.h
  refine ⟨fun b u q => ?_, S.o, a, b, c, by rw [upd_ne (Ne.symm hne)]; exact e⟩
  have hb : b ≠ p := fun z => by
    rw [z, h] at q
    cases q
  rw [upd_ne hb]
  exact S.v b u q
theorem Src.newH {U H : Hp} {s p : Addr} {o : HO} (S : Src U H s) (h : H p = none) : Gr (G1 s) U H U (upd H p o) ∧ Src U (upd H p o) s := by
  obtain ⟨a, b, c, e⟩ := S.h
  have g := (Gr.refl (S := G1 s) S.v).newH (o := o) h
  have hne : s ≠ p := ne_of_none e h
  exact ⟨g, g.s, S.o, a, b, c, by rw [upd_ne hne]; exact e⟩
section
variable {P : Program} {w : World} {K : PySem.W.Frag} {mg : Str → Option Value} {base : Heap} {W : Wd}
theorem sc__law_draw : FnScope ["_law_well_here", "_law_most", "_law_found", "_law_mixed"] ["_law_well_here", "_law_most"] (defScope s__law_draw) := ⟨rfl, rfl, rfl, by decide +kernel, rfl, by decide +kernel, by decide +kernel⟩
def sp_next : Sp := fun vs H Q _ => ∃ (s : Addr) (U : Hp) (m : Int), vs = [.ref s, .int m] ∧ Src U H s ∧ 0 < m ∧ m < 1073741824 ∧
  ∀ (r : Int) (H' : Hp), Gr (G1 s) U H U H' → Src U H' s → 0 ≤ r → r < m → Q (.int r) H'
theorem d__law_draw (T : Txt w K mg W) : DefOk P w K mg base "_law_draw" s__law_draw ["_law_well_here", "_law_most"] 1 sp_next := by
  refine T.f__law_draw.ok sc__law_draw (fun vs H Q E h => ?_) (fun f cdv A outer s H vs Q E hr h => ?_)
  · obtain ⟨s, U, m, rfl, _⟩ := h
    rfl
  · obtain ⟨s, U, m, rfl, S, h2, h3, k⟩ := h
    obtain ⟨a, b, c, h1⟩ := S.h
    refine ⟨_, (pss_cons (ps_if (pt_cmpR op_gt (pe_ix ix_list (pv 0) pe_int (fun _ _ => rfl)) pe_int (nomark _)) (pss_cons (ps_set (i := 2) sc__law_draw.nd rfl (Or.inl rfl) (pe_op op_mod (pe_callTy (T := "int") call_int1 (by rfl) T.n_int (by decide +kernel) (pa_cons (pe_ix ix_list (pv 0) pe_int (fun _ _ => rfl)) pa_nil)) (pv 1)))
      (pss_cons (ps_asg (pe_op op_fdiv (pe_ix ix_list (pv 0) pe_int (fun _ _ => rfl)) (pv 1)) (pg_sub (pv 0) pe_int set_list))
      (pss_one (ps_ret (pv 2))))) pss_nil)
      (pss_cons (ps_asg (pe_op op_add (pe_ix ix_list (pv 0) pe_int (fun _ _ => rfl)) pe_int) (pg_sub (pv 0) pe_int set_list))
      (pss_cons (ps_set (i := 3) sc__law_draw.nd rfl (Or.inl rfl) (pe_op op_mod (pe_callTy (T := "int") call_int1 (by rfl) T.n_int (by decide +kernel) (pa_cons (pe_op op_add (pe_op op_add (pe_ix ix_list (pv 0) pe_int (fun _ _ => rfl)) (pe_op op_mul pe_int (pe_ix ix_list (pv 0) pe_int (fun _ _ => rfl)))) pe_int) pa_nil)) pe_int))
      (pss_cons (ps_set (i := 3) sc__law_draw.nd rfl (Or.inl rfl) (pe_op op_mod (pe_callTy (T := "int") call_int1 (by rfl) T.n_int (by decide +kernel) (pa_cons (pe_op op_mul (pv 3) (pe_op op_add (pe_op op_fdiv (pv 3) pe_int) pe_int)) pa_nil)) pe_int))
      (pss_cons (ps_set (i := 3) sc__law_draw.nd rfl (Or.inl rfl) (pe_op op_mod (pe_callTy (T := "int") call_int1 (by rfl) T.n_int (by decide +kernel) (pa_cons (pe_op op_mul (pv 3) (pe_op op_add (pe_op op_fdiv (pv 3) pe_int) pe_int)) pa_nil)) pe_int))
      (pss_one (ps_ret (pe_op op_mod (pe_callTy (T := "int") call_int1 (by rfl) T.n_int (by decide +kernel) (pa_cons (pe_op op_fdiv (pv 3) pe_int) pa_nil)) (pv 1))))))))), ?_⟩
    walk_at "rd"
    refine ite2 (fun hc => ?_) (fun hc => ?_)
    · walk_at "rd"
      exact k _ _ (S.put _ _ _).1 (S.put _ _ _).2 (Int.emod_nonneg _ (by omega)) (Int.emod_lt_of_pos _ h2)
    · walk_at "rd"
      exact k _ _ (S.put _ _ _).1 (S.put _ _ _).2 (Int.emod_nonneg _ (by omega)) (Int.emod_lt_of_pos _ h2)
theorem sc__law_well : FnScope ["_law_cell"] ["_law_cell"] (defScope s__law_well) := ⟨rfl, rfl, rfl, by decide +kernel, rfl, by decide +kernel, by decide +kernel⟩
def sp_src : Sp := fun vs H Q _ => ∃ i : Int, vs = [.int i] ∧ ∀ (p : Addr) (a b c : Int), H p = none → Q (.ref p) (upd H p (.lst [.int a, .int b, .int c]))
theorem d__law_well (T : Txt w K mg W) : DefOk P w K mg base "_law_well" s__law_well ["_law_cell"] 1 sp_src := by
  refine T.f__law_well.ok sc__law_well (fun vs H Q E h => ?_) (fun f cdv A outer s H vs Q E hr h => ?_)
  · obtain ⟨i, rfl, _⟩ := h
    rfl
  · obtain ⟨i, rfl, k⟩ := h
    refine ⟨_, (pss_one (ps_ret (pe_lst (pa_cons (pe_op op_mul (pv 0) (pe_callTy (T := "int") call_int1 (by rfl) T.n_int (by decide +kernel) (pa_cons (pe_cmpR op_ge (pv 0) (pe_op op_pow pe_int pe_int) (nomark _)) pa_nil))) (pa_cons (pe_op op_mod (pe_callTy (T := "int") call_int1 (by rfl) T.n_int (by decide +kernel) (pa_cons (pv 0) pa_nil)) pe_int) (pa_cons pe_int pa_nil)))))), ?_⟩
    walk_at "rd"
    exact fun p hp => k _ _ _ _ hp
theorem sc__law_pick : FnScope ["_law_well_here", "_law_some"] ["_law_well_here", "_law_some"] (defScope s__law_pick) := ⟨rfl, rfl, rfl, by decide +kernel, rfl, by decide +kernel, by decide +kernel⟩
def sp_one (K : PySem.W.Frag) : Sp := fun vs H Q _ => ∃ (s l : Addr) (U : Hp) (xs : List V), vs = [.ref s, .ref l] ∧ Src U H s ∧ SqL K U l xs ∧ 0 < xs.length ∧ xs.length < 1000000 ∧
  ∀ (x : V) (H' : Hp), Gr (G1 s) U H U H' → Src U H' s → x ∈ xs → Q x H'
theorem d__law_pick (T : Txt w K mg W) : DefOk P w K mg base "_law_pick" s__law_pick ["_law_well_here", "_law_some"] 2 (sp_one K) := by
  refine T.f__law_pick.ok sc__law_pick (fun vs H Q E h => ?_) (fun f cdv A outer s H vs Q E hr h => ?_)
  · obtain ⟨s, l, U, xs, rfl, _⟩ := h
    rfl
  · obtain ⟨s, l, U, xs, rfl, S, h1, h2, h3, k⟩ := h
    refine ⟨_, (pss_one (ps_ret (pe_ix ix_list (pv 1) (pe_callD (d__law_draw T) (hr.mono (by decide)) (pa_cons (pv 0) (pa_cons (pe_callB (id := "len") call_len (by rfl) T.n_len (by decide +kernel) (pa_cons (pv 1) pa_nil)) pa_nil))) (fun _ _ => rfl)))), ?_⟩
    refine ⟨_, rfl, _, rfl, _, rfl, _, _, rfl, .inl ⟨_, sqlS S.v h1, rfl⟩, s, U, _, rfl, S, by omega, by omega, fun r H' g S' l0 l1 => ?_⟩
    obtain ⟨j, rfl⟩ : ∃ j : Nat, r = (j : Int) := ⟨r.toNat, by omega⟩
    have hj : j < xs.length := by omega
    exact ⟨_, _, _, _, rfl, rfl, sqlS S'.v h1, atI_nat (List.getElem?_eq_getElem hj), k _ _ g S' (List.getElem_mem hj)⟩
theorem dp_tup {K : PySem.W.Frag} {H : Hp} {p : Addr} {vs : List V} {ds : List PyData} (h : H p = some (.tup vs)) (hd : DpAll K H vs ds) : Dp K H (.ref p) (.tuple ds) := .tup (sqtO h) hd
theorem dp_lst {K : PySem.W.Frag} {H : Hp} {p : Addr} {vs : List V} {ds : List PyData} (h : H p = some (.lst vs)) (hd : DpAll K H vs ds) : Dp K H (.ref p) (.list ds) := .lst (sqlO h) hd
end
end Lw

namespace Lw
open PySem PySem.Spec PyProof.Rows L2 VW TL
local macro_rules | `(tactic| walk_at "rdc") => `(tactic| first | assumption | rfl | decide | omega | exact Or.inr ⟨by decide, by decide⟩ | exact ⟨by decide, by decide⟩ | exact ⟨by decide, by decide, by decide⟩ | (show (0 : Int) < _; omega) | (show (0 : Int) < _ ∧ _ < (1073741824 : Int); omega) | (show (-(2 ^ 64) < _ ∧ _ < 2 ^ 64) ∨ (-(2 ^ 64) < _ ∧ _ < 2 ^ 64); omega) | (show (-(2 ^ 64) < _ ∧ _ < 2 ^ 64) ∨ (-(2 ^ 64) < _ ∧ _ < 2 ^ 64); right; split <;> decide) | exact Nat.le_of_ble_eq_true rfl)
local macro_rules | `(tactic| walk_at "rd1") => `(tactic| first | refine ⟨_, rfl, ?_⟩ | refine And.intro (by walk_at "rdc") ?_ | refine ⟨_, _, rfl, rfl, ?_⟩ | refine Or.inl ⟨_, rfl, ?_⟩ | refine Or.inr ⟨_, rfl, ?_⟩ | refine ⟨_, _, _, _, rfl, rfl, sqlO (by first | assumption | exact upd_same), rfl, ?_⟩ | refine ⟨_, _, _, _, rfl, rfl, (by first | assumption | exact upd_same), rfl, ?_⟩)
local macro_rules | `(tactic| walk_at "rd") => `(tactic| repeat (walk_at "rd1"))

section
variable {P : Program} {w : World} {K : PySem.W.Frag} {mg : Str → Option Value} {base : Heap} {W : Wd}
/-! ### what is a row: for rows alone -/
theorem ty_of {K : PySem.W.Frag} {H : Hp} {v : V} {d : PyData} : Dp K H v d → ∃ t, TyX K H v (.type t) ∧ t = (match d with | .none => "NoneType" | .bool _ => "bool" | .int _ => "int" | .str _ => "str" | .list _ => "list" | .tuple _ => "tuple" | .dict _ => "dict") := by
  intro h
  cases h with
  | non => exact ⟨_, .base .non, rfl⟩
  | bl b => exact ⟨_, .base (.bl b), rfl⟩
  | int i => exact ⟨_, .base (.int i), rfl⟩
  | str x => exact ⟨_, .base (.str x), rfl⟩
  | lst hs _ =>
    rcases hs with (h | ⟨o, h⟩) | ⟨o, its, n, h1, h2, _⟩
    · exact ⟨_, .base (.lst h), rfl⟩
    · exact ⟨_, .base (.frz h), rfl⟩
    · exact ⟨_, .kList h1 h2, rfl⟩
  | tup hs _ =>
    rcases hs with (h | ⟨o, h⟩) | ⟨o, its, n, h1, h2, _⟩
    · exact ⟨_, .base (.tup h), rfl⟩
    · exact ⟨_, .fTuple h, rfl⟩
    · exact ⟨_, .kTuple h1 h2, rfl⟩
theorem sc_is_integer : FnScope ["value"] ["value"] (defScope s_is_integer) := ⟨rfl, rfl, rfl, by decide +kernel, rfl, by decide +kernel, by decide +kernel⟩
def sp_isint (K : PySem.W.Frag) : Sp := fun vs H Q _ => ∃ (i : Int), vs = [.int i] ∧ Q (.bl true) H
theorem d_is_integer (T : Txt w K mg W) : DefOk P w K mg base "is_integer" s_is_integer ["value"] 1 (sp_isint K) := by
  refine T.f_is_integer.ok sc_is_integer (fun vs H Q E h => ?_) (fun f cdv A outer s H vs Q E hr h => ?_)
  · obtain ⟨i, rfl, _⟩ := h
    rfl
  · obtain ⟨i, rfl, k⟩ := h
    refine ⟨_, (pss_one (ps_ret (pe_and (pe_callB (id := "isinstance") call_isi (by rfl) T.n_isinstance (by decide +kernel) (pa_cons (pv 0) (pa_cons (pe_bltn (v := .ty "int") (by rfl) T.n_int (by decide +kernel) rfl) pa_nil))) (pe_one (pe_not (pe_callB (id := "isinstance") call_isi (by rfl) T.n_isinstance (by decide +kernel) (pa_cons (pv 0) (pa_cons (pe_bltn (v := .ty "bool") (by rfl) T.n_bool (by decide +kernel) rfl) pa_nil)))))))), ?_⟩
    refine ⟨_, rfl, ⟨_, _, _, _, true, rfl, .ty "int", .base (.int i), kit_ty (by decide +kernel), ?_⟩⟩
    refine ⟨_, rfl, iteT ?_⟩
    refine ⟨_, rfl, ⟨_, _, _, _, false, rfl, .ty "bool", .base (.int i), kit_ty (by decide +kernel), ?_⟩⟩
    exact ⟨_, rfl, k⟩
theorem sc_is_between : FnScope ["value", "least", "most"] ["value", "least", "most"] (defScope s_is_between) := ⟨rfl, rfl, rfl, by decide +kernel, rfl, by decide +kernel, by decide +kernel⟩
def sp_between (K : PySem.W.Frag) : Sp := fun vs H Q _ => ∃ (i a e : Int), vs = [.int i, .int a, .int e] ∧ a ≤ i ∧ i ≤ e ∧ Q (.bl true) H
theorem d_is_between (T : Txt w K mg W) : DefOk P w K mg base "is_between" s_is_between ["value", "least", "most"] 2 (sp_between K) := by
  refine T.f_is_between.ok sc_is_between (fun vs H Q E h => ?_) (fun f cdv A outer s H vs Q E hr h => ?_)
  · obtain ⟨i, a, e, rfl, _⟩ := h
    rfl
  · obtain ⟨i, a, e, rfl, h1, h2, k⟩ := h
    refine ⟨_, (pss_one (ps_ret (pe_and (pe_callD (d_is_integer T) (hr.mono (by decide)) (pa_cons (pv 0) pa_nil)) (pe_one (pe_chain op_le op_le (pv 1) (pv 0) (pv 2)))))), ?_⟩
    refine ⟨_, rfl, i, rfl, _, rfl, iteT ?_⟩
    walk_at "rd"
    rw [decide_eq_true h1]
    refine iteT ?_
    walk_at "rd"
    show Q (.bl (decide (i ≤ e))) H
    rw [decide_eq_true h2]
    exact k
def sp_betweenD (K : PySem.W.Frag) : Sp := fun vs H Q _ => ∃ (i a e : Int), vs = [.int i, .int a, .int e] ∧ Q (.bl (decide (a ≤ i) && decide (i ≤ e))) H
theorem d_is_betweenD (T : Txt w K mg W) : DefOk P w K mg base "is_between" s_is_between ["value", "least", "most"] 2 (sp_betweenD K) := by
  refine T.f_is_between.ok sc_is_between (fun vs H Q E h => ?_) (fun f cdv A outer s H vs Q E hr h => ?_)
  · obtain ⟨i, a, e, rfl, _⟩ := h
    rfl
  · obtain ⟨i, a, e, rfl, k⟩ := h
    refine ⟨_, (pss_one (ps_ret (pe_and (pe_callD (d_is_integer T) (hr.mono (by decide)) (pa_cons (pv 0) pa_nil)) (pe_one (pe_chain op_le op_le (pv 1) (pv 0) (pv 2)))))), ?_⟩
    refine ⟨_, rfl, i, rfl, _, rfl, iteT ?_⟩
    walk_at "rd"
    refine ite2 (fun hc => ?_) (fun hc => ?_)
    · rw [hc] at k
      walk_at "rd"
      exact k
    · rw [Bool.eq_false_iff.mpr hc] at k
      exact k
theorem ifF {c : Bool} {A B : Prop} (hc : c = false) (h : B) : if c = true then A else B := by
  rw [hc]
  exact iteF h
theorem ifT {c : Bool} {A B : Prop} (hc : c = true) (h : A) : if c = true then A else B := by
  rw [hc]
  exact iteT h
theorem tyT {K : PySem.W.Frag} {H : Hp} {a : Addr} {vs : List V} (hs : SqT K H a vs) : TyX K H (.ref a) (.type "tuple") := by
  rcases hs with (h | ⟨o, h⟩) | ⟨o, its, n, h1, h2, _⟩
  · exact .base (.tup h)
  · exact .fTuple h
  · exact .kTuple h1 h2
theorem tyL {K : PySem.W.Frag} {H : Hp} {a : Addr} {vs : List V} (hs : SqL K H a vs) : TyX K H (.ref a) (.type "list") := by
  rcases hs with (h | ⟨o, h⟩) | ⟨o, its, n, h1, h2, _⟩
  · exact .base (.lst h)
  · exact .base (.frz h)
  · exact .kList h1 h2
theorem sc__is_signs : FnScope ["value", "most"] ["value", "most"] (defScope s__is_signs) := ⟨rfl, rfl, rfl, by decide +kernel, rfl, by decide +kernel, by decide +kernel⟩
theorem asc_of {n : Nat} {z : Str} (h : GoodS n z) : Txt.isascii z = true ∧ Txt.isprintable z = true := by
  have q : (List.range 128).all (fun c => decide (32 ≤ c ∧ c ≤ 126) == Unicode.isPrintable c) = true := by decide +kernel
  constructor
  · unfold Txt.isascii
    rw [Array.all_eq_true]
    intro i hi
    have := h.2 z.cps[i] (Array.mem_toList_iff.mpr (Array.getElem_mem hi))
    exact decide_eq_true (by omega)
  · unfold Txt.isprintable
    rw [Array.all_eq_true]
    intro i hi
    have h3 := h.2 z.cps[i] (Array.mem_toList_iff.mpr (Array.getElem_mem hi))
    have := List.all_eq_true.mp q z.cps[i] (List.mem_range.mpr (by omega))
    rw [beq_iff_eq] at this
    rw [← this]
    exact decide_eq_true h3
def sp_issigns (K : PySem.W.Frag) : Sp := fun vs H Q _ => ∃ (z : Str) (m : Nat), vs = [.str z, .int m] ∧ (GoodS m z ∧ m ≤ 1000) ∧ ∀ H', Same H H' → Q (.bl true) H'
theorem d__is_signs (T : Txt w K mg W) : DefOk P w K mg base "_is_signs" s__is_signs ["value", "most"] 1 (sp_issigns K) := by
  refine T.f__is_signs.ok sc__is_signs (fun vs H Q E h => ?_) (fun f cdv A outer s H vs Q E hr h => ?_)
  · obtain ⟨z, m, rfl, _⟩ := h
    rfl
  · obtain ⟨z, m, rfl, ⟨hz, hm⟩, k⟩ := h
    have hzl : z.length ≤ m := hz.1
    refine ⟨_, (pss_one (ps_ret (pe_and (pe_callB (id := "isinstance") call_isi (by rfl) T.n_isinstance (by decide +kernel) (pa_cons (pv 0) (pa_cons (pe_bltn (v := .ty "str") (by rfl) T.n_str (by decide +kernel) rfl) pa_nil))) (pe_and (pe_cmpR op_le (pe_callB (id := "len") call_len (by rfl) T.n_len (by decide +kernel) (pa_cons (pv 0) pa_nil)) (pv 1) (nomark _)) (pe_and (pe_bm0 PySem.F.plainAttrs_str PySem.F.slot_str_isascii PySem.F.type_str_isascii mt_isascii (pv 0)) (pe_one (pe_bm0 PySem.F.plainAttrs_str PySem.F.slot_str_isprintable PySem.F.type_str_isprintable mt_isprintable (pv 0)))))))), ?_⟩
    obtain ⟨ha, hp⟩ := asc_of hz
    refine ⟨_, rfl, _, _, _, _, true, rfl, .ty "str", .base (.str _), kit_ty (by decide +kernel), _, rfl, iteT ?_⟩
    refine ⟨_, rfl, _, z.length, rfl, ⟨Nat.le_trans hzl (Nat.le_of_lt (small1000 hm)), rfl⟩, ?_⟩
    refine ⟨_, rfl, _, _, rfl, rfl, _, rfl, ifT (decide_eq_true (by omega)) ?_⟩
    refine ⟨_, rfl, rfl, z, rfl, rfl, trivial, _, rfl, ifT ha ?_⟩
    refine ⟨_, rfl, rfl, z, rfl, rfl, trivial, ?_⟩
    rw [hp]
    exact k H (Same.refl _)
theorem sc__is_parts : FnScope ["value", "k", "part"] ["value", "k"] (defScope s__is_parts) := ⟨rfl, rfl, rfl, by decide +kernel, rfl, by decide +kernel, by decide +kernel⟩
def sp_isparts (K : PySem.W.Frag) : Sp := fun vs H Q _ => ∃ (l : Addr) (ns : List Int) (e : Nat), vs = [.ref l, .int e] ∧ SqL K H l (ns.map V.int) ∧ ns.length ≤ 8 ∧ (∀ j ∈ ns, 0 ≤ j ∧ j < (e : Int)) ∧ ∀ H', Same H H' → Q (.bl true) H'
theorem d__is_parts (T : Txt w K mg W) : DefOk P w K mg base "_is_parts" s__is_parts ["value", "k"] 1 (sp_isparts K) := by
  refine T.f__is_parts.ok sc__is_parts (fun vs H Q E h => ?_) (fun f cdv A outer s H vs Q E hr h => ?_)
  · obtain ⟨l, ns, e, rfl, _⟩ := h
    rfl
  · obtain ⟨l, ns, e, rfl, hl, h8, hj, k⟩ := h
    refine ⟨_, (pss_cons (ps_if (PW.pt (pw_or (pt_not (pt_val (pe_callB (id := "isinstance") call_isi (by rfl) T.n_isinstance (by decide +kernel) (pa_cons (pv 0) (pa_cons (pe_bltn (v := .ty "list") (by rfl) T.n_list (by decide +kernel) rfl) pa_nil))))) (pw_or1 (pt_cmpR op_gt (pe_callB (id := "len") call_len (by rfl) T.n_len (by decide +kernel) (pa_cons (pv 0) pa_nil)) (pe_globI T.g_MOST_PARTS) (nomark _))))) (pss_one (ps_ret pe_bl)) pss_nil)
      (pss_cons (ps_for PassesOwn.never rfl (pi_list (pv 0)) (pg_name (i := 2) sc__is_parts.nd rfl (Or.inl rfl))
      (pss_one (ps_if (PW.pt (pw_or (pt_not (pt_val (pe_callB (id := "isinstance") call_isi (by rfl) T.n_isinstance (by decide +kernel) (pa_cons (pv 2) (pa_cons (pe_bltn (v := .ty "int") (by rfl) T.n_int (by decide +kernel) rfl) pa_nil))))) (pw_or (pt_val (pe_callB (id := "isinstance") call_isi (by rfl) T.n_isinstance (by decide +kernel) (pa_cons (pv 2) (pa_cons (pe_bltn (v := .ty "bool") (by rfl) T.n_bool (by decide +kernel) rfl) pa_nil)))) (pw_or1 (pt_not (pt_chain op_le op_lt pe_int (pv 2) (pv 1))))))) (pss_one (ps_ret pe_bl)) pss_nil)))
      (pss_one (ps_ret pe_bl)))), ?_⟩
    refine ⟨_, rfl, _, _, _, _, true, rfl, .ty "list", tyL hl, kit_ty (by decide +kernel), true, rfl, iteF ?_⟩
    refine ⟨_, rfl, _, _, rfl, .inl ⟨_, hl, rfl⟩, _, _, rfl, rfl, _, rfl, ifF (decide_eq_false (by rw [List.length_map]; omega)) ?_⟩
    refine ⟨_, rfl, l, rfl, ⟨_, hl⟩, ?_⟩
    refine for_list (xs := ns.map V.int) (fun i σ H' => Same H H' ∧ ∃ v, σ = [some (.ref l), some (.int e), v]) ⟨Same.refl _, _, rfl⟩ (fun i σ H' _ z => sqlS z.1 hl) ?_ ?_
    · rintro i x σ H2 hx ⟨sm, v, rfl⟩
      rw [List.getElem?_map] at hx
      obtain ⟨j, hj1, rfl⟩ := Option.map_eq_some_iff.mp hx
      obtain ⟨j0, j1⟩ := hj j (List.mem_of_getElem? hj1)
      refine ⟨_, rfl, _, _, _, _, true, rfl, .ty "int", .base (.int _), kit_ty (by decide +kernel), true, rfl, iteF ?_⟩
      refine ⟨_, rfl, _, _, _, _, false, rfl, .ty "bool", .base (.int _), kit_ty (by decide +kernel), false, rfl, iteF ?_⟩
      refine ⟨_, rfl, _, _, rfl, rfl, _, rfl, ifT (decide_eq_true j0) ?_⟩
      refine ⟨_, rfl, _, _, rfl, rfl, _, rfl, ifF (by rw [decide_eq_true j1]; rfl) ?_⟩
      exact ⟨sm, _, rfl⟩
    · rintro σ H2 ⟨sm, v, rfl⟩
      exact k H2 sm
theorem sc_is_row : FnScope ["row", "k", "kind"] ["row", "k"] (defScope s_is_row) := ⟨rfl, rfl, rfl, by decide +kernel, rfl, by decide +kernel, by decide +kernel⟩
def sp_isrow (K : PySem.W.Frag) : Sp := fun vs H Q _ => ∃ (v : V) (r : Row) (n : Nat), vs = [v, .int n] ∧ Dp K H v r.data ∧ r.ok n ∧ ∀ H', Same H H' → Q (.bl true) H'
theorem d_is_row (T : Txt w K mg W) : DefOk P w K mg base "is_row" s_is_row ["row", "k"] 3 (sp_isrow K) := by
  refine T.f_is_row.ok sc_is_row (fun vs H Q E h => ?_) (fun f cdv A outer s H vs Q E hr h => ?_)
  · obtain ⟨v, r, n, rfl, _⟩ := h
    rfl
  · obtain ⟨v, r, nn, rfl, hd, hok, k⟩ := h
    refine ⟨_, (pss_cons (ps_if (PW.pt (pw_or (pt_not (pt_val (pe_callB (id := "isinstance") call_isi (by rfl) T.n_isinstance (by decide +kernel) (pa_cons (pv 0) (pa_cons (pe_bltn (v := .ty "tuple") (by rfl) T.n_tuple (by decide +kernel) rfl) pa_nil))))) (pw_or (pt_cmpR op_eq (pe_callB (id := "len") call_len (by rfl) T.n_len (by decide +kernel) (pa_cons (pv 0) pa_nil)) pe_int (nomark _)) (pw_or1 (pt_not (pt_val (pe_callB (id := "isinstance") call_isi (by rfl) T.n_isinstance (by decide +kernel) (pa_cons (pe_ix ix_tup (pv 0) pe_int (fun _ _ => rfl)) (pa_cons (pe_bltn (v := .ty "str") (by rfl) T.n_str (by decide +kernel) rfl) pa_nil))))))))) (pss_one (ps_ret pe_bl)) pss_nil)
      (pss_cons (ps_set (i := 2) sc_is_row.nd rfl (Or.inl rfl) (pe_ix ix_tup (pv 0) pe_int (fun _ _ => rfl)))
      (pss_cons (ps_if (pt_cmpR op_eq (pv 2) pe_str (nomark _)) (pss_one (ps_ret (pe_and (pe_cmpR op_eq (pe_callB (id := "len") call_len (by rfl) T.n_len (by decide +kernel) (pa_cons (pv 0) pa_nil)) pe_int (nomark _)) (pe_one (pe_callD (d__is_parts T) (hr.mono (by decide)) (pa_cons (pe_ix ix_tup (pv 0) pe_int (fun _ _ => rfl)) (pa_cons (pv 1) pa_nil))))))) pss_nil)
      (pss_cons (ps_if (pt_cmpR op_ne (pe_dgetK (pe_glob (v := .ref W.ROW_LENGTHS) (by rfl) T.g_ROW_LENGTHS rfl) (pv 2) ⟨rfl, rfl, rfl, rfl⟩) (pe_callB (id := "len") call_len (by rfl) T.n_len (by decide +kernel) (pa_cons (pv 0) pa_nil)) (nomark _)) (pss_one (ps_ret pe_bl)) pss_nil)
      (pss_cons (ps_if (pt_cmpR op_eq (pv 2) pe_str (nomark _)) (pss_one (ps_ret (pe_callD (d__is_signs T) (hr.mono (by decide)) (pa_cons (pe_ix ix_tup (pv 0) pe_int (fun _ _ => rfl)) (pa_cons (pe_globI T.g_MOST_TEXT_SIGNS) pa_nil))))) pss_nil)
      (pss_cons (ps_if (pt_cmpR op_eq (pv 2) pe_str (nomark _)) (pss_one (ps_ret (pe_callD (d__is_signs T) (hr.mono (by decide)) (pa_cons (pe_ix ix_tup (pv 0) pe_int (fun _ _ => rfl)) (pa_cons (pe_globI T.g_MOST_LINE_SIGNS) pa_nil))))) pss_nil)
      (pss_cons (ps_if (pt_cmpR op_eq (pv 2) pe_str (nomark _)) (pss_one (ps_ret pe_bl)) pss_nil)
      (pss_cons (ps_if (pt_cmpR op_eq (pv 2) pe_str (nomark _)) (pss_one (ps_ret (pe_and (pe_callD (d_is_between T) (hr.mono (by decide)) (pa_cons (pe_ix ix_tup (pv 0) pe_int (fun _ _ => rfl)) (pa_cons pe_int (pa_cons (pe_globI T.g_MOST_NEST) pa_nil)))) (pe_one (pe_callD (d_is_between T) (hr.mono (by decide)) (pa_cons (pe_ix ix_tup (pv 0) pe_int (fun _ _ => rfl)) (pa_cons pe_int (pa_cons (pe_op op_sub (pv 1) pe_int) pa_nil)))))))) pss_nil)
      (pss_one (ps_ret (pe_callD (d_is_between T) (hr.mono (by decide)) (pa_cons (pe_ix ix_tup (pv 0) pe_int (fun _ _ => rfl)) (pa_cons pe_int (pa_cons (pe_op op_sub (pv 1) pe_int) pa_nil)))))))))))))), ?_⟩
    cases r with
    | text z =>
      cases hd with
      | tup ht hs =>
      cases hs with | cons a1 hs =>
      cases a1
      cases hs with | cons a2 hs =>
      cases a2
      cases hs
      -- text
      obtain ⟨es, n, kl, kk, ko⟩ := T.k_ROW_LENGTHS
      obtain ⟨t, hk⟩ := T.k_ROW_LENGTHS_text
      refine ⟨_, rfl, _, _, _, _, true, rfl, .ty "tuple", tyT ht, kit_ty (by decide +kernel), true, rfl, iteF ?_⟩
      refine ⟨_, rfl, _, 2, rfl, .inr ⟨_, ht, rfl⟩, rfl, _, rfl, ifF (by decide +kernel) ?_⟩
      refine ⟨_, rfl, _, _, _, _, rfl, rfl, ht, rfl, _, _, _, _, true, rfl, .ty "str", .base (.str _), kit_ty (by decide +kernel), true, rfl, iteF ?_⟩
      refine ⟨_, rfl, _, _, _, _, rfl, rfl, ht, rfl, ?_⟩
      refine ⟨_, rfl, rfl, _, rfl, ifF (by decide +kernel) ?_⟩
      refine ⟨W.ROW_LENGTHS, es, n, rfl, kl, kk, ko, _, rfl, "text", _, .int 2, rfl, hk, ⟨t, rfl⟩, ?_⟩
      refine ⟨_, rfl, _, 2, rfl, .inr ⟨_, ht, rfl⟩, rfl, _, rfl, ifF (by decide +kernel) ?_⟩
      refine ⟨_, rfl, rfl, _, rfl, ifT (by decide +kernel) ?_⟩
      refine ⟨_, rfl, _, _, _, _, rfl, rfl, ht, rfl, ?_⟩
      exact ⟨_, 20, rfl, ⟨hok, by omega⟩, fun H' e => k H' e⟩
    | line z =>
      cases hd with
      | tup ht hs =>
      cases hs with | cons a1 hs =>
      cases a1
      cases hs with | cons a2 hs =>
      cases a2
      cases hs
      -- line
      obtain ⟨es, n, kl, kk, ko⟩ := T.k_ROW_LENGTHS
      obtain ⟨t, hk⟩ := T.k_ROW_LENGTHS_line
      refine ⟨_, rfl, _, _, _, _, true, rfl, .ty "tuple", tyT ht, kit_ty (by decide +kernel), true, rfl, iteF ?_⟩
      refine ⟨_, rfl, _, 2, rfl, .inr ⟨_, ht, rfl⟩, rfl, _, rfl, ifF (by decide +kernel) ?_⟩
      refine ⟨_, rfl, _, _, _, _, rfl, rfl, ht, rfl, _, _, _, _, true, rfl, .ty "str", .base (.str _), kit_ty (by decide +kernel), true, rfl, iteF ?_⟩
      refine ⟨_, rfl, _, _, _, _, rfl, rfl, ht, rfl, ?_⟩
      refine ⟨_, rfl, rfl, _, rfl, ifF (by decide +kernel) ?_⟩
      refine ⟨W.ROW_LENGTHS, es, n, rfl, kl, kk, ko, _, rfl, "line", _, .int 2, rfl, hk, ⟨t, rfl⟩, ?_⟩
      refine ⟨_, rfl, _, 2, rfl, .inr ⟨_, ht, rfl⟩, rfl, _, rfl, ifF (by decide +kernel) ?_⟩
      refine ⟨_, rfl, rfl, _, rfl, ifF (by decide +kernel) ?_⟩
      refine ⟨_, rfl, rfl, _, rfl, ifT (by decide +kernel) ?_⟩
      refine ⟨_, rfl, _, _, _, _, rfl, rfl, ht, rfl, ?_⟩
      exact ⟨_, 3, rfl, ⟨hok, by omega⟩, fun H' e => k H' e⟩
    | hard =>
      cases hd with
      | tup ht hs =>
      cases hs with | cons a1 hs =>
      cases a1
      cases hs
      -- hard
      obtain ⟨es, n, kl, kk, ko⟩ := T.k_ROW_LENGTHS
      obtain ⟨t, hk⟩ := T.k_ROW_LENGTHS_hard
      refine ⟨_, rfl, _, _, _, _, true, rfl, .ty "tuple", tyT ht, kit_ty (by decide +kernel), true, rfl, iteF ?_⟩
      refine ⟨_, rfl, _, 1, rfl, .inr ⟨_, ht, rfl⟩, rfl, _, rfl, ifF (by decide +kernel) ?_⟩
      refine ⟨_, rfl, _, _, _, _, rfl, rfl, ht, rfl, _, _, _, _, true, rfl, .ty "str", .base (.str _), kit_ty (by decide +kernel), true, rfl, iteF ?_⟩
      refine ⟨_, rfl, _, _, _, _, rfl, rfl, ht, rfl, ?_⟩
      refine ⟨_, rfl, rfl, _, rfl, ifF (by decide +kernel) ?_⟩
      refine ⟨W.ROW_LENGTHS, es, n, rfl, kl, kk, ko, _, rfl, "hard", _, .int 1, rfl, hk, ⟨t, rfl⟩, ?_⟩
      refine ⟨_, rfl, _, 1, rfl, .inr ⟨_, ht, rfl⟩, rfl, _, rfl, ifF (by decide +kernel) ?_⟩
      refine ⟨_, rfl, rfl, _, rfl, ifF (by decide +kernel) ?_⟩
      refine ⟨_, rfl, rfl, _, rfl, ifF (by decide +kernel) ?_⟩
      refine ⟨_, rfl, rfl, _, rfl, ifT (by decide +kernel) ?_⟩
      exact k _ (Same.refl _)
    | cat ps =>
      cases hd with
      | tup ht hs =>
      cases hs with | cons a1 hs =>
      cases a1
      cases hs with | cons a2 hs =>
      cases hs
      cases a2 with | lst hl ha =>
      rw [dps_of_ints ha] at hl
      -- cat
      obtain ⟨es, n, kl, kk, ko⟩ := T.k_ROW_LENGTHS
      obtain ⟨t, hk⟩ := T.k_ROW_LENGTHS_cat
      refine ⟨_, rfl, _, _, _, _, true, rfl, .ty "tuple", tyT ht, kit_ty (by decide +kernel), true, rfl, iteF ?_⟩
      refine ⟨_, rfl, _, 2, rfl, .inr ⟨_, ht, rfl⟩, rfl, _, rfl, ifF (by decide +kernel) ?_⟩
      refine ⟨_, rfl, _, _, _, _, rfl, rfl, ht, rfl, _, _, _, _, true, rfl, .ty "str", .base (.str _), kit_ty (by decide +kernel), true, rfl, iteF ?_⟩
      refine ⟨_, rfl, _, _, _, _, rfl, rfl, ht, rfl, ?_⟩
      refine ⟨_, rfl, rfl, _, rfl, ifT (by decide +kernel) ?_⟩
      refine ⟨_, rfl, _, 2, rfl, .inr ⟨_, ht, rfl⟩, rfl, _, rfl, ifT (by decide +kernel) ?_⟩
      refine ⟨_, rfl, _, _, _, _, rfl, rfl, ht, rfl, ?_⟩
      exact ⟨_, rfl, _, ps, _, rfl, hl, hok.1, hok.2, fun H' e => k H' e⟩
    | nest m j =>
      cases hd with
      | tup ht hs =>
      cases hs with | cons a1 hs =>
      cases a1
      cases hs with | cons a2 hs =>
      cases a2
      cases hs with | cons a3 hs =>
      cases a3
      cases hs
      -- nest
      obtain ⟨es, n, kl, kk, ko⟩ := T.k_ROW_LENGTHS
      obtain ⟨t, hk⟩ := T.k_ROW_LENGTHS_nest
      refine ⟨_, rfl, _, _, _, _, true, rfl, .ty "tuple", tyT ht, kit_ty (by decide +kernel), true, rfl, iteF ?_⟩
      refine ⟨_, rfl, _, 3, rfl, .inr ⟨_, ht, rfl⟩, rfl, _, rfl, ifF (by decide +kernel) ?_⟩
      refine ⟨_, rfl, _, _, _, _, rfl, rfl, ht, rfl, _, _, _, _, true, rfl, .ty "str", .base (.str _), kit_ty (by decide +kernel), true, rfl, iteF ?_⟩
      refine ⟨_, rfl, _, _, _, _, rfl, rfl, ht, rfl, ?_⟩
      refine ⟨_, rfl, rfl, _, rfl, ifF (by decide +kernel) ?_⟩
      refine ⟨W.ROW_LENGTHS, es, n, rfl, kl, kk, ko, _, rfl, "nest", _, .int 3, rfl, hk, ⟨t, rfl⟩, ?_⟩
      refine ⟨_, rfl, _, 3, rfl, .inr ⟨_, ht, rfl⟩, rfl, _, rfl, ifF (by decide +kernel) ?_⟩
      refine ⟨_, rfl, rfl, _, rfl, ifF (by decide +kernel) ?_⟩
      refine ⟨_, rfl, rfl, _, rfl, ifF (by decide +kernel) ?_⟩
      refine ⟨_, rfl, rfl, _, rfl, ifF (by decide +kernel) ?_⟩
      refine ⟨_, rfl, rfl, _, rfl, ifT (by decide +kernel) ?_⟩
      refine ⟨_, rfl, _, _, _, _, rfl, rfl, ht, rfl, ?_⟩
      refine ⟨_, _, _, rfl, hok.1, hok.2.1, _, rfl, iteT ?_⟩
      refine ⟨_, rfl, _, _, _, _, rfl, rfl, ht, rfl, ?_⟩
      exact ⟨_, rfl, _, _, rfl, rfl, _, _, _, rfl, hok.2.2.1, by have := hok.2.2.2; omega, k _ (Same.refl _)⟩
    | align j =>
      cases hd with
      | tup ht hs =>
      cases hs with | cons a1 hs =>
      cases a1
      cases hs with | cons a2 hs =>
      cases a2
      cases hs
      -- align
      obtain ⟨es, n, kl, kk, ko⟩ := T.k_ROW_LENGTHS
      obtain ⟨t, hk⟩ := T.k_ROW_LENGTHS_align
      refine ⟨_, rfl, _, _, _, _, true, rfl, .ty "tuple", tyT ht, kit_ty (by decide +kernel), true, rfl, iteF ?_⟩
      refine ⟨_, rfl, _, 2, rfl, .inr ⟨_, ht, rfl⟩, rfl, _, rfl, ifF (by decide +kernel) ?_⟩
      refine ⟨_, rfl, _, _, _, _, rfl, rfl, ht, rfl, _, _, _, _, true, rfl, .ty "str", .base (.str _), kit_ty (by decide +kernel), true, rfl, iteF ?_⟩
      refine ⟨_, rfl, _, _, _, _, rfl, rfl, ht, rfl, ?_⟩
      refine ⟨_, rfl, rfl, _, rfl, ifF (by decide +kernel) ?_⟩
      refine ⟨W.ROW_LENGTHS, es, n, rfl, kl, kk, ko, _, rfl, "align", _, .int 2, rfl, hk, ⟨t, rfl⟩, ?_⟩
      refine ⟨_, rfl, _, 2, rfl, .inr ⟨_, ht, rfl⟩, rfl, _, rfl, ifF (by decide +kernel) ?_⟩
      refine ⟨_, rfl, rfl, _, rfl, ifF (by decide +kernel) ?_⟩
      refine ⟨_, rfl, rfl, _, rfl, ifF (by decide +kernel) ?_⟩
      refine ⟨_, rfl, rfl, _, rfl, ifF (by decide +kernel) ?_⟩
      refine ⟨_, rfl, rfl, _, rfl, ifF (by decide +kernel) ?_⟩
      refine ⟨_, rfl, _, _, _, _, rfl, rfl, ht, rfl, ?_⟩
      exact ⟨_, rfl, _, _, rfl, rfl, _, _, _, rfl, hok.1, by have := hok.2; omega, k _ (Same.refl _)⟩
    | group j =>
      cases hd with
      | tup ht hs =>
      cases hs with | cons a1 hs =>
      cases a1
      cases hs with | cons a2 hs =>
      cases a2
      cases hs
      -- group
      obtain ⟨es, n, kl, kk, ko⟩ := T.k_ROW_LENGTHS
      obtain ⟨t, hk⟩ := T.k_ROW_LENGTHS_group
      refine ⟨_, rfl, _, _, _, _, true, rfl, .ty "tuple", tyT ht, kit_ty (by decide +kernel), true, rfl, iteF ?_⟩
      refine ⟨_, rfl, _, 2, rfl, .inr ⟨_, ht, rfl⟩, rfl, _, rfl, ifF (by decide +kernel) ?_⟩
      refine ⟨_, rfl, _, _, _, _, rfl, rfl, ht, rfl, _, _, _, _, true, rfl, .ty "str", .base (.str _), kit_ty (by decide +kernel), true, rfl, iteF ?_⟩
      refine ⟨_, rfl, _, _, _, _, rfl, rfl, ht, rfl, ?_⟩
      refine ⟨_, rfl, rfl, _, rfl, ifF (by decide +kernel) ?_⟩
      refine ⟨W.ROW_LENGTHS, es, n, rfl, kl, kk, ko, _, rfl, "group", _, .int 2, rfl, hk, ⟨t, rfl⟩, ?_⟩
      refine ⟨_, rfl, _, 2, rfl, .inr ⟨_, ht, rfl⟩, rfl, _, rfl, ifF (by decide +kernel) ?_⟩
      refine ⟨_, rfl, rfl, _, rfl, ifF (by decide +kernel) ?_⟩
      refine ⟨_, rfl, rfl, _, rfl, ifF (by decide +kernel) ?_⟩
      refine ⟨_, rfl, rfl, _, rfl, ifF (by decide +kernel) ?_⟩
      refine ⟨_, rfl, rfl, _, rfl, ifF (by decide +kernel) ?_⟩
      refine ⟨_, rfl, _, _, _, _, rfl, rfl, ht, rfl, ?_⟩
      exact ⟨_, rfl, _, _, rfl, rfl, _, _, _, rfl, hok.1, by have := hok.2; omega, k _ (Same.refl _)⟩
end
end Lw

namespace Lw
open PySem PySem.Spec PyProof.Rows L2 VW TL
local macro_rules | `(tactic| walk_at "rdc") => `(tactic| first | assumption | rfl | decide | omega | exact Or.inr ⟨by decide, by decide⟩ | exact ⟨by decide, by decide⟩ | exact ⟨by decide, by decide, by decide⟩ | (show (0 : Int) < _; omega) | (show (0 : Int) < _ ∧ _ < (1073741824 : Int); omega) | (show (-(2 ^ 64) < _ ∧ _ < 2 ^ 64) ∨ (-(2 ^ 64) < _ ∧ _ < 2 ^ 64); omega) | (show (-(2 ^ 64) < _ ∧ _ < 2 ^ 64) ∨ (-(2 ^ 64) < _ ∧ _ < 2 ^ 64); right; split <;> decide) | exact Nat.le_of_ble_eq_true rfl)
local macro_rules | `(tactic| walk_at "rd1") => `(tactic| first | refine ⟨_, rfl, ?_⟩ | refine And.intro (by walk_at "rdc") ?_ | refine ⟨_, _, rfl, rfl, ?_⟩ | refine Or.inl ⟨_, rfl, ?_⟩ | refine Or.inr ⟨_, rfl, ?_⟩ | refine ⟨_, _, _, _, rfl, rfl, sqlO (by first | assumption | exact upd_same), rfl, ?_⟩ | refine ⟨_, _, _, _, rfl, rfl, (by first | assumption | exact upd_same), rfl, ?_⟩)
local macro_rules | `(tactic| walk_at "rd") => `(tactic| repeat (walk_at "rd1"))

section
variable {P : Program} {w : World} {K : PySem.W.Frag} {mg : Str → Option Value} {base : Heap} {W : Wd}
/-- a row that is read: its tuple in the view, the list of a cat in the heap -/
def RowIn (K : PySem.W.Frag) (U H : Hp) (v : V) : Row → Prop
  | .cat ps => ∃ a l, v = .ref a ∧ SqT K U a [.str "cat", .ref l] ∧ SqL K H l (ps.map V.int)
  | r => Dp K U v r.data
/-- a copied row: the new list of a cat stands outside of the view -/
def RowNew (K : PySem.W.Frag) (U H H' : Hp) (v : V) : Row → Prop
  | .cat ps => ∃ q l, v = .ref q ∧ U q = some (.tup [.str "cat", .ref l]) ∧ U l = none ∧ H l = none ∧ H' l = some (.lst (ps.map V.int))
  | r => Dp K U v r.data
theorem RowIn.of {U H : Hp} {v : V} {r : Row} (s : Same U H) (h : Dp K U v r.data) : RowIn K U H v r := by
  cases r with
  | cat ps =>
    cases h with
    | tup ht hs =>
      cases hs with | cons a1 hs =>
      cases a1
      cases hs with | cons a2 hs =>
      cases hs
      cases a2 with | lst hl ha =>
      rw [dps_of_ints ha] at hl
      exact ⟨_, _, rfl, ht, sqlS s hl⟩
  | _ => exact h
theorem RowIn.dp {U H : Hp} {v : V} {r : Row} (s : Same U H) (h : RowIn K U H v r) : Dp K H v r.data := by
  cases r with
  | cat ps =>
    obtain ⟨a, l, rfl, h1, h2⟩ := h
    exact .tup (sqtS s h1) (.cons (.str _) (.cons (.lst h2 (dps_ints ps)) .nil))
  | _ => exact dpS s h
theorem RowIn.mono {U H U' H' : Hp} {v : V} {r : Row} (s : Same U U') (s2 : Same H H') (h : RowIn K U H v r) : RowIn K U' H' v r := by
  cases r with
  | cat ps =>
    obtain ⟨a, l, rfl, h1, h2⟩ := h
    exact ⟨a, l, rfl, sqtS s h1, sqlS s2 h2⟩
  | _ => exact dpS s h
/-- the copy is told of -/
theorem RowNew.tell {S : Addr → Prop} {U0 H0 U H H' : Hp} {v : V} {r : Row} (g : Gr S U0 H0 U H') (h : RowNew K U H H' v r) (h0 : ∀ b, H b = none → H0 b = none) :
    ∃ U', Gr S U0 H0 U' H' ∧ Same U U' ∧ Dp K U' v r.data ∧ ∀ b, H b ≠ none → U' b = U b := by
  cases r with
  | cat ps =>
    obtain ⟨q, l, rfl, h1, h2, h3, h4⟩ := h
    have g' := g.tell (h0 l h3) h4 h2
    have nq : q ≠ l := ne_of_none h1 h2
    refine ⟨_, g', fun b o e => by rw [upd_ne (ne_of_none e h2)]; exact e, dp_tup (by rw [upd_ne nq]; exact h1) (.cons (.str _) (.cons (dp_lst upd_same (dps_ints ps)) .nil)), fun b hb => ?_⟩
    have : b ≠ l := fun e => hb (by rw [e]; exact h3)
    rw [upd_ne this]
  | _ => exact ⟨U, g, Same.refl _, h, fun _ _ => rfl⟩
theorem sc_copied_row : FnScope ["row"] ["row"] (defScope s_copied_row) := ⟨rfl, rfl, rfl, by decide +kernel, rfl, by decide +kernel, by decide +kernel⟩
def sp_copied (K : PySem.W.Frag) : Sp := fun vs H Q _ => ∃ (v : V) (r : Row) (U : Hp), vs = [v] ∧ Same U H ∧ RowIn K U H v r ∧ ∀ (v' : V) (U' H' : Hp), Gr S0 U H U' H' → RowNew K U' H H' v' r → Q v' H'
theorem d_copied_row (T : Txt w K mg W) : DefOk P w K mg base "copied_row" s_copied_row ["row"] 1 (sp_copied K) := by
  refine T.f_copied_row.ok sc_copied_row (fun vs H Q E h => ?_) (fun f cdv A outer s H vs Q E hr h => ?_)
  · obtain ⟨v, r, U, rfl, _⟩ := h
    rfl
  · obtain ⟨v, r, U, rfl, s1, hd, k⟩ := h
    refine ⟨_, (pss_cons (ps_if (pt_cmpR op_eq (pe_ix ix_tup (pv 0) pe_int (fun _ _ => rfl)) pe_str (nomark _)) (pss_one (ps_ret (pe_tup (pa_cons pe_str (pa_cons (pe_callTy (T := "list") call_list_of (by rfl) T.n_list (by decide +kernel) (pa_cons (pe_ix ix_tup (pv 0) pe_int (fun _ _ => rfl)) pa_nil)) pa_nil))))) pss_nil)
      (pss_one (ps_ret (pv 0)))), ?_⟩
    have plain : ∀ (kd : Str) (ds : List PyData), r.data = .tuple (.str kd :: ds) → decide (V.str kd = V.str "cat") = false → ∃ a xs, v = .ref a ∧ SqT K H a (.str kd :: xs) := fun kd ds e _ => by
      have q := hd.dp s1
      rw [e] at q
      cases q with
      | tup ht hs =>
        cases hs with | cons a1 hs =>
        cases a1
        exact ⟨_, _, rfl, ht⟩
    cases r with
    | cat ps =>
      obtain ⟨a, l, rfl, h1, h2⟩ := hd
      refine ⟨_, rfl, _, _, _, _, rfl, rfl, sqtS s1 h1, rfl, rfl, _, rfl, ifT (by decide +kernel) ?_⟩
      refine ⟨_, rfl, _, _, _, _, rfl, rfl, sqtS s1 h1, rfl, _, _, rfl, .inl h2, fun l' hl' => ?_⟩
      refine ⟨Nat.le_of_ble_eq_true rfl, fun q hq => ?_⟩
      have g1 := (Gr.refl (S := S0) s1).newH (o := .lst (ps.map V.int)) hl'
      have g2 := g1.new (o := .tup [.str "cat", .ref l']) hq
      have nlq : l' ≠ q := ne_of_none upd_same hq
      exact k _ _ _ g2 ⟨q, l', rfl, upd_same, by rw [upd_ne nlq]; exact vfree s1 hl', hl', by rw [upd_ne nlq]; exact upd_same⟩
    | _ =>
      obtain ⟨a, xs, rfl, ht⟩ := plain _ _ rfl (by decide +kernel)
      refine ⟨_, rfl, _, _, _, _, rfl, rfl, ht, at_of (j := 0) rfl rfl, ?_⟩
      refine ⟨rfl, _, rfl, ifF (by decide +kernel) ?_⟩
      exact ⟨_, rfl, k _ _ _ (Gr.refl s1) hd⟩
def RowsIn (K : PySem.W.Frag) (U H : Hp) (vs : List V) (rs : List Row) : Prop := vs.length = rs.length ∧ ∀ (i : Nat) (v : V) (r : Row), vs[i]? = some v → rs[i]? = some r → RowIn K U H v r
theorem RowsIn.dp {U H : Hp} {vs : List V} {rs : List Row} (s : Same U H) (h : RowsIn K U H vs rs) : DpAll K H vs (rs.map Row.data) := by
  induction vs generalizing rs with
  | nil =>
    cases rs with
    | nil => exact .nil
    | cons r rs => cases h.1
  | cons v vs ih =>
    cases rs with
    | nil => cases h.1
    | cons r rs => exact .cons ((h.2 0 v r rfl rfl).dp s) (ih ⟨by have := h.1; simpa using this, fun i a b e1 e2 => h.2 (i + 1) a b e1 e2⟩)
theorem RowsIn.of {U H : Hp} {vs : List V} {rs : List Row} (s : Same U H) (h : DpAll K U vs (rs.map Row.data)) : RowsIn K U H vs rs := by
  refine ⟨by rw [dps_length h, List.length_map], fun i v r e1 e2 => ?_⟩
  obtain ⟨d, h1, h2⟩ := dps_get h e1
  rw [List.getElem?_map, e2] at h1
  cases h1
  exact .of s h2
theorem RowsIn.mono {U H U' H' : Hp} {vs : List V} {rs : List Row} (s : Same U U') (s2 : Same H H') (h : RowsIn K U H vs rs) : RowsIn K U' H' vs rs := ⟨h.1, fun i v r e1 e2 => (h.2 i v r e1 e2).mono s s2⟩
theorem sc__checked_rows : FnScope ["rows", "checked", "k", "row"] ["rows"] (defScope s__checked_rows) := ⟨rfl, rfl, rfl, by decide +kernel, rfl, by decide +kernel, by decide +kernel⟩
def sp_checked (K : PySem.W.Frag) : Sp := fun vs H Q _ => ∃ (a : Addr) (xs : List V) (rs : List Row) (U : Hp), vs = [.ref a] ∧ Same U H ∧ SqL K H a xs ∧ RowsIn K U H xs rs ∧ OkRows rs ∧ 0 < rs.length ∧ rs.length ≤ 200 ∧
  ∀ (D : Addr) (ws : List V) (U' H' : Hp), Gr S0 U H U' H' → H D = none → U' D = some (.lst ws) → DpAll K U' ws (rs.map Row.data) → Q (.ref D) H'
theorem d__checked_rows (T : Txt w K mg W) : DefOk P w K mg base "_checked_rows" s__checked_rows ["rows"] 4 (sp_checked K) := by
  refine T.f__checked_rows.ok sc__checked_rows (fun vs H Q E h => ?_) (fun f cdv A outer s H vs Q E hr h => ?_)
  · obtain ⟨a, xs, rs, U, rfl, _⟩ := h
    rfl
  · obtain ⟨a, xs, rs, U, rfl, s1, hl, hin, hok, h0, h200, k⟩ := h
    have hlen : xs.length = rs.length := hin.1
    refine ⟨_, (pss_cons (ps_if (PW.pt (pw_or (pt_not (pt_val (pe_callB (id := "isinstance") call_isi (by rfl) T.n_isinstance (by decide +kernel) (pa_cons (pv 0) (pa_cons (pe_bltn (v := .ty "list") (by rfl) T.n_list (by decide +kernel) rfl) pa_nil))))) (pw_or1 (pt_not (pt_chain op_le op_le pe_int (pe_callB (id := "len") call_len (by rfl) T.n_len (by decide +kernel) (pa_cons (pv 0) pa_nil)) (pe_globI T.g_MOST_ROWS)))))) (pss_one ps_never) pss_nil)
      (pss_cons (ps_set (i := 1) sc__checked_rows.nd rfl (Or.inl rfl) (pe_lst pa_nil))
      (pss_cons (ps_for PassesOwn.never rfl (pi_enum (by rfl) T.n_enumerate (pa_cons (pv 0) pa_nil)) (pg_tup rfl (pgs_cons (pg_name (i := 2) sc__checked_rows.nd rfl (Or.inl rfl)) (pgs_cons (pg_name (i := 3) sc__checked_rows.nd rfl (Or.inl rfl)) pgs_nil)))
      (pss_cons (ps_if (pt_not (pt_val (pe_callD (d_is_row T) (hr.mono (by decide)) (pa_cons (pv 3) (pa_cons (pv 2) pa_nil))))) (pss_one ps_never) pss_nil)
      (pss_one (ps_expr (pe_bm PySem.F.plainAttrs_list PySem.F.slot_list_append PySem.F.type_list_append mt_append (pv 1) (pa_cons (pe_callD (d_copied_row T) (hr.mono (by decide)) (pa_cons (pv 3) pa_nil)) pa_nil))))))
      (pss_one (ps_ret (pv 1)))))), ?_⟩
    refine ⟨_, rfl, _, _, _, _, true, rfl, .ty "list", tyL hl, kit_ty (by decide +kernel), true, rfl, iteF ?_⟩
    refine ⟨_, rfl, _, _, rfl, .inl ⟨_, hl, rfl⟩, ?_⟩
    refine ⟨_, _, rfl, rfl, _, rfl, ifT (decide_eq_true (by omega)) ?_⟩
    refine ⟨_, _, rfl, rfl, _, rfl, ifF (by rw [decide_eq_true (show (xs.length : Int) ≤ 200 by omega)]; rfl) ?_⟩
    refine ⟨Nat.le_of_ble_eq_true rfl, fun D hD => ?_⟩
    have smD : Same H (upd H D (.lst [])) := fun b o e => by rw [upd_ne (ne_of_none e hD)]; exact e
    refine ⟨_, rfl, _, _, rfl, sqlS smD hl, ?_⟩
    refine for_it walk_enum (fun i σ H' => ∃ (v1 v2 : Option V) (U' : Hp) (ws : List V), σ = [some (.ref a), some (.ref D), v1, v2] ∧ Gr S0 U H U' H' ∧ U' D = none ∧ H' D = some (.lst ws) ∧ DpAll K U' ws ((rs.take i).map Row.data)) ⟨none, none, U, [], rfl, (Gr.refl s1).newH hD, vfree s1 hD, upd_same, .nil⟩ (fun i σ H' _ ⟨_, _, _, _, _, g, _⟩ => sqlS g.same hl) ?_ ?_
    · rintro i x σ H1 H2 hi ⟨v1, v2, U', ws, rfl, g, v0, hd, hdp⟩ ⟨t, y1, y2, rfl, ht, rfl, e1, e2⟩
      cases e1
      have hi : i < rs.length := by rw [← hlen]; exact (List.getElem?_eq_some_iff.mp e2).1
      have hr2 : rs[i]? = some rs[i] := List.getElem?_eq_getElem hi
      have hrow := hin.2 i y2 _ e2 hr2
      have nDt : D ≠ t := ne_of_none hd ht
      have g1 : Gr S0 U H U' (upd H1 t (.tup [.int (i : Nat), y2])) := g.newH ht
      refine ⟨t, _, rfl, sqtO upd_same, rfl, _, _, rfl, _, _, rfl, rfl, ?_⟩
      refine ⟨_, rfl, _, rfl, _, rs[i], i, rfl, (hrow.mono (Same.refl _) g1.same).dp (s1.trans g1.same), hok i _ hr2, fun H3 sm3 => ?_⟩
      have g2 : Gr S0 U H U' H3 := g1.grow sm3
      have hd2 : H3 D = some (.lst ws) := sm3 _ _ (by rw [upd_ne nDt]; exact hd)
      refine ⟨true, rfl, iteF ?_⟩
      refine ⟨_, rfl, .inl ⟨rfl, _, sqlO hd2⟩, ?_⟩
      refine ⟨_, rfl, y2, rs[i], U', rfl, g2.s, hrow.mono g2.v g2.same, fun v' U4 H4 g4 hnew => ?_⟩
      obtain ⟨U5, g5, s5, dp5, keep⟩ := hnew.tell (g2.trans g4) fun b e => g2.free e
      have hd4 : H4 D = some (.lst ws) := g4.same _ _ hd2
      have u5D : U5 D = none := (keep D (some_ne hd2)).trans (g4.out (some_ne hd2) v0)
      refine ⟨_, _, _, rfl, rfl, hd4, ?_, ?_⟩
      · rw [dps_length hdp, List.length_map, List.length_take]
        exact small1000 (by omega)
      · refine ⟨_, _, U5, ws ++ [v'], rfl, g5.mut (.inr hD) u5D, u5D, upd_same, ?_⟩
        rw [List.take_succ, hr2, List.map_append]
        exact dps_append (dpsS (g4.v.trans s5) hdp) (.cons dp5 .nil)
    · rintro σ H2 ⟨v1, v2, U', ws, rfl, g, v0, hd, hdp⟩
      rw [hlen, List.take_length] at hdp
      exact ⟨_, rfl, k D ws _ _ (g.tell hD hd v0) hD upd_same (dpsS (fun b o e => by rw [upd_ne (ne_of_none e v0)]; exact e) hdp)⟩
end
end Lw

namespace Lw
open PySem PySem.Spec PyProof.Rows L2 VW TL
local macro_rules | `(tactic| walk_at "rdc") => `(tactic| first | assumption | rfl | decide | omega | exact Or.inr ⟨by decide, by decide⟩ | exact ⟨by decide, by decide⟩ | exact ⟨by decide, by decide, by decide⟩ | (show (0 : Int) < _; omega) | (show (0 : Int) < _ ∧ _ < (1073741824 : Int); omega) | (show (-(2 ^ 64) < _ ∧ _ < 2 ^ 64) ∨ (-(2 ^ 64) < _ ∧ _ < 2 ^ 64); omega) | (show (-(2 ^ 64) < _ ∧ _ < 2 ^ 64) ∨ (-(2 ^ 64) < _ ∧ _ < 2 ^ 64); right; split <;> decide) | exact Nat.le_of_ble_eq_true rfl)
local macro_rules | `(tactic| walk_at "rd1") => `(tactic| first | refine ⟨_, rfl, ?_⟩ | refine And.intro (by walk_at "rdc") ?_ | refine ⟨_, _, rfl, rfl, ?_⟩ | refine Or.inl ⟨_, rfl, ?_⟩ | refine Or.inr ⟨_, rfl, ?_⟩ | refine ⟨_, _, _, _, rfl, rfl, sqlO (by first | assumption | exact upd_same), rfl, ?_⟩ | refine ⟨_, _, _, _, rfl, rfl, (by first | assumption | exact upd_same), rfl, ?_⟩)
local macro_rules | `(tactic| walk_at "rd") => `(tactic| repeat (walk_at "rd1"))

section
variable {P : Program} {w : World} {K : PySem.W.Frag} {mg : Str → Option Value} {base : Heap} {W : Wd}
abbrev docF (l : Addr) : List (Str × V) := [("_rows", .ref l), ("facts", .non), ("group_facts", .non)]
theorem lk_rows (l : Addr) : List.lookup ("_rows" : Str) (docF l) = some (.ref l) := by simp [List.lookup]
theorem lk_no {m : Str} (l : Addr) (h : ¬ m = "_rows") (h2 : ¬ m = "facts") (h3 : ¬ m = "group_facts") : List.lookup m (docF l) = none := by
  have q : (m == ("_rows" : Str)) = false := by simpa using h
  have q2 : (m == ("facts" : Str)) = false := by simpa using h2
  have q3 : (m == ("group_facts" : Str)) = false := by simpa using h3
  simp [List.lookup, q, q2, q3]
/-- a document in the view -/
def DocAt (K : PySem.W.Frag) (C : Addr) (U : Hp) (x : Addr) (rs : List Row) : Prop := ∃ (dx l : Addr) (ws : List V), U x = some (.ins C dx (docF l)) ∧ U l = some (.lst ws) ∧ DpAll K U ws (rs.map Row.data)
theorem DocAt.mono {C : Addr} {U U' : Hp} {x : Addr} {rs : List Row} (s : Same U U') (h : DocAt K C U x rs) : DocAt K C U' x rs := by
  obtain ⟨dx, l, ws, h1, h2, h3⟩ := h
  exact ⟨dx, l, ws, s _ _ h1, s _ _ h2, dpsS s h3⟩
theorem sc_Doc___init__ : FnScope ["self", "rows"] ["self", "rows"] (defScope s_Doc___init__) := ⟨rfl, rfl, rfl, by decide +kernel, rfl, by decide +kernel, by decide +kernel⟩
def sp_init (K : PySem.W.Frag) (C : Addr) : Sp := fun vs H Q _ => ∃ (x dx a : Addr) (xs : List V) (rs : List Row) (U : Hp), vs = [.ref x, .ref a] ∧ H x = some (.ins C dx []) ∧ Same U H ∧ U x = none ∧ SqL K H a xs ∧ RowsIn K U H xs rs ∧ OkRows rs ∧ 0 < rs.length ∧ rs.length ≤ 200 ∧
  ∀ (l : Addr) (ws : List V) (U' H' : Hp), Gr (fun b => b = x) U H U' H' → U' x = none → U' l = some (.lst ws) → DpAll K U' ws (rs.map Row.data) → H' x = some (.ins C dx (docF l)) → Q .non H'
theorem d_Doc___init__ (T : Txt w K mg W) : MethOk P w K mg base W.c_Doc "__init__" "Doc.__init__" s_Doc___init__ ["self", "rows"] 5 (sp_init K W.c_Doc) := by
  refine T.f_Doc___init__.ok sc_Doc___init__ (fun vs H Q E h => ?_) (fun f cdv A outer s H vs Q E hr h => ?_)
  · obtain ⟨x, dx, a, xs, rs, U, rfl, _⟩ := h
    rfl
  · obtain ⟨x, dx, a, xs, rs, U, rfl, hx, s1, ux, ha, hin, hok, h0, h200, k⟩ := h
    refine ⟨_, (pss_cons (ps_fld (pv 0) (pe_callD (d__checked_rows T) (hr.mono (by decide)) (pa_cons (pv 1) pa_nil)) rfl)
      (pss_cons (ps_fld (pv 0) pe_non rfl)
      (pss_one (ps_fld (pv 0) pe_non rfl)))), ?_⟩
    refine ⟨_, rfl, a, xs, rs, U, rfl, s1, ha, hin, hok, h0, h200, fun D ws U' H1 g hD hl hdp => ?_⟩
    have hx1 := g.same _ _ hx
    have ux1 : U' x = none := g.out (some_ne hx) ux
    refine ⟨_, rfl, x, W.c_Doc, dx, [], rfl, hx1, T.cl_Doc, T.na_Doc__rows, by decide, ?_⟩
    have g5 := (g.of0 (S := fun b => b = x)).mut (o := .ins W.c_Doc dx [("_rows", .ref D)]) (.inl rfl) ux1
    refine ⟨_, rfl, x, W.c_Doc, dx, _, rfl, upd_same, T.cl_Doc, T.na_Doc_facts, Nat.lt_of_lt_of_le (Nat.lt_succ_self 1) (by decide), ?_⟩
    have g6 := g5.mut (o := .ins W.c_Doc dx [("_rows", .ref D), ("facts", .non)]) (.inl rfl) ux1
    refine ⟨_, rfl, x, W.c_Doc, dx, _, rfl, upd_same, T.cl_Doc, T.na_Doc_group_facts, Nat.lt_of_lt_of_le (Nat.lt_succ_self 2) (by decide), ?_⟩
    exact k D ws _ _ (g6.mut (.inl rfl) ux1) ux1 hl hdp upd_same
end
end Lw

set_option maxHeartbeats 0
namespace Lw
open PySem PySem.Spec PyProof.Rows L2 VW TL
local macro_rules | `(tactic| walk_at "rdc") => `(tactic| first | assumption | rfl | decide | omega | exact Or.inr ⟨by decide, by decide⟩ | exact ⟨by decide, by decide⟩ | exact ⟨by decide, by decide, by decide⟩ | (show (0 : Int) < _; omega) | (show (0 : Int) < _ ∧ _ < (1073741824 : Int); omega) | (show (-(2 ^ 64) < _ ∧ _ < 2 ^ 64) ∨ (-(2 ^ 64) < _ ∧ _ < 2 ^ 64); omega) | (show (-(2 ^ 64) < _ ∧ _ < 2 ^ 64) ∨ (-(2 ^ 64) < _ ∧ _ < 2 ^ 64); right; split <;> decide) | exact Nat.le_of_ble_eq_true rfl)
local macro_rules | `(tactic| walk_at "rd1") => `(tactic| first | refine ⟨_, rfl, ?_⟩ | refine And.intro (by walk_at "rdc") ?_ | refine ⟨_, _, rfl, rfl, ?_⟩ | refine Or.inl ⟨_, rfl, ?_⟩ | refine Or.inr ⟨_, rfl, ?_⟩ | refine ⟨_, _, _, _, rfl, rfl, sqlO (by first | assumption | exact upd_same), rfl, ?_⟩ | refine ⟨_, _, _, _, rfl, rfl, (by first | assumption | exact upd_same), rfl, ?_⟩)
local macro_rules | `(tactic| walk_at "rd") => `(tactic| repeat (walk_at "rd1"))

abbrev rowF (n : Int) (kd : Str) (ps : Addr) (sg : Str) (mo wi le br : Int) (st : Bool) (inn ma en : Int) (hl : Bool) (sp kn op : Addr) : List (Str × V) :=
  [("number", .int n), ("kind", .str kd), ("parts", .ref ps), ("string", .str sg), ("more", .int mo), ("wide", .int wi), ("lead", .int le), ("breaks", .int br), ("groups", .int 0), ("is_still", .bl st), ("inner", .int inn), ("matters", .int ma), ("ends", .int en), ("has_last", .bl hl), ("steps", .ref sp), ("known", .ref kn), ("opened", .ref op)]
section
variable {n : Int} {kd : Str} {ps : Addr} {sg : Str} {mo wi le br : Int} {st : Bool} {inn ma en : Int} {hl : Bool} {sp kn op : Addr}
theorem lk_number : List.lookup ("number" : Str) (rowF n kd ps sg mo wi le br st inn ma en hl sp kn op) = some (.int n) := by kernel_rfl
theorem lk_kind : List.lookup ("kind" : Str) (rowF n kd ps sg mo wi le br st inn ma en hl sp kn op) = some (.str kd) := by kernel_rfl
theorem lk_parts : List.lookup ("parts" : Str) (rowF n kd ps sg mo wi le br st inn ma en hl sp kn op) = some (.ref ps) := by kernel_rfl
theorem lk_string : List.lookup ("string" : Str) (rowF n kd ps sg mo wi le br st inn ma en hl sp kn op) = some (.str sg) := by kernel_rfl
theorem lk_more : List.lookup ("more" : Str) (rowF n kd ps sg mo wi le br st inn ma en hl sp kn op) = some (.int mo) := by kernel_rfl
theorem lk_wide : List.lookup ("wide" : Str) (rowF n kd ps sg mo wi le br st inn ma en hl sp kn op) = some (.int wi) := by kernel_rfl
theorem lk_lead : List.lookup ("lead" : Str) (rowF n kd ps sg mo wi le br st inn ma en hl sp kn op) = some (.int le) := by kernel_rfl
theorem lk_breaks : List.lookup ("breaks" : Str) (rowF n kd ps sg mo wi le br st inn ma en hl sp kn op) = some (.int br) := by kernel_rfl
theorem lk_groups : List.lookup ("groups" : Str) (rowF n kd ps sg mo wi le br st inn ma en hl sp kn op) = some (.int 0) := by kernel_rfl
theorem lk_is_still : List.lookup ("is_still" : Str) (rowF n kd ps sg mo wi le br st inn ma en hl sp kn op) = some (.bl st) := by kernel_rfl
theorem lk_inner : List.lookup ("inner" : Str) (rowF n kd ps sg mo wi le br st inn ma en hl sp kn op) = some (.int inn) := by kernel_rfl
theorem lk_matters : List.lookup ("matters" : Str) (rowF n kd ps sg mo wi le br st inn ma en hl sp kn op) = some (.int ma) := by kernel_rfl
theorem lk_ends : List.lookup ("ends" : Str) (rowF n kd ps sg mo wi le br st inn ma en hl sp kn op) = some (.int en) := by kernel_rfl
theorem lk_has_last : List.lookup ("has_last" : Str) (rowF n kd ps sg mo wi le br st inn ma en hl sp kn op) = some (.bl hl) := by kernel_rfl
theorem lk_steps : List.lookup ("steps" : Str) (rowF n kd ps sg mo wi le br st inn ma en hl sp kn op) = some (.ref sp) := by kernel_rfl
theorem lk_known : List.lookup ("known" : Str) (rowF n kd ps sg mo wi le br st inn ma en hl sp kn op) = some (.ref kn) := by kernel_rfl
theorem lk_opened : List.lookup ("opened" : Str) (rowF n kd ps sg mo wi le br st inn ma en hl sp kn op) = some (.ref op) := by kernel_rfl
theorem pf_string {z : Str} : putF ("string" : Str) (.str z) (rowF n kd ps sg mo wi le br st inn ma en hl sp kn op) = rowF n kd ps z mo wi le br st inn ma en hl sp kn op := by kernel_rfl
theorem pf_more {z : Int} : putF ("more" : Str) (.int z) (rowF n kd ps sg mo wi le br st inn ma en hl sp kn op) = rowF n kd ps sg z wi le br st inn ma en hl sp kn op := by kernel_rfl
theorem pf_wide {z : Int} : putF ("wide" : Str) (.int z) (rowF n kd ps sg mo wi le br st inn ma en hl sp kn op) = rowF n kd ps sg mo z le br st inn ma en hl sp kn op := by kernel_rfl
theorem pf_lead {z : Int} : putF ("lead" : Str) (.int z) (rowF n kd ps sg mo wi le br st inn ma en hl sp kn op) = rowF n kd ps sg mo wi z br st inn ma en hl sp kn op := by kernel_rfl
theorem pf_breaks {z : Int} : putF ("breaks" : Str) (.int z) (rowF n kd ps sg mo wi le br st inn ma en hl sp kn op) = rowF n kd ps sg mo wi le z st inn ma en hl sp kn op := by kernel_rfl
theorem pf_is_still {z : Bool} : putF ("is_still" : Str) (.bl z) (rowF n kd ps sg mo wi le br st inn ma en hl sp kn op) = rowF n kd ps sg mo wi le br z inn ma en hl sp kn op := by kernel_rfl
theorem pf_inner {z : Int} : putF ("inner" : Str) (.int z) (rowF n kd ps sg mo wi le br st inn ma en hl sp kn op) = rowF n kd ps sg mo wi le br st z ma en hl sp kn op := by kernel_rfl
theorem pf_matters {z : Int} : putF ("matters" : Str) (.int z) (rowF n kd ps sg mo wi le br st inn ma en hl sp kn op) = rowF n kd ps sg mo wi le br st inn z en hl sp kn op := by kernel_rfl
theorem pf_ends {z : Int} : putF ("ends" : Str) (.int z) (rowF n kd ps sg mo wi le br st inn ma en hl sp kn op) = rowF n kd ps sg mo wi le br st inn ma z hl sp kn op := by kernel_rfl
theorem pf_has_last {z : Bool} : putF ("has_last" : Str) (.bl z) (rowF n kd ps sg mo wi le br st inn ma en hl sp kn op) = rowF n kd ps sg mo wi le br st inn ma en z sp kn op := by kernel_rfl
theorem pf_steps {z : Addr} : putF ("steps" : Str) (.ref z) (rowF n kd ps sg mo wi le br st inn ma en hl sp kn op) = rowF n kd ps sg mo wi le br st inn ma en hl z kn op := by kernel_rfl
theorem lk__add_kind : List.lookup ("_add_kind" : Str) (rowF n kd ps sg mo wi le br st inn ma en hl sp kn op) = none := by kernel_rfl
theorem lk__add_steps : List.lookup ("_add_steps" : Str) (rowF n kd ps sg mo wi le br st inn ma en hl sp kn op) = none := by kernel_rfl
theorem lk__add_bases : List.lookup ("_add_bases" : Str) (rowF n kd ps sg mo wi le br st inn ma en hl sp kn op) = none := by kernel_rfl
end
/-- a row of the facts in the view -/
def RowAt (C : Addr) (U : Hp) (x : Addr) (n : Int) (kd : Str) (pl : Addr) : Prop := ∃ dx sg mo wi le br st inn ma en hl sp kn op, U x = some (.ins C dx (rowF n kd pl sg mo wi le br st inn ma en hl sp kn op))
theorem RowAt.mono {C : Addr} {U U' : Hp} {x : Addr} {n : Int} {kd : Str} {pl : Addr} (s : Same U U') (h : RowAt C U x n kd pl) : RowAt C U' x n kd pl := by
  obtain ⟨dx, sg, mo, wi, le, br, st, inn, ma, en, hl, sp, kn, op, h⟩ := h
  exact ⟨dx, sg, mo, wi, le, br, st, inn, ma, en, hl, sp, kn, op, s _ _ h⟩
theorem gr_trans {S S2 : Addr → Prop} {V H V' H' V2 H2 : Hp} (g : Gr S V H V' H') (g2 : Gr S2 V' H' V2 H2) (hS : ∀ b, S2 b → S b ∨ H b = none) : Gr S V H V2 H2 :=
  ⟨g.v.trans g2.v, g2.s, fun b o hb e => g2.k b o (fun z => (hS b z).elim hb fun q => by rw [q] at e; cases e) (g.k b o hb e), fun b e => ⟨(g2.n b (g.n b e).1).1, ((g2.n b (g.n b e).1).2).trans (g.n b e).2⟩⟩
def kindS : Row → Str
  | .text _ => "text" | .line _ => "line" | .hard => "hard" | .cat _ => "cat" | .nest _ _ => "nest" | .align _ => "align" | .group _ => "group"
section
variable {P : Program} {w : World} {K : PySem.W.Frag} {mg : Str → Option Value} {base : Heap} {W : Wd}
theorem sc_Row__add_kind : FnScope ["self", "row"] ["self", "row"] (defScope s_Row__add_kind) := ⟨rfl, rfl, rfl, by decide +kernel, rfl, by decide +kernel, by decide +kernel⟩
def sp_addkind (K : PySem.W.Frag) (C : Addr) : Sp := fun vs H Q _ => ∃ (x : Addr) (v : V) (r : Row) (n k0 : Nat) (pl : Addr) (sg : Str) (mo wi le br : Int) (st : Bool) (inn ma en : Int) (hl : Bool) (sp kn op dx : Addr) (U : Hp), vs = [.ref x, v] ∧ Dp K U v r.data ∧ r.ok k0 ∧
  H x = some (.ins C dx (rowF n (kindS r) pl sg mo wi le br st inn ma en hl sp kn op)) ∧ H kn = some (.dT []) ∧ Same U H ∧ U x = none ∧ U kn = none ∧
  ∀ (H' : Hp) (sg : Str) (mo wi le br : Int) (st : Bool) (inn en : Int), Gr (fun b => b = x ∨ b = kn) U H U H' → H' x = some (.ins C dx (rowF n (kindS r) pl sg mo wi le br st inn ma en hl sp kn op)) → Q .non H'
theorem d_Row__add_kind (T : Txt w K mg W) : MethOk P w K mg base W.c_Row "_add_kind" "Row._add_kind" s_Row__add_kind ["self", "row"] 1 (sp_addkind K W.c_Row) := by
  refine T.f_Row__add_kind.ok sc_Row__add_kind (fun vs H Q E h => ?_) (fun f cdv A outer s H vs Q E hr h => ?_)
  · obtain ⟨x, v, r, n, k0, pl, sg, mo, wi, le, br, st, inn, ma, en, hl, sp, kn, op, dx, U, rfl, _⟩ := h
    rfl
  · obtain ⟨x, v, r, n, k0, pl, sg, mo, wi, le, br, st, inn, ma, en, hl, sp, kn, op, dx, U, rfl, hd, hok, hx, hkn, hU, ux, ukn, k⟩ := h
    refine ⟨_, (pss_one (ps_if (pt_cmpR op_eq (pe_fld (pv 0) rfl) pe_str (nomark _)) (pss_one (ps_fld (pv 0) pe_int rfl)) (pss_one (ps_if (pt_cmpR op_eq (pe_fld (pv 0) rfl) pe_str (nomark _)) (pss_one (ps_fld (pv 0) (pe_ix ix_tup (pv 1) pe_int (fun _ _ => rfl)) rfl)) (pss_one (ps_if (pt_cmpR op_eq (pe_fld (pv 0) rfl) pe_str (nomark _)) (pss_cons (ps_fld (pv 0) (pe_ix ix_tup (pv 1) pe_int (fun _ _ => rfl)) rfl)
      (pss_one (ps_asg2 (pe_callB (id := "len") call_len (by rfl) T.n_len (by decide +kernel) (pa_cons (pe_ix ix_tup (pv 1) pe_int (fun _ _ => rfl)) pa_nil)) (pg_fld (pv 0)) (pg_fld (pv 0))))) (pss_one (ps_if (pt_cmp (pc_dinK (pe_fld (pv 0) rfl) (pe_glob (v := .ref W.LEAF_BREAKS) (by rfl) T.g_LEAF_BREAKS rfl))) (pss_cons (ps_fld (pv 0) (pe_ifExp (pt_cmpR op_eq (pe_fld (pv 0) rfl) pe_str (nomark _)) (pe_ix ix_tup (pv 1) pe_int (fun _ _ => rfl)) pe_str) rfl)
      (pss_cons (ps_fld (pv 0) (pe_callB (id := "len") call_len (by rfl) T.n_len (by decide +kernel) (pa_cons (pe_fld (pv 0) rfl) pa_nil)) rfl)
      (pss_cons (ps_fld (pv 0) (pe_dixK (pe_glob (v := .ref W.LEAF_BREAKS) (by rfl) T.g_LEAF_BREAKS rfl) (pe_fld (pv 0) rfl) (fun _ _ => rfl)) rfl)
      (pss_cons (ps_fld (pv 0) pe_bl rfl)
      (pss_cons (ps_fld (pv 0) pe_int rfl)
      (pss_one (ps_dputX (ks := [.inl (-1), .inl (-1), .inl 0]) (hu_of hr) (pe_fld (pv 0) rfl) (pe_glob (v := .ref W.LONE) (by rfl) T.g_LONE rfl) (pe_glob (v := .ref W.BROKEN_LINE) (by rfl) T.g_BROKEN_LINE rfl)))))))) pss_nil)))))))), ?_⟩
    have nh : ¬ (x = kn) := fun z => by rw [z, hkn] at hx; cases hx
    have g0 : Gr (fun b => b = x ∨ b = kn) U H U H := Gr.refl hU
    cases r with
    | cat ps =>
      refine ⟨_, rfl, x, W.c_Row, dx, _, _, rfl, hx, T.cl_Row, T.na_Row_kind, lk_kind, rfl, _, rfl, ifF (by kernel_rfl) ?_⟩
      refine ⟨_, rfl, x, W.c_Row, dx, _, _, rfl, hx, T.cl_Row, T.na_Row_kind, lk_kind, rfl, _, rfl, ifF (by kernel_rfl) ?_⟩
      refine ⟨_, rfl, x, W.c_Row, dx, _, _, rfl, hx, T.cl_Row, T.na_Row_kind, lk_kind, rfl, _, rfl, ifF (by kernel_rfl) ?_⟩
      obtain ⟨es, nn, kl, kk, ko⟩ := T.k_LEAF_BREAKS
      refine ⟨_, rfl, x, W.c_Row, dx, _, _, rfl, hx, T.cl_Row, T.na_Row_kind, lk_kind, W.LEAF_BREAKS, es, nn, rfl, kl, kk, ko, _, _, rfl, T.ab_cat, false, rfl, iteF ?_⟩
      exact k H sg mo wi le br st inn en g0 hx
    | group j =>
      refine ⟨_, rfl, x, W.c_Row, dx, _, _, rfl, hx, T.cl_Row, T.na_Row_kind, lk_kind, rfl, _, rfl, ifF (by kernel_rfl) ?_⟩
      refine ⟨_, rfl, x, W.c_Row, dx, _, _, rfl, hx, T.cl_Row, T.na_Row_kind, lk_kind, rfl, _, rfl, ifF (by kernel_rfl) ?_⟩
      refine ⟨_, rfl, x, W.c_Row, dx, _, _, rfl, hx, T.cl_Row, T.na_Row_kind, lk_kind, rfl, _, rfl, ifF (by kernel_rfl) ?_⟩
      obtain ⟨es, nn, kl, kk, ko⟩ := T.k_LEAF_BREAKS
      refine ⟨_, rfl, x, W.c_Row, dx, _, _, rfl, hx, T.cl_Row, T.na_Row_kind, lk_kind, W.LEAF_BREAKS, es, nn, rfl, kl, kk, ko, _, _, rfl, T.ab_group, false, rfl, iteF ?_⟩
      exact k H sg mo wi le br st inn en g0 hx
    | align j =>
      refine ⟨_, rfl, x, W.c_Row, dx, _, _, rfl, hx, T.cl_Row, T.na_Row_kind, lk_kind, rfl, _, rfl, ifT (by kernel_rfl) ?_⟩
      refine ⟨_, rfl, x, W.c_Row, dx, _, rfl, hx, T.cl_Row, T.na_Row_inner, Nat.le_of_ble_eq_true rfl, ?_⟩
      rw [pf_inner]
      exact k _ sg mo wi le br st 0 en (g0.mut (.inl (.inl rfl)) ux) upd_same
    | nest m j =>
      cases hd with | tup ht hs =>
      cases hs with | cons h1 hs =>
      cases hs with | cons h2 hs =>
      cases h1
      cases h2
      refine ⟨_, rfl, x, W.c_Row, dx, _, _, rfl, hx, T.cl_Row, T.na_Row_kind, lk_kind, rfl, _, rfl, ifF (by kernel_rfl) ?_⟩
      refine ⟨_, rfl, x, W.c_Row, dx, _, _, rfl, hx, T.cl_Row, T.na_Row_kind, lk_kind, rfl, _, rfl, ifT (by kernel_rfl) ?_⟩
      refine ⟨_, rfl, _, _, _, _, rfl, rfl, sqtS hU ht, atI_nat (j := 1) rfl, _, rfl, x, W.c_Row, dx, _, rfl, hx, T.cl_Row, T.na_Row_more, Nat.le_of_ble_eq_true rfl, ?_⟩
      rw [pf_more]
      exact k _ sg m wi le br st inn en (g0.mut (.inl (.inl rfl)) ux) upd_same
    | text z =>
      cases hd with | tup ht hs =>
      cases hs with | cons h1 hs =>
      cases hs with | cons h2 hs =>
      cases h1
      cases h2
      refine ⟨_, rfl, x, W.c_Row, dx, _, _, rfl, hx, T.cl_Row, T.na_Row_kind, lk_kind, rfl, _, rfl, ifF (by kernel_rfl) ?_⟩
      refine ⟨_, rfl, x, W.c_Row, dx, _, _, rfl, hx, T.cl_Row, T.na_Row_kind, lk_kind, rfl, _, rfl, ifF (by kernel_rfl) ?_⟩
      refine ⟨_, rfl, x, W.c_Row, dx, _, _, rfl, hx, T.cl_Row, T.na_Row_kind, lk_kind, rfl, _, rfl, ifT (by kernel_rfl) ?_⟩
      refine ⟨_, rfl, _, _, _, _, rfl, rfl, sqtS hU ht, atI_nat (j := 1) rfl, _, rfl, x, W.c_Row, dx, _, rfl, hx, T.cl_Row, T.na_Row_string, Nat.le_of_ble_eq_true rfl, ?_⟩
      rw [pf_string]
      have g1 := g0.mut (o := .ins W.c_Row dx (rowF n (kindS (.text z)) pl z mo wi le br st inn ma en hl sp kn op)) (.inl (.inl rfl)) ux
      refine ⟨_, rfl, _, _, _, _, rfl, rfl, sqtS g1.s ht, atI_nat (j := 1) rfl, _, _, rfl, ⟨Nat.le_trans hok.1 (by decide), rfl⟩, ?_⟩
      refine ⟨_, rfl, x, W.c_Row, dx, _, rfl, upd_same, T.cl_Row, T.na_Row_wide, Nat.le_of_ble_eq_true rfl, ?_⟩
      rw [pf_wide]
      refine ⟨_, rfl, x, W.c_Row, dx, _, rfl, upd_same, T.cl_Row, T.na_Row_lead, Nat.le_of_ble_eq_true rfl, ?_⟩
      rw [pf_lead]
      exact k _ z mo _ _ br st inn en ((g1.mut (.inl (.inl rfl)) ux).mut (.inl (.inl rfl)) ux) upd_same
    | line z =>
      cases hd with | tup ht hs =>
      cases hs with | cons h1 hs =>
      cases hs with | cons h2 hs =>
      cases h1
      cases h2
      refine ⟨_, rfl, x, W.c_Row, dx, _, _, rfl, hx, T.cl_Row, T.na_Row_kind, lk_kind, rfl, _, rfl, ifF (by kernel_rfl) ?_⟩
      refine ⟨_, rfl, x, W.c_Row, dx, _, _, rfl, hx, T.cl_Row, T.na_Row_kind, lk_kind, rfl, _, rfl, ifF (by kernel_rfl) ?_⟩
      refine ⟨_, rfl, x, W.c_Row, dx, _, _, rfl, hx, T.cl_Row, T.na_Row_kind, lk_kind, rfl, _, rfl, ifF (by kernel_rfl) ?_⟩
      obtain ⟨es, nn, kl, kk, ko⟩ := T.k_LEAF_BREAKS
      obtain ⟨tk, hk1⟩ := T.k_LEAF_BREAKS_line
      refine ⟨_, rfl, x, W.c_Row, dx, _, _, rfl, hx, T.cl_Row, T.na_Row_kind, lk_kind, W.LEAF_BREAKS, es, nn, rfl, kl, kk, ko, _, _, rfl, hk1, true, rfl, iteT ?_⟩
      refine ⟨_, rfl, x, W.c_Row, dx, _, _, rfl, hx, T.cl_Row, T.na_Row_kind, lk_kind, rfl, _, rfl, ifT (by kernel_rfl) ⟨_, rfl, _, _, _, _, rfl, rfl, sqtS hU ht, atI_nat (j := 1) rfl, _, rfl, x, W.c_Row, dx, _, rfl, hx, T.cl_Row, T.na_Row_string, Nat.le_of_ble_eq_true rfl, ?_⟩⟩
      rw [pf_string]
      refine ⟨_, rfl, x, W.c_Row, dx, _, _, rfl, upd_same, T.cl_Row, T.na_Row_string, lk_string, _, _, rfl, ⟨Nat.le_trans hok.1 (by decide), rfl⟩, _, rfl, x, W.c_Row, dx, _, rfl, upd_same, T.cl_Row, T.na_Row_wide, Nat.le_of_ble_eq_true rfl, ?_⟩
      rw [pf_wide]
      refine ⟨_, rfl, x, W.c_Row, dx, _, _, rfl, upd_same, T.cl_Row, T.na_Row_kind, lk_kind, W.LEAF_BREAKS, es, nn, rfl, kl, kk, ko, _, _, .int 1, rfl, hk1, ⟨tk, rfl⟩, _, rfl, x, W.c_Row, dx, _, rfl, upd_same, T.cl_Row, T.na_Row_breaks, Nat.le_of_ble_eq_true rfl, ?_⟩
      rw [pf_breaks]
      refine ⟨_, rfl, x, W.c_Row, dx, _, rfl, upd_same, T.cl_Row, T.na_Row_is_still, Nat.le_of_ble_eq_true rfl, ?_⟩
      rw [pf_is_still]
      refine ⟨_, rfl, x, W.c_Row, dx, _, rfl, upd_same, T.cl_Row, T.na_Row_ends, Nat.le_of_ble_eq_true rfl, ?_⟩
      rw [pf_ends]
      refine ⟨_, rfl, x, W.c_Row, dx, _, _, rfl, upd_same, T.cl_Row, T.na_Row_known, lk_known, kn, W.LONE, rfl, (by rw [upd_ne (Ne.symm nh), upd_ne (Ne.symm nh), upd_ne (Ne.symm nh), upd_ne (Ne.symm nh), upd_ne (Ne.symm nh)]; exact hkn), rfl, T.q_LONE, ?_⟩
      exact k _ z mo _ le 1 false inn 2 ((((((g0.mut (p := x) (.inl (.inl rfl)) ux).mut (p := x) (.inl (.inl rfl)) ux).mut (p := x) (.inl (.inl rfl)) ux).mut (p := x) (.inl (.inl rfl)) ux).mut (p := x) (.inl (.inl rfl)) ux).mut (.inl (.inr rfl)) ukn) (by rw [upd_ne nh]; exact upd_same)
    | hard =>
      refine ⟨_, rfl, x, W.c_Row, dx, _, _, rfl, hx, T.cl_Row, T.na_Row_kind, lk_kind, rfl, _, rfl, ifF (by kernel_rfl) ?_⟩
      refine ⟨_, rfl, x, W.c_Row, dx, _, _, rfl, hx, T.cl_Row, T.na_Row_kind, lk_kind, rfl, _, rfl, ifF (by kernel_rfl) ?_⟩
      refine ⟨_, rfl, x, W.c_Row, dx, _, _, rfl, hx, T.cl_Row, T.na_Row_kind, lk_kind, rfl, _, rfl, ifF (by kernel_rfl) ?_⟩
      obtain ⟨es, nn, kl, kk, ko⟩ := T.k_LEAF_BREAKS
      obtain ⟨tk, hk1⟩ := T.k_LEAF_BREAKS_hard
      refine ⟨_, rfl, x, W.c_Row, dx, _, _, rfl, hx, T.cl_Row, T.na_Row_kind, lk_kind, W.LEAF_BREAKS, es, nn, rfl, kl, kk, ko, _, _, rfl, hk1, true, rfl, iteT ?_⟩
      refine ⟨_, rfl, x, W.c_Row, dx, _, _, rfl, hx, T.cl_Row, T.na_Row_kind, lk_kind, rfl, _, rfl, ifF (by kernel_rfl) ⟨_, rfl, x, W.c_Row, dx, _, rfl, hx, T.cl_Row, T.na_Row_string, Nat.le_of_ble_eq_true rfl, ?_⟩⟩
      rw [pf_string]
      refine ⟨_, rfl, x, W.c_Row, dx, _, _, rfl, upd_same, T.cl_Row, T.na_Row_string, lk_string, _, _, rfl, ⟨by decide +kernel, rfl⟩, _, rfl, x, W.c_Row, dx, _, rfl, upd_same, T.cl_Row, T.na_Row_wide, Nat.le_of_ble_eq_true rfl, ?_⟩
      rw [pf_wide]
      refine ⟨_, rfl, x, W.c_Row, dx, _, _, rfl, upd_same, T.cl_Row, T.na_Row_kind, lk_kind, W.LEAF_BREAKS, es, nn, rfl, kl, kk, ko, _, _, .int 2, rfl, hk1, ⟨tk, rfl⟩, _, rfl, x, W.c_Row, dx, _, rfl, upd_same, T.cl_Row, T.na_Row_breaks, Nat.le_of_ble_eq_true rfl, ?_⟩
      rw [pf_breaks]
      refine ⟨_, rfl, x, W.c_Row, dx, _, rfl, upd_same, T.cl_Row, T.na_Row_is_still, Nat.le_of_ble_eq_true rfl, ?_⟩
      rw [pf_is_still]
      refine ⟨_, rfl, x, W.c_Row, dx, _, rfl, upd_same, T.cl_Row, T.na_Row_ends, Nat.le_of_ble_eq_true rfl, ?_⟩
      rw [pf_ends]
      refine ⟨_, rfl, x, W.c_Row, dx, _, _, rfl, upd_same, T.cl_Row, T.na_Row_known, lk_known, kn, W.LONE, rfl, (by rw [upd_ne (Ne.symm nh), upd_ne (Ne.symm nh), upd_ne (Ne.symm nh), upd_ne (Ne.symm nh), upd_ne (Ne.symm nh)]; exact hkn), rfl, T.q_LONE, ?_⟩
      exact k _ "" mo _ le 2 false inn 2 ((((((g0.mut (p := x) (.inl (.inl rfl)) ux).mut (p := x) (.inl (.inl rfl)) ux).mut (p := x) (.inl (.inl rfl)) ux).mut (p := x) (.inl (.inl rfl)) ux).mut (p := x) (.inl (.inl rfl)) ux).mut (.inl (.inr rfl)) ukn) (by rw [upd_ne nh]; exact upd_same)
end
end Lw

set_option maxHeartbeats 0
namespace Lw
open PySem PySem.Spec PyProof.Rows L2 VW TL
local macro_rules | `(tactic| walk_at "rdc") => `(tactic| first | assumption | rfl | decide | omega | exact Or.inr ⟨by decide, by decide⟩ | exact ⟨by decide, by decide⟩ | exact ⟨by decide, by decide, by decide⟩ | (show (0 : Int) < _; omega) | (show (0 : Int) < _ ∧ _ < (1073741824 : Int); omega) | (show (-(2 ^ 64) < _ ∧ _ < 2 ^ 64) ∨ (-(2 ^ 64) < _ ∧ _ < 2 ^ 64); omega) | (show (-(2 ^ 64) < _ ∧ _ < 2 ^ 64) ∨ (-(2 ^ 64) < _ ∧ _ < 2 ^ 64); right; split <;> decide) | exact Nat.le_of_ble_eq_true rfl)
local macro_rules | `(tactic| walk_at "rd1") => `(tactic| first | refine ⟨_, rfl, ?_⟩ | refine And.intro (by walk_at "rdc") ?_ | refine ⟨_, _, rfl, rfl, ?_⟩ | refine Or.inl ⟨_, rfl, ?_⟩ | refine Or.inr ⟨_, rfl, ?_⟩ | refine ⟨_, _, _, _, rfl, rfl, sqlO (by first | assumption | exact upd_same), rfl, ?_⟩ | refine ⟨_, _, _, _, rfl, rfl, (by first | assumption | exact upd_same), rfl, ?_⟩)
local macro_rules | `(tactic| walk_at "rd") => `(tactic| repeat (walk_at "rd1"))

section
variable {P : Program} {w : World} {K : PySem.W.Frag} {mg : Str → Option Value} {base : Heap} {W : Wd}
/-- some row of the facts -/
def SomeRow (C : Addr) (U : Hp) (a : Addr) : Prop := ∃ n kd pl, RowAt C U a n kd pl
theorem SomeRow.mono {C : Addr} {U U' : Hp} {a : Addr} (s : Same U U') (h : SomeRow C U a) : SomeRow C U' a := by
  obtain ⟨n, kd, pl, h⟩ := h
  exact ⟨n, kd, pl, h.mono s⟩
theorem vref_mem {ps : List Addr} {v : V} (h : v ∈ ps.map V.ref) : ∃ a, v = .ref a ∧ a ∈ ps := by
  obtain ⟨a, ha, rfl⟩ := List.mem_map.mp h
  exact ⟨a, rfl, ha⟩
theorem sc_Row__add_steps : FnScope ["self", "signs", "is_ended", "steps", "part"] ["self"] (defScope s_Row__add_steps) := ⟨rfl, rfl, rfl, by decide +kernel, rfl, by decide +kernel, by decide +kernel⟩
def sp_addsteps (K : PySem.W.Frag) (C : Addr) : Sp := fun vs H Q _ => ∃ (x : Addr) (n : Int) (kd : Str) (pl : Addr) (sg : Str) (mo wi le br : Int) (st : Bool) (inn ma en : Int) (hl : Bool) (sp kn op dx : Addr) (ps : List Addr) (U : Hp), vs = [.ref x] ∧
  H x = some (.ins C dx (rowF n kd pl sg mo wi le br st inn ma en hl sp kn op)) ∧ SqL K U pl (ps.map V.ref) ∧ (∀ a ∈ ps, SomeRow C U a) ∧ ps.length ≤ 200 ∧ Same U H ∧ U x = none ∧
  ∀ (H' : Hp) (le : Int) (hl : Bool) (sp : Addr), Gr (fun b => b = x) U H U H' → H' x = some (.ins C dx (rowF n kd pl sg mo wi le br st inn ma en hl sp kn op)) → Q .non H'
theorem d_Row__add_steps (T : Txt w K mg W) : MethOk P w K mg base W.c_Row "_add_steps" "Row._add_steps" s_Row__add_steps ["self"] 1 (sp_addsteps K W.c_Row) := by
  refine T.f_Row__add_steps.ok sc_Row__add_steps (fun vs H Q E h => ?_) (fun f cdv A outer s H vs Q E hr h => ?_)
  · obtain ⟨x, n, kd, pl, sg, mo, wi, le, br, st, inn, ma, en, hl, sp, kn, op, dx, ps, U, rfl, _⟩ := h
    rfl
  · obtain ⟨x, n, kd, pl, sg, mo, wi, le, br, st, inn, ma, en, hl, sp, kn, op, dx, ps, U, rfl, hx, hpl, hps, h200, hU, ux, k⟩ := h
    refine ⟨_, (pss_cons (ps_set (i := 1) sc_Row__add_steps.nd rfl (Or.inl rfl) pe_int)
      (pss_cons (ps_set (i := 2) sc_Row__add_steps.nd rfl (Or.inl rfl) pe_bl)
      (pss_cons (ps_set (i := 3) sc_Row__add_steps.nd rfl (Or.inl rfl) (pe_lst pa_nil))
      (pss_cons (ps_for PassesOwn.never rfl (pi_list (pe_revL (pe_fld (pv 0) rfl))) (pg_name (i := 4) sc_Row__add_steps.nd rfl (Or.inl rfl))
      (pss_cons (ps_expr (pe_bm PySem.F.plainAttrs_list PySem.F.slot_list_append PySem.F.type_list_append mt_append (pv 3) (pa_cons (pe_tup (pa_cons (pv 4) (pa_cons (pe_fld (pv 4) rfl) (pa_cons (pv 1) (pa_cons (pv 2) pa_nil))))) pa_nil)))
      (Evl.pss_cut (ps_if (PW.pt (pw_and (pt_val (pe_fld (pv 4) rfl)) (pw_and1 (pt_not (pt_val (pv 2)))))) (pss_one (ps_fld (pv 0) pe_bl rfl)) pss_nil)
      (pss_one (ps_if (pt_truth (pe_fld (pv 4) rfl) (by intro _; rfl)) (pss_cons (ps_set (i := 1) sc_Row__add_steps.nd rfl (Or.inl rfl) (pe_fld (pv 4) rfl))
      (pss_one (ps_set (i := 2) sc_Row__add_steps.nd rfl (Or.inl rfl) pe_bl))) (pss_one (ps_aug (i := 1) sc_Row__add_steps.nd rfl (Or.inl rfl) (pe_fld (pv 4) rfl) ip_add)))))))
      (pss_cons (ps_expr (pe_bm0 PySem.F.plainAttrs_list PySem.F.slot_list_reverse PySem.F.type_list_reverse mt_reverse (pv 3)))
      (pss_cons (ps_fld (pv 0) (pv 1) rfl)
      (pss_one (ps_fld (pv 0) (pv 3) rfl)))))))), ?_⟩
    refine ⟨Nat.le_of_ble_eq_true rfl, fun L hL => ?_⟩
    have nLx : L ≠ x := fun z => by rw [z, hx] at hL; cases hL
    have g0 : Gr (fun b => b = x) U H U (upd H L (.lst [])) := (Gr.refl hU).newH hL
    have x0 : (upd H L (.lst [])) x = some (.ins W.c_Row dx (rowF n kd pl sg mo wi le br st inn ma en hl sp kn op)) := by rw [upd_ne (Ne.symm nLx)]; exact hx
    have l0 : (upd H L (.lst [])) L = some (.lst []) := upd_same
    generalize upd H L (.lst []) = H1 at g0 x0 l0 ⊢
    refine ⟨_, rfl, x, W.c_Row, dx, _, _, rfl, x0, T.cl_Row, T.na_Row_parts, lk_parts, pl, _, rfl, sqlS g0.s hpl, fun R hR => ?_⟩
    have nRL : R ≠ L := fun z => by rw [z, l0] at hR; cases hR
    have nRx : R ≠ x := fun z => by rw [z, x0] at hR; cases hR
    have g1 := g0.newH (o := .lst (ps.map V.ref).reverse) hR
    have r1 : (upd H1 R (.lst (ps.map V.ref).reverse)) R = some (.lst (ps.map V.ref).reverse) := upd_same
    have x1 : (upd H1 R (.lst (ps.map V.ref).reverse)) x = some (.ins W.c_Row dx (rowF n kd pl sg mo wi le br st inn ma en hl sp kn op)) := by rw [upd_ne (Ne.symm nRx)]; exact x0
    have l1 : (upd H1 R (.lst (ps.map V.ref).reverse)) L = some (.lst []) := by rw [upd_ne (Ne.symm nRL)]; exact l0
    have hRU : U R = none := g0.s.free hR
    have hLU : U L = none := hU.free hL
    generalize upd H1 R (.lst (ps.map V.ref).reverse) = H2 at g1 r1 x1 l1 ⊢
    refine ⟨R, rfl, ⟨_, sqlO r1⟩, ?_⟩
    refine for_list (xs := (ps.map V.ref).reverse) (fun i σ H' => ∃ (sgn : Int) (ie hl : Bool) (v4 : Option V) (zs : List V), σ = [some (.ref x), some (.int sgn), some (.bl ie), some (.ref L), v4] ∧ Gr (fun b => b = x) U H U H' ∧ H' R = some (.lst (ps.map V.ref).reverse) ∧ H' L = some (.lst zs) ∧ zs.length = i ∧ H' x = some (.ins W.c_Row dx (rowF n kd pl sg mo wi le br st inn ma en hl sp kn op)))
      ⟨0, false, hl, none, [], rfl, g1, r1, l1, rfl, x1⟩ (fun i σ H' _ ⟨_, _, _, _, _, _, _, r, _⟩ => sqlO r) ?_ ?_
    · rintro i y σ H3 hy ⟨sgn, ie, hl, v4, zs, rfl, g, r, l, lz, hx3⟩
      obtain ⟨a, rfl, ha⟩ := vref_mem (List.mem_reverse.mp (List.mem_of_getElem? hy))
      obtain ⟨na, kda, pla, dxa, sga, moa, wia, lea, bra, sta, inna, maa, ena, hla, spa, kna, opa, hA⟩ := hps a ha
      have hA3 := g.s _ _ hA
      have hi := (List.getElem?_eq_some_iff.mp hy).1
      rw [List.length_reverse, List.length_map] at hi
      refine ⟨_, rfl, .inl ⟨rfl, _, sqlO l⟩, _, rfl, _, rfl, a, W.c_Row, dxa, _, _, rfl, hA3, T.cl_Row, T.na_Row_is_still, lk_is_still, _, rfl, _, rfl, Nat.le_of_ble_eq_true rfl, fun t ht => ?_⟩
      have nLt : L ≠ t := ne_of_none l ht
      refine ⟨L, zs, _, rfl, rfl, (by rw [upd_ne nLt]; exact l), Nat.lt_of_le_of_lt (show zs.length ≤ 200 by omega) (by decide), ?_⟩
      have g4 := (g.newH (o := .tup [.ref a, .bl sta, .int sgn, .bl ie]) ht).mut (p := L) (o := .lst (zs ++ [.ref t])) (.inr hL) hLU
      have l4 : (upd (upd H3 t (.tup [.ref a, .bl sta, .int sgn, .bl ie])) L (.lst (zs ++ [.ref t]))) L = some (.lst (zs ++ [.ref t])) := upd_same
      have r4 : (upd (upd H3 t (.tup [.ref a, .bl sta, .int sgn, .bl ie])) L (.lst (zs ++ [.ref t]))) R = some (.lst (ps.map V.ref).reverse) := by rw [upd_ne nRL, upd_ne (ne_of_none r ht)]; exact r
      have x4 : (upd (upd H3 t (.tup [.ref a, .bl sta, .int sgn, .bl ie])) L (.lst (zs ++ [.ref t]))) x = some (.ins W.c_Row dx (rowF n kd pl sg mo wi le br st inn ma en hl sp kn op)) := by rw [upd_ne (Ne.symm nLx), upd_ne (ne_of_none hx3 ht)]; exact hx3
      have hlen : (zs ++ [V.ref t]).length = i + 1 := by rw [List.length_append, lz]; rfl
      generalize upd (upd H3 t (.tup [.ref a, .bl sta, .int sgn, .bl ie])) L (.lst (zs ++ [.ref t])) = H4 at g4 l4 r4 x4 ⊢
      clear g r l hx3 hA3
      refine ⟨fun σ' H' => ∃ hl : Bool, σ' = [some (.ref x), some (.int sgn), some (.bl ie), some (.ref L), some (.ref a)] ∧ Gr (fun b => b = x) U H U H' ∧ H' R = some (.lst (ps.map V.ref).reverse) ∧ H' L = some (.lst (zs ++ [.ref t])) ∧ H' x = some (.ins W.c_Row dx (rowF n kd pl sg mo wi le br st inn ma en hl sp kn op)), ?_, ?_⟩
      · have hA4 := g4.s _ _ hA
        refine ⟨_, rfl, a, W.c_Row, dxa, _, _, rfl, hA4, T.cl_Row, T.na_Row_has_last, lk_has_last, hla, rfl, ?_⟩
        cases hla with
        | false => exact iteF (iteF ⟨hl, rfl, g4, r4, l4, x4⟩)
        | true =>
          refine iteT ⟨_, rfl, ie, rfl, ?_⟩
          cases ie with
          | true => exact iteF ⟨hl, rfl, g4, r4, l4, x4⟩
          | false =>
            refine iteT ⟨_, rfl, x, W.c_Row, dx, _, rfl, x4, T.cl_Row, T.na_Row_has_last, Nat.le_of_ble_eq_true rfl, ?_⟩
            rw [pf_has_last]
            exact ⟨true, rfl, g4.mut (.inl rfl) ux, by rw [upd_ne nRx]; exact r4, by rw [upd_ne nLx]; exact l4, upd_same⟩
      · rintro σ' H5 ⟨hl, rfl, g5, r5, l5, x5⟩
        have hA5 := g5.s _ _ hA
        refine ⟨_, rfl, a, W.c_Row, dxa, _, _, rfl, hA5, T.cl_Row, T.na_Row_breaks, lk_breaks, _, rfl, ?_⟩
        refine ite2 (fun _ => ?_) (fun _ => ?_)
        · refine ⟨_, rfl, a, W.c_Row, dxa, _, _, rfl, hA5, T.cl_Row, T.na_Row_lead, lk_lead, ?_⟩
          exact ⟨_, _, hl, _, _, rfl, g5, r5, l5, hlen, x5⟩
        · refine ⟨_, rfl, _, rfl, a, W.c_Row, dxa, _, _, rfl, hA5, T.cl_Row, T.na_Row_lead, lk_lead, _, _, rfl, rfl, ?_⟩
          exact ⟨_, _, hl, _, _, rfl, g5, r5, l5, hlen, x5⟩
    · rintro σ H3 ⟨sgn, ie, hl, v4, zs, rfl, g, r, l, lz, hx3⟩
      refine ⟨_, rfl, .inl ⟨rfl, _, sqlO l⟩, L, zs, rfl, rfl, l, ?_⟩
      have g4 := g.mut (p := L) (o := .lst zs.reverse) (.inr hL) hLU
      refine ⟨_, rfl, _, rfl, x, W.c_Row, dx, _, rfl, (by rw [upd_ne (Ne.symm nLx)]; exact hx3), T.cl_Row, T.na_Row_lead, Nat.le_of_ble_eq_true rfl, ?_⟩
      rw [pf_lead]
      refine ⟨_, rfl, _, rfl, x, W.c_Row, dx, _, rfl, upd_same, T.cl_Row, T.na_Row_steps, Nat.le_of_ble_eq_true rfl, ?_⟩
      rw [pf_steps]
      exact k _ sgn hl L ((g4.mut (.inl rfl) ux).mut (.inl rfl) ux) upd_same
end
end Lw

set_option maxHeartbeats 0
namespace Lw
open PySem PySem.Spec PyProof.Rows L2 VW TL
local macro_rules | `(tactic| walk_at "rdc") => `(tactic| first | assumption | rfl | decide | omega | exact Or.inr ⟨by decide, by decide⟩ | exact ⟨by decide, by decide⟩ | exact ⟨by decide, by decide, by decide⟩ | (show (0 : Int) < _; omega) | (show (0 : Int) < _ ∧ _ < (1073741824 : Int); omega) | (show (-(2 ^ 64) < _ ∧ _ < 2 ^ 64) ∨ (-(2 ^ 64) < _ ∧ _ < 2 ^ 64); omega) | (show (-(2 ^ 64) < _ ∧ _ < 2 ^ 64) ∨ (-(2 ^ 64) < _ ∧ _ < 2 ^ 64); right; split <;> decide) | exact Nat.le_of_ble_eq_true rfl)
local macro_rules | `(tactic| walk_at "rd1") => `(tactic| first | refine ⟨_, rfl, ?_⟩ | refine And.intro (by walk_at "rdc") ?_ | refine ⟨_, _, rfl, rfl, ?_⟩ | refine Or.inl ⟨_, rfl, ?_⟩ | refine Or.inr ⟨_, rfl, ?_⟩ | refine ⟨_, _, _, _, rfl, rfl, sqlO (by first | assumption | exact upd_same), rfl, ?_⟩ | refine ⟨_, _, _, _, rfl, rfl, (by first | assumption | exact upd_same), rfl, ?_⟩)
local macro_rules | `(tactic| walk_at "rd") => `(tactic| repeat (walk_at "rd1"))

section
variable {P : Program} {w : World} {K : PySem.W.Frag} {mg : Str → Option Value} {base : Heap} {W : Wd}
theorem sc_Row__add_bases : FnScope ["self", "matters", "at", "inner", "part"] ["self"] (defScope s_Row__add_bases) := ⟨rfl, rfl, rfl, by decide +kernel, rfl, by decide +kernel, by decide +kernel⟩
def sp_addbases (K : PySem.W.Frag) (C : Addr) : Sp := fun vs H Q _ => ∃ (x : Addr) (n : Int) (kd : Str) (pl : Addr) (sg : Str) (mo wi le br : Int) (st : Bool) (inn ma en : Int) (hl : Bool) (sp kn op dx : Addr) (ps : List Addr) (U : Hp), vs = [.ref x] ∧
  H x = some (.ins C dx (rowF n kd pl sg mo wi le br st inn ma en hl sp kn op)) ∧ SqL K U pl (ps.map V.ref) ∧ (∀ a ∈ ps, SomeRow C U a) ∧ ps.length ≤ 200 ∧ Same U H ∧ U x = none ∧
  ∀ (H' : Hp) (ma en : Int) (hl : Bool), Gr (fun b => b = x) U H U H' → H' x = some (.ins C dx (rowF n kd pl sg mo wi le br st inn ma en hl sp kn op)) → Q .non H'
theorem d_Row__add_bases (T : Txt w K mg W) : MethOk P w K mg base W.c_Row "_add_bases" "Row._add_bases" s_Row__add_bases ["self"] 1 (sp_addbases K W.c_Row) := by
  refine T.f_Row__add_bases.ok sc_Row__add_bases (fun vs H Q E h => ?_) (fun f cdv A outer s H vs Q E hr h => ?_)
  · obtain ⟨x, n, kd, pl, sg, mo, wi, le, br, st, inn, ma, en, hl, sp, kn, op, dx, ps, U, rfl, _⟩ := h
    rfl
  · obtain ⟨x, n, kd, pl, sg, mo, wi, le, br, st, inn, ma, en, hl, sp, kn, op, dx, ps, U, rfl, hx, hpl, hps, h200, hU, ux, k⟩ := h
    refine ⟨_, (pss_cons (ps_set (i := 1) sc_Row__add_bases.nd rfl (Or.inl rfl) pe_int)
      (pss_cons (ps_set (i := 2) sc_Row__add_bases.nd rfl (Or.inl rfl) pe_int)
      (pss_cons (ps_set (i := 3) sc_Row__add_bases.nd rfl (Or.inl rfl) (pe_op op_add pe_int (pe_fld (pv 0) rfl)))
      (pss_cons (ps_for PassesOwn.never rfl (pi_list (pe_fld (pv 0) rfl)) (pg_name (i := 4) sc_Row__add_bases.nd rfl (Or.inl rfl))
      (Evl.pss_cut (ps_if (pt_truth (pe_fld (pv 4) rfl) (by intro _; rfl)) (pss_one (ps_aug (i := 1) sc_Row__add_bases.nd rfl (Or.inl rfl) (pe_op op_or (pe_ifExp (pt_truth (pe_op op_and (pe_fld (pv 4) rfl) pe_int) (by intro _; rfl)) (pv 2) pe_int) (pe_ifExp (pt_truth (pe_op op_and (pe_fld (pv 4) rfl) pe_int) (by intro _; rfl)) (pv 3) pe_int)) iop_or)) pss_nil)
      (pss_one (ps_if (pt_cmpR op_ne (pe_fld (pv 4) rfl) pe_int (nomark _)) (pss_one (ps_set (i := 2) sc_Row__add_bases.nd rfl (Or.inl rfl) (pe_ifExp (pt_cmpR op_eq (pe_fld (pv 4) rfl) pe_int (nomark _)) (pv 3) (pe_op op_or (pv 2) (pv 3))))) pss_nil))))
      (Evl.pss_cut (ps_if (PW.pt (pw_and (pt_cmpR op_eq (pe_fld (pv 0) rfl) pe_str (nomark _)) (pw_and (pt_cmpR op_ne (pe_fld (pv 0) rfl) (pe_globI T.g_HARD) (nomark _)) (pw_and1 (pt_cmpR op_le (pe_fld (pv 0) rfl) (pe_globI T.g_MOST_WIDTH) (nomark _)))))) (pss_cons (ps_aug (i := 1) sc_Row__add_bases.nd rfl (Or.inl rfl) pe_int iop_or)
      (pss_cons (ps_aug (i := 2) sc_Row__add_bases.nd rfl (Or.inl rfl) pe_int iop_or)
      (pss_one (ps_fld (pv 0) pe_bl rfl)))) pss_nil)
      (pss_cons (ps_fld (pv 0) (pv 1) rfl)
      (pss_one (ps_fld (pv 0) (pv 2) rfl)))))))), ?_⟩
    have g0 : Gr (fun b => b = x) U H U H := Gr.refl hU
    refine ⟨_, rfl, x, W.c_Row, dx, _, _, rfl, hx, T.cl_Row, T.na_Row_inner, lk_inner, _, _, rfl, rfl, ?_⟩
    refine ⟨_, rfl, x, W.c_Row, dx, _, _, rfl, hx, T.cl_Row, T.na_Row_parts, lk_parts, pl, rfl, ⟨_, sqlS hU hpl⟩, ?_⟩
    refine for_list (xs := ps.map V.ref) (fun i σ H' => H' = H ∧ ∃ (mt at_ : Int) (v4 : Option V), σ = [some (.ref x), some (.int mt), some (.int at_), some (.int (1 + inn)), v4]) ⟨rfl, 0, 1, none, rfl⟩ (fun i σ H' _ z => by rw [z.1]; exact sqlS hU hpl) ?_ ?_
    · rintro i y σ H3 hy ⟨rfl, mt, at_, v4, rfl⟩
      obtain ⟨a, rfl, ha⟩ := vref_mem (List.mem_of_getElem? hy)
      obtain ⟨na, kda, pla, dxa, sga, moa, wia, lea, bra, sta, inna, maa, ena, hla, spa, kna, opa, hA⟩ := hps a ha
      have hA3 := hU _ _ hA
      refine ⟨fun σ' H' => H' = H3 ∧ ∃ (mt at_ : Int), σ' = [some (.ref x), some (.int mt), some (.int at_), some (.int (1 + inn)), some (.ref a)], ?_, ?_⟩
      · refine ⟨_, rfl, a, W.c_Row, dxa, _, _, rfl, hA3, T.cl_Row, T.na_Row_matters, lk_matters, _, rfl, ?_⟩
        refine ite2 (fun _ => ?_) (fun _ => ?_)
        · refine ⟨_, rfl, ?_⟩
          refine ⟨_, rfl, a, W.c_Row, dxa, _, _, rfl, hA3, T.cl_Row, T.na_Row_matters, lk_matters, _, _, rfl, rfl, _, rfl, ?_⟩
          refine ite2 (fun _ => ⟨_, rfl, ?_⟩) (fun _ => ?_)
          all_goals refine ⟨_, rfl, a, W.c_Row, dxa, _, _, rfl, hA3, T.cl_Row, T.na_Row_matters, lk_matters, _, _, rfl, rfl, _, rfl, ?_⟩
          all_goals refine ite2 (fun _ => ⟨_, rfl, ?_⟩) (fun _ => ?_)
          all_goals exact ⟨_, _, rfl, rfl, _, _, rfl, rfl, rfl, _, _, rfl⟩
        · exact ⟨rfl, mt, at_, rfl⟩
      · rintro σ' H4 ⟨rfl, mt, at_, rfl⟩
        refine ⟨_, rfl, a, W.c_Row, dxa, _, _, rfl, hA3, T.cl_Row, T.na_Row_ends, lk_ends, rfl, _, rfl, ?_⟩
        refine ite2 (fun _ => ?_) (fun _ => ?_)
        · refine ⟨_, rfl, a, W.c_Row, dxa, _, _, rfl, hA3, T.cl_Row, T.na_Row_ends, lk_ends, rfl, _, rfl, ?_⟩
          refine ite2 (fun _ => ?_) (fun _ => ?_)
          · exact ⟨_, rfl, rfl, mt, _, _, rfl⟩
          · exact ⟨_, rfl, _, rfl, _, _, rfl, rfl, rfl, mt, _, _, rfl⟩
        · exact ⟨rfl, mt, at_, _, rfl⟩
    · rintro σ H3 ⟨rfl, mt, at_, v4, rfl⟩
      refine ⟨fun σ' H' => ∃ (mt at_ : Int) (hl : Bool), σ' = [some (.ref x), some (.int mt), some (.int at_), some (.int (1 + inn)), v4] ∧ Gr (fun b => b = x) U H3 U H' ∧ H' x = some (.ins W.c_Row dx (rowF n kd pl sg mo wi le br st inn ma en hl sp kn op)), ?_, ?_⟩
      · refine ⟨_, rfl, x, W.c_Row, dx, _, _, rfl, hx, T.cl_Row, T.na_Row_kind, lk_kind, rfl, _, rfl, ?_⟩
        refine ite2 (fun _ => ?_) (fun _ => iteF ⟨mt, at_, hl, rfl, g0, hx⟩)
        refine ⟨_, rfl, x, W.c_Row, dx, _, _, rfl, hx, T.cl_Row, T.na_Row_breaks, lk_breaks, rfl, _, rfl, ?_⟩
        refine ite2 (fun _ => ?_) (fun _ => iteF ⟨mt, at_, hl, rfl, g0, hx⟩)
        refine ⟨_, rfl, x, W.c_Row, dx, _, _, rfl, hx, T.cl_Row, T.na_Row_wide, lk_wide, _, _, rfl, rfl, _, rfl, ?_⟩
        refine ite2 (fun _ => ?_) (fun _ => ⟨mt, at_, hl, rfl, g0, hx⟩)
        refine ⟨_, rfl, _, _, rfl, rfl, _, rfl, _, _, rfl, rfl, ?_⟩
        refine ⟨_, rfl, x, W.c_Row, dx, _, rfl, hx, T.cl_Row, T.na_Row_has_last, Nat.le_of_ble_eq_true rfl, ?_⟩
        rw [pf_has_last]
        exact ⟨_, _, true, rfl, g0.mut (.inl rfl) ux, upd_same⟩
      · rintro σ' H4 ⟨mt, at_, hl, rfl, g, hx4⟩
        refine ⟨_, rfl, _, rfl, x, W.c_Row, dx, _, rfl, hx4, T.cl_Row, T.na_Row_matters, Nat.le_of_ble_eq_true rfl, ?_⟩
        rw [pf_matters]
        refine ⟨_, rfl, _, rfl, x, W.c_Row, dx, _, rfl, upd_same, T.cl_Row, T.na_Row_ends, Nat.le_of_ble_eq_true rfl, ?_⟩
        rw [pf_ends]
        exact k _ mt at_ hl ((g.mut (.inl rfl) ux).mut (.inl rfl) ux) upd_same
end
end Lw

set_option maxHeartbeats 0
namespace Lw
open PySem PySem.Spec PyProof.Rows L2 VW TL
local macro_rules | `(tactic| walk_at "rdc") => `(tactic| first | assumption | rfl | decide | omega | exact Or.inr ⟨by decide, by decide⟩ | exact ⟨by decide, by decide⟩ | exact ⟨by decide, by decide, by decide⟩ | (show (0 : Int) < _; omega) | (show (0 : Int) < _ ∧ _ < (1073741824 : Int); omega) | (show (-(2 ^ 64) < _ ∧ _ < 2 ^ 64) ∨ (-(2 ^ 64) < _ ∧ _ < 2 ^ 64); omega) | (show (-(2 ^ 64) < _ ∧ _ < 2 ^ 64) ∨ (-(2 ^ 64) < _ ∧ _ < 2 ^ 64); right; split <;> decide) | exact Nat.le_of_ble_eq_true rfl)
local macro_rules | `(tactic| walk_at "rd1") => `(tactic| first | refine ⟨_, rfl, ?_⟩ | refine And.intro (by walk_at "rdc") ?_ | refine ⟨_, _, rfl, rfl, ?_⟩ | refine Or.inl ⟨_, rfl, ?_⟩ | refine Or.inr ⟨_, rfl, ?_⟩ | refine ⟨_, _, _, _, rfl, rfl, sqlO (by first | assumption | exact upd_same), rfl, ?_⟩ | refine ⟨_, _, _, _, rfl, rfl, (by first | assumption | exact upd_same), rfl, ?_⟩)
local macro_rules | `(tactic| walk_at "rd") => `(tactic| repeat (walk_at "rd1"))

section
variable {n : Int} {kd : Str} {ps : Addr} {sg : Str} {mo : Int} {wi : Int} {le : Int} {br : Int} {gr : Int} {st : Bool} {inn : Int} {ma : Int} {en : Int} {hl : Bool} {sp : Addr} {kn : Addr} {op : Addr}
theorem nf_number : putF ("number" : Str) (.int n : V) ([] : List (Str × V)) = ([("number", .int n)] : List (Str × V)) := by kernel_rfl
theorem nf_kind : putF ("kind" : Str) (.str kd : V) ([("number", .int n)] : List (Str × V)) = ([("number", .int n), ("kind", .str kd)] : List (Str × V)) := by kernel_rfl
theorem nf_parts : putF ("parts" : Str) (.ref ps : V) ([("number", .int n), ("kind", .str kd)] : List (Str × V)) = ([("number", .int n), ("kind", .str kd), ("parts", .ref ps)] : List (Str × V)) := by kernel_rfl
theorem nf_string : putF ("string" : Str) (.str sg : V) ([("number", .int n), ("kind", .str kd), ("parts", .ref ps)] : List (Str × V)) = ([("number", .int n), ("kind", .str kd), ("parts", .ref ps), ("string", .str sg)] : List (Str × V)) := by kernel_rfl
theorem nf_more : putF ("more" : Str) (.int mo : V) ([("number", .int n), ("kind", .str kd), ("parts", .ref ps), ("string", .str sg)] : List (Str × V)) = ([("number", .int n), ("kind", .str kd), ("parts", .ref ps), ("string", .str sg), ("more", .int mo)] : List (Str × V)) := by kernel_rfl
theorem nf_wide : putF ("wide" : Str) (.int wi : V) ([("number", .int n), ("kind", .str kd), ("parts", .ref ps), ("string", .str sg), ("more", .int mo)] : List (Str × V)) = ([("number", .int n), ("kind", .str kd), ("parts", .ref ps), ("string", .str sg), ("more", .int mo), ("wide", .int wi)] : List (Str × V)) := by kernel_rfl
theorem nf_lead : putF ("lead" : Str) (.int le : V) ([("number", .int n), ("kind", .str kd), ("parts", .ref ps), ("string", .str sg), ("more", .int mo), ("wide", .int wi)] : List (Str × V)) = ([("number", .int n), ("kind", .str kd), ("parts", .ref ps), ("string", .str sg), ("more", .int mo), ("wide", .int wi), ("lead", .int le)] : List (Str × V)) := by kernel_rfl
theorem nf_breaks : putF ("breaks" : Str) (.int br : V) ([("number", .int n), ("kind", .str kd), ("parts", .ref ps), ("string", .str sg), ("more", .int mo), ("wide", .int wi), ("lead", .int le)] : List (Str × V)) = ([("number", .int n), ("kind", .str kd), ("parts", .ref ps), ("string", .str sg), ("more", .int mo), ("wide", .int wi), ("lead", .int le), ("breaks", .int br)] : List (Str × V)) := by kernel_rfl
theorem nf_groups : putF ("groups" : Str) (.int gr : V) ([("number", .int n), ("kind", .str kd), ("parts", .ref ps), ("string", .str sg), ("more", .int mo), ("wide", .int wi), ("lead", .int le), ("breaks", .int br)] : List (Str × V)) = ([("number", .int n), ("kind", .str kd), ("parts", .ref ps), ("string", .str sg), ("more", .int mo), ("wide", .int wi), ("lead", .int le), ("breaks", .int br), ("groups", .int gr)] : List (Str × V)) := by kernel_rfl
theorem nf_is_still : putF ("is_still" : Str) (.bl st : V) ([("number", .int n), ("kind", .str kd), ("parts", .ref ps), ("string", .str sg), ("more", .int mo), ("wide", .int wi), ("lead", .int le), ("breaks", .int br), ("groups", .int gr)] : List (Str × V)) = ([("number", .int n), ("kind", .str kd), ("parts", .ref ps), ("string", .str sg), ("more", .int mo), ("wide", .int wi), ("lead", .int le), ("breaks", .int br), ("groups", .int gr), ("is_still", .bl st)] : List (Str × V)) := by kernel_rfl
theorem nf_inner : putF ("inner" : Str) (.int inn : V) ([("number", .int n), ("kind", .str kd), ("parts", .ref ps), ("string", .str sg), ("more", .int mo), ("wide", .int wi), ("lead", .int le), ("breaks", .int br), ("groups", .int gr), ("is_still", .bl st)] : List (Str × V)) = ([("number", .int n), ("kind", .str kd), ("parts", .ref ps), ("string", .str sg), ("more", .int mo), ("wide", .int wi), ("lead", .int le), ("breaks", .int br), ("groups", .int gr), ("is_still", .bl st), ("inner", .int inn)] : List (Str × V)) := by kernel_rfl
theorem nf_matters : putF ("matters" : Str) (.int ma : V) ([("number", .int n), ("kind", .str kd), ("parts", .ref ps), ("string", .str sg), ("more", .int mo), ("wide", .int wi), ("lead", .int le), ("breaks", .int br), ("groups", .int gr), ("is_still", .bl st), ("inner", .int inn)] : List (Str × V)) = ([("number", .int n), ("kind", .str kd), ("parts", .ref ps), ("string", .str sg), ("more", .int mo), ("wide", .int wi), ("lead", .int le), ("breaks", .int br), ("groups", .int gr), ("is_still", .bl st), ("inner", .int inn), ("matters", .int ma)] : List (Str × V)) := by kernel_rfl
theorem nf_ends : putF ("ends" : Str) (.int en : V) ([("number", .int n), ("kind", .str kd), ("parts", .ref ps), ("string", .str sg), ("more", .int mo), ("wide", .int wi), ("lead", .int le), ("breaks", .int br), ("groups", .int gr), ("is_still", .bl st), ("inner", .int inn), ("matters", .int ma)] : List (Str × V)) = ([("number", .int n), ("kind", .str kd), ("parts", .ref ps), ("string", .str sg), ("more", .int mo), ("wide", .int wi), ("lead", .int le), ("breaks", .int br), ("groups", .int gr), ("is_still", .bl st), ("inner", .int inn), ("matters", .int ma), ("ends", .int en)] : List (Str × V)) := by kernel_rfl
theorem nf_has_last : putF ("has_last" : Str) (.bl hl : V) ([("number", .int n), ("kind", .str kd), ("parts", .ref ps), ("string", .str sg), ("more", .int mo), ("wide", .int wi), ("lead", .int le), ("breaks", .int br), ("groups", .int gr), ("is_still", .bl st), ("inner", .int inn), ("matters", .int ma), ("ends", .int en)] : List (Str × V)) = ([("number", .int n), ("kind", .str kd), ("parts", .ref ps), ("string", .str sg), ("more", .int mo), ("wide", .int wi), ("lead", .int le), ("breaks", .int br), ("groups", .int gr), ("is_still", .bl st), ("inner", .int inn), ("matters", .int ma), ("ends", .int en), ("has_last", .bl hl)] : List (Str × V)) := by kernel_rfl
theorem nf_steps : putF ("steps" : Str) (.ref sp : V) ([("number", .int n), ("kind", .str kd), ("parts", .ref ps), ("string", .str sg), ("more", .int mo), ("wide", .int wi), ("lead", .int le), ("breaks", .int br), ("groups", .int gr), ("is_still", .bl st), ("inner", .int inn), ("matters", .int ma), ("ends", .int en), ("has_last", .bl hl)] : List (Str × V)) = ([("number", .int n), ("kind", .str kd), ("parts", .ref ps), ("string", .str sg), ("more", .int mo), ("wide", .int wi), ("lead", .int le), ("breaks", .int br), ("groups", .int gr), ("is_still", .bl st), ("inner", .int inn), ("matters", .int ma), ("ends", .int en), ("has_last", .bl hl), ("steps", .ref sp)] : List (Str × V)) := by kernel_rfl
theorem nf_known : putF ("known" : Str) (.ref kn : V) ([("number", .int n), ("kind", .str kd), ("parts", .ref ps), ("string", .str sg), ("more", .int mo), ("wide", .int wi), ("lead", .int le), ("breaks", .int br), ("groups", .int gr), ("is_still", .bl st), ("inner", .int inn), ("matters", .int ma), ("ends", .int en), ("has_last", .bl hl), ("steps", .ref sp)] : List (Str × V)) = ([("number", .int n), ("kind", .str kd), ("parts", .ref ps), ("string", .str sg), ("more", .int mo), ("wide", .int wi), ("lead", .int le), ("breaks", .int br), ("groups", .int gr), ("is_still", .bl st), ("inner", .int inn), ("matters", .int ma), ("ends", .int en), ("has_last", .bl hl), ("steps", .ref sp), ("known", .ref kn)] : List (Str × V)) := by kernel_rfl
theorem nf_opened : putF ("opened" : Str) (.ref op : V) ([("number", .int n), ("kind", .str kd), ("parts", .ref ps), ("string", .str sg), ("more", .int mo), ("wide", .int wi), ("lead", .int le), ("breaks", .int br), ("groups", .int gr), ("is_still", .bl st), ("inner", .int inn), ("matters", .int ma), ("ends", .int en), ("has_last", .bl hl), ("steps", .ref sp), ("known", .ref kn)] : List (Str × V)) = ([("number", .int n), ("kind", .str kd), ("parts", .ref ps), ("string", .str sg), ("more", .int mo), ("wide", .int wi), ("lead", .int le), ("breaks", .int br), ("groups", .int gr), ("is_still", .bl st), ("inner", .int inn), ("matters", .int ma), ("ends", .int en), ("has_last", .bl hl), ("steps", .ref sp), ("known", .ref kn), ("opened", .ref op)] : List (Str × V)) := by kernel_rfl
end
section
variable {P : Program} {w : World} {K : PySem.W.Frag} {mg : Str → Option Value} {base : Heap} {W : Wd}
theorem row_head {U : Hp} {v : V} {r : Row} (h : Dp K U v r.data) : ∃ a vs, v = .ref a ∧ SqT K U a (.str (kindS r) :: vs) := by
  cases r <;> (cases h with | tup ht hs => cases hs with | cons h1 hs => cases h1; exact ⟨_, _, rfl, ht⟩)
theorem sc_Row___init__ : FnScope ["self", "number", "row", "parts", "counts_groups", "wide", "breaks", "part"] ["self", "number", "row", "parts", "counts_groups"] (defScope s_Row___init__) := ⟨rfl, rfl, rfl, by decide +kernel, rfl, by decide +kernel, by decide +kernel⟩
def sp_rowinit (K : PySem.W.Frag) (C : Addr) : Sp := fun vs H Q _ => ∃ (x dx : Addr) (n k0 : Nat) (v : V) (r : Row) (pl : Addr) (ps : List Addr) (U : Hp), vs = [.ref x, .int n, v, .ref pl, .bl false] ∧ H x = some (.ins C dx []) ∧ Same U H ∧ U x = none ∧ Dp K U v r.data ∧ r.ok k0 ∧
  SqL K U pl (ps.map V.ref) ∧ (∀ a ∈ ps, SomeRow C U a) ∧ ps.length ≤ 200 ∧
  ∀ (H' : Hp) (sg : Str) (mo wi le br : Int) (st : Bool) (inn ma en : Int) (hl : Bool) (sp kn op : Addr), Gr (fun b => b = x) U H U H' → H' x = some (.ins C dx (rowF n (kindS r) pl sg mo wi le br st inn ma en hl sp kn op)) → Q .non H'
theorem d_Row___init__ (T : Txt w K mg W) : MethOk P w K mg base W.c_Row "__init__" "Row.__init__" s_Row___init__ ["self", "number", "row", "parts", "counts_groups"] 2 (sp_rowinit K W.c_Row) := by
  refine T.f_Row___init__.ok sc_Row___init__ (fun vs H Q E h => ?_) (fun f cdv A outer s H vs Q E hr h => ?_)
  · obtain ⟨x, dx, n, k0, v, r, pl, ps, U, rfl, _⟩ := h
    rfl
  · obtain ⟨x, dx, n, k0, v, r, pl, ps, U, rfl, hx, hU, ux, hd, hok, hpl, hps, h200, k⟩ := h
    refine ⟨_, (pss_cons (ps_set (i := 5) sc_Row___init__.nd rfl (Or.inl rfl) pe_int)
      (pss_cons (ps_set (i := 6) sc_Row___init__.nd rfl (Or.inl rfl) (pe_globI T.g_BARE))
      (Evl.pss_cut (ps_for PassesOwn.never rfl (pi_list (pv 3)) (pg_name (i := 7) sc_Row___init__.nd rfl (Or.inl rfl))
      (pss_cons (ps_aug (i := 5) sc_Row___init__.nd rfl (Or.inl rfl) (pe_fld (pv 7) rfl) ip_add)
      (pss_one (ps_if (pt_cmpR op_gt (pe_fld (pv 7) rfl) (pv 6) (nomark _)) (pss_one (ps_set (i := 6) sc_Row___init__.nd rfl (Or.inl rfl) (pe_fld (pv 7) rfl))) pss_nil))))
      (pss_cons (ps_fld (pv 0) (pv 1) rfl)
      (pss_cons (ps_fld (pv 0) (pe_ix ix_tup (pv 2) pe_int (fun _ _ => rfl)) rfl)
      (pss_cons (ps_fld (pv 0) (pv 3) rfl)
      (pss_cons (ps_fld (pv 0) pe_str rfl)
      (pss_cons (ps_fld (pv 0) pe_int rfl)
      (pss_cons (ps_fld (pv 0) (pv 5) rfl)
      (pss_cons (ps_fld (pv 0) (pv 5) rfl)
      (pss_cons (ps_fld (pv 0) (pv 6) rfl)
      (pss_cons (ps_fld (pv 0) pe_int rfl)
      (pss_cons (ps_fld (pv 0) (pe_cmpR op_eq (pv 6) (pe_globI T.g_BARE) (nomark _)) rfl)
      (pss_cons (ps_fld (pv 0) pe_int rfl)
      (pss_cons (ps_fld (pv 0) pe_int rfl)
      (pss_cons (ps_fld (pv 0) pe_int rfl)
      (pss_cons (ps_fld (pv 0) pe_bl rfl)
      (pss_cons (ps_fld (pv 0) (pe_lst pa_nil) rfl)
      (pss_cons (ps_fld (pv 0) pe_dnewT rfl)
      (Evl.pss_cut (ps_fld (pv 0) pe_dnewT rfl)
      (Evl.pss_cut (ps_if (pt_cmpR op_ne (pe_fld (pv 0) rfl) pe_str (nomark _)) (pss_one (ps_expr (pe_methD (d_Row__add_kind T) T.cl_Row (hr.mono (by decide)) (pv 0) (pa_cons (pv 2) pa_nil)))) pss_nil)
      (Evl.pss_cut (ps_if (pt_val (pv 4)) (pss_one ps_never) pss_nil)
      (pss_one (ps_if (PW.pt (pw_and (pt_not (pt_val (pe_fld (pv 0) rfl))) (pw_and1 (pt_truth (pv 3) (by intro _; rfl))))) (pss_cons (ps_expr (pe_methD0 (d_Row__add_steps T) T.cl_Row (hr.mono (by decide)) (pv 0)))
      (pss_one (ps_expr (pe_methD0 (d_Row__add_bases T) T.cl_Row (hr.mono (by decide)) (pv 0))))) pss_nil)))))))))))))))))))))))), ?_⟩
    obtain ⟨va, vs, rfl, hva⟩ := row_head hd
    refine ⟨fun σ' H' => ∃ (wi br : Int) (v7 : Option V), σ' = [some (.ref x), some (.int n), some (.ref va), some (.ref pl), some (.bl false), some (.int wi), some (.int br), v7] ∧ H' = H, ?_, ?_⟩
    · refine ⟨_, rfl, pl, rfl, ⟨_, sqlS hU hpl⟩, ?_⟩
      refine for_list (xs := ps.map V.ref) (fun i σ H' => ∃ (wi br : Int) (v7 : Option V), σ = [some (.ref x), some (.int n), some (.ref va), some (.ref pl), some (.bl false), some (.int wi), some (.int br), v7] ∧ H' = H) ⟨0, 0, none, rfl, rfl⟩ (fun i σ H' _ ⟨_, _, _, _, z⟩ => by rw [z]; exact sqlS hU hpl) ?_ ?_
      · rintro i y σ H3 hy ⟨wi, br, v7, rfl, rfl⟩
        obtain ⟨a, rfl, ha⟩ := vref_mem (List.mem_of_getElem? hy)
        obtain ⟨na, kda, pla, dxa, sga, moa, wia, lea, bra, sta, inna, maa, ena, hla, spa, kna, opa, hA⟩ := hps a ha
        have hA3 := hU _ _ hA
        refine ⟨_, rfl, _, rfl, a, W.c_Row, dxa, _, _, rfl, hA3, T.cl_Row, T.na_Row_wide, lk_wide, _, _, rfl, rfl, ?_⟩
        refine ⟨_, rfl, a, W.c_Row, dxa, _, _, rfl, hA3, T.cl_Row, T.na_Row_breaks, lk_breaks, _, rfl, _, _, rfl, rfl, _, rfl, ?_⟩
        refine ite2 (fun _ => ?_) (fun _ => ?_)
        · refine ⟨_, rfl, a, W.c_Row, dxa, _, _, rfl, hA3, T.cl_Row, T.na_Row_breaks, lk_breaks, ?_⟩
          exact ⟨_, _, _, rfl, rfl⟩
        · exact ⟨_, _, _, rfl, rfl⟩
      · rintro σ H3 ⟨wi, br, v7, rfl, rfl⟩
        exact ⟨wi, br, v7, rfl, rfl⟩
    · rintro σ' H1 ⟨wi, br, v7, rfl, rfl⟩
      have g0 : Gr (fun b => b = x) U H1 U H1 := Gr.refl hU
      refine ⟨_, rfl, _, rfl, x, W.c_Row, dx, _, rfl, hx, T.cl_Row, T.na_Row_number, Nat.le_of_ble_eq_true rfl, ?_⟩
      rw [nf_number]
      have g1 := g0.mut (p := x) (o := .ins W.c_Row dx [("number", .int n)]) (.inl rfl) ux
      refine ⟨_, rfl, _, _, _, _, rfl, rfl, sqtS g1.s hva, atI_nat (j := 0) rfl, _, rfl, x, W.c_Row, dx, _, rfl, upd_same, T.cl_Row, T.na_Row_kind, Nat.le_of_ble_eq_true rfl, ?_⟩
      rw [nf_kind]
      refine ⟨_, rfl, _, rfl, x, W.c_Row, dx, _, rfl, upd_same, T.cl_Row, T.na_Row_parts, Nat.le_of_ble_eq_true rfl, ?_⟩
      rw [nf_parts]
      refine ⟨_, rfl, x, W.c_Row, dx, _, rfl, upd_same, T.cl_Row, T.na_Row_string, Nat.le_of_ble_eq_true rfl, ?_⟩
      rw [nf_string]
      refine ⟨_, rfl, x, W.c_Row, dx, _, rfl, upd_same, T.cl_Row, T.na_Row_more, Nat.le_of_ble_eq_true rfl, ?_⟩
      rw [nf_more]
      refine ⟨_, rfl, _, rfl, x, W.c_Row, dx, _, rfl, upd_same, T.cl_Row, T.na_Row_wide, Nat.le_of_ble_eq_true rfl, ?_⟩
      rw [nf_wide]
      refine ⟨_, rfl, _, rfl, x, W.c_Row, dx, _, rfl, upd_same, T.cl_Row, T.na_Row_lead, Nat.le_of_ble_eq_true rfl, ?_⟩
      rw [nf_lead]
      refine ⟨_, rfl, _, rfl, x, W.c_Row, dx, _, rfl, upd_same, T.cl_Row, T.na_Row_breaks, Nat.le_of_ble_eq_true rfl, ?_⟩
      rw [nf_breaks]
      refine ⟨_, rfl, x, W.c_Row, dx, _, rfl, upd_same, T.cl_Row, T.na_Row_groups, Nat.le_of_ble_eq_true rfl, ?_⟩
      rw [nf_groups]
      refine ⟨_, rfl, rfl, _, rfl, x, W.c_Row, dx, _, rfl, upd_same, T.cl_Row, T.na_Row_is_still, Nat.le_of_ble_eq_true rfl, ?_⟩
      rw [nf_is_still]
      refine ⟨_, rfl, x, W.c_Row, dx, _, rfl, upd_same, T.cl_Row, T.na_Row_inner, Nat.le_of_ble_eq_true rfl, ?_⟩
      rw [nf_inner]
      refine ⟨_, rfl, x, W.c_Row, dx, _, rfl, upd_same, T.cl_Row, T.na_Row_matters, Nat.le_of_ble_eq_true rfl, ?_⟩
      rw [nf_matters]
      refine ⟨_, rfl, x, W.c_Row, dx, _, rfl, upd_same, T.cl_Row, T.na_Row_ends, Nat.le_of_ble_eq_true rfl, ?_⟩
      rw [nf_ends]
      refine ⟨_, rfl, x, W.c_Row, dx, _, rfl, upd_same, T.cl_Row, T.na_Row_has_last, Nat.le_of_ble_eq_true rfl, ?_⟩
      rw [nf_has_last]
      refine ⟨Nat.le_of_ble_eq_true rfl, fun sp hsp => ?_⟩
      have nsx : sp ≠ x := fun z => by rw [z, upd_same] at hsp; cases hsp
      refine ⟨_, rfl, x, W.c_Row, dx, _, rfl, (by rw [upd_ne (Ne.symm nsx)]; exact upd_same), T.cl_Row, T.na_Row_steps, Nat.le_of_ble_eq_true rfl, ?_⟩
      rw [nf_steps]
      intro kn hkn
      have nkx : kn ≠ x := fun z => by rw [z, upd_same] at hkn; cases hkn
      refine ⟨_, rfl, x, W.c_Row, dx, _, rfl, (by rw [upd_ne (Ne.symm nkx)]; exact upd_same), T.cl_Row, T.na_Row_known, Nat.le_of_ble_eq_true rfl, ?_⟩
      rw [nf_known]
      refine ⟨fun σ' H' => ∃ (st : Bool) (sp kn op : Addr), σ' = [some (.ref x), some (.int n), some (.ref va), some (.ref pl), some (.bl false), some (.int wi), some (.int br), v7] ∧ Gr (fun b => b = x) U H1 U H' ∧ H1 kn = none ∧ H' kn = some (.dT []) ∧
        H' x = some (.ins W.c_Row dx (rowF n (kindS r) pl "" 0 wi wi br st 1 0 1 false sp kn op)), ?_, ?_⟩
      · intro op hop
        have nox : op ≠ x := fun z => by rw [z, upd_same] at hop; cases hop
        refine ⟨_, rfl, x, W.c_Row, dx, _, rfl, (by rw [upd_ne (Ne.symm nox)]; exact upd_same), T.cl_Row, T.na_Row_opened, Nat.le_of_ble_eq_true rfl, ?_⟩
        rw [nf_opened]
        have nok : kn ≠ op := fun z => by rw [← z, upd_ne nkx, upd_same] at hop; cases hop
        refine ⟨_, sp, kn, op, rfl, ?_, ?_, ?_, upd_same⟩
        · repeat (first | exact Gr.refl hU | refine Gr.mut ?_ (.inl rfl) ux | refine Gr.newH ?_ (by assumption))
        · rw [upd_ne nkx] at hkn
          have := hkn
          by_cases ks : kn = sp
          · rw [ks, upd_same] at this; cases this
          · rw [upd_ne ks] at this
            repeat rw [upd_ne nkx] at this
            exact this
        · rw [upd_ne nkx, upd_ne nok, upd_ne nkx, upd_same]
      · rintro σ' H2 ⟨st, sp, kn, op, rfl, g2, hk1, hk2, hx2⟩
        refine ⟨fun σ' H' => ∃ (sg : Str) (mo wi' le br' : Int) (st : Bool) (inn en : Int) (sp kn op : Addr), σ' = [some (.ref x), some (.int n), some (.ref va), some (.ref pl), some (.bl false), some (.int wi), some (.int br), v7] ∧ Gr (fun b => b = x) U H1 U H' ∧
          H' x = some (.ins W.c_Row dx (rowF n (kindS r) pl sg mo wi' le br' st inn 0 en false sp kn op)), ?_, ?_⟩
        · refine ⟨_, rfl, x, W.c_Row, dx, _, _, rfl, hx2, T.cl_Row, T.na_Row_kind, lk_kind, rfl, _, rfl, ?_⟩
          refine ite2 (fun _ => ?_) (fun _ => ?_)
          · refine ⟨_, rfl, x, dx, _, rfl, hx2, lk__add_kind, _, rfl, ?_⟩
            refine ⟨x, .ref va, r, n, k0, pl, _, _, _, _, _, _, _, _, _, _, sp, kn, op, dx, U, rfl, hd, hok, hx2, hk2, g2.s, ux, hU.free hk1, fun H' sg mo wi le br st inn en g' hx' => ?_⟩
            exact ⟨sg, mo, wi, le, br, st, inn, en, sp, kn, op, rfl, gr_trans g2 g' (fun b h => h.elim .inl fun e => .inr (by rw [e]; exact hk1)), hx'⟩
          · exact ⟨_, _, _, _, _, _, _, _, _, _, _, rfl, g2, hx2⟩
        · rintro σ' H3 ⟨sg, mo, wi', le, br', st, inn, en, sp, kn, op, rfl, g3, hx3⟩
          refine ⟨fun σ' H' => σ' = [some (.ref x), some (.int n), some (.ref va), some (.ref pl), some (.bl false), some (.int wi), some (.int br), v7] ∧ H' = H3, ⟨_, rfl, false, rfl, iteF ⟨rfl, rfl⟩⟩, ?_⟩
          rintro σ' H4 ⟨rfl, rfl⟩
          refine ⟨_, rfl, x, W.c_Row, dx, _, _, rfl, hx3, T.cl_Row, T.na_Row_is_still, lk_is_still, st, rfl, ?_⟩
          cases st with
          | true => exact iteF (iteF (k H4 _ _ _ _ _ _ _ _ _ _ _ _ _ g3 hx3))
          | false =>
            refine iteT ⟨_, rfl, _, .inl ⟨_, sqlS g3.s hpl, rfl⟩, ?_⟩
            refine ite2 (fun _ => ?_) (fun _ => k H4 _ _ _ _ _ _ _ _ _ _ _ _ _ g3 hx3)
            refine ⟨_, rfl, x, dx, _, rfl, hx3, lk__add_steps, ?_⟩
            refine ⟨x, n, kindS r, pl, _, _, _, _, _, _, _, _, _, _, _, kn, op, dx, ps, U, rfl, hx3, hpl, hps, h200, g3.s, ux, fun H5 le hl sp g5 hx5 => ?_⟩
            refine ⟨_, rfl, x, dx, _, rfl, hx5, lk__add_bases, ?_⟩
            refine ⟨x, n, kindS r, pl, _, _, _, _, _, _, _, _, _, _, _, kn, op, dx, ps, U, rfl, hx5, hpl, hps, h200, g5.s, ux, fun H6 ma en hl g6 hx6 => ?_⟩
            exact k H6 _ _ _ _ _ _ _ _ _ _ _ _ _ (gr_trans (gr_trans g3 g5 fun b h => .inl h) g6 fun b h => .inl h) hx6
end
end Lw

set_option maxHeartbeats 0
namespace Lw
open PySem PySem.Spec PyProof.Rows L2 VW TL
local macro_rules | `(tactic| walk_at "rdc") => `(tactic| first | assumption | rfl | decide | omega | exact Or.inr ⟨by decide, by decide⟩ | exact ⟨by decide, by decide⟩ | exact ⟨by decide, by decide, by decide⟩ | (show (0 : Int) < _; omega) | (show (0 : Int) < _ ∧ _ < (1073741824 : Int); omega) | (show (-(2 ^ 64) < _ ∧ _ < 2 ^ 64) ∨ (-(2 ^ 64) < _ ∧ _ < 2 ^ 64); omega) | (show (-(2 ^ 64) < _ ∧ _ < 2 ^ 64) ∨ (-(2 ^ 64) < _ ∧ _ < 2 ^ 64); right; split <;> decide) | exact Nat.le_of_ble_eq_true rfl)
local macro_rules | `(tactic| walk_at "rd1") => `(tactic| first | refine ⟨_, rfl, ?_⟩ | refine And.intro (by walk_at "rdc") ?_ | refine ⟨_, _, rfl, rfl, ?_⟩ | refine Or.inl ⟨_, rfl, ?_⟩ | refine Or.inr ⟨_, rfl, ?_⟩ | refine ⟨_, _, _, _, rfl, rfl, sqlO (by first | assumption | exact upd_same), rfl, ?_⟩ | refine ⟨_, _, _, _, rfl, rfl, (by first | assumption | exact upd_same), rfl, ?_⟩)
local macro_rules | `(tactic| walk_at "rd") => `(tactic| repeat (walk_at "rd1"))

abbrev factsF (rl la d0 co d2 d3 d4 d5 d6 : Addr) : List (Str × V) := [("rows", .ref rl), ("last", .ref la), ("counts_groups", .bl false), ("laids", .ref d0), ("counts", .ref co), ("mosts", .ref d2), ("flats", .ref d3), ("flips", .ref d4), ("agreed", .ref d5), ("alike", .ref d6), ("latest", .non), ("is_new", .bl true)]
section
variable {rl la d0 co d2 d3 d4 d5 d6 : Addr}
theorem lf_rows : List.lookup ("rows" : Str) (factsF rl la d0 co d2 d3 d4 d5 d6) = some (.ref rl) := by kernel_rfl
theorem lf_last : List.lookup ("last" : Str) (factsF rl la d0 co d2 d3 d4 d5 d6) = some (.ref la) := by kernel_rfl
theorem lf_counts : List.lookup ("counts" : Str) (factsF rl la d0 co d2 d3 d4 d5 d6) = some (.ref co) := by kernel_rfl
theorem ff_rows : putF ("rows" : Str) (.ref rl : V) ([] : List (Str × V)) = ([("rows", .ref rl)] : List (Str × V)) := by kernel_rfl
theorem ff_last : putF ("last" : Str) (.ref la : V) ([("rows", .ref rl)] : List (Str × V)) = ([("rows", .ref rl), ("last", .ref la)] : List (Str × V)) := by kernel_rfl
theorem ff_counts_groups : putF ("counts_groups" : Str) (.bl false : V) ([("rows", .ref rl), ("last", .ref la)] : List (Str × V)) = ([("rows", .ref rl), ("last", .ref la), ("counts_groups", .bl false)] : List (Str × V)) := by kernel_rfl
theorem ff_laids : putF ("laids" : Str) (.ref d0 : V) ([("rows", .ref rl), ("last", .ref la), ("counts_groups", .bl false)] : List (Str × V)) = ([("rows", .ref rl), ("last", .ref la), ("counts_groups", .bl false), ("laids", .ref d0)] : List (Str × V)) := by kernel_rfl
theorem ff_counts : putF ("counts" : Str) (.ref co : V) ([("rows", .ref rl), ("last", .ref la), ("counts_groups", .bl false), ("laids", .ref d0)] : List (Str × V)) = ([("rows", .ref rl), ("last", .ref la), ("counts_groups", .bl false), ("laids", .ref d0), ("counts", .ref co)] : List (Str × V)) := by kernel_rfl
theorem ff_mosts : putF ("mosts" : Str) (.ref d2 : V) ([("rows", .ref rl), ("last", .ref la), ("counts_groups", .bl false), ("laids", .ref d0), ("counts", .ref co)] : List (Str × V)) = ([("rows", .ref rl), ("last", .ref la), ("counts_groups", .bl false), ("laids", .ref d0), ("counts", .ref co), ("mosts", .ref d2)] : List (Str × V)) := by kernel_rfl
theorem ff_flats : putF ("flats" : Str) (.ref d3 : V) ([("rows", .ref rl), ("last", .ref la), ("counts_groups", .bl false), ("laids", .ref d0), ("counts", .ref co), ("mosts", .ref d2)] : List (Str × V)) = ([("rows", .ref rl), ("last", .ref la), ("counts_groups", .bl false), ("laids", .ref d0), ("counts", .ref co), ("mosts", .ref d2), ("flats", .ref d3)] : List (Str × V)) := by kernel_rfl
theorem ff_flips : putF ("flips" : Str) (.ref d4 : V) ([("rows", .ref rl), ("last", .ref la), ("counts_groups", .bl false), ("laids", .ref d0), ("counts", .ref co), ("mosts", .ref d2), ("flats", .ref d3)] : List (Str × V)) = ([("rows", .ref rl), ("last", .ref la), ("counts_groups", .bl false), ("laids", .ref d0), ("counts", .ref co), ("mosts", .ref d2), ("flats", .ref d3), ("flips", .ref d4)] : List (Str × V)) := by kernel_rfl
theorem ff_agreed : putF ("agreed" : Str) (.ref d5 : V) ([("rows", .ref rl), ("last", .ref la), ("counts_groups", .bl false), ("laids", .ref d0), ("counts", .ref co), ("mosts", .ref d2), ("flats", .ref d3), ("flips", .ref d4)] : List (Str × V)) = ([("rows", .ref rl), ("last", .ref la), ("counts_groups", .bl false), ("laids", .ref d0), ("counts", .ref co), ("mosts", .ref d2), ("flats", .ref d3), ("flips", .ref d4), ("agreed", .ref d5)] : List (Str × V)) := by kernel_rfl
theorem ff_alike : putF ("alike" : Str) (.ref d6 : V) ([("rows", .ref rl), ("last", .ref la), ("counts_groups", .bl false), ("laids", .ref d0), ("counts", .ref co), ("mosts", .ref d2), ("flats", .ref d3), ("flips", .ref d4), ("agreed", .ref d5)] : List (Str × V)) = ([("rows", .ref rl), ("last", .ref la), ("counts_groups", .bl false), ("laids", .ref d0), ("counts", .ref co), ("mosts", .ref d2), ("flats", .ref d3), ("flips", .ref d4), ("agreed", .ref d5), ("alike", .ref d6)] : List (Str × V)) := by kernel_rfl
theorem ff_latest : putF ("latest" : Str) (.non : V) ([("rows", .ref rl), ("last", .ref la), ("counts_groups", .bl false), ("laids", .ref d0), ("counts", .ref co), ("mosts", .ref d2), ("flats", .ref d3), ("flips", .ref d4), ("agreed", .ref d5), ("alike", .ref d6)] : List (Str × V)) = ([("rows", .ref rl), ("last", .ref la), ("counts_groups", .bl false), ("laids", .ref d0), ("counts", .ref co), ("mosts", .ref d2), ("flats", .ref d3), ("flips", .ref d4), ("agreed", .ref d5), ("alike", .ref d6), ("latest", .non)] : List (Str × V)) := by kernel_rfl
theorem ff_is_new : putF ("is_new" : Str) (.bl true : V) ([("rows", .ref rl), ("last", .ref la), ("counts_groups", .bl false), ("laids", .ref d0), ("counts", .ref co), ("mosts", .ref d2), ("flats", .ref d3), ("flips", .ref d4), ("agreed", .ref d5), ("alike", .ref d6), ("latest", .non)] : List (Str × V)) = ([("rows", .ref rl), ("last", .ref la), ("counts_groups", .bl false), ("laids", .ref d0), ("counts", .ref co), ("mosts", .ref d2), ("flats", .ref d3), ("flips", .ref d4), ("agreed", .ref d5), ("alike", .ref d6), ("latest", .non), ("is_new", .bl true)] : List (Str × V)) := by kernel_rfl
end
theorem Gr.made {S : Addr → Prop} {U H U' H' : Hp} {x dx C : Addr} {fs : List (Str × V)} (s1 : Same U H) (hx : H x = none) (hd : H dx = none) (hne : dx ≠ x) (g : Gr (fun b => b = x) U (upd (upd H dx (.own x)) x (.ins C dx [])) U' H') (ux : U' x = none)
    (e : H' x = some (.ins C dx fs)) : Gr S U H (upd U' x (.ins C dx fs)) H' := by
  refine ⟨fun b o q => ?_, fun b o q => ?_, fun b o _ q => ?_, fun b q => ?_⟩
  · rw [upd_ne (ne_of_none (s1 b o q) hx)]
    exact g.v b o q
  · by_cases hb : b = x
    · rw [hb, upd_same] at q
      rw [hb, e]
      exact q
    · rw [upd_ne hb] at q
      exact g.s b o q
  · have h1 := ne_of_none q hx
    have h2 := ne_of_none q hd
    exact g.k b o h1 (by rw [upd_ne h1, upd_ne h2]; exact q)
  · have h1 : b ≠ x := fun z => q (by rw [z]; exact hx)
    have h2 : b ≠ dx := fun z => q (by rw [z]; exact hd)
    have := g.n b (by rw [upd_ne h1, upd_ne h2]; exact q)
    exact ⟨this.1, by rw [upd_ne h1]; exact this.2⟩
section
variable {P : Program} {w : World} {K : PySem.W.Frag} {mg : Str → Option Value} {base : Heap} {W : Wd}
theorem made_row {C x dx : Addr} {H U : Hp} {n k0 : Nat} {v : V} {r : Row} {pl : Addr} {ps : List Addr} {Q : VK} {E : XK} (hx : H x = none) (hd : H dx = none) (hne : dx ≠ x) (s1 : Same U H) (hv : Dp K U v r.data) (hok : r.ok k0) (hpl : SqL K U pl (ps.map V.ref)) (hps : ∀ a ∈ ps, SomeRow C U a) (h200 : ps.length ≤ 200)
    (k : ∀ (U' H' : Hp), Gr S0 U H U' H' → RowAt C U' x n (kindS r) pl → Q .non H') : sp_rowinit K C [.ref x, .int n, v, .ref pl, .bl false] (upd (upd H dx (.own x)) x (.ins C dx [])) Q E := by
  have sm : Same H (upd (upd H dx (.own x)) x (.ins C dx [])) := fun b o e => by
    rw [upd_ne (ne_of_none e hx), upd_ne (ne_of_none e hd)]
    exact e
  refine ⟨x, dx, n, k0, v, r, pl, ps, U, rfl, upd_same, s1.trans sm, vfree s1 hx, hv, hok, hpl, hps, h200, fun H' sg mo wi le br st inn ma en hl sp kn op g e => ?_⟩
  exact k _ H' (Gr.made (S := S0) s1 hx hd hne g (vfree s1 hx) e) ⟨dx, sg, mo, wi, le, br, st, inn, ma, en, hl, sp, kn, op, upd_same⟩
theorem sc_Facts___init__ : FnScope ["self", "rows", "counts_groups", "is_new"] ["self", "rows", "counts_groups", "is_new"] (defScope s_Facts___init__) := ⟨rfl, rfl, rfl, by decide +kernel, rfl, by decide +kernel, by decide +kernel⟩
def sp_factsinit (K : PySem.W.Frag) (C : Addr) : Sp := fun vs H Q _ => ∃ (x dx rl la : Addr) (as : List Addr) (U : Hp), vs = [.ref x, .ref rl, .bl false, .bl true] ∧ H x = some (.ins C dx []) ∧ Same U H ∧ U x = none ∧ SqL K U rl (as.map V.ref) ∧ atI (as.map V.ref) (-1) = some (.ref la) ∧
  ∀ (H' : Hp) (d0 co d2 d3 d4 d5 d6 : Addr), Gr (fun b => b = x) U H U H' → H' x = some (.ins C dx (factsF rl la d0 co d2 d3 d4 d5 d6)) → H co = none → H' co = some (.dK []) → Q .non H'
theorem d_Facts___init__ (T : Txt w K mg W) : MethOk P w K mg base W.c_Facts "__init__" "Facts.__init__" s_Facts___init__ ["self", "rows", "counts_groups", "is_new"] 1 (sp_factsinit K W.c_Facts) := by
  refine T.f_Facts___init__.ok sc_Facts___init__ (fun vs H Q E h => ?_) (fun f cdv A outer s H vs Q E hr h => ?_)
  · obtain ⟨x, dx, rl, la, as, U, rfl, _⟩ := h
    rfl
  · obtain ⟨x, dx, rl, la, as, U, rfl, hx, hU, ux, hl, hla, k⟩ := h
    refine ⟨_, (pss_cons (ps_fld (pv 0) (pv 1) rfl)
      (pss_cons (ps_fld (pv 0) (pe_ix ix_list (pv 1) (pe_un un_neg pe_int) (fun _ _ => rfl)) rfl)
      (pss_cons (ps_fld (pv 0) (pv 2) rfl)
      (pss_cons (ps_fld (pv 0) pe_dnewK rfl)
      (pss_cons (ps_fld (pv 0) pe_dnewK rfl)
      (pss_cons (ps_fld (pv 0) pe_dnewK rfl)
      (pss_cons (ps_fld (pv 0) pe_dnewK rfl)
      (pss_cons (ps_fld (pv 0) pe_dnewK rfl)
      (pss_cons (ps_fld (pv 0) pe_dnewK rfl)
      (pss_cons (ps_fld (pv 0) pe_dnewK rfl)
      (pss_cons (ps_fld (pv 0) pe_non rfl)
      (pss_one (ps_fld (pv 0) (pv 3) rfl))))))))))))), ?_⟩
    have g0 : Gr (fun b => b = x) U H U H := Gr.refl hU
    refine ⟨_, rfl, _, rfl, x, W.c_Facts, dx, _, rfl, hx, T.cl_Facts, T.na_Facts_rows, Nat.le_of_ble_eq_true rfl, ?_⟩
    rw [ff_rows]
    have g1 := g0.mut (p := x) (o := .ins W.c_Facts dx [("rows", .ref rl)]) (.inl rfl) ux
    refine ⟨_, rfl, _, rfl, _, _, _, _, rfl, rfl, sqlS g1.s hl, hla, _, rfl, x, W.c_Facts, dx, _, rfl, upd_same, T.cl_Facts, T.na_Facts_last, Nat.le_of_ble_eq_true rfl, ?_⟩
    rw [ff_last]
    refine ⟨_, rfl, _, rfl, x, W.c_Facts, dx, _, rfl, upd_same, T.cl_Facts, T.na_Facts_counts_groups, Nat.le_of_ble_eq_true rfl, ?_⟩
    rw [ff_counts_groups]
    intro d0 hd0
    have nd0 : d0 ≠ x := fun z => by rw [z, upd_same] at hd0; cases hd0
    refine ⟨_, rfl, x, W.c_Facts, dx, _, rfl, (by rw [upd_ne (Ne.symm nd0)]; exact upd_same), T.cl_Facts, T.na_Facts_laids, Nat.le_of_ble_eq_true rfl, ?_⟩
    rw [ff_laids]
    intro co hco
    have nco : co ≠ x := fun z => by rw [z, upd_same] at hco; cases hco
    refine ⟨_, rfl, x, W.c_Facts, dx, _, rfl, (by rw [upd_ne (Ne.symm nco)]; exact upd_same), T.cl_Facts, T.na_Facts_counts, Nat.le_of_ble_eq_true rfl, ?_⟩
    rw [ff_counts]
    intro d2 hd2
    have nd2 : d2 ≠ x := fun z => by rw [z, upd_same] at hd2; cases hd2
    refine ⟨_, rfl, x, W.c_Facts, dx, _, rfl, (by rw [upd_ne (Ne.symm nd2)]; exact upd_same), T.cl_Facts, T.na_Facts_mosts, Nat.le_of_ble_eq_true rfl, ?_⟩
    rw [ff_mosts]
    intro d3 hd3
    have nd3 : d3 ≠ x := fun z => by rw [z, upd_same] at hd3; cases hd3
    refine ⟨_, rfl, x, W.c_Facts, dx, _, rfl, (by rw [upd_ne (Ne.symm nd3)]; exact upd_same), T.cl_Facts, T.na_Facts_flats, Nat.le_of_ble_eq_true rfl, ?_⟩
    rw [ff_flats]
    intro d4 hd4
    have nd4 : d4 ≠ x := fun z => by rw [z, upd_same] at hd4; cases hd4
    refine ⟨_, rfl, x, W.c_Facts, dx, _, rfl, (by rw [upd_ne (Ne.symm nd4)]; exact upd_same), T.cl_Facts, T.na_Facts_flips, Nat.le_of_ble_eq_true rfl, ?_⟩
    rw [ff_flips]
    intro d5 hd5
    have nd5 : d5 ≠ x := fun z => by rw [z, upd_same] at hd5; cases hd5
    refine ⟨_, rfl, x, W.c_Facts, dx, _, rfl, (by rw [upd_ne (Ne.symm nd5)]; exact upd_same), T.cl_Facts, T.na_Facts_agreed, Nat.le_of_ble_eq_true rfl, ?_⟩
    rw [ff_agreed]
    intro d6 hd6
    have nd6 : d6 ≠ x := fun z => by rw [z, upd_same] at hd6; cases hd6
    refine ⟨_, rfl, x, W.c_Facts, dx, _, rfl, (by rw [upd_ne (Ne.symm nd6)]; exact upd_same), T.cl_Facts, T.na_Facts_alike, Nat.le_of_ble_eq_true rfl, ?_⟩
    rw [ff_alike]
    refine ⟨_, rfl, x, W.c_Facts, dx, _, rfl, upd_same, T.cl_Facts, T.na_Facts_latest, Nat.le_of_ble_eq_true rfl, ?_⟩
    rw [ff_latest]
    refine ⟨_, rfl, _, rfl, x, W.c_Facts, dx, _, rfl, upd_same, T.cl_Facts, T.na_Facts_is_new, Nat.le_of_ble_eq_true rfl, ?_⟩
    rw [ff_is_new]
    refine k _ d0 co d2 d3 d4 d5 d6 ?_ upd_same ?_ ?_
    · repeat (first | exact Gr.refl hU | refine Gr.mut ?_ (.inl rfl) ux | refine Gr.newH ?_ (by assumption))
    · have q := hco
      rw [upd_ne nco] at q
      by_cases e0 : co = d0
      · rw [e0, upd_same] at q; cases q
      · rw [upd_ne e0] at q
        repeat rw [upd_ne nco] at q
        exact q
    · have pd2 : co ≠ d2 := fun z => by rw [← z, upd_ne nco, upd_same] at hd2; cases hd2
      have pd3 : co ≠ d3 := fun z => by rw [← z, upd_ne nco, upd_ne pd2, upd_ne nco, upd_same] at hd3; cases hd3
      have pd4 : co ≠ d4 := fun z => by rw [← z, upd_ne nco, upd_ne pd3, upd_ne nco, upd_ne pd2, upd_ne nco, upd_same] at hd4; cases hd4
      have pd5 : co ≠ d5 := fun z => by rw [← z, upd_ne nco, upd_ne pd4, upd_ne nco, upd_ne pd3, upd_ne nco, upd_ne pd2, upd_ne nco, upd_same] at hd5; cases hd5
      have pd6 : co ≠ d6 := fun z => by rw [← z, upd_ne nco, upd_ne pd5, upd_ne nco, upd_ne pd4, upd_ne nco, upd_ne pd3, upd_ne nco, upd_ne pd2, upd_ne nco, upd_same] at hd6; cases hd6
      rw [upd_ne nco, upd_ne nco, upd_ne nco, upd_ne pd6, upd_ne nco, upd_ne pd5, upd_ne nco, upd_ne pd4, upd_ne nco, upd_ne pd3, upd_ne nco, upd_ne pd2, upd_ne nco, upd_same]
end
end Lw

set_option maxHeartbeats 0
namespace Lw
open PySem PySem.Spec PyProof.Rows L2 VW TL
local macro_rules | `(tactic| walk_at "rdc") => `(tactic| first | assumption | rfl | decide | omega | exact Or.inr ⟨by decide, by decide⟩ | exact ⟨by decide, by decide⟩ | exact ⟨by decide, by decide, by decide⟩ | (show (0 : Int) < _; omega) | (show (0 : Int) < _ ∧ _ < (1073741824 : Int); omega) | (show (-(2 ^ 64) < _ ∧ _ < 2 ^ 64) ∨ (-(2 ^ 64) < _ ∧ _ < 2 ^ 64); omega) | (show (-(2 ^ 64) < _ ∧ _ < 2 ^ 64) ∨ (-(2 ^ 64) < _ ∧ _ < 2 ^ 64); right; split <;> decide) | exact Nat.le_of_ble_eq_true rfl)
local macro_rules | `(tactic| walk_at "rd1") => `(tactic| first | refine ⟨_, rfl, ?_⟩ | refine And.intro (by walk_at "rdc") ?_ | refine ⟨_, _, rfl, rfl, ?_⟩ | refine Or.inl ⟨_, rfl, ?_⟩ | refine Or.inr ⟨_, rfl, ?_⟩ | refine ⟨_, _, _, _, rfl, rfl, sqlO (by first | assumption | exact upd_same), rfl, ?_⟩ | refine ⟨_, _, _, _, rfl, rfl, (by first | assumption | exact upd_same), rfl, ?_⟩)
local macro_rules | `(tactic| walk_at "rd") => `(tactic| repeat (walk_at "rd1"))

/-- the numbers of the parts of a row -/
def partsN : Row → List Nat
  | .cat ps => ps.map Int.toNat | .nest _ j => [j.toNat] | .align j => [j.toNat] | .group j => [j.toNat] | _ => []
theorem partsN_lt {r : Row} {k : Nat} (h : r.ok k) : ∀ j ∈ partsN r, j < k := by
  intro j hj
  cases r with
  | cat ps =>
    obtain ⟨q, hq, rfl⟩ := List.mem_map.mp hj
    have := h.2 q hq
    omega
  | nest n q => rw [List.mem_singleton.mp hj]; have := h.2.2; omega
  | align q => rw [List.mem_singleton.mp hj]; have h2 : 0 ≤ q ∧ q < (k : Int) := h; omega
  | group q => rw [List.mem_singleton.mp hj]; have h2 : 0 ≤ q ∧ q < (k : Int) := h; omega
  | text z => cases hj
  | line z => cases hj
  | hard => cases hj
theorem partsN_len {r : Row} {k : Nat} (h : r.ok k) : (partsN r).length ≤ 8 := by
  cases r with
  | cat ps => show (ps.map Int.toNat).length ≤ 8; rw [List.length_map]; exact h.1
  | nest n q => exact Nat.le_of_ble_eq_true rfl
  | align q => exact Nat.le_of_ble_eq_true rfl
  | group q => exact Nat.le_of_ble_eq_true rfl
  | text z => exact Nat.zero_le _
  | line z => exact Nat.zero_le _
  | hard => exact Nat.zero_le _
abbrev refsN (as : List Addr) (js : List Nat) : List V := js.map fun j => V.ref (as.getD j 0)
/-- the rows of the facts -/
def RowsAt (C : Addr) (U : Hp) (rs : List Row) (as : List Addr) : Prop := as.length = rs.length ∧ ∀ (i : Nat) (r : Row), rs[i]? = some r → ∃ pl, RowAt C U (as.getD i 0) i (kindS r) pl ∧ U pl = some (.lst (refsN as (partsN r)))
theorem RowsAt.mono {C : Addr} {U U' : Hp} {rs : List Row} {as : List Addr} (s : Same U U') (h : RowsAt C U rs as) : RowsAt C U' rs as :=
  ⟨h.1, fun i r e => by obtain ⟨pl, h1, h2⟩ := h.2 i r e; exact ⟨pl, h1.mono s, s _ _ h2⟩⟩
theorem getD_app {as : List Addr} {x : Addr} {j : Nat} (h : j < as.length) : (as ++ [x]).getD j 0 = as.getD j 0 := by
  rw [List.getD_eq_getElem?_getD, List.getD_eq_getElem?_getD, List.getElem?_append_left h]
theorem getD_last {as : List Addr} {x : Addr} : (as ++ [x]).getD as.length 0 = x := by
  rw [List.getD_eq_getElem?_getD, List.getElem?_append_right (Nat.le_refl _), Nat.sub_self]
  rfl
theorem refsN_app {as : List Addr} {x : Addr} {js : List Nat} (h : ∀ j ∈ js, j < as.length) : refsN (as ++ [x]) js = refsN as js := by
  unfold refsN
  exact List.map_congr_left fun j hj => by rw [getD_app (h j hj)]
theorem RowsAt.snoc {C : Addr} {U : Hp} {rs : List Row} {r : Row} {as : List Addr} {x pl : Addr} (h : RowsAt C U rs as) (hok : OkRows (rs ++ [r])) (hx : RowAt C U x rs.length (kindS r) pl) (hpl : U pl = some (.lst (refsN as (partsN r)))) : RowsAt C U (rs ++ [r]) (as ++ [x]) := by
  refine ⟨by rw [List.length_append, List.length_append, h.1]; rfl, fun i q e => ?_⟩
  have hlt : ∀ j ∈ partsN q, j < i := partsN_lt (hok i q e)
  by_cases hi : i < rs.length
  · rw [List.getElem?_append_left hi] at e
    obtain ⟨pl', h1, h2⟩ := h.2 i q e
    refine ⟨pl', by rw [getD_app (by rw [h.1]; exact hi)]; exact h1, ?_⟩
    rw [refsN_app fun j hj => by have := hlt j hj; rw [h.1]; omega]
    exact h2
  · rw [List.getElem?_append_right (by omega)] at e
    have hi2 : i = rs.length := by
      have := (List.getElem?_eq_some_iff.mp e).1
      rw [List.length_singleton] at this
      omega
    subst hi2
    rw [Nat.sub_self] at e
    cases e
    refine ⟨pl, by rw [← h.1, getD_last, h.1]; exact hx, ?_⟩
    rw [refsN_app fun j hj => by rw [h.1]; exact hlt j hj]
    exact hpl
theorem RowsAt.some {C : Addr} {U : Hp} {rs : List Row} {as : List Addr} (h : RowsAt C U rs as) {j : Nat} (hj : j < rs.length) : SomeRow C U (as.getD j 0) := by
  obtain ⟨pl, h1, _⟩ := h.2 j _ (List.getElem?_eq_getElem hj)
  exact ⟨_, _, _, h1⟩
theorem atI_refs {as : List Addr} {j : Nat} (h : j < as.length) : atI (as.map V.ref) j = some (.ref (as.getD j 0)) := by
  refine atI_nat ?_
  rw [List.getElem?_map, List.getElem?_eq_getElem h, List.getD_eq_getElem?_getD, List.getElem?_eq_getElem h]
  rfl
section
variable {P : Program} {w : World} {K : PySem.W.Frag} {mg : Str → Option Value} {base : Heap} {W : Wd}
theorem sc__new_facts : FnScope ["rows", "counts_groups", "made", "number", "row", "parts", "part"] ["rows", "counts_groups"] (defScope s__new_facts) := ⟨rfl, rfl, rfl, by decide +kernel, rfl, by decide +kernel, by decide +kernel⟩
/-- the facts of a document, new -/
def FactsNew (CR CF : Addr) (U H0 H : Hp) (fa : Addr) (rs : List Row) : Prop := ∃ (as : List Addr) (dx M la d0 co d2 d3 d4 d5 d6 : Addr), U fa = some (.ins CF dx (factsF M la d0 co d2 d3 d4 d5 d6)) ∧ U M = some (.lst (as.map V.ref)) ∧ RowsAt CR U rs as ∧ atI (as.map V.ref) (-1) = some (.ref la) ∧ U co = none ∧ H0 co = none ∧ H co = some (.dK [])
def sp_newfacts (K : PySem.W.Frag) (CR CF : Addr) : Sp := fun vs H Q _ => ∃ (l : Addr) (ws : List V) (rs : List Row) (U : Hp), vs = [.ref l, .bl false] ∧ Same U H ∧ U l = some (.lst ws) ∧ DpAll K U ws (rs.map Row.data) ∧ OkRows rs ∧ 0 < rs.length ∧ rs.length ≤ 200 ∧
  ∀ (fa : Addr) (U' H' : Hp), Gr S0 U H U' H' → H fa = none → FactsNew CR CF U' H H' fa rs → Q (.ref fa) H'
theorem d__new_facts (T : Txt w K mg W) : DefOk P w K mg base "_new_facts" s__new_facts ["rows", "counts_groups"] 4 (sp_newfacts K W.c_Row W.c_Facts) := by
  refine T.f__new_facts.ok sc__new_facts (fun vs H Q E h => ?_) (fun f cdv A outer s H vs Q E hr h => ?_)
  · obtain ⟨l, ws, rs, U, rfl, _⟩ := h
    rfl
  · obtain ⟨l, ws, rs, U, rfl, s1, hl, hin, hok, h0, h200, k⟩ := h
    have hlen := dps_length hin
    rw [List.length_map] at hlen
    refine ⟨_, (pss_cons (ps_set (i := 2) sc__new_facts.nd rfl (Or.inr rfl) (pe_lst pa_nil))
      (pss_cons (ps_for PassesOwn.never rfl (pi_enum (by rfl) T.n_enumerate (pa_cons (pv 0) pa_nil)) (pg_tup rfl (pgs_cons (pg_name (i := 3) sc__new_facts.nd rfl (Or.inl rfl)) (pgs_cons (pg_name (i := 4) sc__new_facts.nd rfl (Or.inl rfl)) pgs_nil)))
      (Evl.pss_cut (ps_if (pt_cmpR op_eq (pe_ix ix_tup (pv 4) pe_int (fun _ _ => rfl)) pe_str (nomark _)) (pss_one (ps_setLc (i := 5) (own := [("part", 6)]) (g := (gName 6)) (tt := tYes) rfl sc__new_facts.nd rfl rfl (sw_true rfl rfl rfl (by decide +kernel)) (pi_list (pe_ix ix_tup (pv 4) pe_int (fun _ _ => rfl))) (blkOk_by (own := [("part", 6)]) (N := ["rows", "counts_groups", "made", "number", "row", "parts", "part"]) (sc := defScope s__new_facts) (by decide +kernel)) (fun _ _ _ _ _ => (pg_name (i := 6) sc__new_facts.nd rfl (Or.inl rfl))) (fun _ _ _ _ _ => pts_nil) (fun _ _ _ _ _ => (pe_ix (ix_listK (K := K)) (pv 2) (pv 6) (fun _ _ => rfl))))) (pss_one (ps_if (pt_cmpR op_in_seq (pe_ix ix_tup (pv 4) pe_int (fun _ _ => rfl)) (pe_tup (pa_cons pe_str (pa_cons pe_str (pa_cons pe_str pa_nil)))) (by rfl)) (pss_one (ps_set (i := 5) sc__new_facts.nd rfl (Or.inl rfl) (pe_lst (pa_cons (pe_ix ix_list (pv 2) (pe_ix ix_tup (pv 4) (pe_un un_neg pe_int) (fun _ _ => rfl)) (fun _ _ => rfl)) pa_nil)))) (pss_one (ps_set (i := 5) sc__new_facts.nd rfl (Or.inl rfl) (pe_lst pa_nil))))))
      (pss_one (ps_expr (pe_bm PySem.F.plainAttrs_list PySem.F.slot_list_append PySem.F.type_list_append mt_append (pv 2) (pa_cons (pe_makeD (d_Row___init__ T) T.mk_Row T.c_Row (hr.mono (by decide)) (pa_cons (pv 3) (pa_cons (pv 4) (pa_cons (pv 5) (pa_cons (pv 1) pa_nil))))) pa_nil))))))
      (pss_one (ps_ret (pe_makeD (d_Facts___init__ T) T.mk_Facts T.c_Facts (hr.mono (by decide)) (pa_cons (pv 2) (pa_cons (pv 1) (pa_cons pe_bl pa_nil)))))))), ?_⟩
    refine ⟨Nat.le_of_ble_eq_true rfl, fun M hM => ?_⟩
    have smD : Same H (upd H M (.lst [])) := same_new hM
    refine ⟨_, rfl, _, _, rfl, sqlO (smD _ _ (s1 _ _ hl)), ?_⟩
    refine for_it walk_enum (fun i σ H' => ∃ (v3 v4 v5 v6 : Option V) (U' : Hp) (as : List Addr), σ = [some (.ref l), some (.bl false), some (.ref M), v3, v4, v5, v6] ∧ Gr S0 U H U' H' ∧ U' M = none ∧ H' M = some (.lst (as.map V.ref)) ∧ RowsAt W.c_Row U' (rs.take i) as)
      ⟨none, none, none, none, U, [], rfl, (Gr.refl s1).newH hM, vfree s1 hM, upd_same, ⟨rfl, fun i r e => by simp at e⟩⟩ (fun i σ H' _ ⟨_, _, _, _, _, _, _, g, _⟩ => sqlO (g.same _ _ (s1 _ _ hl))) ?_ ?_
    · rintro i x σ H1 H2 hi ⟨v3, v4, v5, v6, U', as, rfl, g, v0, hm, ra⟩ ⟨t, y1, y2, rfl, ht, rfl, e1, e2⟩
      cases e1
      have hi : i < rs.length := by rw [← hlen]; exact (List.getElem?_eq_some_iff.mp e2).1
      have hr2 : rs[i]? = some rs[i] := List.getElem?_eq_getElem hi
      obtain ⟨dd, hdd, hrow⟩ := dps_get hin e2
      rw [List.getElem?_map, hr2] at hdd
      cases hdd
      generalize hrr : rs[i] = r at hr2 hrow
      have rok := hok i r hr2
      have nMt : M ≠ t := ne_of_none hm ht
      have g1 : Gr S0 U H U' (upd H1 t (.tup [.int (i : Nat), y2])) := g.newH ht
      have hm1 : (upd H1 t (.tup [.int (i : Nat), y2])) M = some (.lst (as.map V.ref)) := by rw [upd_ne nMt]; exact hm
      refine ⟨t, _, rfl, sqtO upd_same, rfl, _, _, rfl, _, _, rfl, rfl, ?_⟩
      generalize upd H1 t (.tup [.int (i : Nat), y2]) = H3 at g1 hm1 ⊢
      have alen : as.length = i := by rw [ra.1, List.length_take]; omega
      refine ⟨fun σ' H' => ∃ (U'' : Hp) (pl : Addr) (v6 : Option V), σ' = [some (.ref l), some (.bl false), some (.ref M), some (.int (i : Nat)), some y2, some (.ref pl), v6] ∧ Gr S0 U H U'' H' ∧ Same U' U'' ∧ U'' M = none ∧ H' M = some (.lst (as.map V.ref)) ∧ U'' pl = some (.lst (refsN as (partsN r))), ?_, ?_⟩
      · cases r with
        | cat ps =>
          cases hrow with | tup ht hs =>
          cases hs with | cons h1 hs =>
          cases hs with | cons h2 hs =>
          cases h1
          cases h2 with | lst hl2 ha2 =>
          cases hs
          rename_i ta la2 vs2
          obtain rfl := dps_of_ints ha2
          have sU : Same U H3 := g1.v.trans g1.s
          refine ⟨_, rfl, _, _, _, _, rfl, rfl, sqtS sU ht, atI_nat (j := 0) rfl, rfl, _, rfl, ifT (by kernel_rfl) ?_⟩
          refine ⟨_, rfl, _, _, _, _, rfl, rfl, sqtS sU ht, atI_nat (j := 1) rfl, la2, rfl, ⟨_, sqlS sU hl2⟩, fun D hD => ?_⟩
          have hDH := g1.free hD
          have hDU := vfree g1.s hD
          have nDM : M ≠ D := ne_of_none hm1 hD
          refine lc_list (xs := ps.map V.int) (fun j H' => Gr S0 U H U' H' ∧ H' D = some (.lst (refsN as ((ps.take j).map Int.toNat))) ∧ H' M = some (.lst (as.map V.ref))) ⟨g1.newH hD, upd_same, by rw [upd_ne nDM]; exact hm1⟩ (fun j H' _ z => sqlS (z.1.v.trans z.1.s) hl2) ?_ ?_
          · rintro j y H4 hy ⟨g4, hd4, hm4⟩
            rw [List.getElem?_map] at hy
            obtain ⟨q, hq, rfl⟩ := Option.map_eq_some_iff.mp hy
            have hq2 := rok.2 q (List.mem_of_getElem? hq)
            obtain ⟨qn, rfl⟩ : ∃ qn : Nat, q = qn := ⟨q.toNat, by omega⟩
            have hjl := (List.getElem?_eq_some_iff.mp hq).1
            have h8 := rok.1
            refine ⟨rfl, ⟨_, rfl, _, rfl, _, _, _, _, rfl, rfl, sqlO hm4, atI_refs (by omega), _, hd4, ?_, g4.mut (.inr hDH) hDU, ?_, by rw [upd_ne nDM]; exact hm4⟩⟩
            · unfold refsN
              rw [List.length_map, List.length_map, List.length_take]
              exact Nat.lt_of_le_of_lt (show min j ps.length ≤ 200 by omega) (by decide)
            · rw [upd_same, List.take_succ, hq]
              unfold refsN
              rw [List.map_append, List.map_append]
              rfl
          · rintro H4 ⟨g4, hd4, hm4⟩
            rw [List.length_map, List.take_length] at hd4
            exact ⟨_, D, v6, rfl, g4.tell hDH hd4 hDU, same_new hDU, by rw [upd_ne nDM]; exact v0, hm4, upd_same⟩
        | nest m j =>
          cases hrow with | tup ht hs =>
          cases hs with | cons h1 hs =>
          cases hs with | cons h2 hs =>
          cases hs with | cons h3 hs =>
          cases h1
          cases h2
          cases h3
          cases hs
          rename_i ta
          have sU : Same U H3 := g1.v.trans g1.s
          have hj := rok.2.2
          obtain ⟨jn, rfl⟩ : ∃ jn : Nat, j = jn := ⟨j.toNat, by omega⟩
          refine ⟨_, rfl, _, _, _, _, rfl, rfl, sqtS sU ht, atI_nat (j := 0) rfl, rfl, _, rfl, ifF (by kernel_rfl) ?_⟩
          refine ⟨_, rfl, _, _, _, _, rfl, rfl, sqtS sU ht, atI_nat (j := 0) rfl, Nat.le_of_ble_eq_true rfl, fun t2 ht2 => ?_⟩
          refine ⟨t2, _, rfl, .inr (sqtO upd_same), rfl, rfl, _, rfl, ifT (by kernel_rfl) ?_⟩
          have g2 := g1.newH (o := .tup [.str "nest", .str "align", .str "group"]) ht2
          have hm2 : (upd H3 t2 (.tup [.str "nest", .str "align", .str "group"])) M = some (.lst (as.map V.ref)) := by rw [upd_ne (ne_of_none hm1 ht2)]; exact hm1
          generalize upd H3 t2 (.tup [.str "nest", .str "align", .str "group"]) = H4 at g2 hm2 ⊢
          refine ⟨_, rfl, _, rfl, _, rfl, _, _, _, _, rfl, rfl, sqtS (g2.v.trans g2.s) ht, rfl, _, _, _, _, rfl, rfl, sqlO hm2, atI_refs (j := jn) (by omega), Nat.le_of_ble_eq_true rfl, fun D hD => ?_⟩
          exact ⟨_, D, v6, rfl, g2.new hD, same_new (vfree g2.s hD), by rw [upd_ne (ne_of_none hm2 hD)]; exact v0, by rw [upd_ne (ne_of_none hm2 hD)]; exact hm2, upd_same⟩
        | align j =>
          cases hrow with | tup ht hs =>
          cases hs with | cons h1 hs =>
          cases hs with | cons h2 hs =>
          cases h1
          cases h2
          cases hs
          rename_i ta
          have sU : Same U H3 := g1.v.trans g1.s
          have hj := (show 0 ≤ j ∧ j < (i : Int) from rok)
          obtain ⟨jn, rfl⟩ : ∃ jn : Nat, j = jn := ⟨j.toNat, by omega⟩
          refine ⟨_, rfl, _, _, _, _, rfl, rfl, sqtS sU ht, atI_nat (j := 0) rfl, rfl, _, rfl, ifF (by kernel_rfl) ?_⟩
          refine ⟨_, rfl, _, _, _, _, rfl, rfl, sqtS sU ht, atI_nat (j := 0) rfl, Nat.le_of_ble_eq_true rfl, fun t2 ht2 => ?_⟩
          refine ⟨t2, _, rfl, .inr (sqtO upd_same), rfl, rfl, _, rfl, ifT (by kernel_rfl) ?_⟩
          have g2 := g1.newH (o := .tup [.str "nest", .str "align", .str "group"]) ht2
          have hm2 : (upd H3 t2 (.tup [.str "nest", .str "align", .str "group"])) M = some (.lst (as.map V.ref)) := by rw [upd_ne (ne_of_none hm1 ht2)]; exact hm1
          generalize upd H3 t2 (.tup [.str "nest", .str "align", .str "group"]) = H4 at g2 hm2 ⊢
          refine ⟨_, rfl, _, rfl, _, rfl, _, _, _, _, rfl, rfl, sqtS (g2.v.trans g2.s) ht, rfl, _, _, _, _, rfl, rfl, sqlO hm2, atI_refs (j := jn) (by omega), Nat.le_of_ble_eq_true rfl, fun D hD => ?_⟩
          exact ⟨_, D, v6, rfl, g2.new hD, same_new (vfree g2.s hD), by rw [upd_ne (ne_of_none hm2 hD)]; exact v0, by rw [upd_ne (ne_of_none hm2 hD)]; exact hm2, upd_same⟩
        | group j =>
          cases hrow with | tup ht hs =>
          cases hs with | cons h1 hs =>
          cases hs with | cons h2 hs =>
          cases h1
          cases h2
          cases hs
          rename_i ta
          have sU : Same U H3 := g1.v.trans g1.s
          have hj := (show 0 ≤ j ∧ j < (i : Int) from rok)
          obtain ⟨jn, rfl⟩ : ∃ jn : Nat, j = jn := ⟨j.toNat, by omega⟩
          refine ⟨_, rfl, _, _, _, _, rfl, rfl, sqtS sU ht, atI_nat (j := 0) rfl, rfl, _, rfl, ifF (by kernel_rfl) ?_⟩
          refine ⟨_, rfl, _, _, _, _, rfl, rfl, sqtS sU ht, atI_nat (j := 0) rfl, Nat.le_of_ble_eq_true rfl, fun t2 ht2 => ?_⟩
          refine ⟨t2, _, rfl, .inr (sqtO upd_same), rfl, rfl, _, rfl, ifT (by kernel_rfl) ?_⟩
          have g2 := g1.newH (o := .tup [.str "nest", .str "align", .str "group"]) ht2
          have hm2 : (upd H3 t2 (.tup [.str "nest", .str "align", .str "group"])) M = some (.lst (as.map V.ref)) := by rw [upd_ne (ne_of_none hm1 ht2)]; exact hm1
          generalize upd H3 t2 (.tup [.str "nest", .str "align", .str "group"]) = H4 at g2 hm2 ⊢
          refine ⟨_, rfl, _, rfl, _, rfl, _, _, _, _, rfl, rfl, sqtS (g2.v.trans g2.s) ht, rfl, _, _, _, _, rfl, rfl, sqlO hm2, atI_refs (j := jn) (by omega), Nat.le_of_ble_eq_true rfl, fun D hD => ?_⟩
          exact ⟨_, D, v6, rfl, g2.new hD, same_new (vfree g2.s hD), by rw [upd_ne (ne_of_none hm2 hD)]; exact v0, by rw [upd_ne (ne_of_none hm2 hD)]; exact hm2, upd_same⟩
        | text z =>
          cases hrow with | tup ht hs =>
          cases hs with | cons h1 hs =>
          cases hs with | cons h2 hs =>
          cases h1
          cases h2
          cases hs
          rename_i ta
          have sU : Same U H3 := g1.v.trans g1.s
          refine ⟨_, rfl, _, _, _, _, rfl, rfl, sqtS sU ht, atI_nat (j := 0) rfl, rfl, _, rfl, ifF (by kernel_rfl) ?_⟩
          refine ⟨_, rfl, _, _, _, _, rfl, rfl, sqtS sU ht, atI_nat (j := 0) rfl, Nat.le_of_ble_eq_true rfl, fun t2 ht2 => ?_⟩
          refine ⟨t2, _, rfl, .inr (sqtO upd_same), rfl, rfl, _, rfl, ifF (by kernel_rfl) ?_⟩
          have g2 := g1.newH (o := .tup [.str "nest", .str "align", .str "group"]) ht2
          have hm2 : (upd H3 t2 (.tup [.str "nest", .str "align", .str "group"])) M = some (.lst (as.map V.ref)) := by rw [upd_ne (ne_of_none hm1 ht2)]; exact hm1
          generalize upd H3 t2 (.tup [.str "nest", .str "align", .str "group"]) = H4 at g2 hm2 ⊢
          refine ⟨Nat.le_of_ble_eq_true rfl, fun D hD => ?_⟩
          exact ⟨_, D, v6, rfl, g2.new hD, same_new (vfree g2.s hD), by rw [upd_ne (ne_of_none hm2 hD)]; exact v0, by rw [upd_ne (ne_of_none hm2 hD)]; exact hm2, upd_same⟩
        | line z =>
          cases hrow with | tup ht hs =>
          cases hs with | cons h1 hs =>
          cases hs with | cons h2 hs =>
          cases h1
          cases h2
          cases hs
          rename_i ta
          have sU : Same U H3 := g1.v.trans g1.s
          refine ⟨_, rfl, _, _, _, _, rfl, rfl, sqtS sU ht, atI_nat (j := 0) rfl, rfl, _, rfl, ifF (by kernel_rfl) ?_⟩
          refine ⟨_, rfl, _, _, _, _, rfl, rfl, sqtS sU ht, atI_nat (j := 0) rfl, Nat.le_of_ble_eq_true rfl, fun t2 ht2 => ?_⟩
          refine ⟨t2, _, rfl, .inr (sqtO upd_same), rfl, rfl, _, rfl, ifF (by kernel_rfl) ?_⟩
          have g2 := g1.newH (o := .tup [.str "nest", .str "align", .str "group"]) ht2
          have hm2 : (upd H3 t2 (.tup [.str "nest", .str "align", .str "group"])) M = some (.lst (as.map V.ref)) := by rw [upd_ne (ne_of_none hm1 ht2)]; exact hm1
          generalize upd H3 t2 (.tup [.str "nest", .str "align", .str "group"]) = H4 at g2 hm2 ⊢
          refine ⟨Nat.le_of_ble_eq_true rfl, fun D hD => ?_⟩
          exact ⟨_, D, v6, rfl, g2.new hD, same_new (vfree g2.s hD), by rw [upd_ne (ne_of_none hm2 hD)]; exact v0, by rw [upd_ne (ne_of_none hm2 hD)]; exact hm2, upd_same⟩
        | hard =>
          cases hrow with | tup ht hs =>
          cases hs with | cons h1 hs =>
          cases h1
          cases hs
          rename_i ta
          have sU : Same U H3 := g1.v.trans g1.s
          refine ⟨_, rfl, _, _, _, _, rfl, rfl, sqtS sU ht, atI_nat (j := 0) rfl, rfl, _, rfl, ifF (by kernel_rfl) ?_⟩
          refine ⟨_, rfl, _, _, _, _, rfl, rfl, sqtS sU ht, atI_nat (j := 0) rfl, Nat.le_of_ble_eq_true rfl, fun t2 ht2 => ?_⟩
          refine ⟨t2, _, rfl, .inr (sqtO upd_same), rfl, rfl, _, rfl, ifF (by kernel_rfl) ?_⟩
          have g2 := g1.newH (o := .tup [.str "nest", .str "align", .str "group"]) ht2
          have hm2 : (upd H3 t2 (.tup [.str "nest", .str "align", .str "group"])) M = some (.lst (as.map V.ref)) := by rw [upd_ne (ne_of_none hm1 ht2)]; exact hm1
          generalize upd H3 t2 (.tup [.str "nest", .str "align", .str "group"]) = H4 at g2 hm2 ⊢
          refine ⟨Nat.le_of_ble_eq_true rfl, fun D hD => ?_⟩
          exact ⟨_, D, v6, rfl, g2.new hD, same_new (vfree g2.s hD), by rw [upd_ne (ne_of_none hm2 hD)]; exact v0, by rw [upd_ne (ne_of_none hm2 hD)]; exact hm2, upd_same⟩
      · rintro σ' H4 ⟨U'', pl, v6, rfl, g4, s4, u4, hm4, hpl⟩
        have ra4 := ra.mono s4
        have hz : ∀ (js : List Nat), (∀ j ∈ js, j < i) → ∀ a ∈ js.map (fun j => as.getD j 0), SomeRow W.c_Row U'' a := fun js hj a ha => by
          obtain ⟨j, h1, rfl⟩ := List.mem_map.mp ha
          exact ra4.some (by rw [List.length_take]; have := hj j h1; omega)
        refine ⟨_, rfl, .inl ⟨rfl, _, sqlO hm4⟩, _, rfl, _, rfl, _, rfl, _, rfl, fun x dx hx hdx ne => ?_⟩
        have hU'' : Same U U'' := g4.v
        refine made_row (k0 := i) (r := r) (ps := (partsN r).map fun j => as.getD j 0) hx hdx ne g4.s (dpS hU'' hrow) rok (by rw [List.map_map]; exact sqlO hpl) (hz _ (partsN_lt rok)) (by rw [List.length_map]; exact Nat.le_trans (partsN_len rok) (by decide)) fun U5 H5 g5 hR => ⟨rfl, ?_⟩
        have hm5 := g5.same _ _ hm4
        have u5 : U5 M = none := g5.out (some_ne hm4) u4
        refine ⟨M, _, _, rfl, rfl, hm5, by rw [List.length_map, alen]; exact Nat.lt_of_le_of_lt (show i ≤ 200 by omega) (by decide), ?_⟩
        refine ⟨_, _, _, _, U5, as ++ [x], rfl, (g4.trans g5).mut (.inr hM) u5, u5, by rw [upd_same, List.map_append]; rfl, ?_⟩
        rw [List.take_succ, hr2]
        refine RowsAt.snoc (ra4.mono g5.v) ?_ (pl := pl) ?_ (g5.v _ _ hpl)
        · intro q r' e
          have : rs.take i ++ (some r).toList = rs.take (i + 1) := by rw [List.take_succ, hr2]
          have e : (rs.take i ++ (some r).toList)[q]? = some r' := e
          rw [this, List.getElem?_take] at e
          split at e
          · exact hok q r' e
          · cases e
        · rw [List.length_take, Nat.min_eq_left (by omega)]
          exact hR
    · rintro σ H2 ⟨v3, v4, v5, v6, U', as, rfl, g, v0, hm, ra⟩
      rw [hlen, List.take_length] at ra
      have alen := ra.1
      refine ⟨_, rfl, _, rfl, fun x dx hx hdx ne => ?_⟩
      have la : ∃ la : Addr, atI (as.map V.ref) (-1) = some (.ref la) := by
        have hl0 : 0 < as.length := by omega
        refine ⟨as.getD (as.length - 1) 0, ?_⟩
        unfold atI ixN
        rw [if_neg (by decide), if_pos (by rw [List.length_map]; omega), Option.bind_some, List.length_map]
        rw [show (-1 + (as.length : Int)).toNat = as.length - 1 by omega, List.getElem?_map, List.getElem?_eq_getElem (by omega), List.getD_eq_getElem?_getD, List.getElem?_eq_getElem (by omega)]
        rfl
      obtain ⟨la, hla⟩ := la
      have gM := g.tell hM hm v0
      have sm : Same H2 (upd (upd H2 dx (.own x)) x (.ins W.c_Facts dx [])) := fun b o e => by
        rw [upd_ne (ne_of_none e hx), upd_ne (ne_of_none e hdx)]
        exact e
      refine ⟨x, dx, M, la, as, _, rfl, upd_same, gM.s.trans sm, vfree gM.s hx, sqlO upd_same, hla, fun H5 d0 co d2 d3 d4 d5 d6 g5 e5 hco hco2 => ⟨rfl, ?_⟩⟩
      have g6 := Gr.made (S := S0) gM.s hx hdx ne g5 (vfree gM.s hx) e5
      have nxM : M ≠ x := ne_of_none hm hx
      have nco : co ≠ x := fun z => by rw [z, upd_same] at hco; cases hco
      have hco0 : H2 co = none := by
        rw [upd_ne nco] at hco
        by_cases e : co = dx
        · rw [e, upd_same] at hco; cases hco
        · rw [upd_ne e] at hco; exact hco
      have ncM : co ≠ M := fun z => by rw [z, hm] at hco0; cases hco0
      refine k x _ H5 (gM.trans g6) (g.free hx) ⟨as, dx, M, la, d0, co, d2, d3, d4, d5, d6, upd_same, by rw [upd_ne nxM]; exact upd_same, ra.mono ((same_new v0).trans (same_new (vfree gM.s hx))), hla, ?_, g.free hco0, hco2⟩
      rw [upd_ne nco, upd_ne ncM]
      exact vfree g.s hco0
end
end Lw

set_option maxHeartbeats 0
namespace Lw
open PySem PySem.Spec PyProof.Rows L2 VW TL
local macro_rules | `(tactic| walk_at "rdc") => `(tactic| first | assumption | rfl | decide | omega | exact Or.inr ⟨by decide, by decide⟩ | exact ⟨by decide, by decide⟩ | exact ⟨by decide, by decide, by decide⟩ | (show (0 : Int) < _; omega) | (show (0 : Int) < _ ∧ _ < (1073741824 : Int); omega) | (show (-(2 ^ 64) < _ ∧ _ < 2 ^ 64) ∨ (-(2 ^ 64) < _ ∧ _ < 2 ^ 64); omega) | (show (-(2 ^ 64) < _ ∧ _ < 2 ^ 64) ∨ (-(2 ^ 64) < _ ∧ _ < 2 ^ 64); right; split <;> decide) | exact Nat.le_of_ble_eq_true rfl)
local macro_rules | `(tactic| walk_at "rd1") => `(tactic| first | refine ⟨_, rfl, ?_⟩ | refine And.intro (by walk_at "rdc") ?_ | refine ⟨_, _, rfl, rfl, ?_⟩ | refine Or.inl ⟨_, rfl, ?_⟩ | refine Or.inr ⟨_, rfl, ?_⟩ | refine ⟨_, _, _, _, rfl, rfl, sqlO (by first | assumption | exact upd_same), rfl, ?_⟩ | refine ⟨_, _, _, _, rfl, rfl, (by first | assumption | exact upd_same), rfl, ?_⟩)
local macro_rules | `(tactic| walk_at "rd") => `(tactic| repeat (walk_at "rd1"))

/-! ### how many nodes -/
def sizeF : Nat → List Row → Nat → Nat
  | 0, _, _ => 0
  | n + 1, rs, i => 1 + ((partsN (rs.getD i .hard)).map (sizeF n rs)).sum
theorem sum_congr {f g : Nat → Nat} : ∀ {l : List Nat}, (∀ j ∈ l, f j = g j) → (l.map f).sum = (l.map g).sum := fun {l} h => by rw [List.map_congr_left h]
theorem parts_lt {rs : List Row} (hok : OkRows rs) (i : Nat) : ∀ j ∈ partsN (rs.getD i .hard), j < i := by
  intro j hj
  cases e : rs[i]? with
  | none =>
    rw [List.getD_eq_getElem?_getD, e] at hj
    cases hj
  | some r =>
    rw [List.getD_eq_getElem?_getD, e] at hj
    exact partsN_lt (hok i r e) j hj
theorem sizeF_eq {rs : List Row} (hok : OkRows rs) : ∀ (n m i : Nat), i < n → i < m → sizeF n rs i = sizeF m rs i
  | n + 1, m + 1, i, h1, h2 => by
    unfold sizeF
    rw [sum_congr fun j hj => sizeF_eq hok n m j (by have := parts_lt hok i j hj; omega) (by have := parts_lt hok i j hj; omega)]
def size (rs : List Row) (i : Nat) : Nat := sizeF (i + 1) rs i
theorem size_eq {rs : List Row} (hok : OkRows rs) (i : Nat) : size rs i = 1 + ((partsN (rs.getD i .hard)).map (size rs)).sum := by
  show 1 + _ = _
  rw [sum_congr fun j hj => sizeF_eq hok i (j + 1) j (parts_lt hok i j hj) (Nat.lt_succ_self j)]
  rfl
/-! ### how many nodes of a choice -/
inductive Ch where
  | all | kind (s : Str) | row (a : Nat)
def Ch.key : Ch → Key
  | .all => .inr "all" | .kind s => .inr s | .row a => .inl (a : Int)
abbrev Ch.v (c : Ch) : V := kV c.key
def Ch.has (rs : List Row) : Ch → Nat → Bool
  | .all, _ => true | .kind s, i => decide (s = kindS (rs.getD i .hard)) | .row a, i => decide (a = i)
def kindsL : List Str := ["text", "line", "hard", "cat", "nest", "align", "group"]
def Ch.ok (n : Nat) : Ch → Prop
  | .all => True | .kind s => s ∈ kindsL | .row a => a < n
theorem all_no : ("all" : Str) ∉ kindsL := by decide +kernel
theorem Ch.inj {n : Nat} {c d : Ch} (hc : c.ok n) (hd : d.ok n) (e : c.key = d.key) : c = d := by
  cases c with
  | all =>
    cases d with
    | all => rfl
    | kind s =>
      have e : ("all" : Str) = s := Sum.inr.inj e
      subst e
      exact absurd hd all_no
    | row a => cases e
  | kind s =>
    cases d with
    | all =>
      have e : s = ("all" : Str) := Sum.inr.inj e
      subst e
      exact absurd hc all_no
    | kind s2 =>
      have e : s = s2 := Sum.inr.inj e
      rw [e]
    | row a => cases e
  | row a =>
    cases d with
    | all => cases e
    | kind s => cases e
    | row b =>
      have e : (a : Int) = (b : Int) := Sum.inl.inj e
      rw [Int.ofNat.inj e]
def allKeys (n : Nat) : List Key := .inr "all" :: (kindsL.map .inr ++ (List.range n).map fun a : Nat => .inl (a : Int))
theorem Ch.mem {n : Nat} {c : Ch} (h : c.ok n) : c.key ∈ allKeys n := by
  cases c with
  | all => exact List.mem_cons_self
  | kind s => exact List.mem_cons_of_mem _ (List.mem_append_left _ (List.mem_map.mpr ⟨s, h, rfl⟩))
  | row a => exact List.mem_cons_of_mem _ (List.mem_append_right _ (List.mem_map.mpr ⟨a, List.mem_range.mpr h, rfl⟩))
theorem nodup_le {α : Type} [DecidableEq α] : ∀ {l m : List α}, l.Nodup → (∀ x ∈ l, x ∈ m) → l.length ≤ m.length
  | [], m, _, _ => Nat.zero_le _
  | a :: l, m, h, hm => by
    obtain ⟨h1, h2⟩ := List.nodup_cons.mp h
    have ha := hm a List.mem_cons_self
    have := nodup_le (m := m.erase a) h2 fun x hx => (List.mem_erase_of_ne (fun z => h1 (by rw [← z]; exact hx))).mpr (hm x (List.mem_cons_of_mem _ hx))
    rw [List.length_erase_of_mem ha] at this
    have : 0 < m.length := List.length_pos_of_mem ha
    rw [List.length_cons]
    omega
def one (b : Bool) : Nat := if b = true then 1 else 0
theorem one_int (b : Bool) : ((one b : Nat) : Int) = if b = true then 1 else 0 := by cases b <;> rfl
def cntF (P : Nat → Bool) : Nat → List Row → Nat → Nat
  | 0, _, _ => 0
  | n + 1, rs, i => one (P i) + ((partsN (rs.getD i .hard)).map (cntF P n rs)).sum
theorem cntF_eq {P : Nat → Bool} {rs : List Row} (hok : OkRows rs) : ∀ (n m i : Nat), i < n → i < m → cntF P n rs i = cntF P m rs i
  | n + 1, m + 1, i, h1, h2 => by
    unfold cntF
    rw [sum_congr fun j hj => cntF_eq hok n m j (by have := parts_lt hok i j hj; omega) (by have := parts_lt hok i j hj; omega)]
def cnt (P : Nat → Bool) (rs : List Row) (i : Nat) : Nat := cntF P (i + 1) rs i
theorem cnt_eq {P : Nat → Bool} {rs : List Row} (hok : OkRows rs) (i : Nat) : cnt P rs i = one (P i) + ((partsN (rs.getD i .hard)).map (cnt P rs)).sum := by
  show one (P i) + _ = _
  rw [sum_congr fun j hj => cntF_eq hok i (j + 1) j (parts_lt hok i j hj) (Nat.lt_succ_self j)]
  rfl
theorem cntF_all (rs : List Row) : ∀ n i, cntF (fun _ => true) n rs i = sizeF n rs i
  | 0, _ => rfl
  | n + 1, i => by
    unfold cntF sizeF
    rw [sum_congr fun j _ => cntF_all rs n j]
    rfl
theorem cnt_all (rs : List Row) (i : Nat) : cnt (fun _ => true) rs i = size rs i := cntF_all rs _ _
def cntsI (P : Nat → Bool) (rs : List Row) : List Int := (List.range rs.length).map fun i => (cnt P rs i : Int)
/-- the dict of what was counted -/
structure CntAt (U H : Hp) (co : Addr) (rs : List Row) : Prop where
  o : U co = none
  h : ∃ es : List (Key × V), H co = some (.dK es) ∧ (es.map (·.1)).Nodup ∧ (∀ k ∈ es.map (·.1), ∃ c : Ch, c.ok rs.length ∧ c.key = k) ∧ ∀ c : Ch, c.ok rs.length → ∀ v, valV es c.key = some v → ∃ cl, v = .ref cl ∧ U cl = some (.lst ((cntsI (c.has rs) rs).map V.int))
theorem CntAt.gr {S : Addr → Prop} {U H U' H' : Hp} {co : Addr} {rs : List Row} (g : Gr S U H U' H') (ns : ¬ S co) (h : CntAt U H co rs) : CntAt U' H' co rs := by
  obtain ⟨es, h1, h2, h3, h4⟩ := h.h
  refine ⟨g.out (some_ne h1) h.o, es, g.k _ _ ns h1, h2, h3, fun c hc v hv => ?_⟩
  obtain ⟨cl, e1, e2⟩ := h4 c hc v hv
  exact ⟨cl, e1, g.v _ _ e2⟩
/-- the facts of a document in the view -/
structure FaOk (W : Wd) (U : Hp) (fa : Addr) (rs : List Row) (as : List Addr) (la co : Addr) : Prop where
  f : ∃ dx M d0 d2 d3 d4 d5 d6, U fa = some (.ins W.c_Facts dx (factsF M la d0 co d2 d3 d4 d5 d6)) ∧ U M = some (.lst (as.map V.ref))
  r : RowsAt W.c_Row U rs as
  l : atI (as.map V.ref) (-1) = some (.ref la)
theorem FaOk.mono {W : Wd} {U U' : Hp} {fa : Addr} {rs : List Row} {as : List Addr} {la co : Addr} (s : Same U U') (h : FaOk W U fa rs as la co) : FaOk W U' fa rs as la co := by
  obtain ⟨⟨dx, M, d0, d2, d3, d4, d5, d6, f1, f2⟩, f3, f4⟩ := h
  exact ⟨⟨dx, M, d0, d2, d3, d4, d5, d6, s _ _ f1, s _ _ f2⟩, f3.mono s, f4⟩
/-- .. with the dict of counts -/
structure FaSt (W : Wd) (U H : Hp) (fa : Addr) (rs : List Row) (as : List Addr) (la co : Addr) : Prop where
  k : FaOk W U fa rs as la co
  c : CntAt U H co rs
theorem FaSt.gr {S : Addr → Prop} {W : Wd} {U H U' H' : Hp} {fa : Addr} {rs : List Row} {as : List Addr} {la co : Addr} (g : Gr S U H U' H') (ns : ¬ S co) (h : FaSt W U H fa rs as la co) : FaSt W U' H' fa rs as la co := ⟨h.k.mono g.v, h.c.gr g ns⟩
abbrev docG (l fa : Addr) : List (Str × V) := [("_rows", .ref l), ("facts", .ref fa), ("group_facts", .non)]
theorem ld_rows {l : Addr} : List.lookup ("_rows" : Str) (docF l) = some (.ref l) := by kernel_rfl
theorem ld_facts {l : Addr} : List.lookup ("facts" : Str) (docF l) = some .non := by kernel_rfl
theorem lg_facts {l fa : Addr} : List.lookup ("facts" : Str) (docG l fa) = some (.ref fa) := by kernel_rfl
theorem pd_facts {l fa : Addr} : putF ("facts" : Str) (.ref fa : V) (docF l) = docG l fa := by kernel_rfl
/-- a document, with its facts or without; S: what of it may change -/
structure DocSt (K : PySem.W.Frag) (W : Wd) (S : Addr → Prop) (U H : Hp) (x : Addr) (rs : List Row) : Prop where
  s : S x
  o : U x = none
  a : ∀ b, S b → H b ≠ none
  h : ∃ dx l, (H x = some (.ins W.c_Doc dx (docF l)) ∧ ∃ ws, U l = some (.lst ws) ∧ DpAll K U ws (rs.map Row.data)) ∨ ∃ fa as la co, S co ∧ H x = some (.ins W.c_Doc dx (docG l fa)) ∧ FaSt W U H fa rs as la co
structure Grw (S : Addr → Prop) (U H : Hp) (S' : Addr → Prop) (U' H' : Hp) : Prop where
  g : Gr S' U H U' H'
  m : ∀ b, S b → S' b
  n : ∀ b, S' b → S b ∨ H b = none
theorem Grw.trans {S S' S2 : Addr → Prop} {U H U' H' U2 H2 : Hp} (a : Grw S U H S' U' H') (b : Grw S' U' H' S2 U2 H2) : Grw S U H S2 U2 H2 :=
  ⟨(a.g.weak b.m).trans b.g, fun x h => b.m x (a.m x h), fun x h => (b.n x h).elim (a.n x) fun z => .inr (a.g.free z)⟩
theorem Grw.refl {S : Addr → Prop} {U H : Hp} (h : Same U H) : Grw S U H S U H := ⟨Gr.refl h, fun _ h => h, fun _ h => .inl h⟩
theorem Grw.of {S S' : Addr → Prop} {U H U' H' : Hp} (g : Gr S U H U' H') (h : ∀ b, S b → S' b) : Grw S' U H S' U' H' := ⟨g.weak h, fun _ h => h, fun _ h => .inl h⟩
theorem Grw.of0 {S : Addr → Prop} {U H U' H' : Hp} (g : Gr S0 U H U' H') : Grw S U H S U' H' := .of g fun _ z => z.elim
theorem DocSt.gr0 {K : PySem.W.Frag} {W : Wd} {S : Addr → Prop} {U H U' H' : Hp} {x : Addr} {rs : List Row} (g : Gr S0 U H U' H') (h : DocSt K W S U H x rs) : DocSt K W S U' H' x rs := by
  obtain ⟨dx, l, h3⟩ := h.h
  refine ⟨h.s, ?_, fun b hb => g.there (h.a b hb), dx, l, ?_⟩
  · rcases h3 with ⟨hx, _⟩ | ⟨_, _, _, _, _, hx, _⟩ <;> exact g.out (some_ne hx) h.o
  · rcases h3 with ⟨hx, ws, e1, e2⟩ | ⟨fa, as, la, co, sc, hx, f⟩
    · exact .inl ⟨g.same _ _ hx, ws, g.v _ _ e1, dpsS g.v e2⟩
    · exact .inr ⟨fa, as, la, co, sc, g.same _ _ hx, f.gr g fun z => z⟩
/-- behind a call that changes the counts alone -/
theorem DocSt.co {K : PySem.W.Frag} {W : Wd} {S : Addr → Prop} {U H U' H' : Hp} {x dx l fa : Addr} {rs : List Row} {as : List Addr} {la co : Addr} (sx : S x) (sa : ∀ b, S b → H b ≠ none) (ux : U x = none) (hx : H x = some (.ins W.c_Doc dx (docG l fa))) (sc : S co) (f0 : CntAt U H co rs) (g : Gr (fun b => b = co) U H U' H') (f : FaSt W U' H' fa rs as la co) : DocSt K W S U' H' x rs := by
  have nx : ¬ x = co := fun z => by
    obtain ⟨es, h1, _⟩ := f0.h
    rw [z, h1] at hx
    cases hx
  exact ⟨sx, g.out (some_ne hx) ux, fun b hb => g.there (sa b hb), dx, l, .inr ⟨fa, as, la, co, sc, g.k _ _ nx hx, f⟩⟩
theorem valV_none {es : List (Key × V)} {k : Key} (h : valV es k = none) : k ∉ es.map (·.1) := fun z => by
  have := valV_any k es
  rw [h] at this
  obtain ⟨p, hp, e⟩ := List.mem_map.mp z
  have : (es.any fun kv => decide (kv.1 = k)) = true := List.any_eq_true.mpr ⟨p, hp, decide_eq_true e⟩
  rename_i q
  rw [q] at this
  cases this
theorem putK_new {es : List (Key × V)} {k : Key} {v : V} (h : valV es k = none) : putK es k v = es ++ [(k, v)] := by
  unfold putK
  rw [valV_any k es, h]
  rfl
theorem CntAt.len {rs : List Row} {es : List (Key × V)} (h200 : rs.length ≤ 200) (h2 : (es.map (·.1)).Nodup) (h3 : ∀ k ∈ es.map (·.1), ∃ c : Ch, c.ok rs.length ∧ c.key = k) : es.length < sizeLine := by
  have := nodup_le (m := allKeys rs.length) h2 fun k hk => by
    obtain ⟨c, hc, e⟩ := h3 k hk
    rw [← e]
    exact c.mem hc
  have hl : (allKeys rs.length).length = 8 + rs.length := by
    unfold allKeys
    rw [List.length_cons, List.length_append, List.length_map, List.length_map, List.length_range]
    show 7 + rs.length + 1 = _
    omega
  rw [List.length_map, hl] at this
  exact Nat.lt_of_le_of_lt (show es.length ≤ 208 by omega) (by decide)
/-- a count more -/
theorem CntAt.put {U H : Hp} {co cl : Addr} {rs : List Row} {es : List (Key × V)} {c : Ch} (hc : c.ok rs.length) (u : U co = none) (h2 : (es.map (·.1)).Nodup) (h3 : ∀ k ∈ es.map (·.1), ∃ c : Ch, c.ok rs.length ∧ c.key = k)
    (h4 : ∀ c : Ch, c.ok rs.length → ∀ v, valV es c.key = some v → ∃ cl, v = .ref cl ∧ U cl = some (.lst ((cntsI (c.has rs) rs).map V.int))) (hn : valV es c.key = none) (hcl : U cl = some (.lst ((cntsI (c.has rs) rs).map V.int))) : CntAt U (upd H co (.dK (putK es c.key (.ref cl)))) co rs := by
  rw [putK_new hn]
  refine ⟨u, _, upd_same, ?_, fun k hk => ?_, fun d hd v hv => ?_⟩
  · rw [List.map_append, List.nodup_append]
    refine ⟨h2, List.nodup_cons.mpr ⟨fun z => (nomatch z), List.nodup_nil⟩, fun a ha b hb e => ?_⟩
    have hb : b = c.key := List.mem_singleton.mp hb
    rw [e, hb] at ha
    exact valV_none hn ha
  · rw [List.map_append] at hk
    rcases List.mem_append.mp hk with hk | hk
    · exact h3 k hk
    · exact ⟨c, hc, (List.mem_singleton.mp hk).symm⟩
  · rw [valV_snoc _ _ _ _ hn] at hv
    by_cases e : d.key = c.key
    · rw [if_pos e] at hv
      cases hv
      rw [Ch.inj hd hc e]
      exact ⟨cl, rfl, hcl⟩
    · rw [if_neg e] at hv
      exact h4 d hd v hv
section
variable {P : Program} {w : World} {K : PySem.W.Frag} {mg : Str → Option Value} {base : Heap} {W : Wd}
theorem sc_check_doc : FnScope ["doc"] ["doc"] (defScope s_check_doc) := ⟨rfl, rfl, rfl, by decide +kernel, rfl, by decide +kernel, by decide +kernel⟩
def sp_checkdoc (C : Addr) : Sp := fun vs H Q _ => ∃ (x dx : Addr) (fs : List (Str × V)), vs = [.ref x] ∧ H x = some (.ins C dx fs) ∧ Q .non H
theorem d_check_doc (T : Txt w K mg W) : DefOk P w K mg base "check_doc" s_check_doc ["doc"] 1 (sp_checkdoc W.c_Doc) := by
  refine T.f_check_doc.ok sc_check_doc (fun vs H Q E h => ?_) (fun f cdv A outer s H vs Q E hr h => ?_)
  · obtain ⟨x, dx, fs, rfl, _⟩ := h
    rfl
  · obtain ⟨x, dx, fs, rfl, hx, k⟩ := h
    refine ⟨_, (pss_one (ps_if (pt_not (pt_val (pe_callB (id := "isinstance") call_isi (by rfl) T.n_isinstance (by decide +kernel) (pa_cons (pv 0) (pa_cons (pe_glob (v := .ref W.c_Doc) (by rfl) T.c_Doc rfl) pa_nil))))) (pss_one ps_never) pss_nil)), ?_⟩
    refine ⟨_, rfl, _, _, _, _, true, rfl, .own W.c_Doc, .base (.ins hx T.cl_Doc T.i_Doc.ha T.i_Doc.hn T.i_Doc.htk T.i_Doc.hm), T.i_Doc.self_, true, rfl, iteF k⟩
theorem sc_rows_in : FnScope ["doc"] ["doc"] (defScope s_rows_in) := ⟨rfl, rfl, rfl, by decide +kernel, rfl, by decide +kernel, by decide +kernel⟩
def sp_rowsin (C : Addr) : Sp := fun vs H Q _ => ∃ (x dx l : Addr), vs = [.ref x] ∧ H x = some (.ins C dx (docF l)) ∧ Q (.ref l) H
theorem d_rows_in (T : Txt w K mg W) : DefOk P w K mg base "rows_in" s_rows_in ["doc"] 1 (sp_rowsin W.c_Doc) := by
  refine T.f_rows_in.ok sc_rows_in (fun vs H Q E h => ?_) (fun f cdv A outer s H vs Q E hr h => ?_)
  · obtain ⟨x, dx, l, rfl, _⟩ := h
    rfl
  · obtain ⟨x, dx, l, rfl, hx, k⟩ := h
    refine ⟨_, (pss_one (ps_ret (pe_fld (pv 0) rfl))), ?_⟩
    exact ⟨_, rfl, x, W.c_Doc, dx, _, _, rfl, hx, T.cl_Doc, T.na_Doc__rows, ld_rows, k⟩
theorem sc_facts_of : FnScope ["doc"] ["doc"] (defScope s_facts_of) := ⟨rfl, rfl, rfl, by decide +kernel, rfl, by decide +kernel, by decide +kernel⟩
def sp_factsof (K : PySem.W.Frag) (W : Wd) : Sp := fun vs H Q _ => ∃ (x : Addr) (rs : List Row) (S : Addr → Prop) (U : Hp), vs = [.ref x] ∧ Same U H ∧ DocSt K W S U H x rs ∧ OkRows rs ∧ 0 < rs.length ∧ rs.length ≤ 200 ∧
  ∀ (dx l fa : Addr) (as : List Addr) (la co : Addr) (S' : Addr → Prop) (U' H' : Hp), Grw S U H S' U' H' → S' x → S' co → (∀ b, S' b → H' b ≠ none) → U' x = none → H' x = some (.ins W.c_Doc dx (docG l fa)) → FaSt W U' H' fa rs as la co → Q (.ref fa) H'
theorem d_facts_of (T : Txt w K mg W) : DefOk P w K mg base "facts_of" s_facts_of ["doc"] 5 (sp_factsof K W) := by
  refine T.f_facts_of.ok sc_facts_of (fun vs H Q E h => ?_) (fun f cdv A outer s H vs Q E hr h => ?_)
  · obtain ⟨x, rs, S, U, rfl, _⟩ := h
    rfl
  · obtain ⟨x, rs, S, U, rfl, hU, D, hok, h0, h200, k⟩ := h
    refine ⟨_, (pss_cons (ps_expr (pe_callD (d_check_doc T) (hr.mono (by decide)) (pa_cons (pv 0) pa_nil)))
      (pss_cons (ps_if (pt_cmpR op_isN (pe_fld (pv 0) rfl) pe_non (nomark _)) (pss_one (ps_fld (pv 0) (pe_callD (d__new_facts T) (hr.mono (by decide)) (pa_cons (pe_callD (d_rows_in T) (hr.mono (by decide)) (pa_cons (pv 0) pa_nil)) (pa_cons pe_bl pa_nil))) rfl)) pss_nil)
      (pss_one (ps_ret (pe_fld (pv 0) rfl))))), ?_⟩
    have ux := D.o
    have sx := D.s
    obtain ⟨dx, l, ⟨hx, ws, hl, hd⟩ | ⟨fa, as, la, co, sc, hx, F⟩⟩ := D.h
    · refine ⟨_, rfl, x, dx, _, rfl, hx, ?_⟩
      refine ⟨_, rfl, x, W.c_Doc, dx, _, _, rfl, hx, T.cl_Doc, T.na_Doc_facts, ld_facts, ?_⟩
      refine ⟨rfl, _, rfl, ifT (decide_eq_true rfl) ?_⟩
      refine ⟨_, rfl, x, dx, l, rfl, hx, l, ws, rs, U, rfl, hU, hl, hd, hok, h0, h200, fun fa U' H' g hfa fn => ?_⟩
      have hx' := g.same _ _ hx
      have ux' : U' x = none := g.out (some_ne hx) ux
      refine ⟨_, rfl, x, W.c_Doc, dx, _, rfl, hx', T.cl_Doc, T.na_Doc_facts, Nat.le_of_ble_eq_true rfl, ?_⟩
      rw [pd_facts]
      refine ⟨_, rfl, x, W.c_Doc, dx, _, _, rfl, upd_same, T.cl_Doc, T.na_Doc_facts, lg_facts, ?_⟩
      obtain ⟨as, dxf, M, la, d0, co, d2, d3, d4, d5, d6, f1, f2, f3, f4, f5, f6, f7⟩ := fn
      have nco : co ≠ x := fun z => by rw [z, hx] at f6; cases f6
      have g2 : Gr (fun b => S b ∨ b = co) U H U' (upd H' x (.ins W.c_Doc dx (docG l fa))) := (g.of0).mut (.inl (.inl sx)) ux'
      refine k dx l fa as la co (fun b => S b ∨ b = co) U' _ ⟨g2, fun _ h => .inl h, fun b h => h.elim .inl fun e => .inr (by rw [e]; exact f6)⟩ (.inl sx) (.inr rfl) (fun b h => h.elim (fun h => g2.there (D.a b h)) fun e => by rw [e, upd_ne nco, f7]; exact fun z => nomatch z) ux' upd_same ⟨⟨⟨dxf, M, d0, d2, d3, d4, d5, d6, f1, f2⟩, f3, f4⟩, f5, [], by rw [upd_ne nco]; exact f7, List.nodup_nil, fun k hk => (nomatch hk), fun c hc v hv => (nomatch hv)⟩
    · refine ⟨_, rfl, x, dx, _, rfl, hx, ?_⟩
      refine ⟨_, rfl, x, W.c_Doc, dx, _, _, rfl, hx, T.cl_Doc, T.na_Doc_facts, lg_facts, ?_⟩
      refine ⟨rfl, _, rfl, ifF (decide_eq_false fun e => nomatch e) ?_⟩
      exact ⟨_, rfl, x, W.c_Doc, dx, _, _, rfl, hx, T.cl_Doc, T.na_Doc_facts, lg_facts, k dx l fa as la co S U H (Grw.refl hU) sx sc D.a ux hx F⟩
end
end Lw

set_option maxHeartbeats 0
namespace Lw
open PySem PySem.Spec PyProof.Rows L2 VW TL
local macro_rules | `(tactic| walk_at "rdc") => `(tactic| first | assumption | rfl | decide | omega | exact Or.inr ⟨by decide, by decide⟩ | exact ⟨by decide, by decide⟩ | exact ⟨by decide, by decide, by decide⟩ | (show (0 : Int) < _; omega) | (show (0 : Int) < _ ∧ _ < (1073741824 : Int); omega) | (show (-(2 ^ 64) < _ ∧ _ < 2 ^ 64) ∨ (-(2 ^ 64) < _ ∧ _ < 2 ^ 64); omega) | (show (-(2 ^ 64) < _ ∧ _ < 2 ^ 64) ∨ (-(2 ^ 64) < _ ∧ _ < 2 ^ 64); right; split <;> decide) | exact Nat.le_of_ble_eq_true rfl)
local macro_rules | `(tactic| walk_at "rd1") => `(tactic| first | refine ⟨_, rfl, ?_⟩ | refine And.intro (by walk_at "rdc") ?_ | refine ⟨_, _, rfl, rfl, ?_⟩ | refine Or.inl ⟨_, rfl, ?_⟩ | refine Or.inr ⟨_, rfl, ?_⟩ | refine ⟨_, _, _, _, rfl, rfl, sqlO (by first | assumption | exact upd_same), rfl, ?_⟩ | refine ⟨_, _, _, _, rfl, rfl, (by first | assumption | exact upd_same), rfl, ?_⟩)
local macro_rules | `(tactic| walk_at "rd") => `(tactic| repeat (walk_at "rd1"))

section
variable {P : Program} {w : World} {K : PySem.W.Frag} {mg : Str → Option Value} {base : Heap} {W : Wd}
def szV (rs : List Row) (i : Nat) : List V := ((List.range i).map fun k => (size rs k : Int)).map V.int
theorem szV_succ {rs : List Row} {i : Nat} : szV rs (i + 1) = szV rs i ++ [.int (size rs i : Int)] := by
  unfold szV
  rw [List.range_succ, List.map_append, List.map_append]
  rfl
theorem szV_len {rs : List Row} {i : Nat} : (szV rs i).length = i := by unfold szV; rw [List.length_map, List.length_map, List.length_range]
theorem szV_at {rs : List Row} {i j : Nat} (h : j < i) : atI (szV rs i) (j : Int) = some (.int (size rs j : Int)) := by
  refine atI_nat ?_
  unfold szV
  rw [List.getElem?_map, List.getElem?_map, List.getElem?_range h]
  rfl
theorem cast_sum (f : Nat → Nat) : ∀ l : List Nat, ((l.map f).sum : Int) = (l.map fun j => (f j : Int)).sum
  | [] => rfl
  | a :: l => by
    rw [List.map_cons, List.map_cons, List.sum_cons, List.sum_cons, ← cast_sum f l]
    exact Int.natCast_add _ _
theorem size_int {rs : List Row} (hok : OkRows rs) (i : Nat) : (size rs i : Int) = 1 + ((partsN (rs.getD i .hard)).map fun j => (size rs j : Int)).sum := by
  rw [size_eq hok i, Int.natCast_add, cast_sum]
  rfl
def cV (P : Nat → Bool) (rs : List Row) (i : Nat) : List V := ((List.range i).map fun k => (cnt P rs k : Int)).map V.int
theorem cV_succ {P : Nat → Bool} {rs : List Row} {i : Nat} : cV P rs (i + 1) = cV P rs i ++ [.int (cnt P rs i : Int)] := by
  unfold cV
  rw [List.range_succ, List.map_append, List.map_append]
  rfl
theorem cV_len {P : Nat → Bool} {rs : List Row} {i : Nat} : (cV P rs i).length = i := by unfold cV; rw [List.length_map, List.length_map, List.length_range]
theorem cV_at {P : Nat → Bool} {rs : List Row} {i j : Nat} (h : j < i) : atI (cV P rs i) (j : Int) = some (.int (cnt P rs j : Int)) := by
  refine atI_nat ?_
  unfold cV
  rw [List.getElem?_map, List.getElem?_map, List.getElem?_range h]
  rfl
theorem cnt_int {P : Nat → Bool} {rs : List Row} (hok : OkRows rs) (i : Nat) : (cnt P rs i : Int) = (if P i = true then 1 else 0) + ((partsN (rs.getD i .hard)).map fun j => (cnt P rs j : Int)).sum := by
  rw [cnt_eq hok i, Int.natCast_add, cast_sum, one_int]
theorem FaOk.row {U : Hp} {fa : Addr} {rs : List Row} {as : List Addr} {la co : Addr} (h : FaOk W U fa rs as la co) {j : Nat} (hj : j < rs.length) : ∃ pl, RowAt W.c_Row U (as.getD j 0) j (kindS (rs.getD j .hard)) pl ∧ U pl = some (.lst (refsN as (partsN (rs.getD j .hard)))) := by
  obtain ⟨pl, h1, h2⟩ := h.r.2 j _ (List.getElem?_eq_getElem hj)
  refine ⟨pl, ?_, ?_⟩
  · rw [show rs.getD j .hard = rs[j] by rw [List.getD_eq_getElem?_getD, List.getElem?_eq_getElem hj]; rfl]
    exact h1
  · rw [show rs.getD j .hard = rs[j] by rw [List.getD_eq_getElem?_getD, List.getElem?_eq_getElem hj]; rfl]
    exact h2
theorem sc__is_chosen : FnScope ["row", "chosen"] ["row", "chosen"] (defScope s__is_chosen) := ⟨rfl, rfl, rfl, by decide +kernel, rfl, by decide +kernel, by decide +kernel⟩
def sp_chosen (W : Wd) : Sp := fun vs H Q _ => ∃ (a pl : Addr) (c : Ch) (rs : List Row) (i n : Nat), vs = [.ref a, c.v] ∧ RowAt W.c_Row H a i (kindS (rs.getD i .hard)) pl ∧ c.ok n ∧ Q (.bl (c.has rs i)) H
theorem d__is_chosen (T : Txt w K mg W) : DefOk P w K mg base "_is_chosen" s__is_chosen ["row", "chosen"] 1 (sp_chosen W) := by
  refine T.f__is_chosen.ok sc__is_chosen (fun vs H Q E h => ?_) (fun f cdv A outer s H vs Q E hr h => ?_)
  · obtain ⟨a, pl, c, rs, i, n, rfl, _⟩ := h
    rfl
  · obtain ⟨a, pl, c, rs, i, n, rfl, hR, hc, k⟩ := h
    refine ⟨_, (pss_one (ps_ret (pe_or (pe_cmpR op_eq (pv 1) (pe_globS T.g_ALL) (nomark _)) (pe_or (pe_cmpR op_eq (pv 1) (pe_fld (pv 0) rfl) (nomark _)) (pe_one (pe_cmpR op_eq (pv 1) (pe_fld (pv 0) rfl) (nomark _))))))), ?_⟩
    obtain ⟨dxa, sga, moa, wia, lea, bra, sta, inna, maa, ena, hla, spa, kna, opa, hA⟩ := hR
    cases c with
    | all => exact ⟨_, rfl, rfl, true, congrArg V.bl (by kernel_rfl), iteT k⟩
    | kind s =>
      have ns : ¬ V.str s = V.str "all" := fun z => by
        cases z
        exact all_no hc
      refine ⟨_, rfl, rfl, false, congrArg V.bl (decide_eq_false ns), iteF ?_⟩
      refine ⟨_, rfl, _, rfl, a, W.c_Row, dxa, _, _, rfl, hA, T.cl_Row, T.na_Row_kind, lk_kind, rfl, ?_⟩
      have k : Q (.bl (decide (s = kindS (rs.getD i .hard)))) H := k
      by_cases e : s = kindS (rs.getD i .hard)
      · rw [decide_eq_true e] at k
        exact ⟨true, congrArg V.bl (decide_eq_true (congrArg V.str e)), iteT k⟩
      · rw [decide_eq_false e] at k
        refine ⟨false, congrArg V.bl (decide_eq_false fun z => e (V.str.inj z)), iteF ?_⟩
        refine ⟨_, rfl, _, rfl, a, W.c_Row, dxa, _, _, rfl, hA, T.cl_Row, T.na_Row_number, lk_number, rfl, ?_⟩
        exact k
    | row b =>
      refine ⟨_, rfl, rfl, false, congrArg V.bl (decide_eq_false fun z => nomatch z), iteF ?_⟩
      refine ⟨_, rfl, _, rfl, a, W.c_Row, dxa, _, _, rfl, hA, T.cl_Row, T.na_Row_kind, lk_kind, rfl, ?_⟩
      refine ⟨false, congrArg V.bl (decide_eq_false fun z => nomatch z), iteF ?_⟩
      refine ⟨_, rfl, _, rfl, a, W.c_Row, dxa, _, _, rfl, hA, T.cl_Row, T.na_Row_number, lk_number, rfl, ?_⟩
      have k : Q (.bl (decide (b = i))) H := k
      have e : decide (V.int (b : Int) = V.int (i : Int)) = decide (b = i) := by
        by_cases e : b = i
        · rw [decide_eq_true e, decide_eq_true (by rw [e])]
        · rw [decide_eq_false e]
          exact decide_eq_false fun z => e (Int.ofNat.inj (V.int.inj z))
      rw [← e] at k
      exact k
theorem sc__counts_below : FnScope ["facts", "chosen", "counts", "row", "part"] ["facts", "chosen"] (defScope s__counts_below) := ⟨rfl, rfl, rfl, by decide +kernel, rfl, by decide +kernel, by decide +kernel⟩
def sp_counts (K : PySem.W.Frag) (W : Wd) : Sp := fun vs H Q _ => ∃ (fa : Addr) (rs : List Row) (as : List Addr) (la co : Addr) (U : Hp) (c : Ch), vs = [.ref fa, c.v] ∧ Same U H ∧ OkRows rs ∧ rs.length ≤ 200 ∧ FaSt W U H fa rs as la co ∧ c.ok rs.length ∧
  ∀ (cl : Addr) (U' H' : Hp), Gr (fun b => b = co) U H U' H' → FaSt W U' H' fa rs as la co → U' cl = some (.lst (cV (c.has rs) rs rs.length)) → Q (.ref cl) H'
theorem d__counts_below (T : Txt w K mg W) : DefOk P w K mg base "_counts_below" s__counts_below ["facts", "chosen"] 2 (sp_counts K W) := by
  refine T.f__counts_below.ok sc__counts_below (fun vs H Q E h => ?_) (fun f cdv A outer s H vs Q E hr h => ?_)
  · obtain ⟨fa, rs, as, la, co, U, c, rfl, _⟩ := h
    rfl
  · obtain ⟨fa, rs, as, la, co, U, c, rfl, hU, hok, h200, fo, hc, k⟩ := h
    refine ⟨_, (pss_cons (ps_if (pt_cmp (pc_dnotin (hu_of hr) (pv 1) (pe_fld (pv 0) rfl))) (pss_cons (ps_set (i := 2) sc__counts_below.nd rfl (Or.inr rfl) (pe_lst pa_nil))
      (pss_cons (ps_for PassesOwn.never rfl (pi_list (pe_fld (pv 0) rfl)) (pg_name (i := 3) sc__counts_below.nd rfl (Or.inl rfl))
      (pss_one (ps_expr (pe_bm PySem.F.plainAttrs_list PySem.F.slot_list_append PySem.F.type_list_append mt_append (pv 2) (pa_cons (pe_op op_add (pe_callTy (T := "int") call_int1 (by rfl) T.n_int (by decide +kernel) (pa_cons (pe_callD (d__is_chosen T) (hr.mono (by decide)) (pa_cons (pv 3) (pa_cons (pv 1) pa_nil))) pa_nil)) (pe_callB (id := "sum") (cr_sum rfl) (by rfl) T.n_sum (by decide +kernel) (pa_cons (pe_lc (own := [("part", 4)]) (g := (gName 4)) (tt := tYes) rfl sc__counts_below.nd (pi_list (pe_fld (pv 3) rfl)) (blkOk_by (own := [("part", 4)]) (N := ["facts", "chosen", "counts", "row", "part"]) (sc := defScope s__counts_below) (by decide +kernel)) (fun _ _ _ _ _ => (pg_name (i := 4) sc__counts_below.nd rfl (Or.inl rfl))) (fun _ _ _ _ _ => pts_nil) (fun _ _ _ _ _ => (pe_ix (ix_listK (K := K)) (pv 2) ((pe_fldK (K := K)) (pv 4) rfl) (fun _ _ => rfl)))) pa_nil))) pa_nil)))))
      (pss_one (ps_dput (hu_of hr) (pe_fld (pv 0) rfl) (pv 1) (pv 2) rfl)))) pss_nil)
      (pss_one (ps_ret (pe_dget (hu_of hr) (pe_fld (pv 0) rfl) (pv 1) (fun _ _ => rfl))))), ?_⟩
    have uco := fo.c.o
    obtain ⟨es, hco, e2, e3, e4⟩ := fo.c.h
    obtain ⟨dx, M, d0, d2, d3, d4, d5, d6, f1, f2⟩ := fo.k.f
    cases ev : valV es c.key with
    | some v =>
      obtain ⟨cl, rfl, hcl⟩ := e4 c hc v ev
      refine ⟨_, rfl, _, rfl, fa, W.c_Facts, dx, _, _, rfl, hU _ _ f1, T.cl_Facts, T.na_Facts_counts, lf_counts, co, some (.ref cl), rfl, .inl ⟨_, c.key, .inl hco, rfl, ev.symm⟩, ?_⟩
      refine ⟨false, rfl, iteF ?_⟩
      exact ⟨_, rfl, fa, W.c_Facts, dx, _, _, rfl, hU _ _ f1, T.cl_Facts, T.na_Facts_counts, lf_counts, _, rfl, co, .ref cl, rfl, .inl ⟨_, c.key, .inl hco, rfl, ev.symm⟩, k cl U H (Gr.refl hU) fo hcl⟩
    | none =>
      refine ⟨_, rfl, _, rfl, fa, W.c_Facts, dx, _, _, rfl, hU _ _ f1, T.cl_Facts, T.na_Facts_counts, lf_counts, co, none, rfl, .inl ⟨_, c.key, .inl hco, rfl, ev.symm⟩, ?_⟩
      refine ⟨true, rfl, iteT ?_⟩
      refine ⟨Nat.le_of_ble_eq_true rfl, fun C hC => ?_⟩
      have hCU := hU.free hC
      have nCco : C ≠ co := fun z => by rw [z, hco] at hC; cases hC
      have g0 := (Gr.refl (S := S0) hU).newH (o := .lst []) hC
      have c0 : (upd H C (.lst [])) C = some (.lst (cV (c.has rs) rs 0)) := upd_same
      generalize upd H C (.lst []) = H1 at g0 c0 ⊢
      have alen := fo.k.r.1
      refine ⟨_, rfl, fa, W.c_Facts, dx, _, _, rfl, g0.s _ _ f1, T.cl_Facts, T.na_Facts_rows, lf_rows, M, rfl, ⟨_, sqlO (g0.s _ _ f2)⟩, ?_⟩
      refine for_list (xs := as.map V.ref) (fun i σ H' => ∃ v3 v4 : Option V, σ = [some (.ref fa), some c.v, some (.ref C), v3, v4] ∧ Gr S0 U H U H' ∧ H' C = some (.lst (cV (c.has rs) rs i))) ⟨none, none, rfl, g0, c0⟩ (fun i σ H' _ ⟨_, _, _, g, _⟩ => sqlO (g.s _ _ f2)) ?_ ?_
      · rintro i y σ H2 hy ⟨v3, v4, rfl, g, hcl⟩
        rw [List.getElem?_map] at hy
        obtain ⟨a, ha, rfl⟩ := Option.map_eq_some_iff.mp hy
        have hi := (List.getElem?_eq_some_iff.mp ha).1
        have hi2 : i < rs.length := by omega
        obtain ⟨pl, hR, hpl⟩ := fo.k.row hi2
        rw [List.getD_eq_getElem?_getD, ha] at hR
        have hR2 := hR.mono g.s
        obtain ⟨dxa, sga, moa, wia, lea, bra, sta, inna, maa, ena, hla, spa, kna, opa, hA⟩ := hR
        have hA2 := g.s _ _ hA
        have hok2 := hok i _ (List.getElem?_eq_getElem hi2)
        have hgd : rs.getD i .hard = rs[i] := by rw [List.getD_eq_getElem?_getD, List.getElem?_eq_getElem hi2]; rfl
        rw [hgd] at hpl
        refine ⟨_, rfl, .inl ⟨rfl, _, sqlO hcl⟩, _, rfl, _, rfl, a, pl, c, rs, i, rs.length, rfl, hR2, hc, .inr ⟨c.has rs i, rfl, ?_⟩⟩
        refine ⟨_, rfl, a, W.c_Row, dxa, _, _, rfl, hA2, T.cl_Row, T.na_Row_parts, lk_parts, pl, rfl, ⟨_, sqlO (g.s _ _ hpl)⟩, fun D hD => ?_⟩
        have nDC : C ≠ D := ne_of_none hcl hD
        have hDH := g.free hD
        have hDU := vfree g.s hD
        refine lc_list (xs := refsN as (partsN rs[i])) (fun j H' => Gr S0 U H U H' ∧ H' C = some (.lst (cV (c.has rs) rs i)) ∧ H' D = some (.lst ((((partsN rs[i]).take j).map fun q => (cnt (c.has rs) rs q : Int)).map V.int))) ⟨g.newH hD, by rw [upd_ne nDC]; exact hcl, upd_same⟩ (fun j H' _ z => sqlO (z.1.s _ _ hpl)) ?_ ?_
        · rintro j y H3 hy ⟨g3, hc3, hd3⟩
          unfold refsN at hy
          rw [List.getElem?_map] at hy
          obtain ⟨q, hq, rfl⟩ := Option.map_eq_some_iff.mp hy
          have hqi := partsN_lt hok2 q (List.mem_of_getElem? hq)
          obtain ⟨pl2, hR2, _⟩ := fo.k.r.2 q _ (List.getElem?_eq_getElem (by omega : q < rs.length))
          obtain ⟨dxb, sgb, mob, wib, leb, brb, stb, innb, mab, enb, hlb, spb, knb, opb, hB⟩ := hR2
          have h8 := partsN_len hok2
          have hjl := (List.getElem?_eq_some_iff.mp hq).1
          refine ⟨rfl, ⟨_, rfl, _, rfl, _, W.c_Row, dxb, _, _, rfl, g3.s _ _ hB, T.cl_Row, T.na_Row_number, lk_number, _, _, _, _, rfl, rfl, sqlO hc3, cV_at hqi, _, hd3, ?_, g3.mut (.inr hDH) hDU, by rw [upd_ne nDC]; exact hc3, ?_⟩⟩
          · rw [List.length_map, List.length_map, List.length_take]
            exact Nat.lt_of_le_of_lt (show min j (partsN rs[i]).length ≤ 200 by omega) (by decide)
          · rw [upd_same, List.take_succ, hq, List.map_append, List.map_append]
            rfl
        · rintro H3 ⟨g3, hc3, hd3⟩
          have hl3 : (refsN as (partsN rs[i])).length = (partsN rs[i]).length := List.length_map _
          rw [hl3, List.take_length] at hd3
          refine ⟨D, _, rfl, sqlO hd3, _, _, rfl, rfl, C, _, _, rfl, rfl, hc3, by rw [cV_len]; exact Nat.lt_of_le_of_lt (show i ≤ 200 by omega) (by decide), ?_⟩
          refine ⟨_, _, rfl, g3.mut (.inr hC) hCU, ?_⟩
          rw [upd_same, cV_succ, cnt_int hok i, hgd]
      · rintro σ H2 ⟨v3, v4, rfl, g, hcl⟩
        have hlr : (as.map V.ref).length = rs.length := by rw [List.length_map, alen]
        rw [hlr] at hcl
        have hco2 := g.same _ _ hco
        refine ⟨_, rfl, _, rfl, fa, W.c_Facts, dx, _, _, rfl, g.s _ _ f1, T.cl_Facts, T.na_Facts_counts, lf_counts, _, rfl, co, _, rfl, .inl ⟨es, c.key, hco2, rfl, CntAt.len h200 e2 e3, rfl⟩, ?_⟩
        have gC := g.tell hC hcl hCU
        have uco : (upd U C (.lst (cV (c.has rs) rs rs.length))) co = none := by rw [upd_ne (Ne.symm nCco)]; exact uco
        have g5 := (gC.of0 (S := fun b => b = co)).mut (p := co) (o := .dK (putK es c.key (.ref C))) (.inl rfl) uco
        have e5 : (upd H2 co (.dK (putK es c.key (.ref C)))) co = some (.dK (putK es c.key (.ref C))) := upd_same
        have f5 := g5.s _ _ ((same_new hCU) _ _ f1)
        have ev5 : some (V.ref C) = valV (putK es c.key (.ref C)) c.key := by rw [putK_new ev, valV_snoc _ _ _ _ ev, if_pos rfl]
        refine ⟨_, rfl, fa, W.c_Facts, dx, _, _, rfl, f5, T.cl_Facts, T.na_Facts_counts, lf_counts, _, rfl, co, .ref C, rfl, .inl ⟨_, c.key, .inl e5, rfl, ev5⟩, ?_⟩
        refine k C _ _ g5 ⟨fo.k.mono g5.v, CntAt.put hc uco e2 e3 (fun d hd v hv => ?_) ev upd_same⟩ upd_same
        obtain ⟨cl, q1, q2⟩ := e4 d hd v hv
        exact ⟨cl, q1, g5.v _ _ q2⟩
end
end Lw

namespace Lw
open PySem PySem.Spec PyProof.Rows L2 VW TL
abbrev kids (rs : List Row) (at_ : Nat) : List Nat := partsN (rs.getD at_ .hard)
/-- the rows on the way of a path -/
def onP (rs : List Row) : Nat → List Nat → Option (List Nat)
  | at_, [] => some [at_]
  | at_, s :: p => match (kids rs at_)[s]? with
    | some j => (onP rs j p).map (at_ :: ·)
    | none => none
/-- how many nodes are ahead -/
def ahead (rs : List Row) : Nat → List Nat → Nat
  | _, [] => 0
  | at_, s :: p => 1 + (((kids rs at_).take s).map (size rs)).sum + ahead rs ((kids rs at_).getD s 0) p
abbrev Nd := List Nat × Nat
def segs (f : Nat → List Nat → List Nd) : List Nat → Nat → List Nat → List Nd
  | [], _, _ => []
  | j :: r, s, p => f j (p ++ [s]) ++ segs f r (s + 1) p
def nodesF : Nat → List Row → Nat → List Nat → List Nd
  | 0, _, _, _ => []
  | n + 1, rs, at_, p => (p, at_) :: segs (nodesF n rs) (kids rs at_) 0 p
theorem segs_congr {f g : Nat → List Nat → List Nd} : ∀ {js : List Nat} {s : Nat} {p : List Nat}, (∀ j ∈ js, ∀ q, f j q = g j q) → segs f js s p = segs g js s p
  | [], _, _, _ => rfl
  | j :: r, s, p, h => by
    unfold segs
    rw [h j List.mem_cons_self, segs_congr fun j' hj => h j' (List.mem_cons_of_mem _ hj)]
theorem nodesF_eq {rs : List Row} (hok : OkRows rs) : ∀ (n m at_ : Nat) (p : List Nat), at_ < n → at_ < m → nodesF n rs at_ p = nodesF m rs at_ p
  | n + 1, m + 1, at_, p, h1, h2 => by
    unfold nodesF
    rw [segs_congr fun j hj q => nodesF_eq hok n m j q (by have := parts_lt hok at_ j hj; omega) (by have := parts_lt hok at_ j hj; omega)]
def nodes (rs : List Row) (at_ : Nat) (p : List Nat) : List Nd := nodesF (at_ + 1) rs at_ p
theorem nodes_eq {rs : List Row} (hok : OkRows rs) (at_ : Nat) (p : List Nat) : nodes rs at_ p = (p, at_) :: segs (nodes rs) (kids rs at_) 0 p := by
  show (p, at_) :: _ = _
  rw [segs_congr fun j hj q => nodesF_eq hok at_ (j + 1) j q (parts_lt hok at_ j hj) (Nat.lt_succ_self j)]
  rfl
theorem segs_len {rs : List Row} {f : Nat → List Nat → List Nd} : ∀ {js : List Nat} {s : Nat} {p : List Nat}, (∀ j ∈ js, ∀ q, (f j q).length = size rs j) → (segs f js s p).length = (js.map (size rs)).sum
  | [], _, _, _ => rfl
  | j :: r, s, p, h => by
    unfold segs
    rw [List.length_append, h j List.mem_cons_self, segs_len fun j' hj => h j' (List.mem_cons_of_mem _ hj), List.map_cons, List.sum_cons]
theorem nodes_len {rs : List Row} (hok : OkRows rs) : ∀ (n at_ : Nat) (p : List Nat), at_ < n → (nodes rs at_ p).length = size rs at_
  | n + 1, at_, p, h => by
    rw [nodes_eq hok, size_eq hok, List.length_cons, segs_len fun j hj q => nodes_len hok n j q (by have := parts_lt hok at_ j hj; omega), Nat.add_comm]
theorem segs_find {rs : List Row} (hok : OkRows rs) : ∀ {js : List Nat} {s : Nat} {q : List Nat} {k : Nat} {x : Nd}, (segs (nodes rs) js s q)[k]? = some x → ∃ i j k', js[i]? = some j ∧ (nodes rs j (q ++ [s + i]))[k']? = some x ∧ k = ((js.take i).map (size rs)).sum + k'
  | [], _, _, _, _, h => by cases h
  | j :: r, s, q, k, x, h => by
    unfold segs at h
    by_cases hk : k < (nodes rs j (q ++ [s])).length
    · rw [List.getElem?_append_left hk] at h
      exact ⟨0, j, k, rfl, h, by simp⟩
    · rw [List.getElem?_append_right (by omega)] at h
      obtain ⟨i, j', k', h1, h2, h3⟩ := segs_find hok h
      refine ⟨i + 1, j', k', h1, by rw [show s + (i + 1) = s + 1 + i by omega]; exact h2, ?_⟩
      rw [nodes_len hok (j + 1) j _ (Nat.lt_succ_self j)] at hk h3
      rw [List.take_succ_cons, List.map_cons, List.sum_cons]
      omega
/-- what the k-th node is -/
theorem node_at {rs : List Row} (hok : OkRows rs) : ∀ (n at_ : Nat), at_ < n → ∀ (q : List Nat) (k : Nat) (path : List Nat) (e : Nat), (nodes rs at_ q)[k]? = some (path, e) → ∃ p ats, path = q ++ p ∧ onP rs at_ p = some ats ∧ ats[p.length]? = some e ∧ ats.length = p.length + 1 ∧ ahead rs at_ p = k
  | n + 1, at_, hn, q, 0, path, e, h => by
    rw [nodes_eq hok] at h
    cases h
    exact ⟨[], [at_], by simp, rfl, rfl, rfl, rfl⟩
  | n + 1, at_, hn, q, k + 1, path, e, h => by
    rw [nodes_eq hok, List.getElem?_cons_succ] at h
    obtain ⟨i, j, k', h1, h2, h3⟩ := segs_find hok h
    have hj := parts_lt hok at_ j (List.mem_of_getElem? h1)
    obtain ⟨p, ats, e1, e2, e3, e4, e5⟩ := node_at hok n j (by omega) _ _ _ _ h2
    refine ⟨i :: p, at_ :: ats, by rw [e1, Nat.zero_add, List.append_assoc]; rfl, ?_, e3, by rw [List.length_cons, e4]; rfl, ?_⟩
    · unfold onP
      rw [h1]
      show (onP rs j p).map (at_ :: ·) = _
      rw [e2]
      rfl
    · unfold ahead
      rw [List.getD_eq_getElem?_getD, h1]
      show 1 + _ + ahead rs j p = _
      rw [e5]
      omega
/-- one step of the search for the k-th node -/
theorem node_step {rs : List Row} (hok : OkRows rs) {j s k : Nat} {r : List Nat} {q : List Nat} {x : Nd} (h : (segs (nodes rs) (j :: r) s q)[k]? = some x) : (k < size rs j → (nodes rs j (q ++ [s]))[k]? = some x) ∧ (¬ k < size rs j → (segs (nodes rs) r (s + 1) q)[k - size rs j]? = some x) := by
  unfold segs at h
  have hl := nodes_len hok (j + 1) j (q ++ [s]) (Nat.lt_succ_self j)
  refine ⟨fun hk => ?_, fun hk => ?_⟩
  · rw [List.getElem?_append_left (by omega)] at h
    exact h
  · rw [List.getElem?_append_right (by omega), hl] at h
    exact h
theorem onP_len {rs : List Row} : ∀ {p : List Nat} {at_ : Nat} {ats : List Nat}, onP rs at_ p = some ats → ats.length = p.length + 1
  | [], at_, ats, h => by cases h; rfl
  | s :: p, at_, ats, h => by
    unfold onP at h
    split at h
    · rename_i j hj
      obtain ⟨r, hr, rfl⟩ := Option.map_eq_some_iff.mp h
      rw [List.length_cons, onP_len hr]
      rfl
    · cases h
/-! ### the same for chosen nodes -/
def nodesP (P : Nat → Bool) (rs : List Row) (at_ : Nat) (q : List Nat) : List Nd := (nodes rs at_ q).filter fun x => P x.2
theorem segs_filter {f : Nat → List Nat → List Nd} {g : Nd → Bool} : ∀ {js : List Nat} {s : Nat} {p : List Nat}, (segs f js s p).filter g = segs (fun j q => (f j q).filter g) js s p
  | [], _, _ => rfl
  | j :: r, s, p => by
    unfold segs
    rw [List.filter_append, segs_filter]
theorem nodesP_eq {P : Nat → Bool} {rs : List Row} (hok : OkRows rs) (at_ : Nat) (p : List Nat) : nodesP P rs at_ p = (if P at_ = true then [(p, at_)] else []) ++ segs (nodesP P rs) (kids rs at_) 0 p := by
  unfold nodesP
  rw [nodes_eq hok, List.filter_cons, segs_filter]
  cases P at_ <;> rfl
theorem segsP_len0 {P : Nat → Bool} {rs : List Row} : ∀ {js : List Nat} {s : Nat} {p : List Nat}, (∀ j ∈ js, ∀ q, (nodesP P rs j q).length = cnt P rs j) → (segs (nodesP P rs) js s p).length = (js.map (cnt P rs)).sum
  | [], _, _, _ => rfl
  | j :: r, s, p, h => by
    unfold segs
    rw [List.length_append, h j List.mem_cons_self, segsP_len0 fun j' hj => h j' (List.mem_cons_of_mem _ hj), List.map_cons, List.sum_cons]
theorem nodesP_len {P : Nat → Bool} {rs : List Row} (hok : OkRows rs) : ∀ (n at_ : Nat) (p : List Nat), at_ < n → (nodesP P rs at_ p).length = cnt P rs at_
  | n + 1, at_, p, h => by
    have e : (segs (nodesP P rs) (kids rs at_) 0 p).length = ((kids rs at_).map (cnt P rs)).sum := by
      have : ∀ {js : List Nat} {s : Nat} {p : List Nat}, (∀ j ∈ js, ∀ q, (nodesP P rs j q).length = cnt P rs j) → (segs (nodesP P rs) js s p).length = (js.map (cnt P rs)).sum := by
        intro js
        induction js with
        | nil => intro s p _; rfl
        | cons j r ih =>
          intro s p h
          unfold segs
          rw [List.length_append, h j List.mem_cons_self, ih fun j' hj => h j' (List.mem_cons_of_mem _ hj), List.map_cons, List.sum_cons]
      exact this fun j hj q => nodesP_len hok n j q (by have := parts_lt hok at_ j hj; omega)
    rw [nodesP_eq hok, cnt_eq hok, List.length_append, e]
    unfold one
    cases P at_ <;> rfl
/-- how many chosen nodes are ahead -/
def aheadP (P : Nat → Bool) (rs : List Row) : Nat → List Nat → Nat
  | _, [] => 0
  | at_, s :: p => one (P at_) + (((kids rs at_).take s).map (cnt P rs)).sum + aheadP P rs ((kids rs at_).getD s 0) p
theorem segsP_find {P : Nat → Bool} {rs : List Row} (hok : OkRows rs) : ∀ {js : List Nat} {s : Nat} {q : List Nat} {k : Nat} {x : Nd}, (segs (nodesP P rs) js s q)[k]? = some x → ∃ i j k', js[i]? = some j ∧ (nodesP P rs j (q ++ [s + i]))[k']? = some x ∧ k = ((js.take i).map (cnt P rs)).sum + k'
  | [], _, _, _, _, h => by cases h
  | j :: r, s, q, k, x, h => by
    unfold segs at h
    by_cases hk : k < (nodesP P rs j (q ++ [s])).length
    · rw [List.getElem?_append_left hk] at h
      exact ⟨0, j, k, rfl, h, by simp⟩
    · rw [List.getElem?_append_right (by omega)] at h
      obtain ⟨i, j', k', h1, h2, h3⟩ := segsP_find hok h
      refine ⟨i + 1, j', k', h1, by rw [show s + (i + 1) = s + 1 + i by omega]; exact h2, ?_⟩
      rw [nodesP_len hok (j + 1) j _ (Nat.lt_succ_self j)] at hk h3
      rw [List.take_succ_cons, List.map_cons, List.sum_cons]
      omega
/-- what the k-th chosen node is -/
theorem nodeP_at {P : Nat → Bool} {rs : List Row} (hok : OkRows rs) : ∀ (n at_ : Nat), at_ < n → ∀ (q : List Nat) (k : Nat) (path : List Nat) (e : Nat), (nodesP P rs at_ q)[k]? = some (path, e) → P e = true ∧ ∃ p ats, path = q ++ p ∧ onP rs at_ p = some ats ∧ ats[p.length]? = some e ∧ ats.length = p.length + 1 ∧ aheadP P rs at_ p = k
  | n + 1, at_, hn, q, k, path, e, h => by
    have hPe : P e = true := (List.mem_filter.mp (List.mem_of_getElem? h)).2
    refine ⟨hPe, ?_⟩
    have go : ∀ k', (segs (nodesP P rs) (kids rs at_) 0 q)[k']? = some (path, e) → one (P at_) + k' = k → ∃ p ats, path = q ++ p ∧ onP rs at_ p = some ats ∧ ats[p.length]? = some e ∧ ats.length = p.length + 1 ∧ aheadP P rs at_ p = k := by
      intro k0 h hk0
      obtain ⟨i, j, k', h1, h2, h3⟩ := segsP_find hok h
      have hj := parts_lt hok at_ j (List.mem_of_getElem? h1)
      obtain ⟨_, p, ats, e1, e2, e3, e4, e5⟩ := nodeP_at hok n j (by omega) _ _ _ _ h2
      refine ⟨i :: p, at_ :: ats, by rw [e1, Nat.zero_add, List.append_assoc]; rfl, ?_, e3, by rw [List.length_cons, e4]; rfl, ?_⟩
      · unfold onP
        rw [h1]
        show (onP rs j p).map (at_ :: ·) = _
        rw [e2]
        rfl
      · unfold aheadP
        rw [List.getD_eq_getElem?_getD, h1]
        show one (P at_) + _ + aheadP P rs j p = _
        rw [e5]
        omega
    rw [nodesP_eq hok] at h
    cases hp : P at_ with
    | false =>
      rw [hp] at h
      exact go k h (by rw [hp]; exact Nat.zero_add k)
    | true =>
      rw [hp] at h
      cases k with
      | zero =>
        cases h
        exact ⟨[], [at_], by simp, rfl, rfl, rfl, rfl⟩
      | succ k => exact go k h (by rw [hp]; exact Nat.add_comm 1 k)
/-- one step of the search for the k-th chosen node -/
theorem nodeP_step {P : Nat → Bool} {rs : List Row} (hok : OkRows rs) {j s k : Nat} {r : List Nat} {q : List Nat} {x : Nd} (h : (segs (nodesP P rs) (j :: r) s q)[k]? = some x) : (k < cnt P rs j → (nodesP P rs j (q ++ [s]))[k]? = some x) ∧ (¬ k < cnt P rs j → (segs (nodesP P rs) r (s + 1) q)[k - cnt P rs j]? = some x) := by
  unfold segs at h
  have hl := nodesP_len (P := P) hok (j + 1) j (q ++ [s]) (Nat.lt_succ_self j)
  refine ⟨fun hk => ?_, fun hk => ?_⟩
  · rw [List.getElem?_append_left (by omega)] at h
    exact h
  · rw [List.getElem?_append_right (by omega), hl] at h
    exact h
theorem segsP_len {P : Nat → Bool} {rs : List Row} (hok : OkRows rs) {js : List Nat} {s : Nat} {p : List Nat} : (segs (nodesP P rs) js s p).length = (js.map (cnt P rs)).sum := segsP_len0 fun j _ q => nodesP_len hok (j + 1) j q (Nat.lt_succ_self j)
theorem segs_take {rs : List Row} (hok : OkRows rs) : ∀ {js : List Nat} {s : Nat} {q : List Nat} {k : Nat} {x : Nd}, (segs (nodes rs) js s q)[k]? = some x → ∃ i j k', js[i]? = some j ∧ (nodes rs j (q ++ [s + i]))[k']? = some x ∧ (segs (nodes rs) js s q).take k = segs (nodes rs) (js.take i) s q ++ (nodes rs j (q ++ [s + i])).take k'
  | [], _, _, _, _, h => by cases h
  | j :: r, s, q, k, x, h => by
    unfold segs at h
    by_cases hk : k < (nodes rs j (q ++ [s])).length
    · rw [List.getElem?_append_left hk] at h
      refine ⟨0, j, k, rfl, h, ?_⟩
      show (nodes rs j (q ++ [s]) ++ segs (nodes rs) r (s + 1) q).take k = [] ++ (nodes rs j (q ++ [s])).take k
      rw [List.take_append_of_le_length (Nat.le_of_lt hk), List.nil_append]
    · rw [List.getElem?_append_right (by omega)] at h
      obtain ⟨i, j', k', h1, h2, h3⟩ := segs_take hok h
      refine ⟨i + 1, j', k', h1, by rw [show s + (i + 1) = s + 1 + i by omega]; exact h2, ?_⟩
      show (nodes rs j (q ++ [s]) ++ segs (nodes rs) r (s + 1) q).take k = (nodes rs j (q ++ [s]) ++ segs (nodes rs) (r.take i) (s + 1) q) ++ _
      rw [List.take_append, List.take_of_length_le (by omega), h3, List.append_assoc, show s + (i + 1) = s + 1 + i by omega]
/-- how many chosen nodes are ahead of the k-th node -/
theorem node_count {P : Nat → Bool} {rs : List Row} (hok : OkRows rs) : ∀ (n at_ : Nat), at_ < n → ∀ (q : List Nat) (k : Nat) (path : List Nat) (e : Nat), (nodes rs at_ q)[k]? = some (path, e) → ∃ p ats, path = q ++ p ∧ onP rs at_ p = some ats ∧ aheadP P rs at_ p = (((nodes rs at_ q).take k).filter fun x => P x.2).length
  | n + 1, at_, hn, q, 0, path, e, h => by
    rw [nodes_eq hok] at h
    cases h
    exact ⟨[], [at_], by simp, rfl, rfl⟩
  | n + 1, at_, hn, q, k + 1, path, e, h => by
    rw [nodes_eq hok, List.getElem?_cons_succ] at h
    obtain ⟨i, j, k', h1, h2, h3⟩ := segs_take hok h
    have hj := parts_lt hok at_ j (List.mem_of_getElem? h1)
    obtain ⟨p, ats, e1, e2, e5⟩ := node_count (P := P) hok n j (by omega) _ _ _ _ h2
    refine ⟨i :: p, at_ :: ats, by rw [e1, Nat.zero_add, List.append_assoc]; rfl, ?_, ?_⟩
    · unfold onP
      rw [h1]
      show (onP rs j p).map (at_ :: ·) = _
      rw [e2]
      rfl
    · unfold aheadP
      rw [List.getD_eq_getElem?_getD, h1]
      show one (P at_) + _ + aheadP P rs j p = _
      rw [nodes_eq hok, List.take_succ_cons, h3, List.filter_cons, List.filter_append, segs_filter, e5]
      have hs : (segs (fun j q => (nodes rs j q).filter fun x => P x.2) ((kids rs at_).take i) 0 q).length = (((kids rs at_).take i).map (cnt P rs)).sum := segsP_len (P := P) hok
      unfold one
      cases P at_ with
      | true =>
        rw [if_pos rfl, if_pos rfl, List.length_cons, List.length_append, hs]
        omega
      | false =>
        rw [if_neg (fun z => nomatch z), if_neg (fun z => nomatch z), List.length_append, hs]
        omega
end Lw

set_option maxHeartbeats 0
namespace Lw
open PySem PySem.Spec PyProof.Rows L2 VW TL
local macro_rules | `(tactic| walk_at "rdc") => `(tactic| first | assumption | rfl | decide | omega | exact Or.inr ⟨by decide, by decide⟩ | exact ⟨by decide, by decide⟩ | exact ⟨by decide, by decide, by decide⟩ | (show (0 : Int) < _; omega) | (show (0 : Int) < _ ∧ _ < (1073741824 : Int); omega) | (show (-(2 ^ 64) < _ ∧ _ < 2 ^ 64) ∨ (-(2 ^ 64) < _ ∧ _ < 2 ^ 64); omega) | (show (-(2 ^ 64) < _ ∧ _ < 2 ^ 64) ∨ (-(2 ^ 64) < _ ∧ _ < 2 ^ 64); right; split <;> decide) | exact Nat.le_of_ble_eq_true rfl)
local macro_rules | `(tactic| walk_at "rd1") => `(tactic| first | refine ⟨_, rfl, ?_⟩ | refine And.intro (by walk_at "rdc") ?_ | refine ⟨_, _, rfl, rfl, ?_⟩ | refine Or.inl ⟨_, rfl, ?_⟩ | refine Or.inr ⟨_, rfl, ?_⟩ | refine ⟨_, _, _, _, rfl, rfl, sqlO (by first | assumption | exact upd_same), rfl, ?_⟩ | refine ⟨_, _, _, _, rfl, rfl, (by first | assumption | exact upd_same), rfl, ?_⟩)
local macro_rules | `(tactic| walk_at "rd") => `(tactic| repeat (walk_at "rd1"))

abbrev pathV (p : List Nat) : List V := (p.map fun (j : Nat) => (j : Int)).map V.int
section
variable {P : Program} {w : World} {K : PySem.W.Frag} {mg : Str → Option Value} {base : Heap} {W : Wd}
theorem kid_lt {rs : List Row} (hok : OkRows rs) {at_ s j : Nat} (h : (kids rs at_)[s]? = some j) : j < at_ := parts_lt hok at_ j (List.mem_of_getElem? h)
theorem shows_str {z : Str} (h : z.length ≤ 1000) : Shows (.str z) := .inl ⟨z, rfl, h⟩
theorem sc__shown : FnScope ["field"] ["field"] (defScope s__shown) := ⟨rfl, rfl, rfl, by decide +kernel, rfl, by decide +kernel, by decide +kernel⟩
def sp_shown : Sp := fun vs H Q _ => ∃ z : Str, vs = [.str z] ∧ z.length ≤ 1000 ∧ ∀ (H' : Hp), Same H H' → Q (.str z) H'
theorem d__shown (T : Txt w K mg W) : DefOk P w K mg base "_shown" s__shown ["field"] 1 sp_shown := by
  refine T.f__shown.ok sc__shown (fun vs H Q E h => ?_) (fun f cdv A outer s H vs Q E hr h => ?_)
  · obtain ⟨v, rfl, _⟩ := h
    rfl
  · obtain ⟨z, rfl, hz, k⟩ := h
    refine ⟨_, (pss_cons (ps_if (pt_val (pe_callB (id := "isinstance") call_isiT (by rfl) T.n_isinstance (by decide +kernel) (pa_cons (pv 0) (pa_cons (pe_tup (pa_cons (pe_bltn (v := .ty "int") (by rfl) T.n_int (by decide +kernel) rfl) (pa_cons (pe_bltn (v := .ty "str") (by rfl) T.n_str (by decide +kernel) rfl) pa_nil))) pa_nil)))) (pss_one (ps_ret (pe_callTy (T := "str") call_str_is (by rfl) T.n_str (by decide +kernel) (pa_cons (pv 0) pa_nil)))) pss_nil)
      (pss_one (ps_ret pe_str))), ?_⟩
    refine ⟨_, rfl, Nat.le_of_ble_eq_true rfl, fun t ht => ⟨_, t, _, _, [.type "int", .type "str"], true, rfl, upd_same, .cons (.ty "int") (.cons (.ty "str") .nil), .base (.str z), kany_no (kit_ty (by decide +kernel)) (kany_yes (kit_ty (by decide +kernel))), true, rfl, iteT ?_⟩⟩
    exact ⟨_, rfl, .inr ⟨z, rfl, k _ (same_new ht)⟩⟩
theorem len_app (a b : Str) : (a ++ b).length = a.length + b.length := by
  rw [← cl_len, ← cl_len, ← cl_len]
  show (tl (a ++ b)).length = _
  rw [tl_append, List.length_append]
theorem fits {a b : Nat} (h : a ≤ 10000) (h2 : b ≤ 10000) : a + b ≤ sizeLine := Nat.le_trans (Nat.add_le_add h h2) (Nat.le_of_ble_eq_true rfl)
abbrev okArg (v : V) : Prop := ∃ z : Str, v = .str z ∧ z.length ≤ 1000
theorem sc_InvalidBound___init__ : FnScope ["self", "argument"] ["self", "argument"] (defScope s_InvalidBound___init__) := ⟨rfl, rfl, rfl, by decide +kernel, rfl, by decide +kernel, by decide +kernel⟩
theorem er_InvalidBound (T : Txt w K mg W) : ErrOk P w K mg base "InvalidBound" W.c_InvalidBound ["self", "argument"] 2 (spErr1 W.c_InvalidBound "argument" okArg) := by
  refine T.e_InvalidBound.ok sc_InvalidBound___init__ (fun vs H Q E h => ?_) (fun f cdv A outer s H vs Q E hr h => ?_)
  · obtain ⟨e, v, rfl, _⟩ := h
    rfl
  · obtain ⟨e, v, rfl, he, ⟨z, rfl, hz⟩, k⟩ := h
    refine ⟨_, (pss_cons (ps_expr (pe_supinit T.sup T.c_LayoutError (pa_cons (pv 0) (pa_cons (pe_joined (.cons pe_str (.cons (pe_fmt (pe_callD (d__shown T) (hr.mono (by decide)) (pa_cons (pv 1) pa_nil))) (.cons pe_str PJ.nil)))) pa_nil))))
      (pss_one (ps_field (pv 0) (pv 1)))), ?_⟩
    refine ⟨_, rfl, _, rfl, by decide +kernel, _, rfl, z, rfl, hz, fun H1 s1 => .inl ⟨z, rfl, Nat.le_trans hz (Nat.le_of_ble_eq_true rfl), _, rfl, ?_, _, rfl, ?_, ?_⟩⟩
    · rw [len_app]
      exact fits (by decide +kernel) (by omega)
    · rw [len_app, len_app]
      exact fits (Nat.le_trans (Nat.add_le_add (by decide +kernel : _ ≤ 1000) hz) (by decide)) (by decide +kernel)
    · refine ⟨e, W.c_InvalidBound, _, rfl, Nat.le_of_ble_eq_true rfl, T.e_InvalidBound.ae, s1 _ _ he, ?_⟩
      refine ⟨_, rfl, _, rfl, e, W.c_InvalidBound, rfl, T.e_InvalidBound.ae, T.na_InvalidBound_argument, .inl ⟨s1 _ _ he, fun d hd ne => ?_⟩⟩
      exact k H1 d s1 hd ne
/-- InvalidBound(nm) is raised -/
def RB (W : Wd) (H : Hp) (E : XK) (nm : Str) : Prop := ∀ (d : Addr) (H' : Hp), Same H H' → H d = none → H' d = some (.xd [("argument", .str nm)]) → E (.ref W.c_InvalidBound) (some d) H'
theorem sc_check_number : FnScope ["value", "least", "most", "argument"] ["value", "least", "most", "argument"] (defScope s_check_number) := ⟨rfl, rfl, rfl, by decide +kernel, rfl, by decide +kernel, by decide +kernel⟩
def sp_checknum (W : Wd) : Sp := fun vs H Q E => ∃ (i a e : Int) (nm : Str), vs = [.int i, .int a, .int e, .str nm] ∧ nm.length ≤ 1000 ∧ ((a ≤ i ∧ i ≤ e ∧ Q .non H) ∨ (¬ (a ≤ i ∧ i ≤ e) ∧ RB W H E nm))
theorem d_check_number (T : Txt w K mg W) : DefOkX P w K mg base "check_number" s_check_number ["value", "least", "most", "argument"] 4 (sp_checknum W) := by
  refine T.f_check_number.okX sc_check_number (fun vs H Q E h => ?_) (fun f cdv A outer s H vs Q E hr h => ?_)
  · obtain ⟨i, a, e, v, rfl, _⟩ := h
    rfl
  · obtain ⟨i, a, e, v, rfl, hv, h⟩ := h
    refine ⟨_, (pss_one (ps_if (pt_not (pt_val (pe_callD (d_is_betweenD T) (hr.mono (by decide)) (pa_cons (pv 0) (pa_cons (pv 1) (pa_cons (pv 2) pa_nil)))))) (pss_one (ps_raise rfl (takes_of rfl rfl rfl rfl) (pmk_err (er_InvalidBound T) (hr.mono (by decide)) (pa_cons (pv 3) pa_nil)))) pss_nil)), ?_⟩
    refine ⟨_, rfl, _, rfl, _, rfl, i, a, e, rfl, ?_⟩
    rcases h with ⟨h1, h2, k⟩ | ⟨h1, k⟩
    · rw [decide_eq_true h1, decide_eq_true h2]
      exact ⟨true, rfl, iteF k⟩
    · refine ⟨false, ?_, iteT ?_⟩
      · rw [show (decide (a ≤ i) && decide (i ≤ e)) = false by rw [← Bool.decide_and]; exact decide_eq_false h1]
      · exact ⟨_, rfl, Nat.le_of_ble_eq_true rfl, fun er he => raise1 he ⟨v, rfl, hv⟩ fun d H' sd hd0 hx => k d H' sd hd0 hx⟩
theorem sc_rows_on_path : FnScope ["last", "path", "rows", "row", "index"] ["last", "path"] (defScope s_rows_on_path) := ⟨rfl, rfl, rfl, by decide +kernel, rfl, by decide +kernel, by decide +kernel⟩
def sp_onpath (K : PySem.W.Frag) (W : Wd) : Sp := fun vs H Q _ => ∃ (fa : Addr) (rs : List Row) (as : List Addr) (la co : Addr) (U : Hp) (at0 : Nat) (t : Addr) (p ats : List Nat), vs = [.ref (as.getD at0 0), .ref t] ∧ Same U H ∧ FaOk W U fa rs as la co ∧ OkRows rs ∧ rs.length ≤ 200 ∧ at0 < rs.length ∧ SqT K U t (pathV p) ∧ p.length ≤ 200 ∧ onP rs at0 p = some ats ∧
  ∀ (L : Addr) (H' : Hp), Gr S0 U H U H' → H L = none → H' L = some (.lst (refsN as ats)) → Q (.ref L) H'
theorem d_rows_on_path (T : Txt w K mg W) : DefOk P w K mg base "rows_on_path" s_rows_on_path ["last", "path"] 2 (sp_onpath K W) := by
  refine T.f_rows_on_path.ok sc_rows_on_path (fun vs H Q E h => ?_) (fun f cdv A outer s H vs Q E hr h => ?_)
  · obtain ⟨fa, rs, as, la, co, U, at0, t, p, ats, rfl, _⟩ := h
    rfl
  · obtain ⟨fa, rs, as, la, co, U, at0, t, p, ats, rfl, hU, fo, hok, h200, hat, htp, hp2, hon, k⟩ := h
    refine ⟨_, (pss_cons (ps_if (pt_not (pt_val (pe_callB (id := "isinstance") call_isi (by rfl) T.n_isinstance (by decide +kernel) (pa_cons (pv 1) (pa_cons (pe_bltn (v := .ty "tuple") (by rfl) T.n_tuple (by decide +kernel) rfl) pa_nil))))) (pss_one ps_never) pss_nil)
      (pss_cons (ps_set (i := 2) sc_rows_on_path.nd rfl (Or.inl rfl) (pe_lst (pa_cons (pv 0) pa_nil)))
      (pss_cons (ps_set (i := 3) sc_rows_on_path.nd rfl (Or.inl rfl) (pv 0))
      (pss_cons (ps_for PassesOwn.never rfl (pi_tup (pv 1)) (pg_name (i := 4) sc_rows_on_path.nd rfl (Or.inl rfl))
      (pss_cons (ps_if (PW.pt (pw_or (pt_not (pt_val (pe_callD (d_is_integer T) (hr.mono (by decide)) (pa_cons (pv 4) pa_nil)))) (pw_or1 (pt_not (pt_chain op_le op_lt pe_int (pv 4) (pe_callB (id := "len") call_len (by rfl) T.n_len (by decide +kernel) (pa_cons (pe_fld (pv 3) rfl) pa_nil))))))) (pss_one ps_never) pss_nil)
      (pss_cons (ps_set (i := 3) sc_rows_on_path.nd rfl (Or.inl rfl) (pe_ix ix_list (pe_fld (pv 3) rfl) (pv 4) (fun _ _ => rfl)))
      (pss_one (ps_expr (pe_bm PySem.F.plainAttrs_list PySem.F.slot_list_append PySem.F.type_list_append mt_append (pv 2) (pa_cons (pv 3) pa_nil)))))))
      (pss_one (ps_ret (pv 2))))))), ?_⟩
    have htH := sqtS hU htp
    refine ⟨_, rfl, _, _, _, _, true, rfl, .ty "tuple", tyT htH, kit_ty (by decide +kernel), true, rfl, iteF ?_⟩
    refine ⟨_, rfl, Nat.le_of_ble_eq_true rfl, fun L hL => ?_⟩
    have hLU := hU.free hL
    have g0 := (Gr.refl (S := S0) hU).newH (o := .lst [.ref (as.getD at0 0)]) hL
    have l0 : (upd H L (.lst [.ref (as.getD at0 0)])) L = some (.lst (refsN as [at0])) := upd_same
    generalize upd H L (.lst [.ref (as.getD at0 0)]) = H1 at g0 l0 ⊢
    refine ⟨_, rfl, _, rfl, t, rfl, ⟨_, sqtS g0.s htp⟩, ?_⟩
    refine for_tup (xs := pathV p) (fun i σ H' => ∃ (pre rest : List Nat) (cur : Nat) (v4 : Option V), σ = [some (.ref (as.getD at0 0)), some (.ref t), some (.ref L), some (.ref (as.getD cur 0)), v4] ∧ Gr S0 U H U H' ∧ ats = pre ++ rest ∧ onP rs cur (p.drop i) = some rest ∧
      H' L = some (.lst (refsN as (pre ++ [cur]))) ∧ cur < rs.length ∧ pre.length = i) ⟨[], ats, at0, none, rfl, g0, rfl, hon, l0, hat, rfl⟩ (fun i σ H' _ ⟨_, _, _, _, _, g, _⟩ => sqtS g.s htp) ?_ ?_
    · rintro i x σ H2 hx ⟨pre, rest, cur, v4, rfl, g, e1, e2, l2, hcur, hpre⟩
      rw [List.getElem?_map, List.getElem?_map] at hx
      obtain ⟨si, hs0, rfl⟩ := Option.map_eq_some_iff.mp hx
      obtain ⟨sn, hs, rfl⟩ := Option.map_eq_some_iff.mp hs0
      have hil := (List.getElem?_eq_some_iff.mp hs).1
      have hdrop : p.drop i = sn :: p.drop (i + 1) := by
        rw [List.drop_eq_getElem_cons hil]
        rw [List.getElem?_eq_getElem hil] at hs
        rw [Option.some.inj hs]
      rw [hdrop] at e2
      unfold onP at e2
      split at e2
      · rename_i j hj
        obtain ⟨rest', hr', rfl⟩ := Option.map_eq_some_iff.mp e2
        obtain ⟨pl, hR, hpl⟩ := fo.row hcur
        obtain ⟨dxa, sga, moa, wia, lea, bra, sta, inna, maa, ena, hla, spa, kna, opa, hA⟩ := hR
        have hA2 := g.s _ _ hA
        have hpl2 := g.s _ _ hpl
        have hsl := (List.getElem?_eq_some_iff.mp hj).1
        have hjc := kid_lt hok hj
        have hrl : (refsN as (kids rs cur)).length = (kids rs cur).length := List.length_map _
        refine ⟨_, rfl, _, rfl, true, rfl, iteF ?_⟩
        refine ⟨_, rfl, _, _, rfl, rfl, _, rfl, ?_⟩
        refine ifT (decide_eq_true (by omega)) ?_
        refine ⟨_, rfl, _, W.c_Row, dxa, _, _, rfl, hA2, T.cl_Row, T.na_Row_parts, lk_parts, _, _, rfl, .inl ⟨_, sqlO hpl2, rfl⟩, ?_⟩
        refine ⟨_, _, rfl, rfl, _, rfl, ifF (by rw [decide_eq_true (show (sn : Int) < ((refsN as (kids rs cur)).length : Nat) by rw [hrl]; omega)]; rfl) ?_⟩
        refine ⟨_, rfl, _, W.c_Row, dxa, _, _, rfl, hA2, T.cl_Row, T.na_Row_parts, lk_parts, _, rfl, _, _, _, _, rfl, rfl, sqlO hpl2, atI_nat (v := .ref (as.getD j 0)) (by unfold refsN; rw [List.getElem?_map, hj]; rfl), ?_⟩
        refine ⟨_, rfl, .inl ⟨rfl, _, sqlO l2⟩, _, rfl, L, _, _, rfl, rfl, l2, ?_, ?_⟩
        · unfold refsN
          rw [List.length_map, List.length_append, List.length_singleton]
          exact Nat.lt_of_le_of_lt (show pre.length + 1 ≤ 300 by omega) (by decide)
        · refine ⟨pre ++ [cur], rest', j, _, rfl, g.mut (.inr hL) hLU, by rw [e1, List.append_assoc]; rfl, hr', ?_, by omega, by rw [List.length_append, hpre]; rfl⟩
          rw [upd_same]
          unfold refsN
          rw [List.map_append (l₁ := pre ++ [cur])]
          rfl
      · cases e2
    · rintro σ H2 ⟨pre, rest, cur, v4, rfl, g, e1, e2, l2, hcur, hpre⟩
      have hpl : (pathV p).length = p.length := by rw [List.length_map, List.length_map]
      rw [hpl, List.drop_length] at e2
      cases e2
      rw [← e1] at l2
      exact ⟨_, rfl, k L H2 g hL l2⟩
end
end Lw

set_option maxHeartbeats 0
namespace Lw
open PySem PySem.Spec PyProof.Rows L2 VW TL
local macro_rules | `(tactic| walk_at "rdc") => `(tactic| first | assumption | rfl | decide | omega | exact Or.inr ⟨by decide, by decide⟩ | exact ⟨by decide, by decide⟩ | exact ⟨by decide, by decide, by decide⟩ | (show (0 : Int) < _; omega) | (show (0 : Int) < _ ∧ _ < (1073741824 : Int); omega) | (show (-(2 ^ 64) < _ ∧ _ < 2 ^ 64) ∨ (-(2 ^ 64) < _ ∧ _ < 2 ^ 64); omega) | (show (-(2 ^ 64) < _ ∧ _ < 2 ^ 64) ∨ (-(2 ^ 64) < _ ∧ _ < 2 ^ 64); right; split <;> decide) | exact Nat.le_of_ble_eq_true rfl)
local macro_rules | `(tactic| walk_at "rd1") => `(tactic| first | refine ⟨_, rfl, ?_⟩ | refine And.intro (by walk_at "rdc") ?_ | refine ⟨_, _, rfl, rfl, ?_⟩ | refine Or.inl ⟨_, rfl, ?_⟩ | refine Or.inr ⟨_, rfl, ?_⟩ | refine ⟨_, _, _, _, rfl, rfl, sqlO (by first | assumption | exact upd_same), rfl, ?_⟩ | refine ⟨_, _, _, _, rfl, rfl, (by first | assumption | exact upd_same), rfl, ?_⟩)
local macro_rules | `(tactic| walk_at "rd") => `(tactic| repeat (walk_at "rd1"))

theorem cutV_take {xs : List V} {n : Nat} : cutV xs none (some (n : Int)) = xs.take n := by
  unfold cutV HT.sIx
  simp only [List.drop_zero, Nat.sub_zero]
  rw [if_neg (by omega), Int.toNat_natCast]
  by_cases h : n ≤ xs.length
  · rw [Nat.min_eq_left h]
  · rw [Nat.min_eq_right (by omega), List.take_of_length_le (Nat.le_refl _), List.take_of_length_le (by omega)]
theorem refs_last {as : List Addr} {la : Addr} (h : atI (as.map V.ref) (-1) = some (.ref la)) : la = as.getD (as.length - 1) 0 := by
  unfold atI ixN at h
  rw [if_neg (by decide)] at h
  split at h
  · rename_i h1
    rw [Option.bind_some, List.length_map] at h
    rw [List.length_map] at h1
    rw [show (-1 + (as.length : Int)).toNat = as.length - 1 by omega, List.getElem?_map, List.getElem?_eq_getElem (by omega)] at h
    rw [List.getD_eq_getElem?_getD, List.getElem?_eq_getElem (by omega)]
    exact (V.ref.inj (Option.some.inj h)).symm
  · cases h
section
variable {P : Program} {w : World} {K : PySem.W.Frag} {mg : Str → Option Value} {base : Heap} {W : Wd}
theorem FaOk.la {U : Hp} {fa : Addr} {rs : List Row} {as : List Addr} {la co : Addr} (h : FaOk W U fa rs as la co) : la = as.getD (rs.length - 1) 0 := by
  rw [← h.r.1]
  exact refs_last h.l
theorem sc_count_ahead : FnScope ["facts", "chosen", "path", "rows", "counts", "total", "row", "index", "part"] ["facts", "chosen", "path"] (defScope s_count_ahead) := ⟨rfl, rfl, rfl, by decide +kernel, rfl, by decide +kernel, by decide +kernel⟩
def sp_ahead (K : PySem.W.Frag) (W : Wd) : Sp := fun vs H Q _ => ∃ (fa : Addr) (rs : List Row) (as : List Addr) (la co : Addr) (U : Hp) (c : Ch) (t : Addr) (p ats : List Nat), vs = [.ref fa, c.v, .ref t] ∧ Same U H ∧ FaSt W U H fa rs as la co ∧ c.ok rs.length ∧ OkRows rs ∧ 0 < rs.length ∧ rs.length ≤ 200 ∧ SqT K U t (pathV p) ∧ p.length ≤ 200 ∧ onP rs (rs.length - 1) p = some ats ∧
  ∀ (U' H' : Hp), Gr (fun b => b = co) U H U' H' → FaSt W U' H' fa rs as la co → Q (.int (aheadP (c.has rs) rs (rs.length - 1) p : Nat)) H'
theorem d_count_ahead (T : Txt w K mg W) : DefOk P w K mg base "count_ahead" s_count_ahead ["facts", "chosen", "path"] 3 (sp_ahead K W) := by
  refine T.f_count_ahead.ok sc_count_ahead (fun vs H Q E h => ?_) (fun f cdv A outer s H vs Q E hr h => ?_)
  · obtain ⟨fa, rs, as, la, co, U, c, t, p, ats, rfl, _⟩ := h
    rfl
  · obtain ⟨fa, rs, as, la, co, U0, c, t, p, ats, rfl, hU0, fo0, hc, hok, h0, h200, htp0, hp2, hon, k⟩ := h
    refine ⟨_, (pss_cons (ps_set (i := 3) sc_count_ahead.nd rfl (Or.inl rfl) (pe_callD (d_rows_on_path T) (hr.mono (by decide)) (pa_cons (pe_fld (pv 0) rfl) (pa_cons (pv 2) pa_nil))))
      (pss_cons (ps_set (i := 4) sc_count_ahead.nd rfl (Or.inr rfl) (pe_callD (d__counts_below T) (hr.mono (by decide)) (pa_cons (pv 0) (pa_cons (pv 1) pa_nil))))
      (pss_cons (ps_set (i := 5) sc_count_ahead.nd rfl (Or.inl rfl) pe_int)
      (pss_cons (ps_for PassesOwn.never rfl (RM.pi_zipM (by rfl) T.n_zip (pa_cons (pv 3) (pa_cons (pv 2) pa_nil))) (pg_tup rfl (pgs_cons (pg_name (i := 6) sc_count_ahead.nd rfl (Or.inl rfl)) (pgs_cons (pg_name (i := 7) sc_count_ahead.nd rfl (Or.inl rfl)) pgs_nil)))
      (pss_one (ps_aug (i := 5) sc_count_ahead.nd rfl (Or.inl rfl) (pe_op op_add (pe_callTy (T := "int") call_int1 (by rfl) T.n_int (by decide +kernel) (pa_cons (pe_callD (d__is_chosen T) (hr.mono (by decide)) (pa_cons (pv 6) (pa_cons (pv 1) pa_nil))) pa_nil)) (pe_callB (id := "sum") (cr_sum rfl) (by rfl) T.n_sum (by decide +kernel) (pa_cons (pe_lc (own := [("part", 8)]) (g := (gName 8)) (tt := tYes) rfl sc_count_ahead.nd (pi_list (pe_slice sl_list (pe_fld (pv 6) rfl) po_none (po_some (pv 7)))) (blkOk_by (own := [("part", 8)]) (N := ["facts", "chosen", "path", "rows", "counts", "total", "row", "index", "part"]) (sc := defScope s_count_ahead) (by decide +kernel)) (fun _ _ _ _ _ => (pg_name (i := 8) sc_count_ahead.nd rfl (Or.inl rfl))) (fun _ _ _ _ _ => pts_nil) (fun _ _ _ _ _ => (pe_ix (ix_listK (K := K)) (pv 4) ((pe_fldK (K := K)) (pv 8) rfl) (fun _ _ => rfl)))) pa_nil))) ip_add)))
      (pss_one (ps_ret (pv 5))))))), ?_⟩
    obtain ⟨dx, M, d0, d2, d3, d4, d5, d6, f1, f2⟩ := fo0.k.f
    have hla := fo0.k.la
    refine ⟨_, rfl, fa, W.c_Facts, dx, _, _, rfl, hU0 _ _ f1, T.cl_Facts, T.na_Facts_last, lf_last, _, rfl, fa, rs, as, la, co, U0, rs.length - 1, t, p, ats, by rw [hla]; rfl, hU0, fo0.k, hok, h200, by omega, htp0, hp2, hon, fun L H1 g1 hL hl1 => ?_⟩
    refine ⟨_, rfl, _, rfl, fa, rs, as, la, co, U0, c, rfl, g1.s, hok, h200, fo0.gr g1 (fun z => z), hc, fun cl U Ha gc fo hcl => ?_⟩
    have nLco : ¬ L = co := fun z => by
      obtain ⟨es, q1, _⟩ := fo0.c.h
      rw [z, q1] at hL
      cases hL
    have gk : Gr (fun b => b = co) U0 H U Ha := g1.of0.trans gc
    have hl1 := gc.k _ _ nLco hl1
    have htp := sqtS gk.v htp0
    have hLU : U L = none := gc.out (some_ne (by assumption)) (hU0.free hL)
    clear g1
    refine ⟨_, rfl, _, rfl, L, t, _, _, rfl, sqlO hl1, sqtS gk.s htp, ?_⟩
    have hlen := onP_len hon
    have hpl : (pathV p).length = p.length := by rw [List.length_map, List.length_map]
    have hal : (refsN as ats).length = ats.length := List.length_map _
    refine RM.for_zipM (xs := refsN as ats) (ys := pathV p) (by rw [hpl, hal]; omega) (fun i σ H' => ∃ (tot cur : Nat) (v6 v7 v8 : Option V), σ = [some (.ref fa), some c.v, some (.ref t), some (.ref L), some (.ref cl), some (.int (tot : Nat)), v6, v7, v8] ∧ Gr S0 U Ha U H' ∧ H' L = some (.lst (refsN as ats)) ∧
      tot + aheadP (c.has rs) rs cur (p.drop i) = aheadP (c.has rs) rs (rs.length - 1) p ∧ onP rs cur (p.drop i) = some (ats.drop i) ∧ cur < rs.length) ⟨0, rs.length - 1, none, none, none, rfl, Gr.refl gk.s, hl1, by rw [List.drop_zero]; omega, hon, by omega⟩ (fun i σ H' ⟨_, _, _, _, _, _, g, l, _⟩ => ⟨sqlO l, sqtS g.s htp⟩) ?_ ?_
    · rintro i x y T2 σ H2 hx hy ⟨tot, cur, v6, v7, v8, rfl, g, hl2, e1, e2, hcur⟩ hT2
      rw [List.getElem?_map, List.getElem?_map] at hy
      obtain ⟨si, hs0, rfl⟩ := Option.map_eq_some_iff.mp hy
      obtain ⟨sn, hs, rfl⟩ := Option.map_eq_some_iff.mp hs0
      have hil := (List.getElem?_eq_some_iff.mp hs).1
      have hdrop : p.drop i = sn :: p.drop (i + 1) := by
        rw [List.drop_eq_getElem_cons hil]
        rw [List.getElem?_eq_getElem hil] at hs
        rw [Option.some.inj hs]
      have hdropa : ats.drop i = ats[i] :: ats.drop (i + 1) := List.drop_eq_getElem_cons (by omega)
      rw [hdrop] at e1 e2
      unfold onP at e2
      split at e2
      · rename_i j hj
        obtain ⟨rest', hr', e3⟩ := Option.map_eq_some_iff.mp e2
        rw [hdropa] at e3
        injection e3 with e3 e4
        subst e4
        unfold refsN at hx
        rw [List.getElem?_map, List.getElem?_eq_getElem (by omega : i < ats.length), ← e3] at hx
        cases hx
        obtain ⟨pl, hR, hplp⟩ := fo.k.row hcur
        have hR2 := hR
        obtain ⟨dxa, sga, moa, wia, lea, bra, sta, inna, maa, ena, hla, spa, kna, opa, hA⟩ := hR
        have hsl := (List.getElem?_eq_some_iff.mp hj).1
        have hjc := kid_lt hok hj
        have g3 := g.newH (o := .tup [.ref (as.getD cur 0), .int (sn : Int)]) hT2
        have hl3 : (upd H2 T2 (.tup [.ref (as.getD cur 0), .int (sn : Int)])) L = some (.lst (refsN as ats)) := by rw [upd_ne (ne_of_none hl2 hT2)]; exact hl2
        refine ⟨T2, _, rfl, sqtO upd_same, rfl, ?_⟩
        generalize upd H2 T2 (.tup [.ref (as.getD cur 0), .int (sn : Int)]) = H3 at g3 hl3 ⊢
        have hA3 := g3.s _ _ hA
        refine ⟨_, _, rfl, _, _, rfl, rfl, ?_⟩
        refine ⟨_, rfl, _, rfl, _, rfl, _, pl, c, rs, cur, rs.length, rfl, hR2.mono g3.s, hc, .inr ⟨c.has rs cur, rfl, ?_⟩⟩
        refine ⟨_, rfl, _, W.c_Row, dxa, _, _, rfl, hA3, T.cl_Row, T.na_Row_parts, lk_parts, _, rfl, _, rfl, pl, _, rfl, sqlO (g3.s _ _ hplp), fun SL hSL => ?_⟩
        rw [cutV_take]
        have hsl4 : (upd H3 SL (.lst ((refsN as (kids rs cur)).take sn))) SL = some (.lst ((refsN as (kids rs cur)).take sn)) := upd_same
        have hl4 : (upd H3 SL (.lst ((refsN as (kids rs cur)).take sn))) L = some (.lst (refsN as ats)) := by rw [upd_ne (ne_of_none hl3 hSL)]; exact hl3
        have g4 := g3.newH (o := .lst ((refsN as (kids rs cur)).take sn)) hSL
        generalize upd H3 SL (.lst ((refsN as (kids rs cur)).take sn)) = H4 at hsl4 hl4 g4 ⊢
        refine ⟨SL, rfl, ⟨_, sqlO hsl4⟩, fun D hD => ?_⟩
        have nDL : L ≠ D := ne_of_none hl4 hD
        have nDS : SL ≠ D := ne_of_none hsl4 hD
        have hDH := g4.free hD
        have hDU := vfree g4.s hD
        refine lc_list (xs := (refsN as (kids rs cur)).take sn) (fun q H' => Gr S0 U Ha U H' ∧ H' L = some (.lst (refsN as ats)) ∧ H' SL = some (.lst ((refsN as (kids rs cur)).take sn)) ∧ H' D = some (.lst (((((kids rs cur).take sn).take q).map fun z => (cnt (c.has rs) rs z : Int)).map V.int)))
          ⟨g4.newH hD, by rw [upd_ne nDL]; exact hl4, by rw [upd_ne nDS]; exact hsl4, upd_same⟩ (fun q H' _ z => sqlO z.2.2.1) ?_ ?_
        · rintro q y H5 hy ⟨g5, hl5, hs5, hd5⟩
          unfold refsN at hy
          rw [← List.map_take, List.getElem?_map] at hy
          obtain ⟨z, hz, rfl⟩ := Option.map_eq_some_iff.mp hy
          have hzk : z ∈ kids rs cur := List.mem_of_mem_take (List.mem_of_getElem? hz)
          have hzc := parts_lt hok cur z hzk
          obtain ⟨pl2, hR2, _⟩ := fo.k.row (by omega : z < rs.length)
          obtain ⟨dxb, sgb, mob, wib, leb, brb, stb, innb, mab, enb, hlb, spb, knb, opb, hB⟩ := hR2
          have hql := (List.getElem?_eq_some_iff.mp hz).1
          rw [List.length_take] at hql
          have h8 : (kids rs cur).length ≤ 8 := by
            show (partsN (rs.getD cur .hard)).length ≤ 8
            rw [List.getD_eq_getElem?_getD, List.getElem?_eq_getElem hcur]
            exact partsN_len (hok cur _ (List.getElem?_eq_getElem hcur))
          refine ⟨rfl, ⟨_, rfl, _, rfl, _, W.c_Row, dxb, _, _, rfl, g5.s _ _ hB, T.cl_Row, T.na_Row_number, lk_number, _, _, _, _, rfl, rfl, sqlO (g5.s _ _ hcl), cV_at (rs := rs) (i := rs.length) (by omega), _, hd5, ?_, g5.mut (.inr hDH) hDU, by rw [upd_ne nDL]; exact hl5, by rw [upd_ne nDS]; exact hs5, ?_⟩⟩
          · rw [List.length_map, List.length_map, List.length_take, List.length_take]
            exact Nat.lt_of_le_of_lt (show min q (min sn (kids rs cur).length) ≤ 200 by omega) (by decide)
          · rw [upd_same, List.take_succ (l := (kids rs cur).take sn), hz, List.map_append, List.map_append]
            rfl
        · rintro H5 ⟨g5, hl5, hs5, hd5⟩
          have hl3 : ((refsN as (kids rs cur)).take sn).length = ((kids rs cur).take sn).length := by
            unfold refsN
            rw [← List.map_take, List.length_map]
          rw [hl3, List.take_length] at hd5
          refine ⟨D, _, rfl, sqlO hd5, _, _, rfl, rfl, _, _, rfl, rfl, ?_⟩
          have hsum := cast_sum (cnt (c.has rs) rs) ((kids rs cur).take sn)
          refine ⟨tot + (one (c.has rs cur) + (((kids rs cur).take sn).map (cnt (c.has rs) rs)).sum), j, some (.ref (as.getD cur 0)), some (.int sn), v8, ?_, g5, hl5, ?_, hr', by omega⟩
          · rw [← hsum, Int.natCast_add, Int.natCast_add, one_int]
            rfl
          · rw [← e1]
            show _ = tot + (one (c.has rs cur) + _ + aheadP (c.has rs) rs ((kids rs cur).getD sn 0) _)
            rw [List.getD_eq_getElem?_getD, hj]
            show _ = tot + (one (c.has rs cur) + _ + aheadP (c.has rs) rs j _)
            omega
      · cases e2
    · rintro σ H2 ⟨tot, cur, v6, v7, v8, rfl, g, hl2, e1, e2, hcur⟩
      rw [hpl, List.drop_length] at e1
      refine ⟨_, rfl, ?_⟩
      have := k U H2 (gk.trans g.of0) (fo.gr g fun z => z)
      rw [← e1] at this
      exact this
end
end Lw

set_option maxHeartbeats 0
namespace Lw
open PySem PySem.Spec PyProof.Rows L2 VW TL
local macro_rules | `(tactic| walk_at "rdc") => `(tactic| first | assumption | rfl | decide | omega | exact Or.inr ⟨by decide, by decide⟩ | exact ⟨by decide, by decide⟩ | exact ⟨by decide, by decide, by decide⟩ | (show (0 : Int) < _; omega) | (show (0 : Int) < _ ∧ _ < (1073741824 : Int); omega) | (show (-(2 ^ 64) < _ ∧ _ < 2 ^ 64) ∨ (-(2 ^ 64) < _ ∧ _ < 2 ^ 64); omega) | (show (-(2 ^ 64) < _ ∧ _ < 2 ^ 64) ∨ (-(2 ^ 64) < _ ∧ _ < 2 ^ 64); right; split <;> decide) | exact Nat.le_of_ble_eq_true rfl)
local macro_rules | `(tactic| walk_at "rd1") => `(tactic| first | refine ⟨_, rfl, ?_⟩ | refine And.intro (by walk_at "rdc") ?_ | refine ⟨_, _, rfl, rfl, ?_⟩ | refine Or.inl ⟨_, rfl, ?_⟩ | refine Or.inr ⟨_, rfl, ?_⟩ | refine ⟨_, _, _, _, rfl, rfl, sqlO (by first | assumption | exact upd_same), rfl, ?_⟩ | refine ⟨_, _, _, _, rfl, rfl, (by first | assumption | exact upd_same), rfl, ?_⟩)
local macro_rules | `(tactic| walk_at "rd") => `(tactic| repeat (walk_at "rd1"))

theorem szV_last {rs : List Row} (h : 0 < rs.length) : atI (szV rs rs.length) (-1) = some (.int (size rs (rs.length - 1) : Nat)) := by
  unfold atI ixN
  rw [if_neg (by decide), if_pos (by rw [szV_len]; omega), Option.bind_some, szV_len]
  rw [show (-1 + (rs.length : Int)).toNat = rs.length - 1 by omega]
  unfold szV
  rw [List.getElem?_map, List.getElem?_map, List.getElem?_range (by omega)]
  rfl
section
variable {P : Program} {w : World} {K : PySem.W.Frag} {mg : Str → Option Value} {base : Heap} {W : Wd}
theorem cV_last {P : Nat → Bool} {rs : List Row} (h0 : 0 < rs.length) : atI (cV P rs rs.length) (-1) = some (.int (cnt P rs (rs.length - 1) : Nat)) := by
  unfold atI ixN
  rw [if_neg (by decide), if_pos (by rw [cV_len]; omega), Option.bind_some, cV_len]
  rw [show (-1 + (rs.length : Int)).toNat = rs.length - 1 by omega]
  unfold cV
  rw [List.getElem?_map, List.getElem?_map, List.getElem?_range (by omega)]
  rfl
theorem sc_count_all : FnScope ["facts", "chosen"] ["facts", "chosen"] (defScope s_count_all) := ⟨rfl, rfl, rfl, by decide +kernel, rfl, by decide +kernel, by decide +kernel⟩
def sp_countall (K : PySem.W.Frag) (W : Wd) : Sp := fun vs H Q _ => ∃ (fa : Addr) (rs : List Row) (as : List Addr) (la co : Addr) (U : Hp) (c : Ch), vs = [.ref fa, c.v] ∧ Same U H ∧ FaSt W U H fa rs as la co ∧ c.ok rs.length ∧ OkRows rs ∧ 0 < rs.length ∧ rs.length ≤ 200 ∧
  ∀ (U' H' : Hp), Gr (fun b => b = co) U H U' H' → FaSt W U' H' fa rs as la co → Q (.int (cnt (c.has rs) rs (rs.length - 1) : Nat)) H'
theorem d_count_all (T : Txt w K mg W) : DefOk P w K mg base "count_all" s_count_all ["facts", "chosen"] 3 (sp_countall K W) := by
  refine T.f_count_all.ok sc_count_all (fun vs H Q E h => ?_) (fun f cdv A outer s H vs Q E hr h => ?_)
  · obtain ⟨fa, rs, as, la, co, U, c, rfl, _⟩ := h
    rfl
  · obtain ⟨fa, rs, as, la, co, U, c, rfl, hU, fo, hc, hok, h0, h200, k⟩ := h
    refine ⟨_, (pss_one (ps_ret (pe_ix ix_list (pe_callD (d__counts_below T) (hr.mono (by decide)) (pa_cons (pv 0) (pa_cons (pv 1) pa_nil))) (pe_un un_neg pe_int) (fun _ _ => rfl)))), ?_⟩
    refine ⟨_, rfl, _, rfl, fa, rs, as, la, co, U, c, rfl, hU, hok, h200, fo, hc, fun cl U' H' g f2 hcl => ?_⟩
    exact ⟨_, rfl, _, _, _, _, rfl, rfl, sqlO (g.s _ _ hcl), cV_last h0, k U' H' g f2⟩
theorem sc_path_of_number : FnScope ["facts", "chosen", "k", "counts", "row", "path", "index", "part"] ["facts", "chosen", "k"] (defScope s_path_of_number) := ⟨rfl, rfl, rfl, by decide +kernel, rfl, by decide +kernel, by decide +kernel⟩
def sp_pathof (K : PySem.W.Frag) (W : Wd) : Sp := fun vs H Q _ => ∃ (fa : Addr) (rs : List Row) (as : List Addr) (la co : Addr) (U : Hp) (c : Ch) (k : Nat) (path : List Nat) (e : Nat), vs = [.ref fa, c.v, .int k] ∧ Same U H ∧ FaSt W U H fa rs as la co ∧ c.ok rs.length ∧ OkRows rs ∧ 0 < rs.length ∧ rs.length ≤ 200 ∧ (nodesP (c.has rs) rs (rs.length - 1) [])[k]? = some (path, e) ∧
  ∀ (t : Addr) (U' H' : Hp), Gr (fun b => b = co) U H U' H' → FaSt W U' H' fa rs as la co → H t = none → U' t = some (.tup (pathV path)) → Q (.ref t) H'
theorem d_path_of_number (T : Txt w K mg W) : DefOk P w K mg base "path_of_number" s_path_of_number ["facts", "chosen", "k"] 3 (sp_pathof K W) := by
  refine T.f_path_of_number.ok sc_path_of_number (fun vs H Q E h => ?_) (fun f cdv A outer s H vs Q E hr h => ?_)
  · obtain ⟨fa, rs, as, la, co, U, c, k, path, e, rfl, _⟩ := h
    rfl
  · obtain ⟨fa, rs, as, la, co, U0, c, k, path, e, rfl, hU0, fo0, hc, hok, h0, h200, hk, kk⟩ := h
    refine ⟨_, (pss_cons (ps_set (i := 3) sc_path_of_number.nd rfl (Or.inl rfl) (pe_callD (d__counts_below T) (hr.mono (by decide)) (pa_cons (pv 0) (pa_cons (pv 1) pa_nil))))
      (pss_cons (ps_set (i := 4) sc_path_of_number.nd rfl (Or.inl rfl) (pe_fld (pv 0) rfl))
      (pss_cons (ps_set (i := 5) sc_path_of_number.nd rfl (Or.inl rfl) (pe_lst pa_nil))
      (pss_cons (ps_while PassesOwn.never (PW.pt (pw_or (pt_cmpR op_gt (pv 2) pe_int (nomark _)) (pw_or1 (pt_not (pt_val (pe_callD (d__is_chosen T) (hr.mono (by decide)) (pa_cons (pv 4) (pa_cons (pv 1) pa_nil)))))))) (pss_cons (ps_aug (i := 2) sc_path_of_number.nd rfl (Or.inl rfl) (pe_callTy (T := "int") call_int1 (by rfl) T.n_int (by decide +kernel) (pa_cons (pe_callD (d__is_chosen T) (hr.mono (by decide)) (pa_cons (pv 4) (pa_cons (pv 1) pa_nil))) pa_nil)) ip_sub)
      (pss_cons (ps_for PassesOwn.never rfl (pi_enum (by rfl) T.n_enumerate (pa_cons (pe_fld (pv 4) rfl) pa_nil)) (pg_tup rfl (pgs_cons (pg_name (i := 6) sc_path_of_number.nd rfl (Or.inl rfl)) (pgs_cons (pg_name (i := 7) sc_path_of_number.nd rfl (Or.inl rfl)) pgs_nil)))
      (pss_cons (ps_if (pt_cmpR op_lt (pv 2) (pe_ix ix_list (pv 3) (pe_fld (pv 7) rfl) (fun _ _ => rfl)) (nomark _)) (pss_one ps_break) pss_nil)
      (pss_one (ps_aug (i := 2) sc_path_of_number.nd rfl (Or.inl rfl) (pe_ix ix_list (pv 3) (pe_fld (pv 7) rfl) (fun _ _ => rfl)) ip_sub))))
      (pss_cons (ps_expr (pe_bm PySem.F.plainAttrs_list PySem.F.slot_list_append PySem.F.type_list_append mt_append (pv 5) (pa_cons (pv 6) pa_nil)))
      (pss_one (ps_set (i := 4) sc_path_of_number.nd rfl (Or.inl rfl) (pv 7)))))))
      (pss_one (ps_ret (pe_callTy (T := "tuple") call_tuple_of (by rfl) T.n_tuple (by decide +kernel) (pa_cons (pv 5) pa_nil)))))))), ?_⟩
    refine ⟨_, rfl, _, rfl, fa, rs, as, la, co, U0, c, rfl, hU0, hok, h200, fo0, hc, fun cl U H gc fo hcl => ?_⟩
    obtain ⟨dx, M, d0, d2, d3, d4, d5, d6, f1, f2⟩ := fo.k.f
    have hla := fo.k.la
    have hU := gc.s
    refine ⟨_, rfl, fa, W.c_Facts, dx, _, _, rfl, hU _ _ f1, T.cl_Facts, T.na_Facts_last, lf_last, ?_⟩
    refine ⟨Nat.le_of_ble_eq_true rfl, fun L hL => ?_⟩
    have hLU := hU.free hL
    have g0 := (Gr.refl (S := S0) hU).newH (o := .lst []) hL
    have l0 : (upd H L (.lst [])) L = some (.lst (pathV [])) := upd_same
    generalize upd H L (.lst []) = H1 at g0 l0 ⊢
    refine ⟨fun m σ H' => ∃ (kk cur : Nat) (q : List Nat) (v6 v7 : Option V), m = cur ∧ σ = [some (.ref fa), some c.v, some (.int kk), some (.ref cl), some (.ref (as.getD cur 0)), some (.ref L), v6, v7] ∧ Gr S0 U H U H' ∧ H' L = some (.lst (pathV q)) ∧ (nodesP (c.has rs) rs cur q)[kk]? = some (path, e) ∧ cur < rs.length ∧ q.length + cur < rs.length,
      ⟨_, k, rs.length - 1, [], none, none, rfl, by rw [hla]; rfl, g0, l0, hk, by omega, by rw [List.length_nil]; omega⟩, ?_⟩
    rintro m σ H2 ⟨kk1, cur, q, v6, v7, rfl, rfl, g, l2, hn, hcur, hq⟩
    obtain ⟨pl, hR, hplp⟩ := fo.k.row hcur
    have hR2 := hR
    obtain ⟨dxa, sga, moa, wia, lea, bra, sta, inna, maa, ena, hla2, spa, kna, opa, hA⟩ := hR
    refine ⟨_, rfl, _, _, rfl, rfl, _, rfl, ?_⟩
    by_cases hx : kk1 = 0 ∧ c.has rs m = true
    · obtain ⟨rfl, hb⟩ := hx
      refine ifF (decide_eq_false (by omega)) ?_
      refine ⟨_, rfl, _, rfl, _, pl, c, rs, m, rs.length, rfl, hR2.mono g.s, hc, c.has rs m, rfl, ?_⟩
      refine ifF (by rw [hb]; rfl) ?_
      rw [nodesP_eq hok, hb] at hn
      cases hn
      refine ⟨_, rfl, L, _, rfl, .inl ⟨sqlO l2, fun t ht => ?_⟩⟩
      have g9 := g.new (o := .tup (pathV path)) ht
      exact kk t _ _ (gc.trans g9.of0) (fo.gr g9 fun z => z) (gc.free (g.free ht)) upd_same
    · have hn2 : (segs (nodesP (c.has rs) rs) (kids rs m) 0 q)[kk1 - one (c.has rs m)]? = some (path, e) ∧ one (c.has rs m) ≤ kk1 := by
        rw [nodesP_eq hok] at hn
        cases hb : c.has rs m with
        | false =>
          rw [hb] at hn
          exact ⟨hn, Nat.zero_le _⟩
        | true =>
          rw [hb] at hn hx
          cases kk1 with
          | zero => exact absurd ⟨rfl, rfl⟩ hx
          | succ n => exact ⟨hn, Nat.succ_le_succ (Nat.zero_le n)⟩
      obtain ⟨hn2, hle⟩ := hn2
      refine ite2 (fun _ => ?_) (fun hpos => ⟨_, rfl, _, rfl, _, pl, c, rs, m, rs.length, rfl, hR2.mono g.s, hc, c.has rs m, rfl, ifT (by
        have : kk1 = 0 := by
          by_cases hz : kk1 = 0
          · exact hz
          · exact absurd (decide_eq_true (by omega)) hpos
        cases hb : c.has rs m with
        | false => rfl
        | true => exact absurd ⟨this, hb⟩ hx) ?_⟩)
      all_goals
        refine ⟨fun σ' H' => ∃ (kk cur : Nat) (q : List Nat) (v6 v7 : Option V), cur < m ∧ σ' = [some (.ref fa), some c.v, some (.int kk), some (.ref cl), some (.ref (as.getD cur 0)), some (.ref L), v6, v7] ∧ Gr S0 U H U H' ∧ H' L = some (.lst (pathV q)) ∧ (nodesP (c.has rs) rs cur q)[kk]? = some (path, e) ∧ cur < rs.length ∧ q.length + cur < rs.length,
          fun σ' H' ⟨kk, cur, q, v6, v7, h1, h⟩ => ⟨cur, h1, kk, cur, q, v6, v7, rfl, h⟩, ?_⟩
        refine ⟨_, rfl, _, rfl, _, rfl, _, pl, c, rs, m, rs.length, rfl, hR2.mono g.s, hc, .inr ⟨c.has rs m, rfl, _, _, rfl, rfl, ?_⟩⟩
        refine ⟨_, rfl, _, W.c_Row, dxa, _, _, rfl, g.s _ _ hA, T.cl_Row, T.na_Row_parts, lk_parts, pl, _, rfl, sqlO (g.s _ _ hplp), ?_⟩
        refine for_it walk_enum (fun i σ H' => ∃ (kk : Nat) (v6 v7 : Option V), σ = [some (.ref fa), some c.v, some (.int kk), some (.ref cl), some (.ref (as.getD m 0)), some (.ref L), v6, v7] ∧ Gr S0 U H U H' ∧ H' L = some (.lst (pathV q)) ∧ (segs (nodesP (c.has rs) rs) ((kids rs m).drop i) i q)[kk]? = some (path, e))
          ⟨kk1 - one (c.has rs m), v6, v7, ?_, g, l2, hn2⟩ (fun i σ H' _ ⟨_, _, _, _, g, _⟩ => sqlO (g.s _ _ hplp)) ?_ ?_
        · show _ = [_, _, some (V.int ((kk1 - one (c.has rs m) : Nat) : Int)), _, _, _, _, _]
          rw [Int.ofNat_sub hle, one_int]
          rfl
        · rintro i x σ H3 H4 hi ⟨kk, v6, v7, rfl, g3, l3, hs⟩ ⟨t, y1, y2, rfl, ht, rfl, e1, e2⟩
          cases e1
          have e2 : (refsN as (kids rs m))[i]? = some y2 := e2
          unfold refsN at e2
          rw [List.getElem?_map] at e2
          obtain ⟨j, hj, rfl⟩ := Option.map_eq_some_iff.mp e2
          have hil := (List.getElem?_eq_some_iff.mp hj).1
          have hjm := kid_lt hok hj
          have hdrop : (kids rs m).drop i = j :: (kids rs m).drop (i + 1) := by
            rw [List.drop_eq_getElem_cons hil]
            rw [List.getElem?_eq_getElem hil] at hj
            rw [Option.some.inj hj]
          rw [hdrop] at hs
          obtain ⟨st1, st2⟩ := nodeP_step hok hs
          obtain ⟨pl2, hR2, _⟩ := fo.k.row (by omega : j < rs.length)
          obtain ⟨dxb, sgb, mob, wib, leb, brb, stb, innb, mab, enb, hlb, spb, knb, opb, hB⟩ := hR2
          have g4 := g3.newH (o := .tup [.int (i : Nat), .ref (as.getD j 0)]) ht
          have l4 : (upd H3 t (.tup [.int (i : Nat), .ref (as.getD j 0)])) L = some (.lst (pathV q)) := by rw [upd_ne (ne_of_none l3 ht)]; exact l3
          refine ⟨t, _, rfl, sqtO upd_same, rfl, _, _, rfl, _, _, rfl, rfl, ?_⟩
          generalize upd H3 t (.tup [.int (i : Nat), .ref (as.getD j 0)]) = H5 at g4 l4 ⊢
          have hB5 := g4.s _ _ hB
          have hc5 := g4.s _ _ hcl
          refine ⟨_, rfl, _, rfl, _, rfl, _, W.c_Row, dxb, _, _, rfl, hB5, T.cl_Row, T.na_Row_number, lk_number, _, _, _, _, rfl, rfl, sqlO hc5, cV_at (rs := rs) (i := rs.length) (by omega), _, _, rfl, rfl, _, rfl, ?_⟩
          refine ite2 (fun hlt => ?_) (fun hlt => ?_)
          · have hlt : kk < cnt (c.has rs) rs j := by have := of_decide_eq_true hlt; omega
            refine ⟨_, rfl, .inl ⟨rfl, _, sqlO l4⟩, _, rfl, L, _, _, rfl, rfl, l4, ?_, ?_⟩
            · rw [List.length_map, List.length_map]
              exact Nat.lt_of_le_of_lt (show q.length ≤ 200 by omega) (by decide)
            · refine ⟨_, rfl, kk, j, q ++ [i], some (.int (i : Nat)), some (.ref (as.getD j 0)), hjm, rfl, g4.mut (.inr hL) hLU, ?_, st1 hlt, by omega, by rw [List.length_append, List.length_singleton]; omega⟩
              rw [upd_same]
              show _ = some (HO.lst (((q ++ [i]).map _).map _))
              rw [List.map_append, List.map_append]
              rfl
          · have hlt : ¬ kk < cnt (c.has rs) rs j := fun z => hlt (decide_eq_true (by omega))
            refine ⟨_, rfl, _, rfl, _, rfl, _, W.c_Row, dxb, _, _, rfl, hB5, T.cl_Row, T.na_Row_number, lk_number, _, _, _, _, rfl, rfl, sqlO hc5, cV_at (rs := rs) (i := rs.length) (by omega), _, _, rfl, rfl, ?_⟩
            refine ⟨kk - cnt (c.has rs) rs j, some (.int (i : Nat)), some (.ref (as.getD j 0)), ?_, g4, l4, st2 hlt⟩
            rw [show (((kk - cnt (c.has rs) rs j : Nat)) : Int) = (kk : Int) - (cnt (c.has rs) rs j : Int) by omega]
            rfl
        · rintro σ H3 ⟨kk, v6, v7, rfl, g3, l3, hs⟩
          exfalso
          have hrl : (refsN as (kids rs m)).length = (kids rs m).length := List.length_map _
          rw [hrl, List.drop_length] at hs
          cases hs
end
end Lw

set_option maxHeartbeats 0
namespace Lw
open PySem PySem.Spec PyProof.Rows L2 VW TL
local macro_rules | `(tactic| walk_at "rdc") => `(tactic| first | assumption | rfl | decide | omega | exact Or.inr ⟨by decide, by decide⟩ | exact ⟨by decide, by decide⟩ | exact ⟨by decide, by decide, by decide⟩ | (show (0 : Int) < _; omega) | (show (0 : Int) < _ ∧ _ < (1073741824 : Int); omega) | (show (-(2 ^ 64) < _ ∧ _ < 2 ^ 64) ∨ (-(2 ^ 64) < _ ∧ _ < 2 ^ 64); omega) | (show (-(2 ^ 64) < _ ∧ _ < 2 ^ 64) ∨ (-(2 ^ 64) < _ ∧ _ < 2 ^ 64); right; split <;> decide) | exact Nat.le_of_ble_eq_true rfl)
local macro_rules | `(tactic| walk_at "rd1") => `(tactic| first | refine ⟨_, rfl, ?_⟩ | refine And.intro (by walk_at "rdc") ?_ | refine ⟨_, _, rfl, rfl, ?_⟩ | refine Or.inl ⟨_, rfl, ?_⟩ | refine Or.inr ⟨_, rfl, ?_⟩ | refine ⟨_, _, _, _, rfl, rfl, sqlO (by first | assumption | exact upd_same), rfl, ?_⟩ | refine ⟨_, _, _, _, rfl, rfl, (by first | assumption | exact upd_same), rfl, ?_⟩)
local macro_rules | `(tactic| walk_at "rd") => `(tactic| repeat (walk_at "rd1"))

section
variable {P : Program} {w : World} {K : PySem.W.Frag} {mg : Str → Option Value} {base : Heap} {W : Wd}
theorem nodeP_lt {P : Nat → Bool} {rs : List Row} (hok : OkRows rs) {k : Nat} {x : Nd} (h : (nodesP P rs (rs.length - 1) [])[k]? = some x) : k < cnt P rs (rs.length - 1) := by
  rw [← nodesP_len hok _ _ [] (Nat.lt_succ_self _)]
  exact (List.getElem?_eq_some_iff.mp h).1
theorem atI_end {as : List Addr} {ats : List Nat} {n e : Nat} (hl : ats.length = n + 1) (he : ats[n]? = some e) : atI (refsN as ats) (-1) = some (.ref (as.getD e 0)) := by
  unfold atI ixN refsN
  rw [if_neg (by decide), if_pos (by rw [List.length_map]; omega), Option.bind_some, List.length_map]
  rw [show (-1 + (ats.length : Int)).toNat = n by omega, List.getElem?_map, he]
  rfl
theorem onP_mem {rs : List Row} (hok : OkRows rs) : ∀ {p : List Nat} {at_ : Nat} {ats : List Nat}, onP rs at_ p = some ats → ∀ j ∈ ats, j ≤ at_
  | [], at_, ats, h, j, hj => by cases h; rw [List.mem_singleton.mp hj]; exact Nat.le_refl _
  | s :: p, at_, ats, h, j, hj => by
    unfold onP at h
    split at h
    · rename_i q hq
      obtain ⟨r, hr, rfl⟩ := Option.map_eq_some_iff.mp h
      rcases List.mem_cons.mp hj with rfl | hj
      · exact Nat.le_refl _
      · have := onP_mem hok hr j hj
        have := kid_lt hok hq
        omega
    · cases h
theorem sc__checked_path : FnScope ["facts", "chosen", "k"] ["facts", "chosen", "k"] (defScope s__checked_path) := ⟨rfl, rfl, rfl, by decide +kernel, rfl, by decide +kernel, by decide +kernel⟩
def sp_checkedpath (K : PySem.W.Frag) (W : Wd) : Sp := fun vs H Q E => ∃ (fa : Addr) (rs : List Row) (as : List Addr) (la co : Addr) (U : Hp) (c : Ch) (k : Int), vs = [.ref fa, c.v, .int k] ∧ Same U H ∧ FaSt W U H fa rs as la co ∧ c.ok rs.length ∧ OkRows rs ∧ 0 < rs.length ∧ rs.length ≤ 200 ∧
  ((∃ (kn : Nat) (path : List Nat) (e : Nat), k = kn ∧ (nodesP (c.has rs) rs (rs.length - 1) [])[kn]? = some (path, e) ∧ ∀ (t : Addr) (U' H' : Hp), Gr (fun b => b = co) U H U' H' → FaSt W U' H' fa rs as la co → H t = none → U' t = some (.tup (pathV path)) → Q (.ref t) H') ∨
   (¬ (0 ≤ k ∧ k < cnt (c.has rs) rs (rs.length - 1)) ∧ ∀ (d : Addr) (U' H' : Hp), Gr (fun b => b = co) U H U' H' → FaSt W U' H' fa rs as la co → H' d = some (.xd [("argument", .str "k")]) → E (.ref W.c_InvalidBound) (some d) H'))
theorem d__checked_path (T : Txt w K mg W) : DefOkX P w K mg base "_checked_path" s__checked_path ["facts", "chosen", "k"] 5 (sp_checkedpath K W) := by
  refine T.f__checked_path.okX sc__checked_path (fun vs H Q E h => ?_) (fun f cdv A outer s H vs Q E hr h => ?_)
  · obtain ⟨fa, rs, as, la, co, U, c, k, rfl, _⟩ := h
    rfl
  · obtain ⟨fa, rs, as, la, co, U, c, k, rfl, hU, fo, hc, hok, h0, h200, h⟩ := h
    refine ⟨_, (pss_cons (ps_expr (pe_callX (E := E) (d_check_number T) (hr.mono (by decide)) (takes_of rfl rfl rfl rfl) (fun _ _ _ _ z => z) (pa_cons (pv 2) (pa_cons pe_int (pa_cons (pe_op op_sub (pe_callD (d_count_all T) (hr.mono (by decide)) (pa_cons (pv 0) (pa_cons (pv 1) pa_nil))) pe_int) (pa_cons pe_str pa_nil))))))
      (pss_one (ps_ret (pe_callD (d_path_of_number T) (hr.mono (by decide)) (pa_cons (pv 0) (pa_cons (pv 1) (pa_cons (pv 2) pa_nil))))))), ?_⟩
    refine ⟨_, rfl, _, rfl, _, rfl, fa, rs, as, la, co, U, c, rfl, hU, fo, hc, hok, h0, h200, fun U1 H1 g1 fo1 => ?_⟩
    refine ⟨_, _, rfl, rfl, k, 0, _, "k", rfl, by decide +kernel, ?_⟩
    rcases h with ⟨kn, path, e, rfl, hk, kk⟩ | ⟨hk, kk⟩
    · have hlt := nodeP_lt hok hk
      refine .inl ⟨by omega, by omega, ?_⟩
      refine ⟨_, rfl, _, rfl, _, rfl, fa, rs, as, la, co, U1, c, kn, path, e, rfl, g1.s, fo1, hc, hok, h0, h200, hk, fun t U2 H2 g2 fo2 ht e2 => ?_⟩
      exact kk t U2 H2 (g1.trans g2) fo2 (g1.free ht) e2
    · refine .inr ⟨fun z => hk (by omega), fun d H' sd hd hx => ?_⟩
      have g2 : Gr (fun b => b = co) U H U1 H' := g1.grow sd
      refine kk d U1 H' g2 ?_ hx
      obtain ⟨es, q1, q2, q3, q4⟩ := fo1.c.h
      exact ⟨fo1.k, fo1.c.o, es, sd _ _ q1, q2, q3, q4⟩
theorem sc__checked_kind : FnScope ["kind"] ["kind"] (defScope s__checked_kind) := ⟨rfl, rfl, rfl, by decide +kernel, rfl, by decide +kernel, by decide +kernel⟩
def sp_checkedkind : Sp := fun vs H Q _ => ∃ s : Str, vs = [.str s] ∧ s ∈ kindsL ∧ Q (.str s) H
theorem kinds_in (T : Txt w K mg W) {s : Str} (h : s ∈ kindsL) : ∃ u, PySem.W.nsIn K W.ROW_LENGTHS s = some (some u) := by
  simp only [kindsL, List.mem_cons, List.not_mem_nil, or_false] at h
  rcases h with rfl | rfl | rfl | rfl | rfl | rfl | rfl
  · obtain ⟨t, h⟩ := T.k_ROW_LENGTHS_text; exact ⟨_, h⟩
  · obtain ⟨t, h⟩ := T.k_ROW_LENGTHS_line; exact ⟨_, h⟩
  · obtain ⟨t, h⟩ := T.k_ROW_LENGTHS_hard; exact ⟨_, h⟩
  · obtain ⟨t, h⟩ := T.k_ROW_LENGTHS_cat; exact ⟨_, h⟩
  · obtain ⟨t, h⟩ := T.k_ROW_LENGTHS_nest; exact ⟨_, h⟩
  · obtain ⟨t, h⟩ := T.k_ROW_LENGTHS_align; exact ⟨_, h⟩
  · obtain ⟨t, h⟩ := T.k_ROW_LENGTHS_group; exact ⟨_, h⟩
theorem d__checked_kind (T : Txt w K mg W) : DefOk P w K mg base "_checked_kind" s__checked_kind ["kind"] 1 sp_checkedkind := by
  refine T.f__checked_kind.ok sc__checked_kind (fun vs H Q E h => ?_) (fun f cdv A outer s H vs Q E hr h => ?_)
  · obtain ⟨s, rfl, _⟩ := h
    rfl
  · obtain ⟨z, rfl, hz, k⟩ := h
    refine ⟨_, (pss_cons (ps_if (PW.pt (pw_or (pt_not (pt_val (pe_callB (id := "isinstance") call_isi (by rfl) T.n_isinstance (by decide +kernel) (pa_cons (pv 0) (pa_cons (pe_bltn (v := .ty "str") (by rfl) T.n_str (by decide +kernel) rfl) pa_nil))))) (pw_or1 (pt_cmp (pc_dnotinK (pv 0) (pe_glob (v := .ref W.ROW_LENGTHS) (by rfl) T.g_ROW_LENGTHS rfl)))))) (pss_one ps_never) pss_nil)
      (pss_one (ps_ret (pv 0)))), ?_⟩
    obtain ⟨u, hu⟩ := kinds_in T hz
    obtain ⟨es, nn, kl, kk, ko⟩ := T.k_ROW_LENGTHS
    refine ⟨_, rfl, _, _, _, _, true, rfl, .ty "str", .base (.str z), kit_ty (by decide +kernel), true, rfl, iteF ?_⟩
    refine ⟨_, rfl, W.ROW_LENGTHS, es, nn, rfl, kl, kk, ko, z, _, rfl, hu, false, rfl, iteF ?_⟩
    exact ⟨_, rfl, k⟩
theorem group_in : ("group" : Str) ∈ kindsL := by decide +kernel
theorem sc_node_total : FnScope ["doc", "facts"] ["doc"] (defScope s_node_total) := ⟨rfl, rfl, rfl, by decide +kernel, rfl, by decide +kernel, by decide +kernel⟩
def sp_node_total (K : PySem.W.Frag) (W : Wd) : Sp := fun vs H Q _ => ∃ (x : Addr) (rs : List Row) (S : Addr → Prop) (U : Hp), vs = [.ref x] ∧ Same U H ∧ DocSt K W S U H x rs ∧ OkRows rs ∧ 0 < rs.length ∧ rs.length ≤ 200 ∧ 
  ∀ (S' : Addr → Prop) (U' H' : Hp), Grw S U H S' U' H' → DocSt K W S' U' H' x rs → Q (.int (cnt ((.all : Ch).has rs) rs (rs.length - 1) : Nat)) H'
theorem d_node_total (T : Txt w K mg W) : DefOk P w K mg base "node_total" s_node_total ["doc"] 6 (sp_node_total K W) := by
  refine T.f_node_total.ok sc_node_total (fun vs H Q E h => ?_) (fun f cdv A outer s H vs Q E hr h => ?_)
  · obtain ⟨x, rs, S, U, rfl, _⟩ := h
    rfl
  · obtain ⟨x, rs, S, U, rfl, hU, D, hok, h0, h200, k⟩ := h
    refine ⟨_, (pss_cons (ps_set (i := 1) sc_node_total.nd rfl (Or.inl rfl) (pe_callD (d_facts_of T) (hr.mono (by decide)) (pa_cons (pv 0) pa_nil)))
      (pss_one (ps_ret (pe_callD (d_count_all T) (hr.mono (by decide)) (pa_cons (pv 1) (pa_cons (pe_globS T.g_ALL) pa_nil)))))), ?_⟩
    refine ⟨_, rfl, x, rs, S, U, rfl, hU, D, hok, h0, h200, fun dx l fa as la co S1 U1 H1 g1 sx sc sa ux hx fo => ?_⟩
    refine ⟨_, rfl, fa, rs, as, la, co, U1, .all, rfl, g1.g.s, fo, True.intro, hok, h0, h200, fun U2 H2 g2 fo2 => ?_⟩
    exact k S1 U2 H2 (g1.trans (.of g2 fun b e => by rw [e]; exact sc)) (DocSt.co sx sa ux hx sc fo.c g2 fo2)
theorem sc_group_total : FnScope ["doc", "facts"] ["doc"] (defScope s_group_total) := ⟨rfl, rfl, rfl, by decide +kernel, rfl, by decide +kernel, by decide +kernel⟩
def sp_group_total (K : PySem.W.Frag) (W : Wd) : Sp := fun vs H Q _ => ∃ (x : Addr) (rs : List Row) (S : Addr → Prop) (U : Hp), vs = [.ref x] ∧ Same U H ∧ DocSt K W S U H x rs ∧ OkRows rs ∧ 0 < rs.length ∧ rs.length ≤ 200 ∧ 
  ∀ (S' : Addr → Prop) (U' H' : Hp), Grw S U H S' U' H' → DocSt K W S' U' H' x rs → Q (.int (cnt ((.kind "group" : Ch).has rs) rs (rs.length - 1) : Nat)) H'
theorem d_group_total (T : Txt w K mg W) : DefOk P w K mg base "group_total" s_group_total ["doc"] 6 (sp_group_total K W) := by
  refine T.f_group_total.ok sc_group_total (fun vs H Q E h => ?_) (fun f cdv A outer s H vs Q E hr h => ?_)
  · obtain ⟨x, rs, S, U, rfl, _⟩ := h
    rfl
  · obtain ⟨x, rs, S, U, rfl, hU, D, hok, h0, h200, k⟩ := h
    refine ⟨_, (pss_cons (ps_set (i := 1) sc_group_total.nd rfl (Or.inl rfl) (pe_callD (d_facts_of T) (hr.mono (by decide)) (pa_cons (pv 0) pa_nil)))
      (pss_one (ps_ret (pe_callD (d_count_all T) (hr.mono (by decide)) (pa_cons (pv 1) (pa_cons pe_str pa_nil)))))), ?_⟩
    refine ⟨_, rfl, x, rs, S, U, rfl, hU, D, hok, h0, h200, fun dx l fa as la co S1 U1 H1 g1 sx sc sa ux hx fo => ?_⟩
    refine ⟨_, rfl, fa, rs, as, la, co, U1, .kind "group", rfl, g1.g.s, fo, group_in, hok, h0, h200, fun U2 H2 g2 fo2 => ?_⟩
    exact k S1 U2 H2 (g1.trans (.of g2 fun b e => by rw [e]; exact sc)) (DocSt.co sx sa ux hx sc fo.c g2 fo2)
theorem sc_kind_total : FnScope ["doc", "kind", "facts"] ["doc", "kind"] (defScope s_kind_total) := ⟨rfl, rfl, rfl, by decide +kernel, rfl, by decide +kernel, by decide +kernel⟩
def sp_kind_total (K : PySem.W.Frag) (W : Wd) : Sp := fun vs H Q _ => ∃ (x : Addr) (rs : List Row) (S : Addr → Prop) (U : Hp) (z : Str), vs = [.ref x, .str z] ∧ Same U H ∧ DocSt K W S U H x rs ∧ OkRows rs ∧ 0 < rs.length ∧ rs.length ≤ 200 ∧ z ∈ kindsL ∧
  ∀ (S' : Addr → Prop) (U' H' : Hp), Grw S U H S' U' H' → DocSt K W S' U' H' x rs → Q (.int (cnt ((.kind z : Ch).has rs) rs (rs.length - 1) : Nat)) H'
theorem d_kind_total (T : Txt w K mg W) : DefOk P w K mg base "kind_total" s_kind_total ["doc", "kind"] 6 (sp_kind_total K W) := by
  refine T.f_kind_total.ok sc_kind_total (fun vs H Q E h => ?_) (fun f cdv A outer s H vs Q E hr h => ?_)
  · obtain ⟨x, rs, S, U, z, rfl, _⟩ := h
    rfl
  · obtain ⟨x, rs, S, U, z, rfl, hU, D, hok, h0, h200, hz, k⟩ := h
    refine ⟨_, (pss_cons (ps_set (i := 2) sc_kind_total.nd rfl (Or.inl rfl) (pe_callD (d_facts_of T) (hr.mono (by decide)) (pa_cons (pv 0) pa_nil)))
      (pss_one (ps_ret (pe_callD (d_count_all T) (hr.mono (by decide)) (pa_cons (pv 2) (pa_cons (pe_callD (d__checked_kind T) (hr.mono (by decide)) (pa_cons (pv 1) pa_nil)) pa_nil)))))), ?_⟩
    refine ⟨_, rfl, x, rs, S, U, rfl, hU, D, hok, h0, h200, fun dx l fa as la co S1 U1 H1 g1 sx sc sa ux hx fo => ?_⟩
    refine ⟨_, rfl, _, rfl, z, rfl, hz, fa, rs, as, la, co, U1, .kind z, rfl, g1.g.s, fo, hz, hok, h0, h200, fun U2 H2 g2 fo2 => ?_⟩
    exact k S1 U2 H2 (g1.trans (.of g2 fun b e => by rw [e]; exact sc)) (DocSt.co sx sa ux hx sc fo.c g2 fo2)
theorem sc_path_of_kind : FnScope ["doc", "kind", "k", "facts"] ["doc", "kind", "k"] (defScope s_path_of_kind) := ⟨rfl, rfl, rfl, by decide +kernel, rfl, by decide +kernel, by decide +kernel⟩
def sp_pathat (K : PySem.W.Frag) (W : Wd) : Sp := fun vs H Q E => ∃ (x : Addr) (rs : List Row) (S : Addr → Prop) (U : Hp) (z : Str) (k : Nat), vs = [.ref x, .str z, .int k] ∧ Same U H ∧ DocSt K W S U H x rs ∧ OkRows rs ∧ 0 < rs.length ∧ rs.length ≤ 200 ∧ z ∈ kindsL ∧
  ((∃ (path : List Nat) (e : Nat), (nodesP ((Ch.kind z).has rs) rs (rs.length - 1) [])[k]? = some (path, e) ∧ ∀ (t : Addr) (S' : Addr → Prop) (U' H' : Hp), Grw S U H S' U' H' → DocSt K W S' U' H' x rs → H t = none → U' t = some (.tup (pathV path)) → Q (.ref t) H') ∨
   (cnt ((Ch.kind z).has rs) rs (rs.length - 1) ≤ k ∧ ∀ (d : Addr) (S' : Addr → Prop) (U' H' : Hp), Grw S U H S' U' H' → DocSt K W S' U' H' x rs → H' d = some (.xd [("argument", .str "k")]) → E (.ref W.c_InvalidBound) (some d) H'))
theorem d_path_of_kind (T : Txt w K mg W) : DefOkX P w K mg base "path_of_kind" s_path_of_kind ["doc", "kind", "k"] 7 (sp_pathat K W) := by
  refine T.f_path_of_kind.okX sc_path_of_kind (fun vs H Q E h => ?_) (fun f cdv A outer s H vs Q E hr h => ?_)
  · obtain ⟨x, rs, S, U, z, k, rfl, _⟩ := h
    rfl
  · obtain ⟨x, rs, S, U, z, k, rfl, hU, D, hok, h0, h200, hz, h⟩ := h
    refine ⟨_, (pss_cons (ps_set (i := 3) sc_path_of_kind.nd rfl (Or.inl rfl) (pe_callD (d_facts_of T) (hr.mono (by decide)) (pa_cons (pv 0) pa_nil)))
      (pss_one (ps_ret (pe_callX (E := E) (d__checked_path T) (hr.mono (by decide)) (takes_of rfl rfl rfl rfl) (fun _ _ _ _ z => z) (pa_cons (pv 3) (pa_cons (pe_callD (d__checked_kind T) (hr.mono (by decide)) (pa_cons (pv 1) pa_nil)) (pa_cons (pv 2) pa_nil))))))), ?_⟩
    refine ⟨_, rfl, x, rs, S, U, rfl, hU, D, hok, h0, h200, fun dx l fa as la co S1 U1 H1 g1 sx sc sa ux hx fo => ?_⟩
    have go : ∀ {U2 H2 : Hp}, Gr (fun b => b = co) U1 H1 U2 H2 → FaSt W U2 H2 fa rs as la co → Grw S U H S1 U2 H2 ∧ DocSt K W S1 U2 H2 x rs := fun g2 fo2 =>
      ⟨g1.trans (.of g2 fun b e => by rw [e]; exact sc), DocSt.co sx sa ux hx sc fo.c g2 fo2⟩
    refine ⟨_, rfl, _, rfl, z, rfl, hz, _, rfl, fa, rs, as, la, co, U1, .kind z, k, rfl, g1.g.s, fo, hz, hok, h0, h200, ?_⟩
    rcases h with ⟨path, e, hk, kk⟩ | ⟨hk, kk⟩
    · exact .inl ⟨k, path, e, rfl, hk, fun t U2 H2 g2 fo2 ht e2 => kk t S1 U2 H2 (go g2 fo2).1 (go g2 fo2).2 (g1.g.free ht) e2⟩
    · exact .inr ⟨by omega, fun d U2 H2 g2 fo2 hd => kk d S1 U2 H2 (go g2 fo2).1 (go g2 fo2).2 hd⟩
theorem sc_kinds_before : FnScope ["doc", "kind", "path", "facts"] ["doc", "kind", "path"] (defScope s_kinds_before) := ⟨rfl, rfl, rfl, by decide +kernel, rfl, by decide +kernel, by decide +kernel⟩
def sp_before (K : PySem.W.Frag) (W : Wd) : Sp := fun vs H Q _ => ∃ (x : Addr) (rs : List Row) (S : Addr → Prop) (U : Hp) (t : Addr) (z : Str) (path ats : List Nat), vs = [.ref x, .str z, .ref t] ∧ Same U H ∧ DocSt K W S U H x rs ∧ OkRows rs ∧ 0 < rs.length ∧ rs.length ≤ 200 ∧ z ∈ kindsL ∧ SqT K U t (pathV path) ∧ path.length ≤ 200 ∧
  onP rs (rs.length - 1) path = some ats ∧ ∀ (S' : Addr → Prop) (U' H' : Hp), Grw S U H S' U' H' → DocSt K W S' U' H' x rs → Q (.int (aheadP ((Ch.kind z).has rs) rs (rs.length - 1) path : Nat)) H'
theorem d_kinds_before (T : Txt w K mg W) : DefOk P w K mg base "kinds_before" s_kinds_before ["doc", "kind", "path"] 6 (sp_before K W) := by
  refine T.f_kinds_before.ok sc_kinds_before (fun vs H Q E h => ?_) (fun f cdv A outer s H vs Q E hr h => ?_)
  · obtain ⟨x, rs, S, U, t, z, path, ats, rfl, _⟩ := h
    rfl
  · obtain ⟨x, rs, S, U, t, z, path, ats, rfl, hU, D, hok, h0, h200, hz, ht, hpl, hon, kk⟩ := h
    refine ⟨_, (pss_cons (ps_set (i := 3) sc_kinds_before.nd rfl (Or.inl rfl) (pe_callD (d_facts_of T) (hr.mono (by decide)) (pa_cons (pv 0) pa_nil)))
      (pss_one (ps_ret (pe_callD (d_count_ahead T) (hr.mono (by decide)) (pa_cons (pv 3) (pa_cons (pe_callD (d__checked_kind T) (hr.mono (by decide)) (pa_cons (pv 1) pa_nil)) (pa_cons (pv 2) pa_nil))))))), ?_⟩
    refine ⟨_, rfl, x, rs, S, U, rfl, hU, D, hok, h0, h200, fun dx l fa as la co S1 U1 H1 g1 sx sc sa ux hx fo => ?_⟩
    refine ⟨_, rfl, _, rfl, z, rfl, hz, _, rfl, fa, rs, as, la, co, U1, .kind z, t, path, ats, rfl, g1.g.s, fo, hz, hok, h0, h200, sqtS g1.g.v ht, hpl, hon, fun U3 H3 g3 fo3 => ?_⟩
    exact kk S1 U3 H3 (g1.trans (.of g3 fun b e => by rw [e]; exact sc)) (DocSt.co sx sa ux hx sc fo.c g3 fo3)
end
end Lw

set_option maxHeartbeats 0
namespace Lw
open PySem PySem.Spec PyProof.Rows L2 VW TL
local macro_rules | `(tactic| walk_at "rdc") => `(tactic| first | assumption | rfl | decide | omega | exact Or.inr ⟨by decide, by decide⟩ | exact ⟨by decide, by decide⟩ | exact ⟨by decide, by decide, by decide⟩ | (show (0 : Int) < _; omega) | (show (0 : Int) < _ ∧ _ < (1073741824 : Int); omega) | (show (-(2 ^ 64) < _ ∧ _ < 2 ^ 64) ∨ (-(2 ^ 64) < _ ∧ _ < 2 ^ 64); omega) | (show (-(2 ^ 64) < _ ∧ _ < 2 ^ 64) ∨ (-(2 ^ 64) < _ ∧ _ < 2 ^ 64); right; split <;> decide) | exact Nat.le_of_ble_eq_true rfl)
local macro_rules | `(tactic| walk_at "rd1") => `(tactic| first | refine ⟨_, rfl, ?_⟩ | refine And.intro (by walk_at "rdc") ?_ | refine ⟨_, _, rfl, rfl, ?_⟩ | refine Or.inl ⟨_, rfl, ?_⟩ | refine Or.inr ⟨_, rfl, ?_⟩ | refine ⟨_, _, _, _, rfl, rfl, sqlO (by first | assumption | exact upd_same), rfl, ?_⟩ | refine ⟨_, _, _, _, rfl, rfl, (by first | assumption | exact upd_same), rfl, ?_⟩)
local macro_rules | `(tactic| walk_at "rd") => `(tactic| repeat (walk_at "rd1"))

section
variable {P : Program} {w : World} {K : PySem.W.Frag} {mg : Str → Option Value} {base : Heap} {W : Wd}
theorem sc__law_below : FnScope ["_law_row_here"] ["_law_row_here"] (defScope s__law_below) := ⟨rfl, rfl, rfl, by decide +kernel, rfl, by decide +kernel, by decide +kernel⟩
def sp_below (K : PySem.W.Frag) : Sp := fun vs H Q _ => ∃ (v : V) (r : Row) (n : Nat) (U : Hp), vs = [v] ∧ Same U H ∧ Dp K U v r.data ∧ r.ok n ∧ ∀ (L : Addr) (H' : Hp), Gr S0 U H U H' → H L = none → H' L = some (.lst (pathV (partsN r))) → Q (.ref L) H'
theorem ints_path {ps : List Int} {k : Nat} (h : ∀ j ∈ ps, 0 ≤ j ∧ j < (k : Int)) : ps.map V.int = pathV (ps.map Int.toNat) := by
  show _ = ((ps.map Int.toNat).map fun (j : Nat) => (j : Int)).map V.int
  rw [List.map_map, List.map_map]
  refine List.map_congr_left fun j hj => ?_
  show V.int j = V.int ((j.toNat : Nat) : Int)
  have := h j hj
  rw [show ((j.toNat : Nat) : Int) = j by omega]
theorem d__law_below (T : Txt w K mg W) : DefOk P w K mg base "_law_below" s__law_below ["_law_row_here"] 1 (sp_below K) := by
  refine T.f__law_below.ok sc__law_below (fun vs H Q E h => ?_) (fun f cdv A outer s H vs Q E hr h => ?_)
  · obtain ⟨v, r, n, U, rfl, _⟩ := h
    rfl
  · obtain ⟨v, r, n, U, rfl, hU, hd, hok, k⟩ := h
    refine ⟨_, (pss_cons (ps_if (pt_cmpR op_eq (pe_ix ix_tup (pv 0) pe_int (fun _ _ => rfl)) pe_str (nomark _)) (pss_one (ps_ret (pe_callTy (T := "list") call_list_of (by rfl) T.n_list (by decide +kernel) (pa_cons (pe_ix ix_tup (pv 0) pe_int (fun _ _ => rfl)) pa_nil)))) pss_nil)
      (pss_one (ps_ret (pe_ifExp (pt_cmpR op_in_seq (pe_ix ix_tup (pv 0) pe_int (fun _ _ => rfl)) (pe_tup (pa_cons pe_str (pa_cons pe_str (pa_cons pe_str pa_nil)))) (by rfl)) (pe_lst pa_nil) (pe_lst (pa_cons (pe_ix ix_tup (pv 0) (pe_un un_neg pe_int) (fun _ _ => rfl)) pa_nil)))))), ?_⟩
    cases r with
    | cat ps =>
      cases hd with | tup ht hs =>
      cases hs with | cons h1 hs =>
      cases hs with | cons h2 hs =>
      cases h1
      cases h2 with | lst hl2 ha2 =>
      cases hs
      rename_i ta la2 vs2
      obtain rfl := dps_of_ints ha2
      refine ⟨_, rfl, _, _, _, _, rfl, rfl, sqtS hU ht, atI_nat (j := 0) rfl, rfl, _, rfl, ifT (by kernel_rfl) ?_⟩
      refine ⟨_, rfl, _, _, _, _, rfl, rfl, sqtS hU ht, atI_nat (j := 1) rfl, la2, _, rfl, .inl (sqlS hU hl2), fun L hL => ?_⟩
      rw [ints_path hok.2]
      exact k L _ ((Gr.refl hU).newH hL) hL upd_same
    | nest m j =>
      cases hd with | tup ht hs =>
      cases hs with | cons h1 hs =>
      cases hs with | cons h2 hs =>
      cases hs with | cons h3 hs =>
      cases h1
      cases h2
      cases h3
      cases hs
      have hj := hok.2.2
      obtain ⟨jn, rfl⟩ : ∃ jn : Nat, j = jn := ⟨j.toNat, by omega⟩
      refine ⟨_, rfl, _, _, _, _, rfl, rfl, sqtS hU ht, atI_nat (j := 0) rfl, rfl, _, rfl, ifF (by kernel_rfl) ?_⟩
      refine ⟨_, rfl, _, _, _, _, rfl, rfl, sqtS hU ht, atI_nat (j := 0) rfl, Nat.le_of_ble_eq_true rfl, fun t2 ht2 => ?_⟩
      refine ⟨t2, _, rfl, .inr (sqtO upd_same), rfl, rfl, _, rfl, ifF (by kernel_rfl) ?_⟩
      have g2 := (Gr.refl (S := S0) hU).newH (o := .tup [.str "text", .str "line", .str "hard"]) ht2
      refine ⟨_, rfl, _, rfl, _, _, _, _, rfl, rfl, sqtS g2.s ht, rfl, Nat.le_of_ble_eq_true rfl, fun L hL => ?_⟩
      exact k L _ (g2.newH hL) (g2.free hL) upd_same
    | align j =>
      cases hd with | tup ht hs =>
      cases hs with | cons h1 hs =>
      cases hs with | cons h2 hs =>
      cases h1
      cases h2
      cases hs
      have hj := (show 0 ≤ j ∧ j < (n : Int) from hok)
      obtain ⟨jn, rfl⟩ : ∃ jn : Nat, j = jn := ⟨j.toNat, by omega⟩
      refine ⟨_, rfl, _, _, _, _, rfl, rfl, sqtS hU ht, atI_nat (j := 0) rfl, rfl, _, rfl, ifF (by kernel_rfl) ?_⟩
      refine ⟨_, rfl, _, _, _, _, rfl, rfl, sqtS hU ht, atI_nat (j := 0) rfl, Nat.le_of_ble_eq_true rfl, fun t2 ht2 => ?_⟩
      refine ⟨t2, _, rfl, .inr (sqtO upd_same), rfl, rfl, _, rfl, ifF (by kernel_rfl) ?_⟩
      have g2 := (Gr.refl (S := S0) hU).newH (o := .tup [.str "text", .str "line", .str "hard"]) ht2
      refine ⟨_, rfl, _, rfl, _, _, _, _, rfl, rfl, sqtS g2.s ht, rfl, Nat.le_of_ble_eq_true rfl, fun L hL => ?_⟩
      exact k L _ (g2.newH hL) (g2.free hL) upd_same
    | group j =>
      cases hd with | tup ht hs =>
      cases hs with | cons h1 hs =>
      cases hs with | cons h2 hs =>
      cases h1
      cases h2
      cases hs
      have hj := (show 0 ≤ j ∧ j < (n : Int) from hok)
      obtain ⟨jn, rfl⟩ : ∃ jn : Nat, j = jn := ⟨j.toNat, by omega⟩
      refine ⟨_, rfl, _, _, _, _, rfl, rfl, sqtS hU ht, atI_nat (j := 0) rfl, rfl, _, rfl, ifF (by kernel_rfl) ?_⟩
      refine ⟨_, rfl, _, _, _, _, rfl, rfl, sqtS hU ht, atI_nat (j := 0) rfl, Nat.le_of_ble_eq_true rfl, fun t2 ht2 => ?_⟩
      refine ⟨t2, _, rfl, .inr (sqtO upd_same), rfl, rfl, _, rfl, ifF (by kernel_rfl) ?_⟩
      have g2 := (Gr.refl (S := S0) hU).newH (o := .tup [.str "text", .str "line", .str "hard"]) ht2
      refine ⟨_, rfl, _, rfl, _, _, _, _, rfl, rfl, sqtS g2.s ht, rfl, Nat.le_of_ble_eq_true rfl, fun L hL => ?_⟩
      exact k L _ (g2.newH hL) (g2.free hL) upd_same
    | text z =>
      cases hd with | tup ht hs =>
      cases hs with | cons h1 hs =>
      cases hs with | cons h2 hs =>
      cases h1
      cases h2
      cases hs
      refine ⟨_, rfl, _, _, _, _, rfl, rfl, sqtS hU ht, atI_nat (j := 0) rfl, rfl, _, rfl, ifF (by kernel_rfl) ?_⟩
      refine ⟨_, rfl, _, _, _, _, rfl, rfl, sqtS hU ht, atI_nat (j := 0) rfl, Nat.le_of_ble_eq_true rfl, fun t2 ht2 => ?_⟩
      refine ⟨t2, _, rfl, .inr (sqtO upd_same), rfl, rfl, _, rfl, ifT (by kernel_rfl) ?_⟩
      have g2 := (Gr.refl (S := S0) hU).newH (o := .tup [.str "text", .str "line", .str "hard"]) ht2
      refine ⟨Nat.le_of_ble_eq_true rfl, fun L hL => ?_⟩
      exact k L _ (g2.newH hL) (g2.free hL) upd_same
    | line z =>
      cases hd with | tup ht hs =>
      cases hs with | cons h1 hs =>
      cases hs with | cons h2 hs =>
      cases h1
      cases h2
      cases hs
      refine ⟨_, rfl, _, _, _, _, rfl, rfl, sqtS hU ht, atI_nat (j := 0) rfl, rfl, _, rfl, ifF (by kernel_rfl) ?_⟩
      refine ⟨_, rfl, _, _, _, _, rfl, rfl, sqtS hU ht, atI_nat (j := 0) rfl, Nat.le_of_ble_eq_true rfl, fun t2 ht2 => ?_⟩
      refine ⟨t2, _, rfl, .inr (sqtO upd_same), rfl, rfl, _, rfl, ifT (by kernel_rfl) ?_⟩
      have g2 := (Gr.refl (S := S0) hU).newH (o := .tup [.str "text", .str "line", .str "hard"]) ht2
      refine ⟨Nat.le_of_ble_eq_true rfl, fun L hL => ?_⟩
      exact k L _ (g2.newH hL) (g2.free hL) upd_same
    | hard =>
      cases hd with | tup ht hs =>
      cases hs with | cons h1 hs =>
      cases h1
      cases hs
      refine ⟨_, rfl, _, _, _, _, rfl, rfl, sqtS hU ht, atI_nat (j := 0) rfl, rfl, _, rfl, ifF (by kernel_rfl) ?_⟩
      refine ⟨_, rfl, _, _, _, _, rfl, rfl, sqtS hU ht, atI_nat (j := 0) rfl, Nat.le_of_ble_eq_true rfl, fun t2 ht2 => ?_⟩
      refine ⟨t2, _, rfl, .inr (sqtO upd_same), rfl, rfl, _, rfl, ifT (by kernel_rfl) ?_⟩
      have g2 := (Gr.refl (S := S0) hU).newH (o := .tup [.str "text", .str "line", .str "hard"]) ht2
      refine ⟨Nat.le_of_ble_eq_true rfl, fun L hL => ?_⟩
      exact k L _ (g2.newH hL) (g2.free hL) upd_same
end
end Lw

set_option maxHeartbeats 0
namespace Lw
open PySem PySem.Spec PyProof.Rows L2 VW TL
local macro_rules | `(tactic| walk_at "rdc") => `(tactic| first | assumption | rfl | decide | omega | exact Or.inr ⟨by decide, by decide⟩ | exact ⟨by decide, by decide⟩ | exact ⟨by decide, by decide, by decide⟩ | (show (0 : Int) < _; omega) | (show (0 : Int) < _ ∧ _ < (1073741824 : Int); omega) | (show (-(2 ^ 64) < _ ∧ _ < 2 ^ 64) ∨ (-(2 ^ 64) < _ ∧ _ < 2 ^ 64); omega) | (show (-(2 ^ 64) < _ ∧ _ < 2 ^ 64) ∨ (-(2 ^ 64) < _ ∧ _ < 2 ^ 64); right; split <;> decide) | exact Nat.le_of_ble_eq_true rfl)
local macro_rules | `(tactic| walk_at "rd1") => `(tactic| first | refine ⟨_, rfl, ?_⟩ | refine And.intro (by walk_at "rdc") ?_ | refine ⟨_, _, rfl, rfl, ?_⟩ | refine Or.inl ⟨_, rfl, ?_⟩ | refine Or.inr ⟨_, rfl, ?_⟩ | refine ⟨_, _, _, _, rfl, rfl, sqlO (by first | assumption | exact upd_same), rfl, ?_⟩ | refine ⟨_, _, _, _, rfl, rfl, (by first | assumption | exact upd_same), rfl, ?_⟩)
local macro_rules | `(tactic| walk_at "rd") => `(tactic| repeat (walk_at "rd1"))

local macro_rules | `(tactic| walk_at "dt1") => `(tactic| first | exact mka_nil | refine mka_cons ?_ ?_ | exact mk_int | exact mk_non | refine mk_tup ?_ (Nat.le_of_ble_eq_true rfl) | exact mk_str mks_c)
local macro_rules | `(tactic| walk_at "dt") => `(tactic| repeat' (walk_at "dt1"))
theorem go_asg {te : TE} {g : TG} {u : TS} {D : Ends} {σ : L2.St} {H : Hp} (h : te σ H fun x H1 => g x σ H1 (u D)) : tSeq (tAsg te g) u D σ H := h
theorem go_drop {te : TE} {u : TS} {D : Ends} {σ : L2.St} {H : Hp} (h : te σ H fun _ H1 => u D σ H1) : tSeq (tDrop te) u D σ H := h
theorem go_ret {te : TE} {D : Ends} {σ : L2.St} {H : Hp} (h : te σ H D.rt) : tRet te D σ H := h
def leaves1 : List Row := [.text "a", .text "bcd", .text "efghij", .text "", .line " ", .line " "]
def leaves2 : List Row := [.line "", .line ", ", .hard]
theorem leaf_ok {k : Nat} : ∀ r ∈ leaves1 ++ leaves2, r.ok k := by
  intro r hr
  simp only [leaves1, leaves2, List.cons_append, List.nil_append, List.mem_cons, List.not_mem_nil, or_false] at hr
  rcases hr with rfl | rfl | rfl | rfl | rfl | rfl | rfl | rfl | rfl
  all_goals first | exact True.intro | (show GoodS 20 _; exact ⟨by decide +kernel, by decide +kernel⟩) | (show GoodS 3 _; exact ⟨by decide +kernel, by decide +kernel⟩)
section
variable {P : Program} {w : World} {K : PySem.W.Frag} {mg : Str → Option Value} {base : Heap} {W : Wd}
theorem Src.grS {U H U' H' : Hp} {s : Addr} (S : Src U H s) (g : Gr S0 U H U' H') : Src U' H' s := by
  obtain ⟨a, b, c, e⟩ := S.h
  exact ⟨g.s, g.out (some_ne e) S.o, a, b, c, g.same _ _ e⟩
theorem sc__law_row : FnScope ["_law_well_here", "_law_k", "_law_way", "_law_some", "_law_j"] ["_law_well_here", "_law_k"] (defScope s__law_row) := ⟨rfl, rfl, rfl, by decide +kernel, rfl, by decide +kernel, by decide +kernel⟩
def sp_row (K : PySem.W.Frag) : Sp := fun vs H Q _ => ∃ (s : Addr) (U : Hp) (n : Nat), vs = [.ref s, .int n] ∧ Src U H s ∧ n ≤ 1000 ∧
  ∀ (v : V) (r : Row) (U' H' : Hp), Gr (G1 s) U H U' H' → Src U' H' s → r.ok n → Dp K U' v r.data → Q v H'
theorem d__law_row (T : Txt w K mg W) : DefOk P w K mg base "_law_row" s__law_row ["_law_well_here", "_law_k"] 3 (sp_row K) := by
  refine T.f__law_row.ok sc__law_row (fun vs H Q E h => ?_) (fun f cdv A outer s H vs Q E hr h => ?_)
  · obtain ⟨s, U, n, rfl, _⟩ := h
    rfl
  · obtain ⟨s, U, n, rfl, S, h1, k⟩ := h
    refine ⟨_, (Evl.pss_cut (ps_set (i := 2) sc__law_row.nd rfl (Or.inl rfl) (pe_ifExp (pt_cmpR op_gt (pv 1) pe_int (nomark _)) (pe_callD (d__law_draw T) (hr.mono (by decide)) (pa_cons (pv 0) (pa_cons pe_int pa_nil))) (pe_callD (d__law_draw T) (hr.mono (by decide)) (pa_cons (pv 0) (pa_cons pe_int pa_nil)))))
      (pss_cons (ps_if (pt_cmpR op_lt (pv 2) pe_int (nomark _)) (pss_cons (ps_set (i := 3) sc__law_row.nd rfl (Or.inl rfl) (pe_lst (pa_cons (pe_tup (pa_cons pe_str (pa_cons pe_str pa_nil))) (pa_cons (pe_tup (pa_cons pe_str (pa_cons pe_str pa_nil))) (pa_cons (pe_tup (pa_cons pe_str (pa_cons pe_str pa_nil))) (pa_cons (pe_tup (pa_cons pe_str (pa_cons pe_str pa_nil))) (pa_cons (pe_tup (pa_cons pe_str (pa_cons pe_str pa_nil))) (pa_cons (pe_tup (pa_cons pe_str (pa_cons pe_str pa_nil))) pa_nil))))))))
      (pss_one (ps_ret (pe_callD (d__law_pick T) (hr.mono (by decide)) (pa_cons (pv 0) (pa_cons (pe_op op_cat (pv 3) (pe_lst (pa_cons (pe_tup (pa_cons pe_str (pa_cons pe_str pa_nil))) (pa_cons (pe_tup (pa_cons pe_str (pa_cons pe_str pa_nil))) (pa_cons (pe_tup (pa_cons pe_str pa_nil)) pa_nil))))) pa_nil)))))) pss_nil)
      (Evl.pss_cut (ps_setLc (i := 3) (own := [("_law_j", 4)]) (g := (gName 4)) (tt := tYes) rfl sc__law_row.nd rfl rfl (sw_true rfl rfl rfl (by decide +kernel)) (pi_range1 (by rfl) T.n_range (pa_cons pe_int pa_nil)) (blkOk_by (own := [("_law_j", 4)]) (N := ["_law_well_here", "_law_k", "_law_way", "_law_some", "_law_j"]) (sc := defScope s__law_row) (by decide +kernel)) (fun _ _ _ _ _ => (pg_name (i := 4) sc__law_row.nd rfl (Or.inl rfl))) (fun _ _ _ _ _ => pts_nil) (fun _ _ _ _ _ => (pe_op op_sub (pe_op op_sub (pv 1) pe_int) (pe_callD (d__law_draw T) (hr.mono (by decide)) (pa_cons (pv 0) (pa_cons (pe_callB (id := "min") (call_min2 rfl) (by rfl) T.n_min (by decide +kernel) (pa_cons (pv 1) (pa_cons pe_int pa_nil))) pa_nil))))))
      (pss_cons (ps_if (pt_cmpR op_lt (pv 2) pe_int (nomark _)) (pss_one (ps_ret (pe_tup (pa_cons pe_str (pa_cons (pe_ix ix_list (pv 3) pe_int (fun _ _ => rfl)) pa_nil))))) pss_nil)
      (pss_cons (ps_if (pt_cmpR op_eq (pv 2) pe_int (nomark _)) (pss_one (ps_ret (pe_tup (pa_cons pe_str (pa_cons (pe_callD (d__law_draw T) (hr.mono (by decide)) (pa_cons (pv 0) (pa_cons pe_int pa_nil))) (pa_cons (pe_ix ix_list (pv 3) pe_int (fun _ _ => rfl)) pa_nil)))))) pss_nil)
      (pss_one (ps_ret (pe_ifExp (pt_cmpR op_eq (pv 2) pe_int (nomark _)) (pe_tup (pa_cons pe_str (pa_cons (pe_ix ix_list (pv 3) pe_int (fun _ _ => rfl)) pa_nil))) (pe_tup (pa_cons pe_str (pa_cons (pe_slice sl_list (pe_op op_cat (pv 3) (pv 3)) po_none (po_some (pe_callD (d__law_pick T) (hr.mono (by decide)) (pa_cons (pv 0) (pa_cons (pe_lst (pa_cons pe_int (pa_cons pe_int (pa_cons pe_int (pa_cons pe_int (pa_cons pe_int (pa_cons pe_int (pa_cons pe_int pa_nil)))))))) pa_nil))))) pa_nil))))))))))), ?_⟩
    refine ⟨fun σ' H' => ∃ way : Int, σ' = [some (.ref s), some (.int n), some (.int way), none, none] ∧ Gr (G1 s) U H U H' ∧ Src U H' s ∧ 0 ≤ way ∧ (n ≤ 2 → way < 4), ?_, ?_⟩
    · refine ⟨_, rfl, _, _, rfl, rfl, _, rfl, ?_⟩
      refine ite2 (fun hc => ?_) (fun hc => ?_)
      · refine ⟨_, rfl, s, U, 14, rfl, S, by decide, by decide, fun r H1 g1 S1 r0 r1 => ?_⟩
        exact ⟨r, rfl, g1, S1, r0, fun z => by have := of_decide_eq_true hc; omega⟩
      · refine ⟨_, rfl, s, U, 4, rfl, S, by decide, by decide, fun r H1 g1 S1 r0 r1 => ?_⟩
        exact ⟨r, rfl, g1, S1, r0, fun _ => r1⟩
    · rintro σ' H1 ⟨way, rfl, g1, S1, w0, w4⟩
      refine ⟨_, rfl, _, _, rfl, rfl, _, rfl, ?_⟩
      refine ite2 (fun hc => ?_) (fun hc => ?_)
      · refine go_asg (σ := [some (.ref s), some (.int n), some (.int way), none, none]) ?_
        refine rows_new (K := K) (Gr.refl S1.v) (es := leaves1.map Row.data) (by unfold leaves1; walk_at "dt") (Nat.le_of_ble_eq_true rfl) fun U2 H2 p1 R1 => ?_
        refine go_ret (σ := [some (.ref s), some (.int n), some (.int way), some (.ref p1), none]) ?_
        refine ⟨_, rfl, ?_⟩
        refine rows_cat R1 rfl (es := leaves2.map Row.data) (by unfold leaves2; walk_at "dt") (Nat.le_of_ble_eq_true rfl) fun U3 H3 p3 R3 => ?_
        obtain ⟨vs3, hp3, hv3⟩ := R3.h
        have g3 := R3.g.tell R3.n hp3 R3.o
        have hv4 := dpsS (same_new (o := .lst vs3) R3.o) hv3
        have hl3 := dps_length hv3
        refine ⟨s, p3, _, vs3, rfl, S1.grS g3, sqlO upd_same, by rw [hl3]; exact Nat.le_of_ble_eq_true rfl, by rw [hl3]; exact Nat.lt_of_le_of_lt (show _ ≤ 9 from Nat.le_of_ble_eq_true rfl) (by decide), fun x H4 g4 S4 hx => ?_⟩
        obtain ⟨q, hq⟩ := List.mem_iff_getElem?.mp hx
        obtain ⟨d, hd, hdp⟩ := dps_get hv4 hq
        rw [← List.map_append, List.getElem?_map] at hd
        obtain ⟨r, hr, rfl⟩ := Option.map_eq_some_iff.mp hd
        exact k x r _ H4 (g1.trans (g3.of0.trans g4)) S4 (leaf_ok r (List.mem_of_getElem? hr)) hdp
      · have hn : 3 ≤ n := by
          by_cases z : n ≤ 2
          · exact absurd (decide_eq_true (w4 z)) hc
          · omega
        refine ⟨fun σ' H' => ∃ (U' : Hp) (L : Addr) (ns : List Nat), σ' = [some (.ref s), some (.int n), some (.int way), some (.ref L), none] ∧ Gr (G1 s) U H U' H' ∧ Src U' H' s ∧ U' L = some (.lst (pathV ns)) ∧ ns.length = 4 ∧ ∀ j ∈ ns, j < n, ?_, ?_⟩
        · refine ⟨_, rfl, by decide, by decide, fun D hD => ?_⟩
          have hDH := g1.free hD
          refine lc_range (lo := 0) (n := Int.toNat 4) (fun i H' => ∃ ns : List Nat, Gr (G1 s) U H U H' ∧ Src U H' s ∧ H' D = some (.lst (pathV ns)) ∧ ns.length = i ∧ ∀ j ∈ ns, j < n) ⟨[], g1.trans (S1.newH hD).1, (S1.newH hD).2, upd_same, rfl, fun j hj => nomatch hj⟩ ?_ ?_
          · rintro i H2 hi ⟨ns, g2, S2, hd2, hl2, hj2⟩
            have hi : i < 4 := hi
            have hDU := vfree S1.v hD
            have hDs : D ≠ s := fun z => by
              obtain ⟨_, _, _, q⟩ := S.h
              rw [z, q] at hDH
              cases hDH
            refine ⟨rfl, ⟨_, rfl, _, _, rfl, rfl, ?_⟩⟩
            have hmin : (0 : Int) < (if (4 : Int) < (n : Int) then 4 else (n : Int)) ∧ (if (4 : Int) < (n : Int) then 4 else (n : Int)) ≤ n := by split <;> omega
            refine ⟨_, rfl, _, rfl, _, _, rfl, s, U, _, rfl, S2, hmin.1, by omega, fun r H3 g3 S3 r0 r1 => ?_⟩
            obtain ⟨rn, rfl⟩ : ∃ rn : Nat, r = rn := ⟨r.toNat, by omega⟩
            have hrn : rn < n := by omega
            refine ⟨_, _, rfl, rfl, _, g3.k D _ hDs hd2, ?_, ns ++ [n - 1 - rn], (g2.trans g3).mut (.inr hDH) hDU, S3.mut hDs hDU, ?_, by rw [List.length_append, hl2]; rfl, fun j hj => ?_⟩
            · rw [List.length_map, List.length_map, hl2]
              exact Nat.lt_of_lt_of_le hi (by decide)
            · rw [upd_same]
              show _ = some (HO.lst (((ns ++ [n - 1 - rn]).map _).map _))
              rw [List.map_append, List.map_append, show (fun i j => V.int (i - j)) ((n : Int) - 1) (rn : Int) = V.int ((n - 1 - rn : Nat) : Int) by show V.int _ = V.int _; rw [show ((n - 1 - rn : Nat) : Int) = (n : Int) - 1 - (rn : Int) by omega]]
              rfl
            · rcases List.mem_append.mp hj with hj | hj
              · exact hj2 j hj
              · rw [List.mem_singleton.mp hj]
                omega
          · rintro H2 ⟨ns, g2, S2, hd2, hl2, hj2⟩
            have hDU := vfree S1.v hD
            have hDs : D ≠ s := fun z => by
              obtain ⟨_, _, _, q⟩ := S.h
              rw [z, q] at hDH
              cases hDH
            have g3 := g2.tell hDH hd2 hDU
            refine ⟨_, D, ns, rfl, g3, ⟨g3.s, by rw [upd_ne (Ne.symm hDs)]; exact S2.o, S2.h⟩, upd_same, hl2, hj2⟩
        · rintro σ' H2 ⟨U2, L, ns, rfl, g2, S2, hL, hl4, hj⟩
          obtain ⟨a0, a1, a2, a3, rfl⟩ : ∃ a0 a1 a2 a3, ns = [a0, a1, a2, a3] := by
            match ns, hl4 with
            | [a0, a1, a2, a3], _ => exact ⟨a0, a1, a2, a3, rfl⟩
          have h0 := hj a0 List.mem_cons_self
          have hLH := S2.v _ _ hL
          refine ⟨_, rfl, _, _, rfl, rfl, _, rfl, ?_⟩
          refine ite2 (fun hc => ?_) (fun hc => ?_)
          · refine ⟨_, rfl, _, _, _, _, rfl, rfl, sqlO hLH, atI_nat (j := 0) rfl, Nat.le_of_ble_eq_true rfl, fun t ht => ?_⟩
            exact k (.ref t) (.group a0) _ _ (g2.trans (S2.new ht).1) (S2.new ht).2 (by show (0 : Int) ≤ (a0 : Int) ∧ (a0 : Int) < (n : Int); omega) (dp_tup upd_same (.cons (.str _) (.cons (.int _) .nil)))
          refine ⟨_, rfl, rfl, _, rfl, ?_⟩
          refine ite2 (fun hc => ?_) (fun hc => ?_)
          · refine ⟨_, rfl, s, U2, 5, rfl, S2, by decide, by decide, fun r H3 g3 S3 r0 r1 => ?_⟩
            refine ⟨_, rfl, _, _, _, _, rfl, rfl, sqlO (S3.v _ _ hL), atI_nat (j := 0) rfl, Nat.le_of_ble_eq_true rfl, fun t ht => ?_⟩
            exact k (.ref t) (.nest r a0) _ _ ((g2.trans g3).trans (S3.new ht).1) (S3.new ht).2 (by show (0 : Int) ≤ r ∧ r ≤ 8 ∧ (0 : Int) ≤ (a0 : Int) ∧ (a0 : Int) < (n : Int); omega) (dp_tup upd_same (.cons (.str _) (.cons (.int _) (.cons (.int _) .nil))))
          refine ⟨_, rfl, rfl, _, rfl, ?_⟩
          refine ite2 (fun hc => ?_) (fun hc => ?_)
          · refine ⟨_, rfl, _, _, _, _, rfl, rfl, sqlO hLH, atI_nat (j := 0) rfl, Nat.le_of_ble_eq_true rfl, fun t ht => ?_⟩
            exact k (.ref t) (.align a0) _ _ (g2.trans (S2.new ht).1) (S2.new ht).2 (by show (0 : Int) ≤ (a0 : Int) ∧ (a0 : Int) < (n : Int); omega) (dp_tup upd_same (.cons (.str _) (.cons (.int _) .nil)))
          · refine ⟨_, rfl, _, rfl, L, L, _, _, rfl, rfl, hLH, hLH, Nat.le_of_ble_eq_true rfl, fun CL hCL => ?_⟩
            have g3 := g2.trans (S2.new (o := .lst (pathV [a0, a1, a2, a3] ++ pathV [a0, a1, a2, a3])) hCL).1
            have S3 := (S2.new (o := .lst (pathV [a0, a1, a2, a3] ++ pathV [a0, a1, a2, a3])) hCL).2
            have c3 : (upd U2 CL (.lst (pathV [a0, a1, a2, a3] ++ pathV [a0, a1, a2, a3]))) CL = some (.lst (pathV [a0, a1, a2, a3, a0, a1, a2, a3])) := upd_same
            refine ⟨_, rfl, Nat.le_of_ble_eq_true rfl, fun PL hPL => ?_⟩
            have g4 := g3.trans (S3.new (o := .lst [.int 2, .int 3, .int 4, .int 1, .int 0, .int 3, .int 8]) hPL).1
            have S4 := (S3.new (o := .lst [.int 2, .int 3, .int 4, .int 1, .int 0, .int 3, .int 8]) hPL).2
            have c4 := same_new (o := .lst [.int 2, .int 3, .int 4, .int 1, .int 0, .int 3, .int 8]) (vfree S3.v hPL) _ _ c3
            refine ⟨s, PL, _, _, rfl, S4, sqlO upd_same, Nat.zero_lt_succ _, Nat.lt_of_le_of_lt (show _ ≤ 7 from Nat.le_of_ble_eq_true rfl) (by decide), fun x H5 g5 S5 hx => ?_⟩
            obtain ⟨cn, rfl, hcn⟩ : ∃ cn : Nat, x = .int (cn : Int) ∧ cn ≤ 8 := by
              simp only [List.mem_cons, List.not_mem_nil, or_false] at hx
              rcases hx with rfl | rfl | rfl | rfl | rfl | rfl | rfl
              · exact ⟨2, rfl, by decide⟩
              · exact ⟨3, rfl, by decide⟩
              · exact ⟨4, rfl, by decide⟩
              · exact ⟨1, rfl, by decide⟩
              · exact ⟨0, rfl, by decide⟩
              · exact ⟨3, rfl, by decide⟩
              · exact ⟨8, rfl, by decide⟩
            refine ⟨_, rfl, CL, _, rfl, sqlO (S5.v _ _ c4), fun D hD => ?_⟩
            rw [cutV_take]
            refine ⟨Nat.le_of_ble_eq_true rfl, fun t ht => ?_⟩
            have g6 := (g4.trans g5).trans (S5.new (o := .lst ((pathV [a0, a1, a2, a3, a0, a1, a2, a3]).take cn)) hD).1
            have S6 := (S5.new (o := .lst ((pathV [a0, a1, a2, a3, a0, a1, a2, a3]).take cn)) hD).2
            refine k (.ref t) (.cat (([a0, a1, a2, a3, a0, a1, a2, a3].take cn).map fun (j : Nat) => (j : Int))) _ _ (g6.trans (S6.new ht).1) (S6.new ht).2 ⟨?_, fun j hj' => ?_⟩ ?_
            · rw [List.length_map, List.length_take]
              exact Nat.le_trans (Nat.min_le_left _ _) hcn
            · obtain ⟨q, hq, rfl⟩ := List.mem_map.mp hj'
              have hq2 : q ∈ [a0, a1, a2, a3] := by
                have := List.mem_of_mem_take hq
                simp only [List.mem_cons, List.not_mem_nil, or_false] at this ⊢
                rcases this with h | h | h | h | h | h | h | h <;> simp [h]
              have := hj q hq2
              omega
            · refine dp_tup upd_same (.cons (.str _) (.cons (dpS (same_new (vfree S6.v ht)) (dp_lst upd_same ?_)) .nil))
              show DpAll K _ ((pathV [a0, a1, a2, a3, a0, a1, a2, a3]).take cn) ((([a0, a1, a2, a3, a0, a1, a2, a3].take cn).map fun (j : Nat) => (j : Int)).map PyData.int)
              rw [show (pathV [a0, a1, a2, a3, a0, a1, a2, a3]).take cn = (([a0, a1, a2, a3, a0, a1, a2, a3].take cn).map fun (j : Nat) => (j : Int)).map V.int by rw [List.map_take, List.map_take]]
              exact dps_ints _
end
end Lw

set_option maxHeartbeats 0
namespace Lw
open PySem PySem.Spec PyProof.Rows L2 VW TL
local macro_rules | `(tactic| walk_at "rdc") => `(tactic| first | assumption | rfl | decide | omega | exact Or.inr ⟨by decide, by decide⟩ | exact ⟨by decide, by decide⟩ | exact ⟨by decide, by decide, by decide⟩ | (show (0 : Int) < _; omega) | (show (0 : Int) < _ ∧ _ < (1073741824 : Int); omega) | (show (-(2 ^ 64) < _ ∧ _ < 2 ^ 64) ∨ (-(2 ^ 64) < _ ∧ _ < 2 ^ 64); omega) | (show (-(2 ^ 64) < _ ∧ _ < 2 ^ 64) ∨ (-(2 ^ 64) < _ ∧ _ < 2 ^ 64); right; split <;> decide) | exact Nat.le_of_ble_eq_true rfl)
local macro_rules | `(tactic| walk_at "rd1") => `(tactic| first | refine ⟨_, rfl, ?_⟩ | refine And.intro (by walk_at "rdc") ?_ | refine ⟨_, _, rfl, rfl, ?_⟩ | refine Or.inl ⟨_, rfl, ?_⟩ | refine Or.inr ⟨_, rfl, ?_⟩ | refine ⟨_, _, _, _, rfl, rfl, sqlO (by first | assumption | exact upd_same), rfl, ?_⟩ | refine ⟨_, _, _, _, rfl, rfl, (by first | assumption | exact upd_same), rfl, ?_⟩)
local macro_rules | `(tactic| walk_at "rd") => `(tactic| repeat (walk_at "rd1"))

theorem getD_rs {rs : List Row} {r : Row} {i : Nat} (h : i < rs.length) : (rs ++ [r]).getD i .hard = rs.getD i .hard := by
  rw [List.getD_eq_getElem?_getD, List.getD_eq_getElem?_getD, List.getElem?_append_left h]
theorem sizeF_app {rs : List Row} {r : Row} (hok : OkRows rs) : ∀ (n i : Nat), i < rs.length → sizeF n (rs ++ [r]) i = sizeF n rs i
  | 0, _, _ => rfl
  | n + 1, i, h => by
    unfold sizeF
    rw [getD_rs h, sum_congr fun j hj => sizeF_app hok n j (by have := parts_lt hok i j hj; omega)]
theorem size_app {rs : List Row} {r : Row} (hok : OkRows rs) {i : Nat} (h : i < rs.length) : size (rs ++ [r]) i = size rs i := sizeF_app hok (i + 1) i h
theorem szV_app {rs : List Row} {r : Row} (hok : OkRows rs) : szV (rs ++ [r]) rs.length = szV rs rs.length := by
  unfold szV
  exact congrArg (List.map V.int) (List.map_congr_left fun i hi => by rw [size_app hok (List.mem_range.mp hi)])
theorem size_last {rs : List Row} {r : Row} (hok : OkRows (rs ++ [r])) (hok' : OkRows rs) : (size (rs ++ [r]) rs.length : Int) = 1 + ((partsN r).map fun j => (size rs j : Int)).sum := by
  rw [size_int hok rs.length]
  have e : (rs ++ [r]).getD rs.length .hard = r := by rw [List.getD_eq_getElem?_getD, List.getElem?_append_right (Nat.le_refl _), Nat.sub_self]; rfl
  rw [e, List.map_congr_left fun j hj => by
    have hr : (rs ++ [r])[rs.length]? = some r := by rw [List.getElem?_append_right (Nat.le_refl _), Nat.sub_self]; rfl
    rw [size_app hok' (partsN_lt (hok rs.length r hr) j hj)]]
section
variable {P : Program} {w : World} {K : PySem.W.Frag} {mg : Str → Option Value} {base : Heap} {W : Wd}
theorem sc__law_rows : FnScope ["_law_well_here", "_law_found", "_law_sizes", "_law_turn", "_law_row_here", "_law_size", "_law_j", "_law_part"] ["_law_well_here"] (defScope s__law_rows) := ⟨rfl, rfl, rfl, by decide +kernel, rfl, by decide +kernel, by decide +kernel⟩
def sp_rows (K : PySem.W.Frag) : Sp := fun vs H Q _ => ∃ (s : Addr) (U : Hp), vs = [.ref s] ∧ Src U H s ∧
  ∀ (q : Addr) (ws : List V) (rs : List Row) (U' H' : Hp), Gr (G1 s) U H U' H' → Src U' H' s → H q = none → U' q = some (.lst ws) → DpAll K U' ws (rs.map Row.data) → OkRows rs → 0 < rs.length → rs.length ≤ 20 → (∀ i < rs.length, size rs i ≤ 150) → Q (.ref q) H'
theorem d__law_rows (T : Txt w K mg W) : DefOk P w K mg base "_law_rows" s__law_rows ["_law_well_here"] 4 (sp_rows K) := by
  refine T.f__law_rows.ok sc__law_rows (fun vs H Q E h => ?_) (fun f cdv A outer s H vs Q E hr h => ?_)
  · obtain ⟨s, U, rfl, _⟩ := h
    rfl
  · obtain ⟨s, U, rfl, S, k⟩ := h
    refine ⟨_, (pss_cons (ps_asg (pe_tup (pa_cons (pe_lst pa_nil) (pa_cons (pe_lst pa_nil) pa_nil))) (pg_tup rfl (pgs_cons (pg_name (i := 1) sc__law_rows.nd rfl (Or.inr rfl)) (pgs_cons (pg_name (i := 2) sc__law_rows.nd rfl (Or.inr rfl)) pgs_nil))))
      (pss_cons (ps_for PassesOwn.never rfl (pi_range1 (by rfl) T.n_range (pa_cons (pe_op op_add pe_int (pe_callD (d__law_draw T) (hr.mono (by decide)) (pa_cons (pv 0) (pa_cons pe_int pa_nil)))) pa_nil)) (pg_name (i := 3) sc__law_rows.nd rfl (Or.inl rfl))
      (pss_cons (ps_set (i := 4) sc__law_rows.nd rfl (Or.inl rfl) (pe_callD (d__law_row T) (hr.mono (by decide)) (pa_cons (pv 0) (pa_cons (pe_callB (id := "len") call_len (by rfl) T.n_len (by decide +kernel) (pa_cons (pv 1) pa_nil)) pa_nil))))
      (Evl.pss_cut (ps_if (pt_cmpR op_eq (pv 3) pe_int (nomark _)) (pss_one (ps_set (i := 4) sc__law_rows.nd rfl (Or.inl rfl) (pe_tup (pa_cons pe_str (pa_cons (pe_lc (own := [("_law_j", 6)]) (g := (gName 6)) (tt := tYes) rfl sc__law_rows.nd (pi_range1 (by rfl) T.n_range (pa_cons (pe_callB (id := "min") (call_min2 rfl) (by rfl) T.n_min (by decide +kernel) (pa_cons pe_int (pa_cons (pe_callB (id := "len") call_len (by rfl) T.n_len (by decide +kernel) (pa_cons (pv 1) pa_nil)) pa_nil))) pa_nil)) (blkOk_by (own := [("_law_j", 6)]) (N := ["_law_well_here", "_law_found", "_law_sizes", "_law_turn", "_law_row_here", "_law_size", "_law_j", "_law_part"]) (sc := defScope s__law_rows) (by decide +kernel)) (fun _ _ _ _ _ => (pg_name (i := 6) sc__law_rows.nd rfl (Or.inl rfl))) (fun _ _ _ _ _ => pts_nil) (fun _ _ _ _ _ => (pe_op op_sub (pe_op op_sub (pe_callB (id := "len") (call_lenK (K := K)) (by rfl) T.n_len (by decide +kernel) (pa_cons (pv 1) pa_nil)) pe_int) (pv 6)))) pa_nil))))) pss_nil)
      (pss_cons (ps_set (i := 5) sc__law_rows.nd rfl (Or.inl rfl) (pe_op op_add pe_int (pe_callB (id := "sum") (cr_sum rfl) (by rfl) T.n_sum (by decide +kernel) (pa_cons (pe_lc (own := [("_law_part", 7)]) (g := (gName 7)) (tt := tYes) rfl sc__law_rows.nd (pi_list (pe_callD (d__law_below T) (hr.mono (by decide)) (pa_cons (pv 4) pa_nil))) (blkOk_by (own := [("_law_part", 7)]) (N := ["_law_well_here", "_law_found", "_law_sizes", "_law_turn", "_law_row_here", "_law_size", "_law_j", "_law_part"]) (sc := defScope s__law_rows) (by decide +kernel)) (fun _ _ _ _ _ => (pg_name (i := 7) sc__law_rows.nd rfl (Or.inl rfl))) (fun _ _ _ _ _ => pts_nil) (fun _ _ _ _ _ => (pe_ix (ix_listK (K := K)) (pv 2) (pv 7) (fun _ _ => rfl)))) pa_nil))))
      (pss_one (ps_if (pt_cmpR op_le (pv 5) pe_int (nomark _)) (pss_cons (ps_expr (pe_bm PySem.F.plainAttrs_list PySem.F.slot_list_append PySem.F.type_list_append mt_append (pv 1) (pa_cons (pv 4) pa_nil)))
      (pss_one (ps_expr (pe_bm PySem.F.plainAttrs_list PySem.F.slot_list_append PySem.F.type_list_append mt_append (pv 2) (pa_cons (pv 5) pa_nil))))) pss_nil))))))
      (pss_one (ps_ret (pv 1))))), ?_⟩
    refine ⟨Nat.le_of_ble_eq_true rfl, fun F hF => ⟨Nat.le_of_ble_eq_true rfl, fun Z hZ => ⟨Nat.le_of_ble_eq_true rfl, fun t ht => ?_⟩⟩⟩
    have hZ0 : H Z = none := (Gr.refl (S := S0) (Same.refl H)).newH hF |>.free hZ
    have nFZ : F ≠ Z := ne_of_none upd_same hZ
    have g0 := ((S.newH (o := .lst []) hF).1.trans ((S.newH (o := .lst []) hF).2.newH (o := .lst []) hZ).1).trans (((S.newH (o := .lst []) hF).2.newH (o := .lst []) hZ).2.newH (o := .tup [.ref F, .ref Z]) ht).1
    have S0' := (((S.newH (o := .lst []) hF).2.newH (o := .lst []) hZ).2.newH (o := .tup [.ref F, .ref Z]) ht).2
    have f0 : (upd (upd (upd H F (.lst [])) Z (.lst [])) t (.tup [.ref F, .ref Z])) F = some (.lst []) := same_new ht _ _ (same_new hZ _ _ upd_same)
    have z0 : (upd (upd (upd H F (.lst [])) Z (.lst [])) t (.tup [.ref F, .ref Z])) Z = some (.lst []) := same_new ht _ _ upd_same
    refine ⟨t, _, rfl, sqtO upd_same, rfl, _, _, rfl, _, _, rfl, rfl, ?_⟩
    generalize upd (upd (upd H F (.lst [])) Z (.lst [])) t (.tup [.ref F, .ref Z]) = H1 at g0 S0' f0 z0 ⊢
    have nFs : F ≠ s := fun z => by obtain ⟨_, _, _, q⟩ := S.h; rw [z, q] at hF; cases hF
    have nZs : Z ≠ s := fun z => by obtain ⟨_, _, _, q⟩ := S.h; rw [z, q] at hZ0; cases hZ0
    refine ⟨_, rfl, s, U, 12, rfl, S0', by decide, by decide, fun r H2 g1 S1 r0 r1 => ⟨_, _, rfl, rfl, _, rfl, by omega, by omega, ?_⟩⟩
    refine for_range (lo := 0) (n := (5 + r).toNat) (fun i σ H' => ∃ (U' : Hp) (ws : List V) (rs : List Row) (v3 v4 v5 v6 v7 : Option V), σ = [some (.ref s), some (.ref F), some (.ref Z), v3, v4, v5, v6, v7] ∧ Gr (G1 s) U H U' H' ∧ Src U' H' s ∧ U' F = none ∧ U' Z = none ∧ H' F = some (.lst ws) ∧ H' Z = some (.lst (szV rs rs.length)) ∧
      DpAll K U' ws (rs.map Row.data) ∧ OkRows rs ∧ rs.length ≤ i ∧ (0 < i → 0 < rs.length) ∧ ∀ j < rs.length, size rs j ≤ 150)
      ⟨U, [], [], none, none, none, none, none, rfl, g0.trans g1, S1, vfree S.v hF, vfree S.v hZ0, g1.k F _ nFs f0, g1.k Z _ nZs z0, .nil, fun i r e => by simp at e, Nat.le_refl _, fun z => absurd z (Nat.lt_irrefl 0), fun j hj => absurd hj (Nat.not_lt_zero _)⟩ ?_ ?_
    · rintro i σ H3 hi ⟨U', ws, rs, v3, v4, v5, v6, v7, rfl, g, S3, uF, uZ, hf, hz, hd, hok, hle, hpos, hsz⟩
      have hi20 : i < 20 := by omega
      have hlen := dps_length hd
      rw [List.length_map] at hlen
      refine ⟨_, rfl, _, rfl, _, _, rfl, .inl ⟨ws, sqlO hf, rfl⟩, s, U', ws.length, rfl, S3, by omega, fun v0 r0 U4 H4 g4 S4 rok0 dv0 => ?_⟩
      rw [hlen] at rok0
      refine ⟨fun σ' H' => ∃ (v : V) (r : Row) (U5 : Hp) (v6 : Option V), σ' = [some (.ref s), some (.ref F), some (.ref Z), some (.int (0 + (i : Int))), some v, v5, v6, v7] ∧ Gr (G1 s) U' H3 U5 H' ∧ Src U5 H' s ∧ r.ok rs.length ∧ Dp K U5 v r.data, ?_, ?_⟩
      · refine ⟨_, rfl, rfl, _, rfl, ?_⟩
        refine ite2 (fun hc => ?_) (fun hc => ⟨v0, r0, U4, v6, rfl, g4, S4, rok0, dv0⟩)
        have hf4 := g4.k F _ nFs hf
        refine ⟨_, rfl, _, _, rfl, .inl ⟨ws, sqlO hf4, rfl⟩, _, _, rfl, _, rfl, by split <;> omega, by split <;> omega, fun D hD => ?_⟩
        rw [hlen]
        have hDU := vfree S4.v hD
        have hDH := g4.free hD
        have nDF : F ≠ D := ne_of_none hf4 hD
        have nDs : D ≠ s := fun z => by obtain ⟨_, _, _, q⟩ := S4.h; rw [z, q] at hD; cases hD
        have hmn : (if (rs.length : Int) < 3 then (rs.length : Int) else 3).toNat ≤ rs.length ∧ (if (rs.length : Int) < 3 then (rs.length : Int) else 3).toNat ≤ 3 := by split <;> omega
        refine lc_range (lo := 0) (n := (if (rs.length : Int) < 3 then (rs.length : Int) else 3).toNat) (fun q H' => ∃ ns : List Nat, Gr (G1 s) U' H3 U4 H' ∧ Src U4 H' s ∧ H' F = some (.lst ws) ∧ H' D = some (.lst (pathV ns)) ∧ ns.length = q ∧ ∀ j ∈ ns, j < rs.length)
          ⟨[], g4.trans (S4.newH hD).1, (S4.newH hD).2, by rw [upd_ne nDF]; exact hf4, upd_same, rfl, fun j hj => nomatch hj⟩ ?_ ?_
        · rintro q H5 hq ⟨ns, g5, S5, hf5, hd5, hl5, hj5⟩
          refine ⟨rfl, ⟨_, rfl, _, _, rfl, .inl ⟨ws, sqlO hf5, rfl⟩, _, _, rfl, rfl, _, rfl, _, _, rfl, rfl, _, hd5, ?_, ns ++ [rs.length - 1 - q], g5.mut (.inr hDH) hDU, S5.mut nDs hDU, by rw [upd_ne nDF]; exact hf5, ?_, by rw [List.length_append, hl5]; rfl, fun j hj => ?_⟩⟩
          · rw [List.length_map, List.length_map, hl5]
            exact Nat.lt_of_le_of_lt (show q ≤ 3 by omega) (by decide)
          · rw [upd_same]
            show _ = some (HO.lst (((ns ++ [rs.length - 1 - q]).map _).map _))
            rw [List.map_append, List.map_append, hlen, show (fun i j => V.int (i - j)) ((rs.length : Int) - 1) (0 + (q : Int)) = V.int ((rs.length - 1 - q : Nat) : Int) by show V.int _ = V.int _; rw [show ((rs.length - 1 - q : Nat) : Int) = (rs.length : Int) - 1 - (0 + (q : Int)) by omega]]
            rfl
          · rcases List.mem_append.mp hj with hj | hj
            · exact hj5 j hj
            · rw [List.mem_singleton.mp hj]
              omega
        · rintro H5 ⟨ns, g5, S5, hf5, hd5, hl5, hj5⟩
          have gt := g5.tell hDH hd5 hDU
          have S6 : Src (upd U4 D (.lst (pathV ns))) H5 s := ⟨gt.s, by rw [upd_ne (Ne.symm nDs)]; exact S5.o, S5.h⟩
          refine ⟨Nat.le_of_ble_eq_true rfl, fun t2 ht2 => ?_⟩
          refine ⟨.ref t2, .cat (ns.map fun (j : Nat) => (j : Int)), _, v6, rfl, gt.trans (S6.new ht2).1, (S6.new ht2).2, ⟨by rw [List.length_map]; omega, fun j hj => ?_⟩, ?_⟩
          · obtain ⟨a, ha, rfl⟩ := List.mem_map.mp hj
            have := hj5 a ha
            omega
          · refine dp_tup upd_same (.cons (.str _) (.cons (dpS (same_new (vfree S6.v ht2)) (dp_lst upd_same ?_)) .nil))
            exact dps_ints _
      · rintro σ' H5 ⟨v, r, U5, v6, rfl, g5, S5, rok, dv⟩
        have hf5 := g5.k F _ nFs hf
        have hz5 := g5.k Z _ nZs hz
        have uF5 : U5 F = none := g5.out (some_ne hf) uF
        have uZ5 : U5 Z = none := g5.out (some_ne hz) uZ
        have hd5 := dpsS g5.v hd
        refine ⟨_, rfl, v, r, rs.length, U5, rfl, S5.v, dv, rok, fun L H6 g6 hL hl6 => ⟨L, rfl, ⟨_, sqlO hl6⟩, fun D hD => ?_⟩⟩
        have hf6 := g6.same _ _ hf5
        have hz6 := g6.same _ _ hz5
        have nFD : F ≠ D := ne_of_none hf6 hD
        have nZD : Z ≠ D := ne_of_none hz6 hD
        have nLD : L ≠ D := ne_of_none hl6 hD
        have hDH := g6.free hD
        have hDU := vfree g6.s hD
        have hok2 : OkRows (rs ++ [r]) := by
          intro q r' e
          by_cases hq : q < rs.length
          · rw [List.getElem?_append_left hq] at e
            exact hok q r' e
          · rw [List.getElem?_append_right (by omega)] at e
            have hq2 : q = rs.length := by
              have := (List.getElem?_eq_some_iff.mp e).1
              rw [List.length_singleton] at this
              omega
            subst hq2
            rw [Nat.sub_self] at e
            cases e
            exact rok
        refine lc_list (xs := pathV (partsN r)) (fun q H' => Gr S0 U5 H5 U5 H' ∧ H' F = some (.lst ws) ∧ H' Z = some (.lst (szV rs rs.length)) ∧ H' L = some (.lst (pathV (partsN r))) ∧ H' D = some (.lst ((((partsN r).take q).map fun z => (size rs z : Int)).map V.int)))
          ⟨g6.newH hD, by rw [upd_ne nFD]; exact hf6, by rw [upd_ne nZD]; exact hz6, by rw [upd_ne nLD]; exact hl6, upd_same⟩ (fun q H' _ z => sqlO z.2.2.2.1) ?_ ?_
        · rintro q y H7 hy ⟨g7, hf7, hz7, hl7, hd7⟩
          rw [List.getElem?_map, List.getElem?_map] at hy
          obtain ⟨zi, hz0, rfl⟩ := Option.map_eq_some_iff.mp hy
          obtain ⟨zn, hzn, rfl⟩ := Option.map_eq_some_iff.mp hz0
          have hzl := partsN_lt rok zn (List.mem_of_getElem? hzn)
          have h8 := partsN_len rok
          have hql := (List.getElem?_eq_some_iff.mp hzn).1
          refine ⟨rfl, ⟨_, rfl, _, rfl, _, _, _, _, rfl, rfl, sqlO hz7, szV_at hzl, _, hd7, ?_, g7.mut (.inr hDH) hDU, by rw [upd_ne nFD]; exact hf7, by rw [upd_ne nZD]; exact hz7, by rw [upd_ne nLD]; exact hl7, ?_⟩⟩
          · rw [List.length_map, List.length_map, List.length_take]
            exact Nat.lt_of_le_of_lt (show min q (partsN r).length ≤ 200 by omega) (by decide)
          · rw [upd_same, List.take_succ, hzn, List.map_append, List.map_append]
            rfl
        · rintro H7 ⟨g7, hf7, hz7, hl7, hd7⟩
          have hpl : (pathV (partsN r)).length = (partsN r).length := by rw [List.length_map, List.length_map]
          rw [hpl, List.take_length] at hd7
          refine ⟨D, _, rfl, sqlO hd7, _, _, rfl, rfl, ?_⟩
          have hsl := size_last hok2 hok
          have gg := g.trans (g5.trans g7.of0)
          have S7 := S5.grS g7
          refine ⟨_, rfl, _, _, rfl, rfl, _, rfl, ?_⟩
          refine ite2 (fun hc => ?_) (fun hc => ?_)
          · have hc := of_decide_eq_true hc
            have hsz2 : size (rs ++ [r]) rs.length ≤ 150 := by
              have : (size (rs ++ [r]) rs.length : Int) ≤ 150 := by rw [hsl]; exact hc
              omega
            refine ⟨_, rfl, .inl ⟨rfl, _, sqlO hf7⟩, _, rfl, F, _, _, rfl, rfl, hf7, by rw [hlen]; exact Nat.lt_of_le_of_lt (show rs.length ≤ 20 by omega) (by decide), ?_⟩
            have hz8 : (upd H7 F (.lst (ws ++ [v]))) Z = some (.lst (szV rs rs.length)) := by rw [upd_ne nFZ.symm]; exact hz7
            refine ⟨_, rfl, .inl ⟨rfl, _, sqlO hz8⟩, _, rfl, Z, _, _, rfl, rfl, hz8, by rw [szV_len]; exact Nat.lt_of_le_of_lt (show rs.length ≤ 20 by omega) (by decide), ?_⟩
            refine ⟨U5, ws ++ [v], rs ++ [r], _, _, _, _, _, rfl, (gg.mut (.inr hF) uF5).mut (.inr hZ0) uZ5, (S7.mut nFs uF5).mut nZs uZ5, uF5, uZ5, by rw [upd_ne nFZ]; exact upd_same, ?_, ?_, hok2, by rw [List.length_append, List.length_singleton]; omega, fun _ => by rw [List.length_append, List.length_singleton]; omega, fun j hj => ?_⟩
            · rw [upd_same, List.length_append, List.length_singleton, szV_succ, szV_app hok, hsl]
            · rw [List.map_append]
              exact dps_append hd5 (.cons dv .nil)
            · rw [List.length_append, List.length_singleton] at hj
              by_cases hjl : j < rs.length
              · rw [size_app hok hjl]
                exact hsz j hjl
              · rw [show j = rs.length by omega]
                exact hsz2
          · refine ⟨U5, ws, rs, _, _, _, _, _, rfl, gg, S7, uF5, uZ5, hf7, hz7, hd5, hok, by omega, fun _ => ?_, hsz⟩
            by_cases hr0 : 0 < rs.length
            · exact hr0
            · exfalso
              refine hc (decide_eq_true ?_)
              have hr1 : rs.length = 0 := by omega
              have hp0 : partsN r = [] := by
                cases hp : partsN r with
                | nil => rfl
                | cons j js =>
                  have := partsN_lt rok j (by rw [hp]; exact List.mem_cons_self)
                  omega
              rw [hp0]
              show (1 : Int) + 0 ≤ 150
              decide
    · rintro σ H3 ⟨U', ws, rs, v3, v4, v5, v6, v7, rfl, g, S3, uF, uZ, hf, hz, hd, hok, hle, hpos, hsz⟩
      have hl20 : rs.length ≤ 20 := by omega
      have g2 := g.tell hF hf uF
      refine ⟨_, rfl, ?_⟩
      exact k F ws rs _ H3 g2 ⟨g2.s, by rw [upd_ne (Ne.symm nFs)]; exact S3.o, S3.h⟩ hF upd_same (dpsS (same_new uF) hd) hok (hpos (by omega)) hl20 hsz
end
end Lw

set_option maxHeartbeats 0
namespace Lw
open PySem PySem.Spec PyProof.Rows L2 VW TL
local macro_rules | `(tactic| walk_at "rdc") => `(tactic| first | assumption | rfl | decide | omega | exact Or.inr ⟨by decide, by decide⟩ | exact ⟨by decide, by decide⟩ | exact ⟨by decide, by decide, by decide⟩ | (show (0 : Int) < _; omega) | (show (0 : Int) < _ ∧ _ < (1073741824 : Int); omega) | (show (-(2 ^ 64) < _ ∧ _ < 2 ^ 64) ∨ (-(2 ^ 64) < _ ∧ _ < 2 ^ 64); omega) | (show (-(2 ^ 64) < _ ∧ _ < 2 ^ 64) ∨ (-(2 ^ 64) < _ ∧ _ < 2 ^ 64); right; split <;> decide) | exact Nat.le_of_ble_eq_true rfl)
local macro_rules | `(tactic| walk_at "rd1") => `(tactic| first | refine ⟨_, rfl, ?_⟩ | refine And.intro (by walk_at "rdc") ?_ | refine ⟨_, _, rfl, rfl, ?_⟩ | refine Or.inl ⟨_, rfl, ?_⟩ | refine Or.inr ⟨_, rfl, ?_⟩ | refine ⟨_, _, _, _, rfl, rfl, sqlO (by first | assumption | exact upd_same), rfl, ?_⟩ | refine ⟨_, _, _, _, rfl, rfl, (by first | assumption | exact upd_same), rfl, ?_⟩)
local macro_rules | `(tactic| walk_at "rd") => `(tactic| repeat (walk_at "rd1"))

section
variable {P : Program} {w : World} {K : PySem.W.Frag} {mg : Str → Option Value} {base : Heap} {W : Wd}
def NdV (K : PySem.W.Frag) (U : Hp) (v : V) (x : Nd) : Prop := ∃ T pt, v = .ref T ∧ U T = some (.tup [.ref pt, .int (x.2 : Nat)]) ∧ SqT K U pt (pathV x.1)
theorem NdV.mono {U U' : Hp} {v : V} {x : Nd} (s : Same U U') (h : NdV K U v x) : NdV K U' v x := by
  obtain ⟨T, pt, rfl, h1, h2⟩ := h
  exact ⟨T, pt, rfl, s _ _ h1, sqtS s h2⟩
inductive NdAll (K : PySem.W.Frag) (U : Hp) : List V → List Nd → Prop where
  | nil : NdAll K U [] []
  | cons {v : V} {x : Nd} {vs : List V} {xs : List Nd} (h : NdV K U v x) (h2 : NdAll K U vs xs) : NdAll K U (v :: vs) (x :: xs)
theorem NdAll.mono {U U' : Hp} {vs : List V} {xs : List Nd} (s : Same U U') (h : NdAll K U vs xs) : NdAll K U' vs xs := by
  induction h with
  | nil => exact .nil
  | cons h _ ih => exact .cons (h.mono s) ih
theorem NdAll.app {U : Hp} {vs ws : List V} {xs ys : List Nd} (h : NdAll K U vs xs) (h2 : NdAll K U ws ys) : NdAll K U (vs ++ ws) (xs ++ ys) := by
  induction h with
  | nil => exact h2
  | cons h _ ih => exact .cons h ih
theorem NdAll.len {U : Hp} {vs : List V} {xs : List Nd} (h : NdAll K U vs xs) : vs.length = xs.length := by
  induction h with
  | nil => rfl
  | cons h _ ih => rw [List.length_cons, List.length_cons, ih]
theorem NdAll.get {U : Hp} {vs : List V} {xs : List Nd} (h : NdAll K U vs xs) {i : Nat} {v : V} (e : vs[i]? = some v) : ∃ x, xs[i]? = some x ∧ NdV K U v x := by
  induction h generalizing i with
  | nil => cases e
  | cons h _ ih =>
    cases i with
    | zero => cases e; exact ⟨_, rfl, h⟩
    | succ i => exact ih e
theorem segs_snoc {f : Nat → List Nat → List Nd} : ∀ {js : List Nat} {s : Nat} {p : List Nat} {j : Nat}, segs f (js ++ [j]) s p = segs f js s p ++ f j (p ++ [s + js.length])
  | [], s, p, j => by simp [segs]
  | i :: r, s, p, j => by
    show f i (p ++ [s]) ++ segs f (r ++ [j]) (s + 1) p = (f i (p ++ [s]) ++ segs f r (s + 1) p) ++ _
    rw [segs_snoc, List.append_assoc, List.length_cons, show s + 1 + r.length = s + (r.length + 1) by omega]
theorem sum_take_le (f : Nat → Nat) : ∀ (l : List Nat) (n : Nat), ((l.take n).map f).sum ≤ (l.map f).sum
  | [], n => by simp
  | a :: l, 0 => by simp
  | a :: l, n + 1 => by
    rw [List.take_succ_cons, List.map_cons, List.map_cons, List.sum_cons, List.sum_cons]
    have := sum_take_le f l n
    omega
theorem mem_le_sum (f : Nat → Nat) : ∀ {l : List Nat} {j : Nat}, j ∈ l → f j ≤ (l.map f).sum
  | a :: l, j, h => by
    rw [List.map_cons, List.sum_cons]
    rcases List.mem_cons.mp h with rfl | h
    · omega
    · have := mem_le_sum f h
      omega
theorem pathV_snoc {p : List Nat} {i : Nat} : pathV (p ++ [i]) = pathV p ++ [.int (i : Nat)] := by
  show ((p ++ [i]).map _).map _ = _
  rw [List.map_append, List.map_append]
  rfl
theorem catP {U H : Hp} {t T3 : Addr} {path : List Nat} {i : Nat} {Q : VK} (hU : Same U H) (ht : SqT K U t (pathV path)) (h3 : U T3 = some (.tup [.int (i : Nat)])) (hl : path.length ≤ 1000) (k : ∀ (PT : Addr) (U5 H5 : Hp), Gr S0 U H U5 H5 → SqT K U5 PT (pathV (path ++ [i])) → Q (.ref PT) H5) : rCatT0 K (.ref t) (.ref T3) H Q := by
  refine ⟨t, T3, pathV path, [.int (i : Nat)], rfl, rfl, sqtS hU ht, sqtO (hU _ _ h3), ?_, fun e => ?_, fun _ e => (nomatch e), fun _ _ p hp => ?_⟩
  · rw [List.length_map, List.length_map]
    exact Nat.le_trans (show path.length + 1 ≤ 1001 by omega) (by decide)
  · refine k T3 U H (Gr.refl hU) ?_
    rw [pathV_snoc, e]
    exact sqtO h3
  · refine k p _ _ ((Gr.refl hU).new hp) ?_
    rw [pathV_snoc]
    exact sqtO upd_same
theorem sc__law_nodes : FnScope ["_law_rows_here", "_law_at", "_law_path", "_law_found", "_law_step", "_law_part"] ["_law_rows_here", "_law_at", "_law_path"] (defScope s__law_nodes) := ⟨rfl, rfl, rfl, by decide +kernel, rfl, by decide +kernel, by decide +kernel⟩
def sp_nodes (K : PySem.W.Frag) (n : Nat) : Sp := fun vs H Q _ => ∃ (q t : Addr) (ws : List V) (rs : List Row) (at_ : Nat) (path : List Nat) (U : Hp), vs = [.ref q, .int at_, .ref t] ∧ Same U H ∧ U q = some (.lst ws) ∧ DpAll K U ws (rs.map Row.data) ∧ OkRows rs ∧ at_ < rs.length ∧ at_ < n ∧ SqT K U t (pathV path) ∧ path.length + at_ ≤ 200 ∧ size rs at_ ≤ 150 ∧
  ∀ (L : Addr) (us : List V) (U' H' : Hp), Gr S0 U H U' H' → U' L = some (.lst us) → NdAll K U' us (nodes rs at_ path) → Q (.ref L) H'
theorem d__law_nodes (T : Txt w K mg W) : ∀ n : Nat, DefOk P w K mg base "_law_nodes" s__law_nodes ["_law_rows_here", "_law_at", "_law_path"] (3 + n) (sp_nodes K n)
  | 0 => by
    refine T.f__law_nodes.ok sc__law_nodes (fun vs H Q E h => ?_) (fun f cdv A outer s H vs Q E hr h => ?_)
    · obtain ⟨q, t, ws, rs, at_, path, U, rfl, _⟩ := h
      rfl
    · obtain ⟨q, t, ws, rs, at_, path, U, rfl, hU, hq, hd, hok, hat, hn, _⟩ := h
      exact absurd hn (Nat.not_lt_zero _)
  | n + 1 => by
    have ih := d__law_nodes T n
    refine T.f__law_nodes.ok (k := 3 + n) sc__law_nodes (fun vs H Q E h => ?_) (fun f cdv A outer s H vs Q E hr h => ?_)
    · obtain ⟨q, t, ws, rs, at_, path, U, rfl, _⟩ := h
      rfl
    · obtain ⟨q, t, ws, rs, at_, path, U, rfl, hU, hq, hd, hok, hat, hn, htp, hpl, hsz, k⟩ := h
      refine ⟨_, (pss_cons (ps_set (i := 3) sc__law_nodes.nd rfl (Or.inl rfl) (pe_lst (pa_cons (pe_tup (pa_cons (pv 2) (pa_cons (pv 1) pa_nil))) pa_nil)))
      (pss_cons (ps_for PassesOwn.never rfl (pi_enum (by rfl) T.n_enumerate (pa_cons (pe_callD (d__law_below T) (hr.mono (by omega)) (pa_cons (pe_ix ix_list (pv 0) (pv 1) (fun _ _ => rfl)) pa_nil)) pa_nil)) (pg_tup rfl (pgs_cons (pg_name (i := 4) sc__law_nodes.nd rfl (Or.inl rfl)) (pgs_cons (pg_name (i := 5) sc__law_nodes.nd rfl (Or.inl rfl)) pgs_nil)))
      (pss_one (ps_set (i := 3) sc__law_nodes.nd rfl (Or.inl rfl) (pe_op op_cat (pv 3) (pe_callD ih (hr.mono (by omega)) (pa_cons (pv 0) (pa_cons (pv 5) (pa_cons (pe_op op_catT0 (pv 2) (pe_tup (pa_cons (pv 4) pa_nil))) pa_nil))))))))
      (pss_one (ps_ret (pv 3))))), ?_⟩
      have hlen := dps_length hd
      rw [List.length_map] at hlen
      refine ⟨_, rfl, _, rfl, Nat.le_of_ble_eq_true rfl, fun T1 hT1 => ⟨Nat.le_of_ble_eq_true rfl, fun L1 hL1 => ?_⟩⟩
      have g1 := ((Gr.refl (S := S0) hU).new (o := .tup [.ref t, .int (at_ : Nat)]) hT1).new (o := .lst [.ref T1]) hL1
      have nTL : T1 ≠ L1 := ne_of_none upd_same hL1
      have eT1 : (upd (upd U T1 (.tup [.ref t, .int (at_ : Nat)])) L1 (.lst [.ref T1])) T1 = some (.tup [.ref t, .int (at_ : Nat)]) := by rw [upd_ne nTL]; exact upd_same
      have eL1 : (upd (upd U T1 (.tup [.ref t, .int (at_ : Nat)])) L1 (.lst [.ref T1])) L1 = some (.lst [.ref T1]) := upd_same
      generalize upd (upd U T1 (.tup [.ref t, .int (at_ : Nat)])) L1 (.lst [.ref T1]) = U1 at g1 eT1 eL1
      generalize upd (upd H T1 (.tup [.ref t, .int (at_ : Nat)])) L1 (.lst [.ref T1]) = H1 at g1 ⊢
      have nd0 : NdAll K U1 [.ref T1] [(path, at_)] := .cons ⟨T1, t, rfl, eT1, sqtS g1.v htp⟩ .nil
      have hat2 : at_ < ws.length := by omega
      have hw := List.getElem?_eq_getElem hat2
      obtain ⟨dd, hdd, hrow⟩ := dps_get hd hw
      rw [List.getElem?_map, List.getElem?_eq_getElem hat] at hdd
      cases hdd
      refine ⟨_, rfl, _, rfl, _, _, _, _, rfl, rfl, sqlO (g1.s _ _ (g1.v _ _ hq)), atI_nat hw, _, rs[at_], at_, U1, rfl, g1.s, dpS g1.v hrow, hok _ _ (List.getElem?_eq_getElem hat), fun BL H2 g2 hBL hb2 => ?_⟩
      have hkids : kids rs at_ = partsN rs[at_] := by
        show partsN (rs.getD at_ .hard) = _
        rw [List.getD_eq_getElem?_getD, List.getElem?_eq_getElem hat]
        rfl
      rw [← hkids] at hb2
      refine ⟨BL, _, rfl, sqlO hb2, ?_⟩
      refine for_it walk_enum (fun i σ H' => ∃ (U' : Hp) (us : List V) (L : Addr) (v4 v5 : Option V), σ = [some (.ref q), some (.int (at_ : Nat)), some (.ref t), some (.ref L), v4, v5] ∧ Gr S0 U1 H2 U' H' ∧ U' L = some (.lst us) ∧ NdAll K U' us ((path, at_) :: segs (nodes rs) ((kids rs at_).take i) 0 path))
        ⟨U1, _, L1, none, none, rfl, Gr.refl g2.s, eL1, nd0⟩ (fun i σ H' _ ⟨_, _, _, _, _, _, g, _⟩ => sqlO (g.same _ _ hb2)) ?_ ?_
      · rintro i x σ H3 H4 hi ⟨U', us, L, v4, v5, rfl, g3, hL3, hn3⟩ ⟨t2, y1, y2, rfl, ht2, rfl, e1, e2⟩
        cases e1
        have e2 : (pathV (kids rs at_))[i]? = some y2 := e2
        rw [List.getElem?_map, List.getElem?_map] at e2
        obtain ⟨ji, hj0, rfl⟩ := Option.map_eq_some_iff.mp e2
        obtain ⟨j, hj, rfl⟩ := Option.map_eq_some_iff.mp hj0
        have hil := (List.getElem?_eq_some_iff.mp hj).1
        have hjm := kid_lt hok hj
        have hk8 : (kids rs at_).length ≤ 8 := by rw [hkids]; exact partsN_len (hok _ _ (List.getElem?_eq_getElem hat))
        have hse : size rs at_ = 1 + ((kids rs at_).map (size rs)).sum := size_eq hok at_
        have hsj : size rs j ≤ 150 := by
          have := mem_le_sum (size rs) (List.mem_of_getElem? hj)
          omega
        have g4 := g3.newH (o := .tup [.int (i : Nat), .int (j : Nat)]) ht2
        refine ⟨t2, _, rfl, sqtO upd_same, rfl, _, _, rfl, _, _, rfl, rfl, ?_⟩
        generalize upd H3 t2 (.tup [.int (i : Nat), .int (j : Nat)]) = H5 at g4 ⊢
        refine ⟨_, rfl, _, rfl, _, rfl, _, rfl, _, rfl, Nat.le_of_ble_eq_true rfl, fun T3 hT3 => ?_⟩
        have g5 := g4.new (o := .tup [.int (i : Nat)]) hT3
        have htp5 := sqtS g5.v (sqtS g1.v htp)
        refine catP (i := i) g5.s htp5 upd_same (by omega) fun PT U6 H6 g6 hPT => ?_
        have gg := g5.trans g6
        have s6 : Same U U6 := g1.v.trans gg.v
        refine ⟨q, PT, ws, rs, j, path ++ [i], U6, rfl, g6.s, s6 _ _ hq, dpsS s6 hd, hok, by omega, by omega, hPT, by rw [List.length_append, List.length_singleton]; omega, hsj, fun L2 us2 U7 H7 g7 hL7 hn7 => ?_⟩
        have gh := gg.trans g7
        have s67 : Same U' U7 := (same_new (vfree g4.s hT3)).trans (g6.v.trans g7.v)
        have gL : U7 L = some (.lst us) := s67 _ _ hL3
        have hl1 : us.length ≤ 150 := by
          rw [hn3.len, List.length_cons, segs_len fun j _ q => nodes_len hok (j + 1) j q (Nat.lt_succ_self j)]
          have := sum_take_le (size rs) (kids rs at_) i
          omega
        have hl2 : us2.length ≤ 150 := by
          rw [hn7.len, nodes_len hok (j + 1) j _ (Nat.lt_succ_self j)]
          exact hsj
        refine ⟨L, L2, us, us2, rfl, rfl, g7.s _ _ gL, g7.s _ _ hL7, Nat.le_trans (show us.length + us2.length ≤ 300 by omega) (by decide), fun L3 hL3' => ?_⟩
        refine ⟨_, us ++ us2, L3, _, _, rfl, gh.new hL3', upd_same, ?_⟩
        have e : ((path, at_) :: segs (nodes rs) ((kids rs at_).take (i + 1)) 0 path) = ((path, at_) :: segs (nodes rs) ((kids rs at_).take i) 0 path) ++ nodes rs j (path ++ [i]) := by
          rw [List.take_succ, hj, Option.toList_some, segs_snoc, List.length_take, Nat.min_eq_left (Nat.le_of_lt hil), Nat.zero_add]
          rfl
        rw [e]
        have s8 := same_new (o := .lst (us ++ us2)) (vfree g7.s hL3')
        exact (hn3.mono (s67.trans s8)).app (hn7.mono s8)
      · rintro σ H3 ⟨U', us, L, v4, v5, rfl, g3, hL3, hn3⟩
        have hpl : (pathV (kids rs at_)).length = (kids rs at_).length := by rw [List.length_map, List.length_map]
        rw [hpl, List.take_length] at hn3
        refine ⟨_, rfl, ?_⟩
        refine k L us U' H3 ?_ hL3 ?_
        · exact g1.trans (g2.trans g3)
        · rw [nodes_eq hok]
          exact hn3
end
end Lw

set_option maxHeartbeats 0
namespace Lw
open PySem PySem.Spec PyProof.Rows L2 VW TL
local macro_rules | `(tactic| walk_at "rdc") => `(tactic| first | assumption | rfl | decide | omega | exact Or.inr ⟨by decide, by decide⟩ | exact ⟨by decide, by decide⟩ | exact ⟨by decide, by decide, by decide⟩ | (show (0 : Int) < _; omega) | (show (0 : Int) < _ ∧ _ < (1073741824 : Int); omega) | (show (-(2 ^ 64) < _ ∧ _ < 2 ^ 64) ∨ (-(2 ^ 64) < _ ∧ _ < 2 ^ 64); omega) | (show (-(2 ^ 64) < _ ∧ _ < 2 ^ 64) ∨ (-(2 ^ 64) < _ ∧ _ < 2 ^ 64); right; split <;> decide) | exact Nat.le_of_ble_eq_true rfl)
local macro_rules | `(tactic| walk_at "rd1") => `(tactic| first | refine ⟨_, rfl, ?_⟩ | refine And.intro (by walk_at "rdc") ?_ | refine ⟨_, _, rfl, rfl, ?_⟩ | refine Or.inl ⟨_, rfl, ?_⟩ | refine Or.inr ⟨_, rfl, ?_⟩ | refine ⟨_, _, _, _, rfl, rfl, sqlO (by first | assumption | exact upd_same), rfl, ?_⟩ | refine ⟨_, _, _, _, rfl, rfl, (by first | assumption | exact upd_same), rfl, ?_⟩)
local macro_rules | `(tactic| walk_at "rd") => `(tactic| repeat (walk_at "rd1"))

section
variable {P : Program} {w : World} {K : PySem.W.Frag} {mg : Str → Option Value} {base : Heap} {W : Wd}
theorem sc__law_is_refused : FnScope ["_law_doc", "_law_kind", "_law_k", "e"] ["_law_doc", "_law_kind", "_law_k"] (defScope s__law_is_refused) := ⟨rfl, rfl, rfl, by decide +kernel, rfl, by decide +kernel, by decide +kernel⟩
def sp_refused (K : PySem.W.Frag) (W : Wd) : Sp := fun vs H Q _ => ∃ (x : Addr) (rs : List Row) (S : Addr → Prop) (U : Hp) (z : Str) (k : Nat), vs = [.ref x, .str z, .int k] ∧ Same U H ∧ DocSt K W S U H x rs ∧ OkRows rs ∧ 0 < rs.length ∧ rs.length ≤ 200 ∧ z ∈ kindsL ∧ cnt ((Ch.kind z).has rs) rs (rs.length - 1) ≤ k ∧
  ∀ (S' : Addr → Prop) (U' H' : Hp), Grw S U H S' U' H' → DocSt K W S' U' H' x rs → Q (.bl true) H'
theorem d__law_is_refused (T : Txt w K mg W) : DefOk P w K mg base "_law_is_refused" s__law_is_refused ["_law_doc", "_law_kind", "_law_k"] 8 (sp_refused K W) := by
  refine T.f__law_is_refused.ok sc__law_is_refused (fun vs H Q E h => ?_) (fun f cdv A outer s H vs Q E hr h => ?_)
  · obtain ⟨x, rs, S, U, z, k, rfl, _⟩ := h
    rfl
  · obtain ⟨x, rs, S, U, z, k, rfl, hU, D, hok, h0, h200, hz, hk, kk⟩ := h
    refine ⟨_, pss_cons (ps_try_as (i := 3) (c := .ref W.c_InvalidBound) (tb := fun Wx D σ H => ∃ (Ech : XK) (a b c : V), (∀ cls d (σ' : L2.St) H', Ech cls d H' → σ'.length = 4 → Wx cls d σ' H') ∧ σ[0]? = some (some a) ∧ σ[1]? = some (some b) ∧ σ[2]? = some (some c) ∧ sp_pathat K W [a, b, c] H (fun _ H' => D.nx σ H') Ech)
      rfl rfl sc__law_is_refused.nd rfl rfl ⟨rfl, by decide, .inl T.c_InvalidBound⟩ L2.takes0 (fun Wx pn xe tk _ => ?_) (fun a oe cls d pn hz hf => (pss_one (ps_ret (pe_cmpR op_eq (pe_xf (xfc T.x_InvalidBound) T.na_InvalidBound_argument hz hf (pv 3)) pe_str (nomark _)))))) (pss_one (ps_ret pe_bl)), ?_⟩
    · refine ⟨fun pins s' σ H' D I h' => ?_⟩
      obtain ⟨Ech, a, b, c, hW, h1, h2, h3, h4⟩ := h'
      exact (pss_one (ps_expr (pe_callX (E := Ech) (d_path_of_kind T) (hr.mono (by decide)) tk.len (fun cls d σ H h hl => hW cls d σ H h hl) (pa_cons (pv 0) (pa_cons (pv 1) (pa_cons (pv 2) pa_nil)))))).run pins s' σ H' D I ⟨a, h1, b, h2, c, h3, h4⟩
    · refine ⟨fun cls d H' => ∃ (dd : Addr) (S' : Addr → Prop) (U' : Hp), cls = .ref W.c_InvalidBound ∧ d = some dd ∧ Grw S U H S' U' H' ∧ DocSt K W S' U' H' x rs ∧ H' dd = some (.xd [("argument", .str "k")]), _, _, _, fun cls d σ' H' hs hl => ?_, rfl, rfl, rfl, ?_⟩
      · obtain ⟨x0, x1, x2, x3, rfl⟩ : ∃ x0 x1 x2 x3, σ' = [x0, x1, x2, x3] := by
          match σ', hl with
          | [x0, x1, x2, x3], _ => exact ⟨x0, x1, x2, x3, rfl⟩
        obtain ⟨dd, S', U', rfl, rfl, g, D', hx⟩ := hs
        refine ⟨true, T.exS, fun _ a ha => ?_, fun z => nomatch z⟩
        refine ⟨_, rfl, rfl, rfl, dd, _, _, rfl, hx, rfl, ?_⟩
        have k9 := kk S' U' H' g D'
        rw [← (decide_eq_true rfl : decide (V.str "k" = V.str "k") = true)] at k9
        exact ⟨rfl, k9⟩
      · exact ⟨x, rs, S, U, z, k, rfl, hU, D, hok, h0, h200, hz, .inr ⟨hk, fun d S' U' H' g D' hd => ⟨d, S', U', rfl, rfl, g, D', hd⟩⟩⟩
end
end Lw

set_option maxHeartbeats 0
namespace Lw
open PySem PySem.Spec PyProof.Rows L2 VW TL
local macro_rules | `(tactic| walk_at "rdc") => `(tactic| first | assumption | rfl | decide | omega | exact Or.inr ⟨by decide, by decide⟩ | exact ⟨by decide, by decide⟩ | exact ⟨by decide, by decide, by decide⟩ | (show (0 : Int) < _; omega) | (show (0 : Int) < _ ∧ _ < (1073741824 : Int); omega) | (show (-(2 ^ 64) < _ ∧ _ < 2 ^ 64) ∨ (-(2 ^ 64) < _ ∧ _ < 2 ^ 64); omega) | (show (-(2 ^ 64) < _ ∧ _ < 2 ^ 64) ∨ (-(2 ^ 64) < _ ∧ _ < 2 ^ 64); right; split <;> decide) | exact Nat.le_of_ble_eq_true rfl)
local macro_rules | `(tactic| walk_at "rd1") => `(tactic| first | refine ⟨_, rfl, ?_⟩ | refine And.intro (by walk_at "rdc") ?_ | refine ⟨_, _, rfl, rfl, ?_⟩ | refine Or.inl ⟨_, rfl, ?_⟩ | refine Or.inr ⟨_, rfl, ?_⟩ | refine ⟨_, _, _, _, rfl, rfl, sqlO (by first | assumption | exact upd_same), rfl, ?_⟩ | refine ⟨_, _, _, _, rfl, rfl, (by first | assumption | exact upd_same), rfl, ?_⟩)
local macro_rules | `(tactic| walk_at "rd") => `(tactic| repeat (walk_at "rd1"))

section
variable {P : Program} {w : World} {K : PySem.W.Frag} {mg : Str → Option Value} {base : Heap} {W : Wd}
theorem DocSt.upd {S : Addr → Prop} {U H : Hp} {x D : Addr} {o : HO} {rs : List Row} (nS : ¬ S D) (h : DocSt K W S U H x rs) : DocSt K W S U (upd H D o) x rs := by
  obtain ⟨dx, l, h3⟩ := h.h
  have nx : x ≠ D := fun z => nS (by rw [← z]; exact h.s)
  refine ⟨h.s, h.o, fun b hb => by rw [upd_ne fun z => nS (by rw [← z]; exact hb)]; exact h.a b hb, dx, l, ?_⟩
  rcases h3 with ⟨hx, ws, e1, e2⟩ | ⟨fa, as, la, co, sc, hx, f⟩
  · exact .inl ⟨by rw [upd_ne nx]; exact hx, ws, e1, e2⟩
  · have nc : co ≠ D := fun z => nS (by rw [← z]; exact sc)
    obtain ⟨es, q1, q2⟩ := f.c.h
    exact .inr ⟨fa, as, la, co, sc, by rw [upd_ne nx]; exact hx, f.k, f.c.o, es, by rw [upd_ne nc]; exact q1, q2⟩
theorem Grw.mut {S S' : Addr → Prop} {U H U' H' : Hp} {p : Addr} {o : HO} (g : Grw S U H S' U' H') (hp : H p = none) (hv : U' p = none) : Grw S U H S' U' (upd H' p o) := ⟨g.g.mut (.inr hp) hv, g.m, g.n⟩
theorem Grw.keep {S S' : Addr → Prop} {U H U' H' : Hp} {p : Addr} {o : HO} (g : Grw S U H S' U' H') (nS : ¬ S p) (h : H p = some o) (u : U p = none) : ¬ S' p ∧ H' p = some o ∧ U' p = none := by
  have n : ¬ S' p := fun z => (g.n p z).elim nS fun e => by rw [h] at e; cases e
  exact ⟨n, g.g.k _ _ n h, g.g.out (some_ne h) u⟩
theorem filt_yes {α : Type} {g : α → Bool} {x : α} (h : g x = true) : [x].filter g = [x] := by rw [List.filter_cons, h]; rfl
theorem filt_no {α : Type} {g : α → Bool} {x : α} (h : g x = false) : [x].filter g = [] := by rw [List.filter_cons, h]; rfl
theorem onP_le {rs : List Row} (hok : OkRows rs) : ∀ {p : List Nat} {at_ : Nat} {ats : List Nat}, onP rs at_ p = some ats → p.length ≤ at_
  | [], at_, ats, h => Nat.zero_le _
  | s :: p, at_, ats, h => by
    unfold onP at h
    split at h
    · rename_i q hq
      obtain ⟨r, hr, rfl⟩ := Option.map_eq_some_iff.mp h
      have := onP_le hok hr
      have := kid_lt hok hq
      rw [List.length_cons]
      omega
    · cases h
theorem ints_lay0 (ns : List Int) : PyData.canLayAll0 (ns.map PyData.int) = true ∧ PyData.depthAll (ns.map PyData.int) = 0 := by
  induction ns with
  | nil => exact ⟨rfl, rfl⟩
  | cons n ns ih =>
    refine ⟨?_, ?_⟩
    · show (true && PyData.canLayAll0 (ns.map PyData.int)) = true
      rw [ih.1]
      rfl
    · show max 0 (PyData.depthAll (ns.map PyData.int)) = 0
      rw [ih.2]
      rfl
abbrev datP (path : List Nat) : PyData := .tuple ((path.map (fun n : Nat => (n : Int))).map PyData.int)
theorem shaped_path (path : List Nat) : SeqAt.shaped (datP path) = true := by
  obtain ⟨a, b⟩ := ints_lay0 (path.map (fun n : Nat => (n : Int)))
  unfold SeqAt.shaped
  rw [Bool.and_eq_true]
  refine ⟨a, decide_eq_true ?_⟩
  show PyData.depthAll _ + 1 ≤ 64
  omega
theorem eqv_path (path : List Nat) : PyData.eqv (datP path) (datP path) = true := SeqAt.eqv_refl _ (ints_lay0 _).1
theorem paths_lay0 : ∀ ps : List (List Nat), PyData.canLayAll0 (ps.map datP) = true ∧ PyData.depthAll (ps.map datP) ≤ 1
  | [] => ⟨rfl, Nat.zero_le _⟩
  | p :: ps => by
    obtain ⟨a, b⟩ := ints_lay0 (p.map (fun n : Nat => (n : Int)))
    obtain ⟨c, d⟩ := paths_lay0 ps
    refine ⟨?_, ?_⟩
    · show (PyData.canLayAll0 ((p.map (fun n : Nat => (n : Int))).map PyData.int) && PyData.canLayAll0 (ps.map datP)) = true
      rw [a, c]
      rfl
    · show max (PyData.depthAll ((p.map (fun n : Nat => (n : Int))).map PyData.int) + 1) (PyData.depthAll (ps.map datP)) ≤ 1
      rw [b]
      omega
theorem shaped_paths (ps : List (List Nat)) : SeqAt.shaped (.list (ps.map datP)) = true := by
  obtain ⟨a, b⟩ := paths_lay0 ps
  unfold SeqAt.shaped
  rw [Bool.and_eq_true]
  refine ⟨a, decide_eq_true ?_⟩
  show PyData.depthAll _ + 1 ≤ 64
  omega
theorem shaped_ints (ns : List Int) : SeqAt.shaped (.list (ns.map PyData.int)) = true := by
  obtain ⟨a, b⟩ := ints_lay0 ns
  unfold SeqAt.shaped
  rw [Bool.and_eq_true]
  refine ⟨a, decide_eq_true ?_⟩
  show PyData.depthAll _ + 1 ≤ 64
  omega
theorem eqv_paths (ps : List (List Nat)) : PyData.eqv (.list (ps.map datP)) (.list (ps.map datP)) = true := SeqAt.eqv_refl _ (show PyData.canLay0 (.list (ps.map datP)) = true from (paths_lay0 ps).1)
theorem eqv_ints (ns : List Int) : PyData.eqv (.list (ns.map PyData.int)) (.list (ns.map PyData.int)) = true := SeqAt.eqv_refl _ (show PyData.canLay0 (.list (ns.map PyData.int)) = true from (ints_lay0 ns).1)
theorem DocSt.grN {S S1 : Addr → Prop} {U H U' H' : Hp} {x : Addr} {rs : List Row} (g : Gr S1 U H U' H') (n : ∀ b, S b → ¬ S1 b) (h : DocSt K W S U H x rs) : DocSt K W S U' H' x rs := by
  obtain ⟨dx, l, h3⟩ := h.h
  have nx := n x h.s
  refine ⟨h.s, ?_, fun b hb => g.there (h.a b hb), dx, l, ?_⟩
  · rcases h3 with ⟨hx, _⟩ | ⟨_, _, _, _, _, hx, _⟩ <;> exact g.out (some_ne hx) h.o
  · rcases h3 with ⟨hx, ws, e1, e2⟩ | ⟨fa, as, la, co, sc, hx, f⟩
    · exact .inl ⟨g.k _ _ nx hx, ws, g.v _ _ e1, dpsS g.v e2⟩
    · exact .inr ⟨fa, as, la, co, sc, g.k _ _ nx hx, f.gr g (n co sc)⟩
theorem Grw.after {G S S' : Addr → Prop} {U0 H0 U H U' H' : Hp} (a : Gr G U0 H0 U H) (n : ∀ b, S b → H0 b = none) (g : Grw S U H S' U' H') : Gr G U0 H0 U' H' ∧ ∀ b, S' b → H0 b = none := by
  have q : ∀ b, S' b → H0 b = none := fun b h => (g.n b h).elim (n b) fun e => a.free e
  exact ⟨gr_trans a g.g fun b h => .inr (q b h), q⟩
theorem sc__law_right : FnScope ["_law_well_here", "_law_rows_here", "_law_kind", "_law_doc", "_law_every", "_law_due", "_law_turn", "_law_number", "_law_ahead", "_law_path", "_law_at", "_law_k"] ["_law_well_here", "_law_rows_here", "_law_kind"] (defScope s__law_right) := ⟨rfl, rfl, rfl, by decide +kernel, rfl, by decide +kernel, by decide +kernel⟩
def sp_right (K : PySem.W.Frag) : Sp := fun vs H Q _ => ∃ (p q : Addr) (ws : List V) (rs : List Row) (z : Str) (U : Hp), vs = [.ref p, .ref q, .str z] ∧ Src U H p ∧ U q = some (.lst ws) ∧ DpAll K U ws (rs.map Row.data) ∧ OkRows rs ∧ 0 < rs.length ∧ rs.length ≤ 20 ∧ (∀ j, j < rs.length → size rs j ≤ 150) ∧ z ∈ kindsL ∧
  ∀ (U' H' : Hp), Gr (G1 p) U H U' H' → Src U' H' p → Q (.bl true) H'
theorem d__law_right (T : Txt w K mg W) : DefOk P w K mg base "_law_right" s__law_right ["_law_well_here", "_law_rows_here", "_law_kind"] 26 (sp_right K) := by
  refine T.f__law_right.ok sc__law_right (fun vs H Q E h => ?_) (fun f cdv A outer s H vs Q E hr h => ?_)
  · obtain ⟨p, q, ws, rs, z, U, rfl, _⟩ := h
    rfl
  · obtain ⟨p, q, ws, rs, z, U, rfl, S2, hq, hd, hok, h0, h20, hsz, hz, k⟩ := h
    refine ⟨_, (pss_cons (ps_asg (pe_tup (pa_cons (pe_makeD (d_Doc___init__ T) T.mk_Doc T.c_Doc (hr.mono (by decide)) (pa_cons (pv 1) pa_nil)) (pa_cons (pe_callD (d__law_nodes T 20) (hr.mono (by decide)) (pa_cons (pv 1) (pa_cons (pe_op op_sub (pe_callB (id := "len") call_len (by rfl) T.n_len (by decide +kernel) (pa_cons (pv 1) pa_nil)) pe_int) (pa_cons (pe_tup pa_nil) pa_nil)))) pa_nil))) (pg_tup rfl (pgs_cons (pg_name (i := 3) sc__law_right.nd rfl (Or.inr rfl)) (pgs_cons (pg_name (i := 4) sc__law_right.nd rfl (Or.inl rfl)) pgs_nil))))
      (pss_cons (ps_setLc (i := 5) (own := [("_law_path", 9), ("_law_at", 10)]) (g := (gTup K 2 (gCons (gName 9) (gCons (gName 10) gNil)))) rfl sc__law_right.nd rfl rfl (sw_true rfl rfl rfl (by decide +kernel)) (pi_list (pv 4)) (blkOk_by (own := [("_law_path", 9), ("_law_at", 10)]) (N := ["_law_well_here", "_law_rows_here", "_law_kind", "_law_doc", "_law_every", "_law_due", "_law_turn", "_law_number", "_law_ahead", "_law_path", "_law_at", "_law_k"]) (sc := defScope s__law_right) (by decide +kernel)) (fun _ _ _ _ _ => (pg_tup rfl (pgs_cons (pg_name (i := 9) sc__law_right.nd rfl (Or.inl rfl)) (pgs_cons (pg_name (i := 10) sc__law_right.nd rfl (Or.inl rfl)) pgs_nil)))) (fun _ _ _ _ _ => (pts_one (pt_cmpR op_eq (pe_ix (ix_tupK (K := K)) (pe_ix (ix_listK (K := K)) (pv 1) (pv 10) (fun _ _ => rfl)) pe_int (fun _ _ => rfl)) (pv 2) (nomark _)))) (fun _ _ _ _ _ => (pv 9)))
      (pss_cons (ps_if (PW.pt (pw_or (pt_cmpR op_ne (pe_callD (d_kind_total T) (hr.mono (by decide)) (pa_cons (pv 3) (pa_cons (pv 2) pa_nil))) (pe_callB (id := "len") call_len (by rfl) T.n_len (by decide +kernel) (pa_cons (pv 5) pa_nil)) (nomark _)) (pw_or1 (pt_not (pt_val (pe_callD (d__law_is_refused T) (hr.mono (by decide)) (pa_cons (pv 3) (pa_cons (pv 2) (pa_cons (pe_callB (id := "len") call_len (by rfl) T.n_len (by decide +kernel) (pa_cons (pv 5) pa_nil)) pa_nil))))))))) (pss_one (ps_ret pe_bl)) pss_nil)
      (pss_cons (ps_if (pt_cmpR (op_neD hr.units) (pe_lc (own := [("_law_k", 11)]) (g := (gName 11)) (tt := tYes) rfl sc__law_right.nd (pi_range1 (by rfl) T.n_range (pa_cons (pe_callB (id := "len") call_len (by rfl) T.n_len (by decide +kernel) (pa_cons (pv 5) pa_nil)) pa_nil)) (blkOk_by (own := [("_law_k", 11)]) (N := ["_law_well_here", "_law_rows_here", "_law_kind", "_law_doc", "_law_every", "_law_due", "_law_turn", "_law_number", "_law_ahead", "_law_path", "_law_at", "_law_k"]) (sc := defScope s__law_right) (by decide +kernel)) (fun _ _ _ _ _ => (pg_name (i := 11) sc__law_right.nd rfl (Or.inl rfl))) (fun _ _ _ _ _ => pts_nil) (fun _ _ _ _ _ => (pe_callX0 (d_path_of_kind T) (hr.mono (by decide)) (pa_cons (pv 3) (pa_cons (pv 2) (pa_cons (pv 11) pa_nil)))))) (pv 5) (nomark _)) (pss_one (ps_ret pe_bl)) pss_nil)
      (pss_cons (ps_for PassesOwn.never rfl (pi_range1 (by rfl) T.n_range (pa_cons pe_int pa_nil)) (pg_name (i := 6) sc__law_right.nd rfl (Or.inl rfl))
      (pss_cons (ps_set (i := 7) sc__law_right.nd rfl (Or.inl rfl) (pe_callD (d__law_draw T) (hr.mono (by decide)) (pa_cons (pv 0) (pa_cons (pe_callB (id := "len") call_len (by rfl) T.n_len (by decide +kernel) (pa_cons (pv 4) pa_nil)) pa_nil))))
      (pss_cons (ps_set (i := 8) sc__law_right.nd rfl (Or.inl rfl) (pe_callB (id := "len") call_len (by rfl) T.n_len (by decide +kernel) (pa_cons (pe_lc (own := [("_law_path", 9), ("_law_at", 10)]) (g := (gTup K 2 (gCons (gName 9) (gCons (gName 10) gNil)))) rfl sc__law_right.nd (pi_list (pe_slice sl_list (pv 4) po_none (po_some (pv 7)))) (blkOk_by (own := [("_law_path", 9), ("_law_at", 10)]) (N := ["_law_well_here", "_law_rows_here", "_law_kind", "_law_doc", "_law_every", "_law_due", "_law_turn", "_law_number", "_law_ahead", "_law_path", "_law_at", "_law_k"]) (sc := defScope s__law_right) (by decide +kernel)) (fun _ _ _ _ _ => (pg_tup rfl (pgs_cons (pg_name (i := 9) sc__law_right.nd rfl (Or.inl rfl)) (pgs_cons (pg_name (i := 10) sc__law_right.nd rfl (Or.inl rfl)) pgs_nil)))) (fun _ _ _ _ _ => (pts_one (pt_cmpR op_eq (pe_ix (ix_tupK (K := K)) (pe_ix (ix_listK (K := K)) (pv 1) (pv 10) (fun _ _ => rfl)) pe_int (fun _ _ => rfl)) (pv 2) (nomark _)))) (fun _ _ _ _ _ => (pv 9))) pa_nil)))
      (pss_one (ps_if (pt_cmpR op_ne (pe_callD (d_kinds_before T) (hr.mono (by decide)) (pa_cons (pv 3) (pa_cons (pv 2) (pa_cons (pe_ix ix_tup (pe_ix ix_list (pv 4) (pv 7) (fun _ _ => rfl)) pe_int (fun _ _ => rfl)) pa_nil)))) (pv 8) (nomark _)) (pss_one (ps_ret pe_bl)) pss_nil)))))
      (pss_one (ps_ret (pe_or (pe_cmpR op_ne (pv 2) pe_str (nomark _)) (pe_one (pe_cmpR op_eq (pe_callD (d_group_total T) (hr.mono (by decide)) (pa_cons (pv 3) pa_nil)) (pe_callB (id := "len") call_len (by rfl) T.n_len (by decide +kernel) (pa_cons (pv 5) pa_nil)) (nomark _))))))))))), ?_⟩
    have hlen := dps_length hd
    rw [List.length_map] at hlen
    have hat : rs.length - 1 < rs.length := by omega
    have hsz1 := hsz _ hat
    refine ⟨_, rfl, fun x dx hx hdx hne => ?_⟩
    have smx : Same H (upd (upd H dx (.own x)) x (.ins W.c_Doc dx [])) := (same_new hdx).trans (same_new (by rw [upd_ne (Ne.symm hne)]; exact hx))
    have ux2 : U x = none := vfree S2.v hx
    refine ⟨x, dx, q, ws, rs, U, rfl, upd_same, S2.v.trans smx, ux2, sqlS smx (sqlO (S2.v _ _ hq)), .of (S2.v.trans smx) hd, hok, h0, by omega, fun l ws2 U3 H4 g3 ux3 hl hd2 hx4 => ⟨rfl, ?_⟩⟩
    obtain ⟨pa, pb, pc, hp3⟩ := S2.h
    have npx : p ≠ x := ne_of_none hp3 hx
    have gx := ((Gr.refl (S := G1 p) S2.v).newH (o := .own x) hdx).newH (p := x) (o := .ins W.c_Doc dx []) (by rw [upd_ne (Ne.symm hne)]; exact hx)
    have G4 : Gr (G1 p) U H U3 H4 := gr_trans gx g3 fun b e => .inr (by rw [e]; exact hx)
    have hp4 := g3.k p _ npx (smx _ _ hp3)
    have up3 : U3 p = none := g3.out (some_ne (smx _ _ hp3)) S2.o
    have hq3 := g3.v _ _ hq
    have g3s := g3.s
    have g3v := g3.v
    clear g3 smx gx
    -- the nodes
    refine ⟨_, rfl, ⟨_, rfl, _, _, rfl, .inl ⟨_, sqlO (g3s _ _ hq3), rfl⟩, ?_⟩⟩
    refine ⟨_, _, rfl, rfl, ⟨Nat.le_of_ble_eq_true rfl, fun t ht => ?_⟩⟩
    have g5 := (Gr.refl (S := VW.S0) g3s).new (o := .tup []) ht
    have hx5 := g5.same _ _ hx4
    have ux5 := g5.out (some_ne hx4) ux3
    have hp5 := g5.same _ _ hp4
    have up5 := g5.out (some_ne hp4) up3
    have ht5 : (upd U3 t (.tup [])) t = some (.tup []) := upd_same
    generalize upd U3 t (.tup []) = U5 at g5 ht5 ux5 up5
    generalize upd H4 t (.tup []) = H5 at g5 hx5 hp5 ⊢
    refine ⟨q, t, ws, rs, rs.length - 1, [], U5, ?_, g5.s, g5.v _ _ hq3, dpsS (g3v.trans g5.v) hd, hok, hat, by omega, sqtO ht5, by show 0 + (rs.length - 1) ≤ 200; omega, hsz1, fun L us U6 H6 g6 hL hn => ?_⟩
    · show [V.ref q, V.int ((ws.length : Int) - 1), V.ref t] = _
      rw [show ((ws.length : Int) - 1) = ((rs.length - 1 : Nat) : Int) by omega]
    refine ⟨Nat.le_of_ble_eq_true rfl, fun tt htt => ?_⟩
    have hx6 := g6.same _ _ hx5
    have ux6 := g6.out (some_ne hx5) ux5
    have hp6 := g6.same _ _ hp5
    have up6 := g6.out (some_ne hp5) up5
    have s36 : Same U3 U6 := g5.v.trans g6.v
    have hus : us.length = size rs (rs.length - 1) := by rw [hn.len, nodes_len hok _ _ _ (Nat.lt_succ_self _)]
    have s6 : Same U6 H6 := g6.s
    have D6 : DocSt K W (fun b => b = x) U6 H6 x rs := ⟨rfl, ux6, fun b e => (by rw [e, hx6]; exact fun z => (nomatch z)), dx, l, .inl ⟨hx6, ws2, s36 _ _ hl, dpsS s36 hd2⟩⟩
    have S6 : Src U6 H6 p := ⟨s6, up6, _, _, _, hp6⟩
    have hq6 := s36 _ _ hq3
    have G6 := G4.trans (g5.trans g6).of0
    have hd6 : DpAll K U6 ws (rs.map Row.data) := dpsS (g3v.trans s36) hd
    clear g6 g5 s36 hx6 hx5 hx4 ux6 ux5 hp6 hp5 up6 up5 G4
    have g7 := (Gr.refl (S := VW.S0) s6).newH (o := .tup [.ref x, .ref L]) htt
    refine ⟨tt, _, rfl, sqtO upd_same, rfl, _, _, rfl, _, _, rfl, rfl, ?_⟩
    have D8 := D6.gr0 g7
    have Sr8 := S6.grS g7
    have G8 := G6.trans g7.of0
    have n8 : ∀ b, b = x → H b = none := fun b e => by rw [e]; exact hx
    generalize upd H6 tt (.tup [.ref x, .ref L]) = H8 at g7 D8 Sr8 G8 ⊢
    have s8 := g7.s
    clear g7 D6 S6 s6 G6
    have h200 : rs.length ≤ 200 := by omega
    have paths : ∀ {P : Nat → Bool} {k : Nat} {x : Nd}, (nodesP P rs (rs.length - 1) [])[k]? = some x → x.1.length ≤ 200 := by
      intro P k x h
      obtain ⟨_, pp, ats, q1, q2, q3, q4, q5⟩ := nodeP_at hok _ _ (Nat.lt_succ_self _) _ _ x.1 x.2 h
      rw [List.nil_append] at q1
      rw [q1]
      have := onP_le hok q2
      omega
    have lenF : ∀ j, (((nodes rs (rs.length - 1) []).take j).filter fun x => (Ch.kind z).has rs x.2).length ≤ 150 := fun j => by
      refine Nat.le_trans (List.length_filter_le _ _) ?_
      rw [List.length_take, nodes_len hok _ _ _ (Nat.lt_succ_self _)]
      omega
    -- the row of a node
    have rowAt : ∀ {j : Nat} {x : Nd}, (nodes rs (rs.length - 1) [])[j]? = some x → x.2 < rs.length := by
      intro j x h
      obtain ⟨p, ats, e1, e2, e3, e4, e5⟩ := node_at hok _ _ (Nat.lt_succ_self _) _ _ x.1 x.2 h
      have := onP_mem hok e2 x.2 (List.mem_of_getElem? e3)
      omega
    have kindAt : ∀ {e : Nat}, e < rs.length → ∃ a vs, atI ws (e : Int) = some (.ref a) ∧ SqT K U6 a (.str (kindS (rs.getD e .hard)) :: vs) := by
      intro e he
      have hw := List.getElem?_eq_getElem (show e < ws.length by omega)
      obtain ⟨dd, hdd, hrow⟩ := dps_get hd6 hw
      rw [List.getElem?_map, List.getElem?_eq_getElem he] at hdd
      cases hdd
      obtain ⟨a, vs, e1, e2⟩ := row_head hrow
      refine ⟨a, vs, atI_nat (by rw [hw, e1]), ?_⟩
      rw [show rs.getD e .hard = rs[e] by rw [List.getD_eq_getElem?_getD, List.getElem?_eq_getElem he]; rfl]
      exact e2
    refine ⟨_, rfl, L, rfl, ⟨_, sqlO (s8 _ _ hL)⟩, fun D hD => ?_⟩
    have hDU := s8.free hD
    refine lc_list (xs := us) (fun j H' => Gr VW.S0 U6 H8 U6 H' ∧ ∃ vs, H' D = some (.lst vs) ∧ DpAll K U6 vs ((((nodes rs (rs.length - 1) []).take j).filter fun x => (Ch.kind z).has rs x.2).map fun x => datP x.1)) ⟨(Gr.refl s8).newH hD, [], upd_same, .nil⟩ (fun j H' _ z => sqlO (z.1.s _ _ hL)) ?_ ?_
    · rintro j y H9 hy ⟨g9, vs9, hd9, dp9⟩
      obtain ⟨⟨path, e⟩, hnd, TT, pt, rfl, hTT, hpt⟩ := hn.get hy
      have hl9 : vs9.length ≤ 150 := by
        rw [dps_length dp9, List.length_map]
        exact lenF j
      obtain ⟨ra, rvs, hra, hrk⟩ := kindAt (rowAt hnd)
      refine ⟨TT, _, rfl, sqtO (g9.s _ _ hTT), rfl, _, _, rfl, _, _, rfl, rfl, rfl, ?_⟩
      refine ⟨_, rfl, _, rfl, _, _, _, _, rfl, rfl, sqlO (g9.s _ _ hq6), hra, _, _, _, _, rfl, rfl, sqtS g9.s hrk, atI_nat (j := 0) rfl, _, rfl, rfl, _, rfl, ?_⟩
      have et : (nodes rs (rs.length - 1) []).take (j + 1) = (nodes rs (rs.length - 1) []).take j ++ [(path, e)] := by
        rw [List.take_succ, hnd]
        rfl
      refine ite2 (fun hc => ?_) (fun hc => ?_)
      · have he : z = kindS (rs.getD e .hard) := (V.str.inj (of_decide_eq_true hc)).symm
        refine ⟨_, rfl, vs9, hd9, Nat.lt_of_le_of_lt hl9 (by decide), g9.mut (.inr hD) hDU, _, upd_same, ?_⟩
        rw [et, List.filter_append, List.map_append]
        refine dps_append dp9 ?_
        rw [filt_yes (g := fun x : Nd => (Ch.kind z).has rs x.2) (x := (path, e)) (show (Ch.kind z).has rs e = true from decide_eq_true he)]
        exact .cons (.tup hpt (dps_ints _)) .nil
      · have he : ¬ z = kindS (rs.getD e .hard) := fun q => hc (decide_eq_true (congrArg V.str q.symm))
        refine ⟨g9, vs9, hd9, ?_⟩
        rw [et, List.filter_append]
        rw [filt_no (g := fun x : Nd => (Ch.kind z).has rs x.2) (x := (path, e)) (show (Ch.kind z).has rs e = false from decide_eq_false he)]
        rw [List.append_nil]
        exact dp9
    · rintro H9 ⟨g9, vs, hd9, dp9⟩
      rw [hus, ← nodes_len hok (rs.length - 1 + 1) _ [] (Nat.lt_succ_self _), List.take_length] at dp9
      have gT := g9.tell hD hd9 hDU
      have dp := dpsS (same_new (o := .lst vs) hDU) dp9
      have hdue : (upd U6 D (.lst vs)) D = some (.lst vs) := upd_same
      have hvl : vs.length = cnt ((Ch.kind z).has rs) rs (rs.length - 1) := by
        rw [dps_length dp, List.length_map]
        exact nodesP_len hok _ _ [] (Nat.lt_succ_self _)
      have hv150 : vs.length ≤ 150 := by
        rw [hvl, ← nodesP_len hok (rs.length - 1 + 1) _ [] (Nat.lt_succ_self _)]
        have := lenF (nodes rs (rs.length - 1) []).length
        rw [List.take_length] at this
        exact this
      have D9 := D8.gr0 gT
      have Sr9 := Sr8.grS gT
      have G9 := G8.trans gT.of0
      have s69 := gT.v
      generalize upd U6 D (.lst vs) = U9 at gT dp hdue D9 Sr9 s69 G9
      have s9 := gT.s
      clear dp9 g9 gT D8 Sr8 G8
      refine ⟨_, rfl, _, rfl, x, rs, fun b => b = x, U9, z, rfl, s9, D9, hok, h0, h200, hz, fun Sa Ua Ha ga Da => ?_⟩
      have hdH := ga.g.s _ _ (ga.g.v _ _ hdue)
      refine ⟨_, rfl, _, _, rfl, .inl ⟨_, sqlO hdH, rfl⟩, rfl, _, rfl, ifF (by rw [hvl, decide_eq_true rfl]; rfl) ?_⟩
      refine ⟨_, rfl, _, rfl, _, rfl, _, _, rfl, .inl ⟨_, sqlO hdH, rfl⟩, x, rs, Sa, Ua, z, vs.length, rfl, ga.g.s, Da, hok, h0, h200, hz, by omega, fun Sb Ub Hb gb Db => ⟨true, rfl, iteF ?_⟩⟩
      have gab := ga.trans gb
      obtain ⟨_, _, _, hp9⟩ := Sr9.h
      obtain ⟨nSb, hpb, upb⟩ := gab.keep (fun q => npx q) hp9 Sr9.o
      obtain ⟨Gb, nb⟩ := Grw.after G9 n8 gab
      have hdb := gb.g.v _ _ (ga.g.v _ _ hdue)
      have dpb := dpsS gab.g.v dp
      have s6b := s69.trans gab.g.v
      have sb := gb.g.s
      clear gab gb ga Da
      -- the paths by their numbers
      refine ⟨_, rfl, _, _, rfl, .inl ⟨_, sqlO (sb _ _ hdb), rfl⟩, _, rfl, by omega, by omega, fun D2 hD2 => ?_⟩
      have nSD2 : ¬ Sb D2 := fun z => Db.a _ z hD2
      have uD2 := sb.free hD2
      refine lc_range (lo := 0) (n := vs.length) (fun j H' => ∃ (S' : Addr → Prop) (U' : Hp) (vs2 : List V), Grw Sb Ub Hb S' U' H' ∧ DocSt K W S' U' H' x rs ∧ ¬ S' D2 ∧ U' D2 = none ∧ H' D2 = some (.lst vs2) ∧ DpAll K U' vs2 (((nodesP ((Ch.kind z).has rs) rs (rs.length - 1) []).take j).map fun x => datP x.1))
        ⟨Sb, Ub, [], (Grw.refl sb).mut hD2 uD2, Db.upd nSD2, nSD2, uD2, upd_same, .nil⟩ ?_ ?_
      · rintro j H10 hj ⟨S', U', vs2, gw, Dw, nD, uD, hd2, dp2⟩
        have e1 : (0 : Int) + (j : Int) = j := Int.zero_add _
        rw [e1]
        have hjl : j < (nodesP ((Ch.kind z).has rs) rs (rs.length - 1) []).length := by rw [nodesP_len hok (rs.length - 1 + 1) _ [] (Nat.lt_succ_self _), ← hvl]; exact hj
        obtain ⟨⟨path, e⟩, hnd⟩ : ∃ y, (nodesP ((Ch.kind z).has rs) rs (rs.length - 1) [])[j]? = some y := ⟨_, List.getElem?_eq_getElem hjl⟩
        have hl2 : vs2.length ≤ 150 := by
          rw [dps_length dp2, List.length_map, List.length_take]
          omega
        refine ⟨rfl, ⟨_, rfl, _, rfl, _, rfl, x, rs, S', U', z, j, rfl, gw.g.s, Dw, hok, h0, h200, hz, .inl ⟨path, e, hnd, fun t S2 U2 H2 g2 Dt ht e2 => ?_⟩⟩⟩
        obtain ⟨n1, n2, n3⟩ := g2.keep nD hd2 uD
        refine ⟨vs2, n2, Nat.lt_of_le_of_lt hl2 (by decide), S2, U2, vs2 ++ [.ref t], (gw.trans g2).mut hD2 n3, Dt.upd n1, n1, n3, upd_same, ?_⟩
        rw [List.take_succ, hnd, List.map_append]
        exact dps_append (dpsS g2.g.v dp2) (.cons (.tup (sqtO e2) (dps_ints _)) .nil)
      · rintro H10 ⟨S', U', vs2, gw, Dw, nD, uD, hd2, dp2⟩
        rw [hvl, ← nodesP_len hok (rs.length - 1 + 1) _ [] (Nat.lt_succ_self _), List.take_length] at dp2
        have hdw := gw.g.v _ _ hdb
        have dpw := dpsS gw.g.v dpb
        obtain ⟨ps, hps⟩ : ∃ ps, ps = (nodesP ((Ch.kind z).has rs) rs (rs.length - 1) []).map (fun x : Nd => x.1) := ⟨_, rfl⟩
        have dp2 : DpAll K U' vs2 (ps.map datP) := by rw [hps, List.map_map]; exact dp2
        have dpw2 : DpAll K U' vs (ps.map datP) := by rw [hps, List.map_map]; exact dpw
        refine ⟨_, rfl, .list (ps.map datP), .list (ps.map datP), .lst (sqlO hd2) (dpsS gw.g.s dp2), .lst (sqlO (gw.g.s _ _ hdw)) (dpsS gw.g.s dpw2), shaped_paths _, shaped_paths _, _, rfl, ifF (by rw [eqv_paths]; rfl) ?_⟩
        obtain ⟨nSw, hpw, upw⟩ := gw.keep nSb hpb upb
        obtain ⟨Gw, nw⟩ := Grw.after Gb nb gw
        have s6w := s6b.trans gw.g.v
        clear dp2 dpw2 hd2 dpw
        refine ⟨_, rfl, by decide, by decide, ?_⟩
        refine for_range (lo := 0) (n := 6) (fun i σ H' => ∃ (S2 : Addr → Prop) (U2 : Hp) (v6 v7 v8 : Option V), σ = [some (.ref p), some (.ref q), some (.str z), some (.ref x), some (.ref L), some (.ref D), v6, v7, v8, none, none, none] ∧ Same U' U2 ∧ Gr (G1 p) U H U2 H' ∧ (∀ b, S2 b → H b = none) ∧ Src U2 H' p ∧ DocSt K W S2 U2 H' x rs)
          ⟨S', U', _, _, _, rfl, Same.refl _, Gw, nw, ⟨gw.g.s, upw, _, _, _, hpw⟩, Dw⟩ ?_ ?_
        · rintro i σ H11 hi ⟨S2, U2, v6, v7, v8, rfl, sw2, G2, n2, Sr2, D2⟩
          have s2 := Sr2.v
          have s62 := s6w.trans sw2
          have hL2 := s62 _ _ hL
          have hpos : 0 < us.length := by rw [hus, size_eq hok]; omega
          refine ⟨_, rfl, _, rfl, _, _, rfl, .inl ⟨_, sqlO (s2 _ _ hL2), rfl⟩, p, U2, _, rfl, Sr2, by omega, by omega, fun r H12 g3 Sr3 r0 r1 => ?_⟩
          obtain ⟨rn, rfl⟩ : ∃ rn : Nat, r = rn := ⟨r.toNat, by omega⟩
          have hrn : rn < us.length := by omega
          have D3 := D2.grN g3 fun b hb e => by
            have := n2 b hb
            rw [e, hp3] at this
            cases this
          have G3 := G2.trans g3
          have hn2 := hn.mono s62
          refine ⟨_, rfl, _, rfl, _, rfl, L, _, rfl, sqlO (Sr3.v _ _ hL2), fun SL hSL => ?_⟩
          rw [cutV_take]
          have hsl4 : (upd H12 SL (.lst (us.take rn))) SL = some (.lst (us.take rn)) := upd_same
          have g4 := (Gr.refl (S := VW.S0) Sr3.v).newH (o := .lst (us.take rn)) hSL
          generalize upd H12 SL (.lst (us.take rn)) = H13 at hsl4 g4 ⊢
          refine ⟨SL, rfl, ⟨_, sqlO hsl4⟩, fun D3' hD3 => ?_⟩
          have nDS : SL ≠ D3' := ne_of_none hsl4 hD3
          have hD3U := g4.s.free hD3
          have hD3H := g4.free hD3
          refine lc_list (xs := us.take rn) (fun j H' => Gr VW.S0 U2 H12 U2 H' ∧ H' SL = some (.lst (us.take rn)) ∧ ∃ vs, H' D3' = some (.lst vs) ∧ vs.length = ((((nodes rs (rs.length - 1) []).take rn).take j).filter fun x => (Ch.kind z).has rs x.2).length)
            ⟨g4.newH hD3, by rw [upd_ne nDS]; exact hsl4, [], upd_same, by rw [List.take_zero]; rfl⟩ (fun j H' _ z => sqlO z.2.1) ?_ ?_
          · rintro j y H14 hy ⟨g5, hs5, vs5, hd5, hl5⟩
            have hjl := (List.getElem?_eq_some_iff.mp hy).1
            rw [List.length_take] at hjl
            rw [List.getElem?_take_of_lt (by omega)] at hy
            obtain ⟨⟨path, e⟩, hnd, TT, pt, rfl, hTT, hpt⟩ := hn2.get hy
            have hl9 : vs5.length ≤ 150 := by
              rw [hl5, List.take_take]
              exact lenF _
            obtain ⟨ra, rvs, hra, hrk⟩ := kindAt (rowAt hnd)
            have hq2 := s62 _ _ hq6
            refine ⟨TT, _, rfl, sqtO (g5.s _ _ hTT), rfl, _, _, rfl, _, _, rfl, rfl, rfl, ?_⟩
            refine ⟨_, rfl, _, rfl, _, _, _, _, rfl, rfl, sqlO (g5.s _ _ hq2), hra, _, _, _, _, rfl, rfl, sqtS g5.s (sqtS s62 hrk), atI_nat (j := 0) rfl, _, rfl, rfl, _, rfl, ?_⟩
            have et : ((nodes rs (rs.length - 1) []).take rn).take (j + 1) = ((nodes rs (rs.length - 1) []).take rn).take j ++ [(path, e)] := by
              rw [List.take_succ, List.getElem?_take_of_lt (by omega), hnd]
              rfl
            refine ite2 (fun hc => ?_) (fun hc => ?_)
            · have he : z = kindS (rs.getD e .hard) := (V.str.inj (of_decide_eq_true hc)).symm
              refine ⟨_, rfl, vs5, hd5, Nat.lt_of_le_of_lt hl9 (by decide), g5.mut (.inr hD3H) hD3U, by rw [upd_ne nDS]; exact hs5, _, upd_same, ?_⟩
              rw [et, List.filter_append, filt_yes (g := fun x : Nd => (Ch.kind z).has rs x.2) (x := (path, e)) (show (Ch.kind z).has rs e = true from decide_eq_true he), List.length_append, List.length_append, hl5]
              rfl
            · have he : ¬ z = kindS (rs.getD e .hard) := fun q => hc (decide_eq_true (congrArg V.str q.symm))
              refine ⟨g5, hs5, vs5, hd5, ?_⟩
              rw [et, List.filter_append, filt_no (g := fun x : Nd => (Ch.kind z).has rs x.2) (x := (path, e)) (show (Ch.kind z).has rs e = false from decide_eq_false he), List.append_nil]
              exact hl5
          · rintro H14 ⟨g5, hs5, vs5, hd5, hl5⟩
            have hlt : (us.take rn).length = ((nodes rs (rs.length - 1) []).take rn).length := by rw [List.length_take, List.length_take, hus, nodes_len hok _ _ _ (Nat.lt_succ_self _)]
            rw [hlt, List.take_length] at hl5
            refine ⟨_, _, rfl, .inl ⟨_, sqlO hd5, rfl⟩, ?_⟩
            have hy := List.getElem?_eq_getElem hrn
            obtain ⟨⟨path, e⟩, hnd, TT, pt, hTe, hTT, hpt⟩ := hn2.get hy
            rw [hTe] at hy
            obtain ⟨pp, ats, q1, q2, q3⟩ := node_count (P := (Ch.kind z).has rs) hok _ _ (Nat.lt_succ_self _) _ _ _ _ hnd
            rw [List.nil_append] at q1
            subst q1
            have hpl : path.length ≤ 200 := by have := onP_le hok q2; omega
            refine ⟨_, rfl, _, rfl, _, rfl, _, rfl, _, _, _, _, rfl, rfl, sqlO (g5.s _ _ hL2), atI_nat hy, _, _, _, _, rfl, rfl, sqtO (g5.s _ _ hTT), atI_nat (j := 0) rfl, x, rs, S2, U2, pt, z, path, ats, rfl, g5.s, D3.gr0 g5, hok, h0, h200, hz, hpt, hpl, q2, fun S4 U4 H15 g6 D4 => ?_⟩
            refine ⟨_, rfl, rfl, _, rfl, ifF (by rw [q3, hl5, decide_eq_true rfl]; rfl) ?_⟩
            obtain ⟨G6, n6⟩ := Grw.after (G3.trans g5.of0) n2 g6
            have npS : ¬ S2 p := fun q => by
              have := n2 p q
              rw [hp3] at this
              cases this
            have Sr5 := Sr3.grS g5
            obtain ⟨_, _, _, hp5⟩ := Sr5.h
            obtain ⟨_, hp6, up6⟩ := g6.keep npS hp5 Sr5.o
            exact ⟨S4, U4, _, _, _, rfl, sw2.trans g6.g.v, G6, n6, ⟨g6.g.s, up6, _, _, _, hp6⟩, D4⟩
        · rintro σ H11 ⟨S2, U2, v6, v7, v8, rfl, sw2, G2, n2, Sr2, D2⟩
          by_cases hg : z = "group"
          · subst hg
            refine ⟨_, rfl, rfl, false, congrArg V.bl (by rw [decide_eq_true rfl]; rfl), iteF ?_⟩
            refine ⟨_, rfl, x, rs, S2, U2, rfl, Sr2.v, D2, hok, h0, h200, fun S3 U3 H12 g3 D3 => ?_⟩
            have hd3 := g3.g.v _ _ (sw2 _ _ hdw)
            refine ⟨_, rfl, _, _, rfl, .inl ⟨_, sqlO (g3.g.s _ _ hd3), rfl⟩, rfl, ?_⟩
            obtain ⟨G6, n6⟩ := Grw.after G2 n2 g3
            have npS : ¬ S2 p := fun q => by
              have := n2 p q
              rw [hp3] at this
              cases this
            obtain ⟨_, _, _, hp5⟩ := Sr2.h
            obtain ⟨_, hp6, up6⟩ := g3.keep npS hp5 Sr2.o
            have k9 := k U3 H12 G6 ⟨g3.g.s, up6, _, _, _, hp6⟩
            rw [hvl, decide_eq_true rfl]
            exact k9
          · exact ⟨_, rfl, rfl, true, congrArg V.bl (by rw [decide_eq_false fun q => hg (V.str.inj q)]; rfl), iteT (k U2 H11 G2 Sr2)⟩
end
end Lw

set_option maxHeartbeats 0
namespace Lw
open PySem PySem.Spec PyProof.Rows L2 VW TL
local macro_rules | `(tactic| walk_at "rdc") => `(tactic| first | assumption | rfl | decide | omega | exact Or.inr ⟨by decide, by decide⟩ | exact ⟨by decide, by decide⟩ | exact ⟨by decide, by decide, by decide⟩ | (show (0 : Int) < _; omega) | (show (0 : Int) < _ ∧ _ < (1073741824 : Int); omega) | (show (-(2 ^ 64) < _ ∧ _ < 2 ^ 64) ∨ (-(2 ^ 64) < _ ∧ _ < 2 ^ 64); omega) | (show (-(2 ^ 64) < _ ∧ _ < 2 ^ 64) ∨ (-(2 ^ 64) < _ ∧ _ < 2 ^ 64); right; split <;> decide) | exact Nat.le_of_ble_eq_true rfl)
local macro_rules | `(tactic| walk_at "rd1") => `(tactic| first | refine ⟨_, rfl, ?_⟩ | refine And.intro (by walk_at "rdc") ?_ | refine ⟨_, _, rfl, rfl, ?_⟩ | refine Or.inl ⟨_, rfl, ?_⟩ | refine Or.inr ⟨_, rfl, ?_⟩ | refine ⟨_, _, _, _, rfl, rfl, sqlO (by first | assumption | exact upd_same), rfl, ?_⟩ | refine ⟨_, _, _, _, rfl, rfl, (by first | assumption | exact upd_same), rfl, ?_⟩)
local macro_rules | `(tactic| walk_at "rd") => `(tactic| repeat (walk_at "rd1"))

theorem sum_add (f g : Str → Nat) : ∀ l : List Str, (l.map fun z => f z + g z).sum = (l.map f).sum + (l.map g).sum
  | [] => rfl
  | a :: l => by
    rw [List.map_cons, List.map_cons, List.map_cons, List.sum_cons, List.sum_cons, List.sum_cons, sum_add f g l]
    omega
theorem one_kind : ∀ s ∈ kindsL, (kindsL.map fun z => one (decide (z = s))).sum = 1 := by
  intro s h
  simp only [kindsL, List.mem_cons, List.not_mem_nil, or_false] at h
  rcases h with rfl | rfl | rfl | rfl | rfl | rfl | rfl
  all_goals decide +kernel
theorem kind_in (r : Row) : kindS r ∈ kindsL := by
  cases r <;> (show _ ∈ kindsL; simp [kindS, kindsL])
theorem kinds_sum (g : Nd → Str) (hg : ∀ x, g x ∈ kindsL) : ∀ l : List Nd, (kindsL.map fun z => (l.filter fun x => decide (z = g x)).length).sum = l.length
  | [] => rfl
  | x :: l => by
    have e : ∀ z, ((x :: l).filter fun x => decide (z = g x)).length = one (decide (z = g x)) + (l.filter fun x => decide (z = g x)).length := by
      intro z
      rw [List.filter_cons]
      unfold one
      by_cases h : z = g x
      · rw [decide_eq_true h, if_pos rfl, if_pos rfl, List.length_cons, Nat.add_comm]
      · rw [decide_eq_false h, if_neg (fun q => nomatch q), if_neg (fun q => nomatch q), Nat.zero_add]
    rw [show (kindsL.map fun z => ((x :: l).filter fun x => decide (z = g x)).length) = kindsL.map fun z => one (decide (z = g x)) + (l.filter fun x => decide (z = g x)).length from List.map_congr_left fun z _ => e z]
    rw [sum_add (fun z => one (decide (z = g x))) (fun z => (l.filter fun x => decide (z = g x)).length), one_kind _ (hg x), kinds_sum g hg l, List.length_cons, Nat.add_comm]
theorem cast_sumS (f : Str → Nat) : ∀ l : List Str, ((l.map f).sum : Int) = (l.map fun j => (f j : Int)).sum
  | [] => rfl
  | a :: l => by
    rw [List.map_cons, List.map_cons, List.sum_cons, List.sum_cons, ← cast_sumS f l]
    exact Int.natCast_add _ _
theorem cnt_kinds {rs : List Row} (hok : OkRows rs) (i : Nat) : (kindsL.map fun z => cnt ((Ch.kind z).has rs) rs i).sum = cnt ((Ch.all).has rs) rs i := by
  have e : ∀ P : Nat → Bool, cnt P rs i = ((nodes rs i []).filter fun x => P x.2).length := fun P => (nodesP_len (P := P) hok (i + 1) i [] (Nat.lt_succ_self _)).symm
  have e2 : cnt ((Ch.all).has rs) rs i = (nodes rs i []).length := by
    rw [show cnt ((Ch.all).has rs) rs i = size rs i from cnt_all rs i, nodes_len hok (i + 1) i [] (Nat.lt_succ_self _)]
  rw [e2, ← kinds_sum (fun x => kindS (rs.getD x.2 .hard)) (fun x => kind_in _) (nodes rs i [])]
  refine congrArg List.sum (List.map_congr_left fun z _ => ?_)
  exact e _
section
variable {P : Program} {w : World} {K : PySem.W.Frag} {mg : Str → Option Value} {base : Heap} {W : Wd}
/-- a new document -/
theorem doc_new {x dx q : Addr} {H U : Hp} {ws : List V} {rs : List Row} {R : Hp → Prop} {E : XK} (hx : H x = none) (hdx : H dx = none) (hne : dx ≠ x) (hU : Same U H) (hq : U q = some (.lst ws)) (hd : DpAll K U ws (rs.map Row.data)) (hok : OkRows rs) (h0 : 0 < rs.length) (h200 : rs.length ≤ 200)
    (k : ∀ (U' H' : Hp), Gr VW.S0 U H U' H' → DocSt K W (fun b => b = x) U' H' x rs → R H') : sp_init K W.c_Doc [.ref x, .ref q] (upd (upd H dx (.own x)) x (.ins W.c_Doc dx [])) (fun v H' => v = .non ∧ R H') E := by
  have smx : Same H (upd (upd H dx (.own x)) x (.ins W.c_Doc dx [])) := (same_new hdx).trans (same_new (by rw [upd_ne (Ne.symm hne)]; exact hx))
  refine ⟨x, dx, q, ws, rs, U, rfl, upd_same, hU.trans smx, vfree hU hx, sqlS smx (sqlO (hU _ _ hq)), .of (hU.trans smx) hd, hok, h0, h200, fun l ws2 U3 H4 g3 ux3 hl hd2 hx4 => ⟨rfl, ?_⟩⟩
  have gx := ((Gr.refl (S := VW.S0) hU).newH (o := .own x) hdx).newH (p := x) (o := .ins W.c_Doc dx []) (by rw [upd_ne (Ne.symm hne)]; exact hx)
  exact k U3 H4 (gr_trans gx g3 fun b e => .inr (by rw [e]; exact hx)) ⟨rfl, ux3, fun b e => (by rw [e, hx4]; exact fun z => (nomatch z)), dx, l, .inl ⟨hx4, ws2, hl, hd2⟩⟩
theorem small {n : Nat} (h : n ≤ 1000) : n ≤ sizeLine := Nat.le_trans h (by decide)
def sp_law (K : PySem.W.Frag) : Sp := fun vs H Q _ => ∃ (a : Addr) (ns : List Int), vs = [.ref a] ∧ SqL K H a (ns.map V.int) ∧ ns.length ≤ 63 ∧ ∀ H', Q (.bl true) H'
theorem sc_law : FnScope ["_law_script", "_law_words", "_law_cell", "_law_well_here", "_law_turn", "_law_rows_here", "_law_kind"] ["_law_script"] (defScope s_law) := ⟨rfl, rfl, rfl, by decide +kernel, rfl, by decide +kernel, by decide +kernel⟩
theorem fn_law (T : Txt w K mg W) {f : Addr} {fd : FuncData} (F : Fun K "law" "law" s_law f fd) : FnOkG P w K mg base 30 f fd ["_law_script"] (sp_law K) := by
  refine F.okG sc_law (fun vs H Q E h => ?_) (fun cdv A outer s H vs Q E hgd hr h => ?_)
  · obtain ⟨a, ns, rfl, _⟩ := h
    rfl
  · obtain ⟨a, ns, rfl, ha, h63, k⟩ := h
    refine ⟨_, (pss_cons (ps_set (i := 1) sc_law.nd rfl (Or.inl rfl) (pe_lst (pa_cons pe_str (pa_cons pe_str (pa_cons pe_str (pa_cons pe_str (pa_cons pe_str (pa_cons pe_str (pa_cons pe_str pa_nil)))))))))
      (pss_cons (ps_for PassesOwn.never rfl (pi_list (pe_slice sl_list (pe_op op_catL (pv 0) (pe_lst (pa_cons pe_int pa_nil))) po_none (po_some pe_int))) (pg_name (i := 2) sc_law.nd rfl (Or.inl rfl))
      (pss_cons (ps_set (i := 3) sc_law.nd rfl (Or.inr rfl) (pe_callD (d__law_well T) (hr.mono (by decide)) (pa_cons (pv 2) pa_nil)))
      (pss_one (ps_for PassesOwn.never rfl (pi_range1 (by rfl) T.n_range (pa_cons pe_int pa_nil)) (pg_name (i := 4) sc_law.nd rfl (Or.inl rfl))
      (pss_cons (ps_set (i := 5) sc_law.nd rfl (Or.inr rfl) (pe_callD (d__law_rows T) (hr.mono (by decide)) (pa_cons (pv 3) pa_nil)))
      (pss_cons (ps_if (pt_cmpR op_ne (pe_callB (id := "sum") (cr_sum rfl) (by rfl) T.n_sum (by decide +kernel) (pa_cons (pe_lc (own := [("_law_kind", 6)]) (g := (gName 6)) (tt := tYes) rfl sc_law.nd (pi_list (pv 1)) (blkOk_by (own := [("_law_kind", 6)]) (N := ["_law_script", "_law_words", "_law_cell", "_law_well_here", "_law_turn", "_law_rows_here", "_law_kind"]) (sc := defScope s_law) (by decide +kernel)) (fun _ _ _ _ _ => (pg_name (i := 6) sc_law.nd rfl (Or.inl rfl))) (fun _ _ _ _ _ => pts_nil) (fun _ _ _ _ _ => (pe_callD (d_kind_total T) (hr.mono (by decide)) (pa_cons (pe_makeD (d_Doc___init__ T) T.mk_Doc T.c_Doc (hr.mono (by decide)) (pa_cons (pv 5) pa_nil)) (pa_cons (pv 6) pa_nil))))) pa_nil)) (pe_callD (d_node_total T) (hr.mono (by decide)) (pa_cons (pe_makeD (d_Doc___init__ T) T.mk_Doc T.c_Doc (hr.mono (by decide)) (pa_cons (pv 5) pa_nil)) pa_nil)) (nomark _)) (pss_one (ps_ret pe_bl)) pss_nil)
      (pss_one (ps_if (pt_cmpR (op_neD hr.units) (pe_lc (own := [("_law_kind", 6)]) (g := (gName 6)) rfl sc_law.nd (pi_list (pv 1)) (blkOk_by (own := [("_law_kind", 6)]) (N := ["_law_script", "_law_words", "_law_cell", "_law_well_here", "_law_turn", "_law_rows_here", "_law_kind"]) (sc := defScope s_law) (by decide +kernel)) (fun _ _ _ _ _ => (pg_name (i := 6) sc_law.nd rfl (Or.inl rfl))) (fun _ _ _ _ _ => (pts_one (pt_not (pt_val (pe_callD (d__law_right T) (hr.mono (by decide)) (pa_cons (pv 3) (pa_cons (pv 5) (pa_cons (pv 6) pa_nil)))))))) (fun _ _ _ _ _ => (pv 6))) (pe_lst pa_nil) (nomark _)) (pss_one (ps_ret pe_bl)) pss_nil))))))))
      (pss_one (ps_ret pe_bl)))), ?_⟩
    refine ⟨Nat.le_of_ble_eq_true rfl, fun wl hwl => ?_⟩
    have ha := sqlS (same_new (o := .lst [.str "text", .str "line", .str "hard", .str "cat", .str "nest", .str "align", .str "group"]) hwl) ha
    have ewl : (upd H wl (.lst [.str "text", .str "line", .str "hard", .str "cat", .str "nest", .str "align", .str "group"])) wl = some (.lst (kindsL.map V.str)) := upd_same
    generalize upd H wl (.lst [.str "text", .str "line", .str "hard", .str "cat", .str "nest", .str "align", .str "group"]) = H at ha ewl ⊢
    -- the cells
    refine ⟨_, rfl, Nat.le_of_ble_eq_true rfl, fun l0 hl0 => ?_⟩
    have sm0 : Same H (upd H l0 (.lst [.int 0])) := same_new hl0
    refine ⟨a, l0, _, _, rfl, rfl, sqlS sm0 ha, sqlO upd_same, small (by rw [List.length_map, List.length_singleton]; omega), fun l1 hl1 => ?_⟩
    have sm1 := sm0.trans (same_new (o := .lst (ns.map V.int ++ [.int 0])) hl1)
    refine ⟨_, rfl, l1, _, rfl, sqlO upd_same, fun l2 hl2 => ?_⟩
    obtain ⟨cs, ecs⟩ : ∃ cs : List Int, cutV (ns.map V.int ++ [.int 0]) none (some 5) = cs.map V.int := by
      have e : ns.map V.int ++ [V.int 0] = (ns ++ [0]).map V.int := by rw [List.map_append]; rfl
      rw [e]
      unfold cutV
      exact ⟨_, by rw [← List.map_drop, ← List.map_take]⟩
    rw [ecs]
    refine ⟨l2, rfl, ⟨_, sqlO upd_same⟩, ?_⟩
    have hl2' : (upd (upd (upd H l0 (.lst [.int 0])) l1 (.lst (ns.map V.int ++ [.int 0]))) l2 (.lst (cs.map V.int))) l2 = some (.lst (cs.map V.int)) := upd_same
    have ewl2 := (sm1.trans (same_new (o := .lst (cs.map V.int)) hl2)) _ _ ewl
    generalize upd (upd (upd H l0 (.lst [.int 0])) l1 (.lst (ns.map V.int ++ [.int 0]))) l2 (.lst (cs.map V.int)) = H0 at hl2' ewl2 ⊢
    refine for_list (xs := cs.map V.int) (fun i σ H' => Same H0 H' ∧ ∃ v2 v3 v4 v5, σ = [some (.ref a), some (.ref wl), v2, v3, v4, v5, none]) ⟨Same.refl _, _, _, _, _, rfl⟩ (fun i σ H' _ z => sqlO (z.1 _ _ hl2')) ?_ ?_
    · rintro i y σ Ht hy ⟨smt, v2, v3, v4, v5, rfl⟩
      obtain ⟨c, rfl⟩ : ∃ c, y = V.int c := by
        rw [List.getElem?_map] at hy
        cases e : cs[i]? with
        | none => rw [e] at hy; cases hy
        | some c => rw [e] at hy; exact ⟨c, (Option.some.inj hy).symm⟩
      refine ⟨_, rfl, c, rfl, fun p z1 z2 z3 hp => ?_⟩
      have SS : Src Ht (upd Ht p (.lst [.int z1, .int z2, .int z3])) p := ⟨same_new hp, hp, _, _, _, upd_same⟩
      generalize upd Ht p (.lst [.int z1, .int z2, .int z3]) = H1 at SS ⊢
      refine ⟨_, rfl, by decide, by decide, ?_⟩
      refine for_range (lo := 0) (n := 3) (fun i σ H' => ∃ (U' : Hp) (v4 v5 : Option V), σ = [some (.ref a), some (.ref wl), some (.int c), some (.ref p), v4, v5, none] ∧ Same Ht U' ∧ Src U' H' p) ⟨Ht, _, _, rfl, Same.refl _, SS⟩ ?_ ?_
      · rintro i σ H2 hi ⟨U, v4, v5, rfl, hsU, S1⟩
        refine ⟨_, rfl, p, U, rfl, S1, fun q ws rs U2 H3 g2 S2 hqn hq hd hok h0 h20 hsz => ?_⟩
        have h200 : rs.length ≤ 200 := by omega
        have hs2 : Same Ht U2 := hsU.trans g2.v
        have ew2 := hs2 _ _ (smt _ _ ewl2)
        have s3 := S2.v
        refine ⟨_, rfl, wl, rfl, ⟨_, sqlO (s3 _ _ ew2)⟩, fun D hD => ?_⟩
        have hDU := s3.free hD
        refine lc_list (xs := kindsL.map V.str) (fun j H' => ∃ U' : Hp, Gr VW.S0 U2 H3 U' H' ∧ U' D = none ∧ H' D = some (.lst (((kindsL.take j).map fun z => (cnt ((Ch.kind z).has rs) rs (rs.length - 1) : Int)).map V.int))) ⟨U2, (Gr.refl s3).newH hD, hDU, upd_same⟩ (fun j H' _ ⟨_, z, _⟩ => sqlO (z.s _ _ (z.v _ _ ew2))) ?_ ?_
        · rintro j y H4 hy ⟨U4, g4, uD, hd4⟩
          rw [List.getElem?_map] at hy
          obtain ⟨z, hz, rfl⟩ := Option.map_eq_some_iff.mp hy
          have hzk := List.mem_of_getElem? hz
          refine ⟨rfl, ?_⟩
          refine ⟨_, rfl, fun x dx hx hdx hne => ?_⟩
          refine doc_new hx hdx hne g4.s (g4.v _ _ hq) (dpsS g4.v hd) hok h0 h200 fun U5 H5 g5 D5 => ?_
          refine ⟨_, rfl, x, rs, _, U5, z, rfl, g5.s, D5, hok, h0, h200, hzk, fun S6 U6 H6 g6 D6 => ?_⟩
          have hd5 := g5.same _ _ hd4
          have uD5 := g5.out (some_ne hd4) uD
          have nxD : ¬ D = x := fun e => by rw [e, hx] at hd4; cases hd4
          obtain ⟨n1, n2, n3⟩ := g6.keep nxD hd5 uD5
          have G6 : Gr VW.S0 U2 H3 U6 H6 := gr_trans (g4.trans g5) g6.g fun b h => .inr ((g6.n b h).elim (fun e => by rw [e]; exact g4.free hx) fun e => (g4.trans g5).free e)
          refine ⟨_, n2, ?_, U6, G6.mut (.inr hD) n3, n3, ?_⟩
          · rw [List.length_map, List.length_map, List.length_take]
            exact Nat.lt_of_le_of_lt (Nat.min_le_right _ _) (by decide)
          · rw [upd_same, List.take_succ, hz, List.map_append, List.map_append]
            rfl
        · rintro H4 ⟨U4, g4, uD, hd4⟩
          rw [List.length_map, List.take_length] at hd4
          refine ⟨D, _, rfl, sqlO hd4, ?_⟩
          refine ⟨_, rfl, fun x dx hx hdx hne => ?_⟩
          refine doc_new hx hdx hne g4.s (g4.v _ _ hq) (dpsS g4.v hd) hok h0 h200 fun U5 H5 g5 D5 => ?_
          refine ⟨x, rs, _, U5, rfl, g5.s, D5, hok, h0, h200, fun S6 U6 H6 g6 D6 => ?_⟩
          have esum : (kindsL.map fun z => (cnt ((Ch.kind z).has rs) rs (rs.length - 1) : Int)).sum = (cnt ((Ch.all).has rs) rs (rs.length - 1) : Nat) := by
            rw [← cnt_kinds hok, cast_sumS]
          refine ⟨rfl, _, rfl, ifF (by rw [esum, decide_eq_true rfl]; rfl) ?_⟩
          have G6 : Gr VW.S0 U2 H3 U6 H6 := gr_trans (g4.trans g5) g6.g fun b h => .inr ((g6.n b h).elim (fun e => by rw [e]; exact g4.free hx) fun e => (g4.trans g5).free e)
          have Sr6 := S2.grS G6
          have hq6 := G6.v _ _ hq
          have hd6 := dpsS G6.v hd
          have ew6 := G6.v _ _ ew2
          have hs6 := hs2.trans G6.v
          clear G6 g6 g5 g4 D5 D6 hd4
          have s6 := Sr6.v
          refine ⟨_, rfl, wl, rfl, ⟨_, sqlO (s6 _ _ ew6)⟩, fun D2 hD2 => ?_⟩
          have hD2U := s6.free hD2
          have nDp : D2 ≠ p := fun e => by
            obtain ⟨_, _, _, q⟩ := Sr6.h
            rw [e, q] at hD2
            cases hD2
          refine lc_list (xs := kindsL.map V.str) (fun j H' => ∃ U' : Hp, Gr (G1 p) U6 H6 U' H' ∧ Src U' H' p ∧ U' D2 = none ∧ H' D2 = some (.lst [])) ⟨U6, (Gr.refl s6).newH hD2, Sr6.mut nDp hD2U, hD2U, upd_same⟩ (fun j H' _ ⟨_, z, S, _⟩ => sqlO (S.v _ _ (z.v _ _ ew6))) ?_ ?_
          · rintro j y H7 hy ⟨U7, g7, Sr7, uD7, hd7⟩
            rw [List.getElem?_map] at hy
            obtain ⟨z, hz, rfl⟩ := Option.map_eq_some_iff.mp hy
            have hzk := List.mem_of_getElem? hz
            refine ⟨rfl, ?_⟩
            refine ⟨_, rfl, _, rfl, _, rfl, p, q, ws, rs, z, U7, rfl, Sr7, g7.v _ _ hq6, dpsS g7.v hd6, hok, h0, h20, hsz, hzk, fun U8 H8 g8 Sr8 => ⟨true, rfl, iteF ?_⟩⟩
            exact ⟨U8, g7.trans g8, Sr8, g8.out (some_ne hd7) uD7, g8.k _ _ nDp hd7⟩
          · rintro H7 ⟨U7, g7, Sr7, uD7, hd7⟩
            refine ⟨Nat.le_of_ble_eq_true rfl, fun e1 he1 => ?_⟩
            have g9 := (Gr.refl (S := VW.S0) Sr7.v).newH (o := .lst []) he1
            refine ⟨.list [], .list [], .lst (sqlO (g9.same _ _ hd7)) .nil, .lst (sqlO upd_same) .nil, rfl, rfl, _, rfl, ifF rfl ?_⟩
            exact ⟨U7, _, _, rfl, hs6.trans g7.v, Sr7.grS g9⟩
      · rintro σ H2 ⟨U, v4, v5, rfl, hsU, S1⟩
        exact ⟨smt.trans (hsU.trans S1.v), _, _, _, _, rfl⟩
    · rintro σ H' ⟨sm, v2, v3, v4, v5, rfl⟩
      exact k _
end
end Lw

set_option maxHeartbeats 0
namespace Lw
open PySem PySem.Spec PyProof.Rows L2 VW TL
theorem all_mk {w : World} {K : PySem.W.Frag} {h : Heap} {mg : Str → Option Value} (X : K.In h) (G : h.Ns mainGlobals mg)
    {C_LayoutError : Addr} {C_InvalidDoc : Addr} {C_InvalidPath : Addr} {C_InvalidBound : Addr} {C_Doc : Addr} {C_Row : Addr} {C_Facts : Addr} {f_Doc___init__ : Addr} {oc_Doc___init__ kV_Doc___init__ dc_Doc___init__ pm_Doc___init__ cd_Doc___init__ ct_Doc___init__ : Value} {od_Doc___init__ an_Doc___init__ : Option Addr} {sl_Doc___init__ : Array (Option Value)} {f_Doc___eq__ : Addr} {oc_Doc___eq__ kV_Doc___eq__ dc_Doc___eq__ pm_Doc___eq__ cd_Doc___eq__ ct_Doc___eq__ : Value} {od_Doc___eq__ an_Doc___eq__ : Option Addr} {sl_Doc___eq__ : Array (Option Value)} {f_Doc_row_list : Addr} {oc_Doc_row_list kV_Doc_row_list dc_Doc_row_list pm_Doc_row_list cd_Doc_row_list ct_Doc_row_list : Value} {od_Doc_row_list an_Doc_row_list : Option Addr} {sl_Doc_row_list : Array (Option Value)} {f_Row___init__ : Addr} {oc_Row___init__ kV_Row___init__ dc_Row___init__ pm_Row___init__ cd_Row___init__ ct_Row___init__ : Value} {od_Row___init__ an_Row___init__ : Option Addr} {sl_Row___init__ : Array (Option Value)} {f_Row__add_kind : Addr} {oc_Row__add_kind kV_Row__add_kind dc_Row__add_kind pm_Row__add_kind cd_Row__add_kind ct_Row__add_kind : Value} {od_Row__add_kind an_Row__add_kind : Option Addr} {sl_Row__add_kind : Array (Option Value)} {f_Row__add_groups : Addr} {oc_Row__add_groups kV_Row__add_groups dc_Row__add_groups pm_Row__add_groups cd_Row__add_groups ct_Row__add_groups : Value} {od_Row__add_groups an_Row__add_groups : Option Addr} {sl_Row__add_groups : Array (Option Value)} {f_Row__add_steps : Addr} {oc_Row__add_steps kV_Row__add_steps dc_Row__add_steps pm_Row__add_steps cd_Row__add_steps ct_Row__add_steps : Value} {od_Row__add_steps an_Row__add_steps : Option Addr} {sl_Row__add_steps : Array (Option Value)} {f_Row__add_bases : Addr} {oc_Row__add_bases kV_Row__add_bases dc_Row__add_bases pm_Row__add_bases cd_Row__add_bases ct_Row__add_bases : Value} {od_Row__add_bases an_Row__add_bases : Option Addr} {sl_Row__add_bases : Array (Option Value)} {f_Facts___init__ : Addr} {oc_Facts___init__ kV_Facts___init__ dc_Facts___init__ pm_Facts___init__ cd_Facts___init__ ct_Facts___init__ : Value} {od_Facts___init__ an_Facts___init__ : Option Addr} {sl_Facts___init__ : Array (Option Value)} {enm_InvalidBound eq_InvalidBound : Str} {eN_InvalidBound : Addr} {ebs_InvalidBound ebm_InvalidBound esub_InvalidBound : List Value} {esn_InvalidBound : List Str} {eab_InvalidBound : Bool} {ecol_InvalidBound : Option Bool} {edd_InvalidBound : Option Addr} {ek0_InvalidBound ek1_InvalidBound ek2_InvalidBound ek3_InvalidBound ek5_InvalidBound : Option Value} {f_InvalidBound___init__ : Addr} {oc_InvalidBound___init__ kV_InvalidBound___init__ dc_InvalidBound___init__ pm_InvalidBound___init__ cd_InvalidBound___init__ ct_InvalidBound___init__ : Value} {od_InvalidBound___init__ an_InvalidBound___init__ : Option Addr} {sl_InvalidBound___init__ : Array (Option Value)} {f__wall : Addr} {oc__wall kV__wall dc__wall pm__wall cd__wall ct__wall : Value} {od__wall an__wall : Option Addr} {sl__wall : Array (Option Value)} {f__shown : Addr} {oc__shown kV__shown dc__shown pm__shown cd__shown ct__shown : Value} {od__shown an__shown : Option Addr} {sl__shown : Array (Option Value)} {f_is_integer : Addr} {oc_is_integer kV_is_integer dc_is_integer pm_is_integer cd_is_integer ct_is_integer : Value} {od_is_integer an_is_integer : Option Addr} {sl_is_integer : Array (Option Value)} {f_is_between : Addr} {oc_is_between kV_is_between dc_is_between pm_is_between cd_is_between ct_is_between : Value} {od_is_between an_is_between : Option Addr} {sl_is_between : Array (Option Value)} {f_rows_in : Addr} {oc_rows_in kV_rows_in dc_rows_in pm_rows_in cd_rows_in ct_rows_in : Value} {od_rows_in an_rows_in : Option Addr} {sl_rows_in : Array (Option Value)} {f_copied_row : Addr} {oc_copied_row kV_copied_row dc_copied_row pm_copied_row cd_copied_row ct_copied_row : Value} {od_copied_row an_copied_row : Option Addr} {sl_copied_row : Array (Option Value)} {f_is_row : Addr} {oc_is_row kV_is_row dc_is_row pm_is_row cd_is_row ct_is_row : Value} {od_is_row an_is_row : Option Addr} {sl_is_row : Array (Option Value)} {f__checked_rows : Addr} {oc__checked_rows kV__checked_rows dc__checked_rows pm__checked_rows cd__checked_rows ct__checked_rows : Value} {od__checked_rows an__checked_rows : Option Addr} {sl__checked_rows : Array (Option Value)} {f__is_signs : Addr} {oc__is_signs kV__is_signs dc__is_signs pm__is_signs cd__is_signs ct__is_signs : Value} {od__is_signs an__is_signs : Option Addr} {sl__is_signs : Array (Option Value)} {f__is_parts : Addr} {oc__is_parts kV__is_parts dc__is_parts pm__is_parts cd__is_parts ct__is_parts : Value} {od__is_parts an__is_parts : Option Addr} {sl__is_parts : Array (Option Value)} {f_check_doc : Addr} {oc_check_doc kV_check_doc dc_check_doc pm_check_doc cd_check_doc ct_check_doc : Value} {od_check_doc an_check_doc : Option Addr} {sl_check_doc : Array (Option Value)} {f_check_number : Addr} {oc_check_number kV_check_number dc_check_number pm_check_number cd_check_number ct_check_number : Value} {od_check_number an_check_number : Option Addr} {sl_check_number : Array (Option Value)} {f_rows_on_path : Addr} {oc_rows_on_path kV_rows_on_path dc_rows_on_path pm_rows_on_path cd_rows_on_path ct_rows_on_path : Value} {od_rows_on_path an_rows_on_path : Option Addr} {sl_rows_on_path : Array (Option Value)} {f_count_all : Addr} {oc_count_all kV_count_all dc_count_all pm_count_all cd_count_all ct_count_all : Value} {od_count_all an_count_all : Option Addr} {sl_count_all : Array (Option Value)} {f_count_ahead : Addr} {oc_count_ahead kV_count_ahead dc_count_ahead pm_count_ahead cd_count_ahead ct_count_ahead : Value} {od_count_ahead an_count_ahead : Option Addr} {sl_count_ahead : Array (Option Value)} {f_path_of_number : Addr} {oc_path_of_number kV_path_of_number dc_path_of_number pm_path_of_number cd_path_of_number ct_path_of_number : Value} {od_path_of_number an_path_of_number : Option Addr} {sl_path_of_number : Array (Option Value)} {f__is_chosen : Addr} {oc__is_chosen kV__is_chosen dc__is_chosen pm__is_chosen cd__is_chosen ct__is_chosen : Value} {od__is_chosen an__is_chosen : Option Addr} {sl__is_chosen : Array (Option Value)} {f__counts_below : Addr} {oc__counts_below kV__counts_below dc__counts_below pm__counts_below cd__counts_below ct__counts_below : Value} {od__counts_below an__counts_below : Option Addr} {sl__counts_below : Array (Option Value)} {f_facts_of : Addr} {oc_facts_of kV_facts_of dc_facts_of pm_facts_of cd_facts_of ct_facts_of : Value} {od_facts_of an_facts_of : Option Addr} {sl_facts_of : Array (Option Value)} {f__new_facts : Addr} {oc__new_facts kV__new_facts dc__new_facts pm__new_facts cd__new_facts ct__new_facts : Value} {od__new_facts an__new_facts : Option Addr} {sl__new_facts : Array (Option Value)} {f_kind_total : Addr} {oc_kind_total kV_kind_total dc_kind_total pm_kind_total cd_kind_total ct_kind_total : Value} {od_kind_total an_kind_total : Option Addr} {sl_kind_total : Array (Option Value)} {f_path_of_kind : Addr} {oc_path_of_kind kV_path_of_kind dc_path_of_kind pm_path_of_kind cd_path_of_kind ct_path_of_kind : Value} {od_path_of_kind an_path_of_kind : Option Addr} {sl_path_of_kind : Array (Option Value)} {f_kinds_before : Addr} {oc_kinds_before kV_kinds_before dc_kinds_before pm_kinds_before cd_kinds_before ct_kinds_before : Value} {od_kinds_before an_kinds_before : Option Addr} {sl_kinds_before : Array (Option Value)} {f__checked_kind : Addr} {oc__checked_kind kV__checked_kind dc__checked_kind pm__checked_kind cd__checked_kind ct__checked_kind : Value} {od__checked_kind an__checked_kind : Option Addr} {sl__checked_kind : Array (Option Value)} {f__checked_path : Addr} {oc__checked_path kV__checked_path dc__checked_path pm__checked_path cd__checked_path ct__checked_path : Value} {od__checked_path an__checked_path : Option Addr} {sl__checked_path : Array (Option Value)} {f_node_total : Addr} {oc_node_total kV_node_total dc_node_total pm_node_total cd_node_total ct_node_total : Value} {od_node_total an_node_total : Option Addr} {sl_node_total : Array (Option Value)} {f_group_total : Addr} {oc_group_total kV_group_total dc_group_total pm_group_total cd_group_total ct_group_total : Value} {od_group_total an_group_total : Option Addr} {sl_group_total : Array (Option Value)} {f__law_well : Addr} {oc__law_well kV__law_well dc__law_well pm__law_well cd__law_well ct__law_well : Value} {od__law_well an__law_well : Option Addr} {sl__law_well : Array (Option Value)} {f__law_draw : Addr} {oc__law_draw kV__law_draw dc__law_draw pm__law_draw cd__law_draw ct__law_draw : Value} {od__law_draw an__law_draw : Option Addr} {sl__law_draw : Array (Option Value)} {f__law_pick : Addr} {oc__law_pick kV__law_pick dc__law_pick pm__law_pick cd__law_pick ct__law_pick : Value} {od__law_pick an__law_pick : Option Addr} {sl__law_pick : Array (Option Value)} {f__law_below : Addr} {oc__law_below kV__law_below dc__law_below pm__law_below cd__law_below ct__law_below : Value} {od__law_below an__law_below : Option Addr} {sl__law_below : Array (Option Value)} {f__law_row : Addr} {oc__law_row kV__law_row dc__law_row pm__law_row cd__law_row ct__law_row : Value} {od__law_row an__law_row : Option Addr} {sl__law_row : Array (Option Value)} {f__law_rows : Addr} {oc__law_rows kV__law_rows dc__law_rows pm__law_rows cd__law_rows ct__law_rows : Value} {od__law_rows an__law_rows : Option Addr} {sl__law_rows : Array (Option Value)} {f__law_nodes : Addr} {oc__law_nodes kV__law_nodes dc__law_nodes pm__law_nodes cd__law_nodes ct__law_nodes : Value} {od__law_nodes an__law_nodes : Option Addr} {sl__law_nodes : Array (Option Value)} {f__law_is_refused : Addr} {oc__law_is_refused kV__law_is_refused dc__law_is_refused pm__law_is_refused cd__law_is_refused ct__law_is_refused : Value} {od__law_is_refused an__law_is_refused : Option Addr} {sl__law_is_refused : Array (Option Value)} {f__law_right : Addr} {oc__law_right kV__law_right dc__law_right pm__law_right cd__law_right ct__law_right : Value} {od__law_right an__law_right : Option Addr} {sl__law_right : Array (Option Value)} {f_law : Addr} {oc_law kV_law dc_law pm_law cd_law ct_law : Value} {od_law an_law : Option Addr} {sl_law : Array (Option Value)} {t_MOST_ROWS : Tok} {t_MOST_PARTS : Tok} {t_MOST_NEST : Tok} {t_MOST_TEXT_SIGNS : Tok} {t_MOST_LINE_SIGNS : Tok} {D_ROW_LENGTHS : Addr} {es_ROW_LENGTHS : Array DictEntry} {n_ROW_LENGTHS : Nat} {t_ROW_LENGTHS_text : Tok} {t_ROW_LENGTHS_line : Tok} {t_ROW_LENGTHS_hard : Tok} {t_ROW_LENGTHS_cat : Tok} {t_ROW_LENGTHS_nest : Tok} {t_ROW_LENGTHS_align : Tok} {t_ROW_LENGTHS_group : Tok} {t_MOST_WIDTH : Tok} {t_ALL : Tok} {t_BARE : Tok} {t_LOOSE : Tok} {t_HARD : Tok} {D_LEAF_BREAKS : Addr} {es_LEAF_BREAKS : Array DictEntry} {n_LEAF_BREAKS : Nat} {t_LEAF_BREAKS_line : Tok} {t_LEAF_BREAKS_hard : Tok} {D_LONE : Addr} {td_LONE : Option Addr} {ti_LONE : Array Value} {tn_LONE : Nat} {ts_LONE : Array (Option Value)} {D_BROKEN_LINE : Addr} {td_BROKEN_LINE : Option Addr} {ti_BROKEN_LINE : Array Value} {tn_BROKEN_LINE : Nat} {ts_BROKEN_LINE : Array (Option Value)}
    (a_LayoutError : PySem.W.nsIn K mainGlobals "LayoutError" = some (some (.ref C_LayoutError)))
    (a_InvalidDoc : PySem.W.nsIn K mainGlobals "InvalidDoc" = some (some (.ref C_InvalidDoc)))
    (a_InvalidPath : PySem.W.nsIn K mainGlobals "InvalidPath" = some (some (.ref C_InvalidPath)))
    (a_InvalidBound : PySem.W.nsIn K mainGlobals "InvalidBound" = some (some (.ref C_InvalidBound)))
    (a_Doc : PySem.W.nsIn K mainGlobals "Doc" = some (some (.ref C_Doc)))
    (a_Row : PySem.W.nsIn K mainGlobals "Row" = some (some (.ref C_Row)))
    (a_Facts : PySem.W.nsIn K mainGlobals "Facts" = some (some (.ref C_Facts)))
    (fi_Doc___init__ : PySem.W.findIn K (.ref C_Doc) "__init__" = some (some (.ref f_Doc___init__)))
    (fi_Doc___eq__ : PySem.W.findIn K (.ref C_Doc) "__eq__" = some (some (.ref f_Doc___eq__)))
    (fi_Doc_row_list : PySem.W.findIn K (.ref C_Doc) "row_list" = some (some (.ref f_Doc_row_list)))
    (fi_Row___init__ : PySem.W.findIn K (.ref C_Row) "__init__" = some (some (.ref f_Row___init__)))
    (fi_Row__add_kind : PySem.W.findIn K (.ref C_Row) "_add_kind" = some (some (.ref f_Row__add_kind)))
    (fi_Row__add_groups : PySem.W.findIn K (.ref C_Row) "_add_groups" = some (some (.ref f_Row__add_groups)))
    (fi_Row__add_steps : PySem.W.findIn K (.ref C_Row) "_add_steps" = some (some (.ref f_Row__add_steps)))
    (fi_Row__add_bases : PySem.W.findIn K (.ref C_Row) "_add_bases" = some (some (.ref f_Row__add_bases)))
    (fi_Facts___init__ : PySem.W.findIn K (.ref C_Facts) "__init__" = some (some (.ref f_Facts___init__)))
    (fi_InvalidBound___init__ : PySem.W.findIn K (.ref C_InvalidBound) "__init__" = some (some (.ref f_InvalidBound___init__)))
    (fi__wall : PySem.W.nsIn K mainGlobals "_wall" = some (some (.ref f__wall)))
    (fi__shown : PySem.W.nsIn K mainGlobals "_shown" = some (some (.ref f__shown)))
    (fi_is_integer : PySem.W.nsIn K mainGlobals "is_integer" = some (some (.ref f_is_integer)))
    (fi_is_between : PySem.W.nsIn K mainGlobals "is_between" = some (some (.ref f_is_between)))
    (fi_rows_in : PySem.W.nsIn K mainGlobals "rows_in" = some (some (.ref f_rows_in)))
    (fi_copied_row : PySem.W.nsIn K mainGlobals "copied_row" = some (some (.ref f_copied_row)))
    (fi_is_row : PySem.W.nsIn K mainGlobals "is_row" = some (some (.ref f_is_row)))
    (fi__checked_rows : PySem.W.nsIn K mainGlobals "_checked_rows" = some (some (.ref f__checked_rows)))
    (fi__is_signs : PySem.W.nsIn K mainGlobals "_is_signs" = some (some (.ref f__is_signs)))
    (fi__is_parts : PySem.W.nsIn K mainGlobals "_is_parts" = some (some (.ref f__is_parts)))
    (fi_check_doc : PySem.W.nsIn K mainGlobals "check_doc" = some (some (.ref f_check_doc)))
    (fi_check_number : PySem.W.nsIn K mainGlobals "check_number" = some (some (.ref f_check_number)))
    (fi_rows_on_path : PySem.W.nsIn K mainGlobals "rows_on_path" = some (some (.ref f_rows_on_path)))
    (fi_count_all : PySem.W.nsIn K mainGlobals "count_all" = some (some (.ref f_count_all)))
    (fi_count_ahead : PySem.W.nsIn K mainGlobals "count_ahead" = some (some (.ref f_count_ahead)))
    (fi_path_of_number : PySem.W.nsIn K mainGlobals "path_of_number" = some (some (.ref f_path_of_number)))
    (fi__is_chosen : PySem.W.nsIn K mainGlobals "_is_chosen" = some (some (.ref f__is_chosen)))
    (fi__counts_below : PySem.W.nsIn K mainGlobals "_counts_below" = some (some (.ref f__counts_below)))
    (fi_facts_of : PySem.W.nsIn K mainGlobals "facts_of" = some (some (.ref f_facts_of)))
    (fi__new_facts : PySem.W.nsIn K mainGlobals "_new_facts" = some (some (.ref f__new_facts)))
    (fi_kind_total : PySem.W.nsIn K mainGlobals "kind_total" = some (some (.ref f_kind_total)))
    (fi_path_of_kind : PySem.W.nsIn K mainGlobals "path_of_kind" = some (some (.ref f_path_of_kind)))
    (fi_kinds_before : PySem.W.nsIn K mainGlobals "kinds_before" = some (some (.ref f_kinds_before)))
    (fi__checked_kind : PySem.W.nsIn K mainGlobals "_checked_kind" = some (some (.ref f__checked_kind)))
    (fi__checked_path : PySem.W.nsIn K mainGlobals "_checked_path" = some (some (.ref f__checked_path)))
    (fi_node_total : PySem.W.nsIn K mainGlobals "node_total" = some (some (.ref f_node_total)))
    (fi_group_total : PySem.W.nsIn K mainGlobals "group_total" = some (some (.ref f_group_total)))
    (fi__law_well : PySem.W.nsIn K mainGlobals "_law_well" = some (some (.ref f__law_well)))
    (fi__law_draw : PySem.W.nsIn K mainGlobals "_law_draw" = some (some (.ref f__law_draw)))
    (fi__law_pick : PySem.W.nsIn K mainGlobals "_law_pick" = some (some (.ref f__law_pick)))
    (fi__law_below : PySem.W.nsIn K mainGlobals "_law_below" = some (some (.ref f__law_below)))
    (fi__law_row : PySem.W.nsIn K mainGlobals "_law_row" = some (some (.ref f__law_row)))
    (fi__law_rows : PySem.W.nsIn K mainGlobals "_law_rows" = some (some (.ref f__law_rows)))
    (fi__law_nodes : PySem.W.nsIn K mainGlobals "_law_nodes" = some (some (.ref f__law_nodes)))
    (fi__law_is_refused : PySem.W.nsIn K mainGlobals "_law_is_refused" = some (some (.ref f__law_is_refused)))
    (fi__law_right : PySem.W.nsIn K mainGlobals "_law_right" = some (some (.ref f__law_right)))
    (fi_law : PySem.W.nsIn K mainGlobals "law" = some (some (.ref f_law)))
    (pg_Doc : PySem.W.plainGet K C_Doc Str.empty = true)
    (hd_Doc : PySem.W.hasDictIn K C_Doc = true)
    (po_Doc : PySem.W.plainOver K C_Doc = true)
    (sa_Doc : PySem.W.findIn K (.ref C_Doc) "__setattr__" = some (some (.builtin "object.__setattr__")))
    (mk_Doc : PySem.W.makesIn K C_Doc = true)
    (kc_Doc : PySem.W.keepIn K (.ref C_Doc) = true)
    (na_Doc__rows : PySem.W.findIn K (.ref C_Doc) "_rows" = some none)
    (na_Doc_facts : PySem.W.findIn K (.ref C_Doc) "facts" = some none)
    (na_Doc_group_facts : PySem.W.findIn K (.ref C_Doc) "group_facts" = some none)
    (i_Doc_1 : PySem.W.findIn K (.ref C_Doc) "__class__" = some (some (.builtin "object.__class__")))
    (i_Doc_2 : PySem.W.specialIn K (.builtin "object.__class__") "__get__" = some (some (.builtin "getset_descriptor.__get__")))
    (i_Doc_3 : PySem.W.takesIn K (.builtin "object.__class__") = some true)
    (i_Doc_4 : PySem.W.mroIn K C_Doc (.type "object") = some true)
    (ic_Doc : PySem.W.isClsIn K C_Doc = true)
    (tc_Doc : PySem.W.typeIn K (.ref C_Doc) = some (.type "type"))
    (i_Doc_6 : PySem.W.subIn K (.type "int") (.ref C_Doc) = some false)
    (i_Doc_7 : PySem.W.subIn K (.type "NoneType") (.ref C_Doc) = some false)
    (i_Doc_8 : PySem.W.subIn K (.type "list") (.ref C_Doc) = some false)
    (i_Doc_9 : PySem.W.notFirst K C_Doc (.ref C_Doc) = true)
    (i_Doc_10 : PySem.W.notFirst K C_Doc (.type "int") = true)
    (i_Doc_11 : PySem.W.notFirst K C_Doc (.type "NoneType") = true)
    (i_Doc_12 : PySem.W.notFirst K C_Doc (.type "list") = true)
    (is_Doc___init__ : PySem.W.isFn K (.ref f_Doc___init__) = true)
    (l_Doc___init__ : K.lookup f_Doc___init__ = some ⟨oc_Doc___init__, od_Doc___init__, .func (PySem.W.fnOf "__init__" "Doc.__init__" (defArgs s_Doc___init__) (defBody s_Doc___init__) (defScope s_Doc___init__) .none kV_Doc___init__ dc_Doc___init__ pm_Doc___init__ an_Doc___init__ cd_Doc___init__ ct_Doc___init__), sl_Doc___init__⟩)
    (cn_Doc___init__ : PySem.W.codeIn K cd_Doc___init__ "Doc.__init__" = true)
    (kp_Doc___init__ : PySem.W.keepIn K (.ref f_Doc___init__) = true)
    (is_Doc___eq__ : PySem.W.isFn K (.ref f_Doc___eq__) = true)
    (l_Doc___eq__ : K.lookup f_Doc___eq__ = some ⟨oc_Doc___eq__, od_Doc___eq__, .func (PySem.W.fnOf "__eq__" "Doc.__eq__" (defArgs s_Doc___eq__) (defBody s_Doc___eq__) (defScope s_Doc___eq__) .none kV_Doc___eq__ dc_Doc___eq__ pm_Doc___eq__ an_Doc___eq__ cd_Doc___eq__ ct_Doc___eq__), sl_Doc___eq__⟩)
    (cn_Doc___eq__ : PySem.W.codeIn K cd_Doc___eq__ "Doc.__eq__" = true)
    (kp_Doc___eq__ : PySem.W.keepIn K (.ref f_Doc___eq__) = true)
    (is_Doc_row_list : PySem.W.isFn K (.ref f_Doc_row_list) = true)
    (l_Doc_row_list : K.lookup f_Doc_row_list = some ⟨oc_Doc_row_list, od_Doc_row_list, .func (PySem.W.fnOf "row_list" "Doc.row_list" (defArgs s_Doc_row_list) (defBody s_Doc_row_list) (defScope s_Doc_row_list) .none kV_Doc_row_list dc_Doc_row_list pm_Doc_row_list an_Doc_row_list cd_Doc_row_list ct_Doc_row_list), sl_Doc_row_list⟩)
    (cn_Doc_row_list : PySem.W.codeIn K cd_Doc_row_list "Doc.row_list" = true)
    (kp_Doc_row_list : PySem.W.keepIn K (.ref f_Doc_row_list) = true)
    (pg_Row : PySem.W.plainGet K C_Row Str.empty = true)
    (hd_Row : PySem.W.hasDictIn K C_Row = true)
    (po_Row : PySem.W.plainOver K C_Row = true)
    (sa_Row : PySem.W.findIn K (.ref C_Row) "__setattr__" = some (some (.builtin "object.__setattr__")))
    (mk_Row : PySem.W.makesIn K C_Row = true)
    (kc_Row : PySem.W.keepIn K (.ref C_Row) = true)
    (na_Row_number : PySem.W.findIn K (.ref C_Row) "number" = some none)
    (na_Row_kind : PySem.W.findIn K (.ref C_Row) "kind" = some none)
    (na_Row_parts : PySem.W.findIn K (.ref C_Row) "parts" = some none)
    (na_Row_string : PySem.W.findIn K (.ref C_Row) "string" = some none)
    (na_Row_more : PySem.W.findIn K (.ref C_Row) "more" = some none)
    (na_Row_wide : PySem.W.findIn K (.ref C_Row) "wide" = some none)
    (na_Row_lead : PySem.W.findIn K (.ref C_Row) "lead" = some none)
    (na_Row_breaks : PySem.W.findIn K (.ref C_Row) "breaks" = some none)
    (na_Row_groups : PySem.W.findIn K (.ref C_Row) "groups" = some none)
    (na_Row_is_still : PySem.W.findIn K (.ref C_Row) "is_still" = some none)
    (na_Row_inner : PySem.W.findIn K (.ref C_Row) "inner" = some none)
    (na_Row_matters : PySem.W.findIn K (.ref C_Row) "matters" = some none)
    (na_Row_ends : PySem.W.findIn K (.ref C_Row) "ends" = some none)
    (na_Row_has_last : PySem.W.findIn K (.ref C_Row) "has_last" = some none)
    (na_Row_steps : PySem.W.findIn K (.ref C_Row) "steps" = some none)
    (na_Row_known : PySem.W.findIn K (.ref C_Row) "known" = some none)
    (na_Row_opened : PySem.W.findIn K (.ref C_Row) "opened" = some none)
    (i_Row_1 : PySem.W.findIn K (.ref C_Row) "__class__" = some (some (.builtin "object.__class__")))
    (i_Row_2 : PySem.W.specialIn K (.builtin "object.__class__") "__get__" = some (some (.builtin "getset_descriptor.__get__")))
    (i_Row_3 : PySem.W.takesIn K (.builtin "object.__class__") = some true)
    (i_Row_4 : PySem.W.mroIn K C_Row (.type "object") = some true)
    (ic_Row : PySem.W.isClsIn K C_Row = true)
    (tc_Row : PySem.W.typeIn K (.ref C_Row) = some (.type "type"))
    (i_Row_6 : PySem.W.subIn K (.type "int") (.ref C_Row) = some false)
    (i_Row_7 : PySem.W.subIn K (.type "NoneType") (.ref C_Row) = some false)
    (i_Row_8 : PySem.W.subIn K (.type "list") (.ref C_Row) = some false)
    (i_Row_9 : PySem.W.notFirst K C_Row (.ref C_Row) = true)
    (i_Row_10 : PySem.W.notFirst K C_Row (.type "int") = true)
    (i_Row_11 : PySem.W.notFirst K C_Row (.type "NoneType") = true)
    (i_Row_12 : PySem.W.notFirst K C_Row (.type "list") = true)
    (is_Row___init__ : PySem.W.isFn K (.ref f_Row___init__) = true)
    (l_Row___init__ : K.lookup f_Row___init__ = some ⟨oc_Row___init__, od_Row___init__, .func (PySem.W.fnOf "__init__" "Row.__init__" (defArgs s_Row___init__) (defBody s_Row___init__) (defScope s_Row___init__) .none kV_Row___init__ dc_Row___init__ pm_Row___init__ an_Row___init__ cd_Row___init__ ct_Row___init__), sl_Row___init__⟩)
    (cn_Row___init__ : PySem.W.codeIn K cd_Row___init__ "Row.__init__" = true)
    (kp_Row___init__ : PySem.W.keepIn K (.ref f_Row___init__) = true)
    (is_Row__add_kind : PySem.W.isFn K (.ref f_Row__add_kind) = true)
    (l_Row__add_kind : K.lookup f_Row__add_kind = some ⟨oc_Row__add_kind, od_Row__add_kind, .func (PySem.W.fnOf "_add_kind" "Row._add_kind" (defArgs s_Row__add_kind) (defBody s_Row__add_kind) (defScope s_Row__add_kind) .none kV_Row__add_kind dc_Row__add_kind pm_Row__add_kind an_Row__add_kind cd_Row__add_kind ct_Row__add_kind), sl_Row__add_kind⟩)
    (cn_Row__add_kind : PySem.W.codeIn K cd_Row__add_kind "Row._add_kind" = true)
    (kp_Row__add_kind : PySem.W.keepIn K (.ref f_Row__add_kind) = true)
    (is_Row__add_groups : PySem.W.isFn K (.ref f_Row__add_groups) = true)
    (l_Row__add_groups : K.lookup f_Row__add_groups = some ⟨oc_Row__add_groups, od_Row__add_groups, .func (PySem.W.fnOf "_add_groups" "Row._add_groups" (defArgs s_Row__add_groups) (defBody s_Row__add_groups) (defScope s_Row__add_groups) .none kV_Row__add_groups dc_Row__add_groups pm_Row__add_groups an_Row__add_groups cd_Row__add_groups ct_Row__add_groups), sl_Row__add_groups⟩)
    (cn_Row__add_groups : PySem.W.codeIn K cd_Row__add_groups "Row._add_groups" = true)
    (kp_Row__add_groups : PySem.W.keepIn K (.ref f_Row__add_groups) = true)
    (is_Row__add_steps : PySem.W.isFn K (.ref f_Row__add_steps) = true)
    (l_Row__add_steps : K.lookup f_Row__add_steps = some ⟨oc_Row__add_steps, od_Row__add_steps, .func (PySem.W.fnOf "_add_steps" "Row._add_steps" (defArgs s_Row__add_steps) (defBody s_Row__add_steps) (defScope s_Row__add_steps) .none kV_Row__add_steps dc_Row__add_steps pm_Row__add_steps an_Row__add_steps cd_Row__add_steps ct_Row__add_steps), sl_Row__add_steps⟩)
    (cn_Row__add_steps : PySem.W.codeIn K cd_Row__add_steps "Row._add_steps" = true)
    (kp_Row__add_steps : PySem.W.keepIn K (.ref f_Row__add_steps) = true)
    (is_Row__add_bases : PySem.W.isFn K (.ref f_Row__add_bases) = true)
    (l_Row__add_bases : K.lookup f_Row__add_bases = some ⟨oc_Row__add_bases, od_Row__add_bases, .func (PySem.W.fnOf "_add_bases" "Row._add_bases" (defArgs s_Row__add_bases) (defBody s_Row__add_bases) (defScope s_Row__add_bases) .none kV_Row__add_bases dc_Row__add_bases pm_Row__add_bases an_Row__add_bases cd_Row__add_bases ct_Row__add_bases), sl_Row__add_bases⟩)
    (cn_Row__add_bases : PySem.W.codeIn K cd_Row__add_bases "Row._add_bases" = true)
    (kp_Row__add_bases : PySem.W.keepIn K (.ref f_Row__add_bases) = true)
    (pg_Facts : PySem.W.plainGet K C_Facts Str.empty = true)
    (hd_Facts : PySem.W.hasDictIn K C_Facts = true)
    (po_Facts : PySem.W.plainOver K C_Facts = true)
    (sa_Facts : PySem.W.findIn K (.ref C_Facts) "__setattr__" = some (some (.builtin "object.__setattr__")))
    (mk_Facts : PySem.W.makesIn K C_Facts = true)
    (kc_Facts : PySem.W.keepIn K (.ref C_Facts) = true)
    (na_Facts_rows : PySem.W.findIn K (.ref C_Facts) "rows" = some none)
    (na_Facts_last : PySem.W.findIn K (.ref C_Facts) "last" = some none)
    (na_Facts_counts_groups : PySem.W.findIn K (.ref C_Facts) "counts_groups" = some none)
    (na_Facts_laids : PySem.W.findIn K (.ref C_Facts) "laids" = some none)
    (na_Facts_counts : PySem.W.findIn K (.ref C_Facts) "counts" = some none)
    (na_Facts_mosts : PySem.W.findIn K (.ref C_Facts) "mosts" = some none)
    (na_Facts_flats : PySem.W.findIn K (.ref C_Facts) "flats" = some none)
    (na_Facts_flips : PySem.W.findIn K (.ref C_Facts) "flips" = some none)
    (na_Facts_agreed : PySem.W.findIn K (.ref C_Facts) "agreed" = some none)
    (na_Facts_alike : PySem.W.findIn K (.ref C_Facts) "alike" = some none)
    (na_Facts_latest : PySem.W.findIn K (.ref C_Facts) "latest" = some none)
    (na_Facts_is_new : PySem.W.findIn K (.ref C_Facts) "is_new" = some none)
    (i_Facts_1 : PySem.W.findIn K (.ref C_Facts) "__class__" = some (some (.builtin "object.__class__")))
    (i_Facts_2 : PySem.W.specialIn K (.builtin "object.__class__") "__get__" = some (some (.builtin "getset_descriptor.__get__")))
    (i_Facts_3 : PySem.W.takesIn K (.builtin "object.__class__") = some true)
    (i_Facts_4 : PySem.W.mroIn K C_Facts (.type "object") = some true)
    (ic_Facts : PySem.W.isClsIn K C_Facts = true)
    (tc_Facts : PySem.W.typeIn K (.ref C_Facts) = some (.type "type"))
    (i_Facts_6 : PySem.W.subIn K (.type "int") (.ref C_Facts) = some false)
    (i_Facts_7 : PySem.W.subIn K (.type "NoneType") (.ref C_Facts) = some false)
    (i_Facts_8 : PySem.W.subIn K (.type "list") (.ref C_Facts) = some false)
    (i_Facts_9 : PySem.W.notFirst K C_Facts (.ref C_Facts) = true)
    (i_Facts_10 : PySem.W.notFirst K C_Facts (.type "int") = true)
    (i_Facts_11 : PySem.W.notFirst K C_Facts (.type "NoneType") = true)
    (i_Facts_12 : PySem.W.notFirst K C_Facts (.type "list") = true)
    (is_Facts___init__ : PySem.W.isFn K (.ref f_Facts___init__) = true)
    (l_Facts___init__ : K.lookup f_Facts___init__ = some ⟨oc_Facts___init__, od_Facts___init__, .func (PySem.W.fnOf "__init__" "Facts.__init__" (defArgs s_Facts___init__) (defBody s_Facts___init__) (defScope s_Facts___init__) .none kV_Facts___init__ dc_Facts___init__ pm_Facts___init__ an_Facts___init__ cd_Facts___init__ ct_Facts___init__), sl_Facts___init__⟩)
    (cn_Facts___init__ : PySem.W.codeIn K cd_Facts___init__ "Facts.__init__" = true)
    (kp_Facts___init__ : PySem.W.keepIn K (.ref f_Facts___init__) = true)
    (sup_rd : PySem.W.readsIn K C_LayoutError (.type "type") = true)
    (sup_ga : PySem.W.specialIn K (.ref C_LayoutError) "__getattribute__" = some (some (.builtin "type.__getattribute__")))
    (sup_at : PySem.W.findCls K (.ref C_LayoutError) (.type "type") "__init__" = some (.val (.builtin "ArithmeticError.__init__")))
    (sup_ex : PySem.W.subIn K (.ref C_LayoutError) (.type "BaseException") = some true)
    (sup_hd : PySem.W.hasDictIn K C_LayoutError = true)
    (sup_ty : PySem.W.typeIn K (.ref C_LayoutError) = some (.type "type"))
    (exg_n : PySem.W.specialIn K (.builtin "object.__class__") "__get__" = some (some (.builtin "getset_descriptor.__get__")))
    (exg_t : PySem.W.takesIn K (.builtin "object.__class__") = some true)
    (ec_InvalidBound : K.lookup C_InvalidBound = some (excClassObj enm_InvalidBound eq_InvalidBound C_InvalidBound eN_InvalidBound ebs_InvalidBound ebm_InvalidBound true esn_InvalidBound esub_InvalidBound eab_InvalidBound ecol_InvalidBound edd_InvalidBound ek0_InvalidBound ek1_InvalidBound ek2_InvalidBound ek3_InvalidBound ek5_InvalidBound "ArithmeticError.__new__"))
    (eo_InvalidBound : AX.overA ebm_InvalidBound = true)
    (esa_InvalidBound : PySem.W.findIn K (.ref C_InvalidBound) "__setattr__" = some (some (.builtin "object.__setattr__")))
    (eex_InvalidBound : PySem.W.subIn K (.ref C_InvalidBound) (.type "BaseException") = some true)
    (ety_InvalidBound : PySem.W.typeIn K (.ref C_InvalidBound) = some (.type "type"))
    (ekp_InvalidBound : PySem.W.keepIn K (.ref C_InvalidBound) = true)
    (xg_InvalidBound : PySem.W.findIn K (.ref C_InvalidBound) "__getattribute__" = some (some (.builtin "BaseException.__getattribute__")))
    (xk_InvalidBound : PySem.W.findIn K (.ref C_InvalidBound) "__getattr__" = some none)
    (xd_InvalidBound : PySem.W.hasDictIn K C_InvalidBound = true)
    (xa_InvalidBound : PySem.W.findIn K (.ref C_InvalidBound) "__class__" = some (some (.builtin "object.__class__")))
    (xm_InvalidBound : PySem.W.mroIn K C_InvalidBound (.type "object") = some true)
    (xs_InvalidBound : PySem.W.subIn K (.ref C_InvalidBound) (.ref C_LayoutError) = some true)
    (kt_InvalidBound_Arith : PySem.W.kitOne K (.ref C_InvalidBound) (.type "ArithmeticError") = some true)
    (na_InvalidBound_argument : PySem.W.findIn K (.ref C_InvalidBound) "argument" = some none)
    (kt_InvalidBound_InvalidDoc : PySem.W.kitOne K (.ref C_InvalidBound) (.ref C_InvalidDoc) = some false)
    (kt_InvalidBound_InvalidPath : PySem.W.kitOne K (.ref C_InvalidBound) (.ref C_InvalidPath) = some false)
    (l_InvalidBound___init__ : K.lookup f_InvalidBound___init__ = some ⟨oc_InvalidBound___init__, od_InvalidBound___init__, .func (PySem.W.fnOf "__init__" "InvalidBound.__init__" (defArgs s_InvalidBound___init__) (defBody s_InvalidBound___init__) (defScope s_InvalidBound___init__) .none kV_InvalidBound___init__ dc_InvalidBound___init__ pm_InvalidBound___init__ an_InvalidBound___init__ cd_InvalidBound___init__ ct_InvalidBound___init__), sl_InvalidBound___init__⟩)
    (cn_InvalidBound___init__ : PySem.W.codeIn K cd_InvalidBound___init__ "InvalidBound.__init__" = true)
    (kp_InvalidBound___init__ : PySem.W.keepIn K (.ref f_InvalidBound___init__) = true)
    (tyf_InvalidBound___init__ : PySem.W.typeIn K (.ref f_InvalidBound___init__) = some (.type "function"))
    (l__wall : K.lookup f__wall = some ⟨oc__wall, od__wall, .func (PySem.W.fnOf "_wall" "_wall" (defArgs s__wall) (defBody s__wall) (defScope s__wall) .none kV__wall dc__wall pm__wall an__wall cd__wall ct__wall), sl__wall⟩)
    (cn__wall : PySem.W.codeIn K cd__wall "_wall" = true)
    (kp__wall : PySem.W.keepIn K (.ref f__wall) = true)
    (l__shown : K.lookup f__shown = some ⟨oc__shown, od__shown, .func (PySem.W.fnOf "_shown" "_shown" (defArgs s__shown) (defBody s__shown) (defScope s__shown) .none kV__shown dc__shown pm__shown an__shown cd__shown ct__shown), sl__shown⟩)
    (cn__shown : PySem.W.codeIn K cd__shown "_shown" = true)
    (kp__shown : PySem.W.keepIn K (.ref f__shown) = true)
    (l_is_integer : K.lookup f_is_integer = some ⟨oc_is_integer, od_is_integer, .func (PySem.W.fnOf "is_integer" "is_integer" (defArgs s_is_integer) (defBody s_is_integer) (defScope s_is_integer) .none kV_is_integer dc_is_integer pm_is_integer an_is_integer cd_is_integer ct_is_integer), sl_is_integer⟩)
    (cn_is_integer : PySem.W.codeIn K cd_is_integer "is_integer" = true)
    (kp_is_integer : PySem.W.keepIn K (.ref f_is_integer) = true)
    (l_is_between : K.lookup f_is_between = some ⟨oc_is_between, od_is_between, .func (PySem.W.fnOf "is_between" "is_between" (defArgs s_is_between) (defBody s_is_between) (defScope s_is_between) .none kV_is_between dc_is_between pm_is_between an_is_between cd_is_between ct_is_between), sl_is_between⟩)
    (cn_is_between : PySem.W.codeIn K cd_is_between "is_between" = true)
    (kp_is_between : PySem.W.keepIn K (.ref f_is_between) = true)
    (l_rows_in : K.lookup f_rows_in = some ⟨oc_rows_in, od_rows_in, .func (PySem.W.fnOf "rows_in" "rows_in" (defArgs s_rows_in) (defBody s_rows_in) (defScope s_rows_in) .none kV_rows_in dc_rows_in pm_rows_in an_rows_in cd_rows_in ct_rows_in), sl_rows_in⟩)
    (cn_rows_in : PySem.W.codeIn K cd_rows_in "rows_in" = true)
    (kp_rows_in : PySem.W.keepIn K (.ref f_rows_in) = true)
    (l_copied_row : K.lookup f_copied_row = some ⟨oc_copied_row, od_copied_row, .func (PySem.W.fnOf "copied_row" "copied_row" (defArgs s_copied_row) (defBody s_copied_row) (defScope s_copied_row) .none kV_copied_row dc_copied_row pm_copied_row an_copied_row cd_copied_row ct_copied_row), sl_copied_row⟩)
    (cn_copied_row : PySem.W.codeIn K cd_copied_row "copied_row" = true)
    (kp_copied_row : PySem.W.keepIn K (.ref f_copied_row) = true)
    (l_is_row : K.lookup f_is_row = some ⟨oc_is_row, od_is_row, .func (PySem.W.fnOf "is_row" "is_row" (defArgs s_is_row) (defBody s_is_row) (defScope s_is_row) .none kV_is_row dc_is_row pm_is_row an_is_row cd_is_row ct_is_row), sl_is_row⟩)
    (cn_is_row : PySem.W.codeIn K cd_is_row "is_row" = true)
    (kp_is_row : PySem.W.keepIn K (.ref f_is_row) = true)
    (l__checked_rows : K.lookup f__checked_rows = some ⟨oc__checked_rows, od__checked_rows, .func (PySem.W.fnOf "_checked_rows" "_checked_rows" (defArgs s__checked_rows) (defBody s__checked_rows) (defScope s__checked_rows) .none kV__checked_rows dc__checked_rows pm__checked_rows an__checked_rows cd__checked_rows ct__checked_rows), sl__checked_rows⟩)
    (cn__checked_rows : PySem.W.codeIn K cd__checked_rows "_checked_rows" = true)
    (kp__checked_rows : PySem.W.keepIn K (.ref f__checked_rows) = true)
    (l__is_signs : K.lookup f__is_signs = some ⟨oc__is_signs, od__is_signs, .func (PySem.W.fnOf "_is_signs" "_is_signs" (defArgs s__is_signs) (defBody s__is_signs) (defScope s__is_signs) .none kV__is_signs dc__is_signs pm__is_signs an__is_signs cd__is_signs ct__is_signs), sl__is_signs⟩)
    (cn__is_signs : PySem.W.codeIn K cd__is_signs "_is_signs" = true)
    (kp__is_signs : PySem.W.keepIn K (.ref f__is_signs) = true)
    (l__is_parts : K.lookup f__is_parts = some ⟨oc__is_parts, od__is_parts, .func (PySem.W.fnOf "_is_parts" "_is_parts" (defArgs s__is_parts) (defBody s__is_parts) (defScope s__is_parts) .none kV__is_parts dc__is_parts pm__is_parts an__is_parts cd__is_parts ct__is_parts), sl__is_parts⟩)
    (cn__is_parts : PySem.W.codeIn K cd__is_parts "_is_parts" = true)
    (kp__is_parts : PySem.W.keepIn K (.ref f__is_parts) = true)
    (l_check_doc : K.lookup f_check_doc = some ⟨oc_check_doc, od_check_doc, .func (PySem.W.fnOf "check_doc" "check_doc" (defArgs s_check_doc) (defBody s_check_doc) (defScope s_check_doc) .none kV_check_doc dc_check_doc pm_check_doc an_check_doc cd_check_doc ct_check_doc), sl_check_doc⟩)
    (cn_check_doc : PySem.W.codeIn K cd_check_doc "check_doc" = true)
    (kp_check_doc : PySem.W.keepIn K (.ref f_check_doc) = true)
    (l_check_number : K.lookup f_check_number = some ⟨oc_check_number, od_check_number, .func (PySem.W.fnOf "check_number" "check_number" (defArgs s_check_number) (defBody s_check_number) (defScope s_check_number) .none kV_check_number dc_check_number pm_check_number an_check_number cd_check_number ct_check_number), sl_check_number⟩)
    (cn_check_number : PySem.W.codeIn K cd_check_number "check_number" = true)
    (kp_check_number : PySem.W.keepIn K (.ref f_check_number) = true)
    (l_rows_on_path : K.lookup f_rows_on_path = some ⟨oc_rows_on_path, od_rows_on_path, .func (PySem.W.fnOf "rows_on_path" "rows_on_path" (defArgs s_rows_on_path) (defBody s_rows_on_path) (defScope s_rows_on_path) .none kV_rows_on_path dc_rows_on_path pm_rows_on_path an_rows_on_path cd_rows_on_path ct_rows_on_path), sl_rows_on_path⟩)
    (cn_rows_on_path : PySem.W.codeIn K cd_rows_on_path "rows_on_path" = true)
    (kp_rows_on_path : PySem.W.keepIn K (.ref f_rows_on_path) = true)
    (l_count_all : K.lookup f_count_all = some ⟨oc_count_all, od_count_all, .func (PySem.W.fnOf "count_all" "count_all" (defArgs s_count_all) (defBody s_count_all) (defScope s_count_all) .none kV_count_all dc_count_all pm_count_all an_count_all cd_count_all ct_count_all), sl_count_all⟩)
    (cn_count_all : PySem.W.codeIn K cd_count_all "count_all" = true)
    (kp_count_all : PySem.W.keepIn K (.ref f_count_all) = true)
    (l_count_ahead : K.lookup f_count_ahead = some ⟨oc_count_ahead, od_count_ahead, .func (PySem.W.fnOf "count_ahead" "count_ahead" (defArgs s_count_ahead) (defBody s_count_ahead) (defScope s_count_ahead) .none kV_count_ahead dc_count_ahead pm_count_ahead an_count_ahead cd_count_ahead ct_count_ahead), sl_count_ahead⟩)
    (cn_count_ahead : PySem.W.codeIn K cd_count_ahead "count_ahead" = true)
    (kp_count_ahead : PySem.W.keepIn K (.ref f_count_ahead) = true)
    (l_path_of_number : K.lookup f_path_of_number = some ⟨oc_path_of_number, od_path_of_number, .func (PySem.W.fnOf "path_of_number" "path_of_number" (defArgs s_path_of_number) (defBody s_path_of_number) (defScope s_path_of_number) .none kV_path_of_number dc_path_of_number pm_path_of_number an_path_of_number cd_path_of_number ct_path_of_number), sl_path_of_number⟩)
    (cn_path_of_number : PySem.W.codeIn K cd_path_of_number "path_of_number" = true)
    (kp_path_of_number : PySem.W.keepIn K (.ref f_path_of_number) = true)
    (l__is_chosen : K.lookup f__is_chosen = some ⟨oc__is_chosen, od__is_chosen, .func (PySem.W.fnOf "_is_chosen" "_is_chosen" (defArgs s__is_chosen) (defBody s__is_chosen) (defScope s__is_chosen) .none kV__is_chosen dc__is_chosen pm__is_chosen an__is_chosen cd__is_chosen ct__is_chosen), sl__is_chosen⟩)
    (cn__is_chosen : PySem.W.codeIn K cd__is_chosen "_is_chosen" = true)
    (kp__is_chosen : PySem.W.keepIn K (.ref f__is_chosen) = true)
    (l__counts_below : K.lookup f__counts_below = some ⟨oc__counts_below, od__counts_below, .func (PySem.W.fnOf "_counts_below" "_counts_below" (defArgs s__counts_below) (defBody s__counts_below) (defScope s__counts_below) .none kV__counts_below dc__counts_below pm__counts_below an__counts_below cd__counts_below ct__counts_below), sl__counts_below⟩)
    (cn__counts_below : PySem.W.codeIn K cd__counts_below "_counts_below" = true)
    (kp__counts_below : PySem.W.keepIn K (.ref f__counts_below) = true)
    (l_facts_of : K.lookup f_facts_of = some ⟨oc_facts_of, od_facts_of, .func (PySem.W.fnOf "facts_of" "facts_of" (defArgs s_facts_of) (defBody s_facts_of) (defScope s_facts_of) .none kV_facts_of dc_facts_of pm_facts_of an_facts_of cd_facts_of ct_facts_of), sl_facts_of⟩)
    (cn_facts_of : PySem.W.codeIn K cd_facts_of "facts_of" = true)
    (kp_facts_of : PySem.W.keepIn K (.ref f_facts_of) = true)
    (l__new_facts : K.lookup f__new_facts = some ⟨oc__new_facts, od__new_facts, .func (PySem.W.fnOf "_new_facts" "_new_facts" (defArgs s__new_facts) (defBody s__new_facts) (defScope s__new_facts) .none kV__new_facts dc__new_facts pm__new_facts an__new_facts cd__new_facts ct__new_facts), sl__new_facts⟩)
    (cn__new_facts : PySem.W.codeIn K cd__new_facts "_new_facts" = true)
    (kp__new_facts : PySem.W.keepIn K (.ref f__new_facts) = true)
    (l_kind_total : K.lookup f_kind_total = some ⟨oc_kind_total, od_kind_total, .func (PySem.W.fnOf "kind_total" "kind_total" (defArgs s_kind_total) (defBody s_kind_total) (defScope s_kind_total) .none kV_kind_total dc_kind_total pm_kind_total an_kind_total cd_kind_total ct_kind_total), sl_kind_total⟩)
    (cn_kind_total : PySem.W.codeIn K cd_kind_total "kind_total" = true)
    (kp_kind_total : PySem.W.keepIn K (.ref f_kind_total) = true)
    (l_path_of_kind : K.lookup f_path_of_kind = some ⟨oc_path_of_kind, od_path_of_kind, .func (PySem.W.fnOf "path_of_kind" "path_of_kind" (defArgs s_path_of_kind) (defBody s_path_of_kind) (defScope s_path_of_kind) .none kV_path_of_kind dc_path_of_kind pm_path_of_kind an_path_of_kind cd_path_of_kind ct_path_of_kind), sl_path_of_kind⟩)
    (cn_path_of_kind : PySem.W.codeIn K cd_path_of_kind "path_of_kind" = true)
    (kp_path_of_kind : PySem.W.keepIn K (.ref f_path_of_kind) = true)
    (l_kinds_before : K.lookup f_kinds_before = some ⟨oc_kinds_before, od_kinds_before, .func (PySem.W.fnOf "kinds_before" "kinds_before" (defArgs s_kinds_before) (defBody s_kinds_before) (defScope s_kinds_before) .none kV_kinds_before dc_kinds_before pm_kinds_before an_kinds_before cd_kinds_before ct_kinds_before), sl_kinds_before⟩)
    (cn_kinds_before : PySem.W.codeIn K cd_kinds_before "kinds_before" = true)
    (kp_kinds_before : PySem.W.keepIn K (.ref f_kinds_before) = true)
    (l__checked_kind : K.lookup f__checked_kind = some ⟨oc__checked_kind, od__checked_kind, .func (PySem.W.fnOf "_checked_kind" "_checked_kind" (defArgs s__checked_kind) (defBody s__checked_kind) (defScope s__checked_kind) .none kV__checked_kind dc__checked_kind pm__checked_kind an__checked_kind cd__checked_kind ct__checked_kind), sl__checked_kind⟩)
    (cn__checked_kind : PySem.W.codeIn K cd__checked_kind "_checked_kind" = true)
    (kp__checked_kind : PySem.W.keepIn K (.ref f__checked_kind) = true)
    (l__checked_path : K.lookup f__checked_path = some ⟨oc__checked_path, od__checked_path, .func (PySem.W.fnOf "_checked_path" "_checked_path" (defArgs s__checked_path) (defBody s__checked_path) (defScope s__checked_path) .none kV__checked_path dc__checked_path pm__checked_path an__checked_path cd__checked_path ct__checked_path), sl__checked_path⟩)
    (cn__checked_path : PySem.W.codeIn K cd__checked_path "_checked_path" = true)
    (kp__checked_path : PySem.W.keepIn K (.ref f__checked_path) = true)
    (l_node_total : K.lookup f_node_total = some ⟨oc_node_total, od_node_total, .func (PySem.W.fnOf "node_total" "node_total" (defArgs s_node_total) (defBody s_node_total) (defScope s_node_total) .none kV_node_total dc_node_total pm_node_total an_node_total cd_node_total ct_node_total), sl_node_total⟩)
    (cn_node_total : PySem.W.codeIn K cd_node_total "node_total" = true)
    (kp_node_total : PySem.W.keepIn K (.ref f_node_total) = true)
    (l_group_total : K.lookup f_group_total = some ⟨oc_group_total, od_group_total, .func (PySem.W.fnOf "group_total" "group_total" (defArgs s_group_total) (defBody s_group_total) (defScope s_group_total) .none kV_group_total dc_group_total pm_group_total an_group_total cd_group_total ct_group_total), sl_group_total⟩)
    (cn_group_total : PySem.W.codeIn K cd_group_total "group_total" = true)
    (kp_group_total : PySem.W.keepIn K (.ref f_group_total) = true)
    (l__law_well : K.lookup f__law_well = some ⟨oc__law_well, od__law_well, .func (PySem.W.fnOf "_law_well" "_law_well" (defArgs s__law_well) (defBody s__law_well) (defScope s__law_well) .none kV__law_well dc__law_well pm__law_well an__law_well cd__law_well ct__law_well), sl__law_well⟩)
    (cn__law_well : PySem.W.codeIn K cd__law_well "_law_well" = true)
    (kp__law_well : PySem.W.keepIn K (.ref f__law_well) = true)
    (l__law_draw : K.lookup f__law_draw = some ⟨oc__law_draw, od__law_draw, .func (PySem.W.fnOf "_law_draw" "_law_draw" (defArgs s__law_draw) (defBody s__law_draw) (defScope s__law_draw) .none kV__law_draw dc__law_draw pm__law_draw an__law_draw cd__law_draw ct__law_draw), sl__law_draw⟩)
    (cn__law_draw : PySem.W.codeIn K cd__law_draw "_law_draw" = true)
    (kp__law_draw : PySem.W.keepIn K (.ref f__law_draw) = true)
    (l__law_pick : K.lookup f__law_pick = some ⟨oc__law_pick, od__law_pick, .func (PySem.W.fnOf "_law_pick" "_law_pick" (defArgs s__law_pick) (defBody s__law_pick) (defScope s__law_pick) .none kV__law_pick dc__law_pick pm__law_pick an__law_pick cd__law_pick ct__law_pick), sl__law_pick⟩)
    (cn__law_pick : PySem.W.codeIn K cd__law_pick "_law_pick" = true)
    (kp__law_pick : PySem.W.keepIn K (.ref f__law_pick) = true)
    (l__law_below : K.lookup f__law_below = some ⟨oc__law_below, od__law_below, .func (PySem.W.fnOf "_law_below" "_law_below" (defArgs s__law_below) (defBody s__law_below) (defScope s__law_below) .none kV__law_below dc__law_below pm__law_below an__law_below cd__law_below ct__law_below), sl__law_below⟩)
    (cn__law_below : PySem.W.codeIn K cd__law_below "_law_below" = true)
    (kp__law_below : PySem.W.keepIn K (.ref f__law_below) = true)
    (l__law_row : K.lookup f__law_row = some ⟨oc__law_row, od__law_row, .func (PySem.W.fnOf "_law_row" "_law_row" (defArgs s__law_row) (defBody s__law_row) (defScope s__law_row) .none kV__law_row dc__law_row pm__law_row an__law_row cd__law_row ct__law_row), sl__law_row⟩)
    (cn__law_row : PySem.W.codeIn K cd__law_row "_law_row" = true)
    (kp__law_row : PySem.W.keepIn K (.ref f__law_row) = true)
    (l__law_rows : K.lookup f__law_rows = some ⟨oc__law_rows, od__law_rows, .func (PySem.W.fnOf "_law_rows" "_law_rows" (defArgs s__law_rows) (defBody s__law_rows) (defScope s__law_rows) .none kV__law_rows dc__law_rows pm__law_rows an__law_rows cd__law_rows ct__law_rows), sl__law_rows⟩)
    (cn__law_rows : PySem.W.codeIn K cd__law_rows "_law_rows" = true)
    (kp__law_rows : PySem.W.keepIn K (.ref f__law_rows) = true)
    (l__law_nodes : K.lookup f__law_nodes = some ⟨oc__law_nodes, od__law_nodes, .func (PySem.W.fnOf "_law_nodes" "_law_nodes" (defArgs s__law_nodes) (defBody s__law_nodes) (defScope s__law_nodes) .none kV__law_nodes dc__law_nodes pm__law_nodes an__law_nodes cd__law_nodes ct__law_nodes), sl__law_nodes⟩)
    (cn__law_nodes : PySem.W.codeIn K cd__law_nodes "_law_nodes" = true)
    (kp__law_nodes : PySem.W.keepIn K (.ref f__law_nodes) = true)
    (l__law_is_refused : K.lookup f__law_is_refused = some ⟨oc__law_is_refused, od__law_is_refused, .func (PySem.W.fnOf "_law_is_refused" "_law_is_refused" (defArgs s__law_is_refused) (defBody s__law_is_refused) (defScope s__law_is_refused) .none kV__law_is_refused dc__law_is_refused pm__law_is_refused an__law_is_refused cd__law_is_refused ct__law_is_refused), sl__law_is_refused⟩)
    (cn__law_is_refused : PySem.W.codeIn K cd__law_is_refused "_law_is_refused" = true)
    (kp__law_is_refused : PySem.W.keepIn K (.ref f__law_is_refused) = true)
    (l__law_right : K.lookup f__law_right = some ⟨oc__law_right, od__law_right, .func (PySem.W.fnOf "_law_right" "_law_right" (defArgs s__law_right) (defBody s__law_right) (defScope s__law_right) .none kV__law_right dc__law_right pm__law_right an__law_right cd__law_right ct__law_right), sl__law_right⟩)
    (cn__law_right : PySem.W.codeIn K cd__law_right "_law_right" = true)
    (kp__law_right : PySem.W.keepIn K (.ref f__law_right) = true)
    (l_law : K.lookup f_law = some ⟨oc_law, od_law, .func (PySem.W.fnOf "law" "law" (defArgs s_law) (defBody s_law) (defScope s_law) .none kV_law dc_law pm_law an_law cd_law ct_law), sl_law⟩)
    (cn_law : PySem.W.codeIn K cd_law "law" = true)
    (kp_law : PySem.W.keepIn K (.ref f_law) = true)
    (g_MOST_ROWS : PySem.W.nsIn K mainGlobals "MOST_ROWS" = some (some (.int 200 t_MOST_ROWS)))
    (g_MOST_PARTS : PySem.W.nsIn K mainGlobals "MOST_PARTS" = some (some (.int 8 t_MOST_PARTS)))
    (g_MOST_NEST : PySem.W.nsIn K mainGlobals "MOST_NEST" = some (some (.int 8 t_MOST_NEST)))
    (g_MOST_TEXT_SIGNS : PySem.W.nsIn K mainGlobals "MOST_TEXT_SIGNS" = some (some (.int 20 t_MOST_TEXT_SIGNS)))
    (g_MOST_LINE_SIGNS : PySem.W.nsIn K mainGlobals "MOST_LINE_SIGNS" = some (some (.int 3 t_MOST_LINE_SIGNS)))
    (g_ROW_LENGTHS : PySem.W.nsIn K mainGlobals "ROW_LENGTHS" = some (some (.ref D_ROW_LENGTHS)))
    (kl_ROW_LENGTHS : K.lookup D_ROW_LENGTHS = some ⟨.type "dict", none, .dict es_ROW_LENGTHS n_ROW_LENGTHS, #[]⟩)
    (kk_ROW_LENGTHS : PySem.W.KeysLit w.params es_ROW_LENGTHS.toList)
    (kw_ROW_LENGTHS : (D_ROW_LENGTHS == sysModules) = false)
    (k_ROW_LENGTHS_text : PySem.W.nsIn K D_ROW_LENGTHS "text" = some (some (.int 2 t_ROW_LENGTHS_text)))
    (k_ROW_LENGTHS_line : PySem.W.nsIn K D_ROW_LENGTHS "line" = some (some (.int 2 t_ROW_LENGTHS_line)))
    (k_ROW_LENGTHS_hard : PySem.W.nsIn K D_ROW_LENGTHS "hard" = some (some (.int 1 t_ROW_LENGTHS_hard)))
    (k_ROW_LENGTHS_cat : PySem.W.nsIn K D_ROW_LENGTHS "cat" = some (some (.int 2 t_ROW_LENGTHS_cat)))
    (k_ROW_LENGTHS_nest : PySem.W.nsIn K D_ROW_LENGTHS "nest" = some (some (.int 3 t_ROW_LENGTHS_nest)))
    (k_ROW_LENGTHS_align : PySem.W.nsIn K D_ROW_LENGTHS "align" = some (some (.int 2 t_ROW_LENGTHS_align)))
    (k_ROW_LENGTHS_group : PySem.W.nsIn K D_ROW_LENGTHS "group" = some (some (.int 2 t_ROW_LENGTHS_group)))
    (g_MOST_WIDTH : PySem.W.nsIn K mainGlobals "MOST_WIDTH" = some (some (.int 40 t_MOST_WIDTH)))
    (g_ALL : PySem.W.nsIn K mainGlobals "ALL" = some (some (.str "all" t_ALL)))
    (g_BARE : PySem.W.nsIn K mainGlobals "BARE" = some (some (.int 0 t_BARE)))
    (g_LOOSE : PySem.W.nsIn K mainGlobals "LOOSE" = some (some (.int 1 t_LOOSE)))
    (g_HARD : PySem.W.nsIn K mainGlobals "HARD" = some (some (.int 2 t_HARD)))
    (g_LEAF_BREAKS : PySem.W.nsIn K mainGlobals "LEAF_BREAKS" = some (some (.ref D_LEAF_BREAKS)))
    (kl_LEAF_BREAKS : K.lookup D_LEAF_BREAKS = some ⟨.type "dict", none, .dict es_LEAF_BREAKS n_LEAF_BREAKS, #[]⟩)
    (kk_LEAF_BREAKS : PySem.W.KeysLit w.params es_LEAF_BREAKS.toList)
    (kw_LEAF_BREAKS : (D_LEAF_BREAKS == sysModules) = false)
    (k_LEAF_BREAKS_line : PySem.W.nsIn K D_LEAF_BREAKS "line" = some (some (.int 1 t_LEAF_BREAKS_line)))
    (k_LEAF_BREAKS_hard : PySem.W.nsIn K D_LEAF_BREAKS "hard" = some (some (.int 2 t_LEAF_BREAKS_hard)))
    (g_LONE : PySem.W.nsIn K mainGlobals "LONE" = some (some (.ref D_LONE)))
    (tl_LONE : K.lookup D_LONE = some ⟨.type "tuple", td_LONE, .seq ti_LONE tn_LONE, ts_LONE⟩)
    (tt_LONE : ∀ (P : Program) (w : World), ItemsAre (mixKind P w) [.inl (-1), .inl (-1), .inl (0)] ti_LONE.toList)
    (g_BROKEN_LINE : PySem.W.nsIn K mainGlobals "BROKEN_LINE" = some (some (.ref D_BROKEN_LINE)))
    (tl_BROKEN_LINE : K.lookup D_BROKEN_LINE = some ⟨.type "tuple", td_BROKEN_LINE, .seq ti_BROKEN_LINE tn_BROKEN_LINE, ts_BROKEN_LINE⟩)
    (tt_BROKEN_LINE : ∀ (P : Program) (w : World), ItemsAre (mixKind P w) [.inl (1), .inl (1), .inl (0), .inl (1), .inl (0)] ti_BROKEN_LINE.toList)
    (z_bool : PySem.W.nsIn K mainGlobals "bool" = some none)
    (z_enumerate : PySem.W.nsIn K mainGlobals "enumerate" = some none)
    (z_int : PySem.W.nsIn K mainGlobals "int" = some none)
    (z_isinstance : PySem.W.nsIn K mainGlobals "isinstance" = some none)
    (z_len : PySem.W.nsIn K mainGlobals "len" = some none)
    (z_list : PySem.W.nsIn K mainGlobals "list" = some none)
    (z_min : PySem.W.nsIn K mainGlobals "min" = some none)
    (z_range : PySem.W.nsIn K mainGlobals "range" = some none)
    (z_str : PySem.W.nsIn K mainGlobals "str" = some none)
    (z_sum : PySem.W.nsIn K mainGlobals "sum" = some none)
    (z_tuple : PySem.W.nsIn K mainGlobals "tuple" = some none)
    (z_zip : PySem.W.nsIn K mainGlobals "zip" = some none)
    (exS : PySem.W.exmOne K (.ref C_InvalidBound) (.ref C_InvalidBound) = some true)
    (ab_cat : PySem.W.nsIn K D_LEAF_BREAKS "cat" = some none)
    (ab_group : PySem.W.nsIn K D_LEAF_BREAKS "group" = some none)
    : ∃ W fl, Txt w K mg W ∧ ∃ fd, mg "law" = some (.ref fl) ∧ Fun K "law" "law" s_law fl fd ∧ Binds K fd ["_law_script"] [] := by
  have F_law := fun_mk (st := s_law) l_law cn_law kp_law
  refine ⟨{ c_LayoutError := C_LayoutError, c_InvalidDoc := C_InvalidDoc, c_InvalidPath := C_InvalidPath, c_InvalidBound := C_InvalidBound, c_Doc := C_Doc, c_Row := C_Row, c_Facts := C_Facts, ROW_LENGTHS := D_ROW_LENGTHS, LEAF_BREAKS := D_LEAF_BREAKS, LONE := D_LONE, BROKEN_LINE := D_BROKEN_LINE }, f_law, {
      n_bool := PySem.W.mg_none_of X G z_bool,
      n_enumerate := PySem.W.mg_none_of X G z_enumerate,
      n_int := PySem.W.mg_none_of X G z_int,
      n_isinstance := PySem.W.mg_none_of X G z_isinstance,
      n_len := PySem.W.mg_none_of X G z_len,
      n_list := PySem.W.mg_none_of X G z_list,
      n_min := PySem.W.mg_none_of X G z_min,
      n_range := PySem.W.mg_none_of X G z_range,
      n_str := PySem.W.mg_none_of X G z_str,
      n_sum := PySem.W.mg_none_of X G z_sum,
      n_tuple := PySem.W.mg_none_of X G z_tuple,
      n_zip := PySem.W.mg_none_of X G z_zip,
      g_MOST_ROWS := ⟨t_MOST_ROWS, PySem.W.mg_of X G g_MOST_ROWS⟩,
      g_MOST_PARTS := ⟨t_MOST_PARTS, PySem.W.mg_of X G g_MOST_PARTS⟩,
      g_MOST_NEST := ⟨t_MOST_NEST, PySem.W.mg_of X G g_MOST_NEST⟩,
      g_MOST_TEXT_SIGNS := ⟨t_MOST_TEXT_SIGNS, PySem.W.mg_of X G g_MOST_TEXT_SIGNS⟩,
      g_MOST_LINE_SIGNS := ⟨t_MOST_LINE_SIGNS, PySem.W.mg_of X G g_MOST_LINE_SIGNS⟩,
      g_ROW_LENGTHS := PySem.W.mg_of X G g_ROW_LENGTHS,
      k_ROW_LENGTHS := ⟨_, _, kl_ROW_LENGTHS, kk_ROW_LENGTHS, kw_ROW_LENGTHS⟩,
      k_ROW_LENGTHS_text := ⟨_, k_ROW_LENGTHS_text⟩,
      k_ROW_LENGTHS_line := ⟨_, k_ROW_LENGTHS_line⟩,
      k_ROW_LENGTHS_hard := ⟨_, k_ROW_LENGTHS_hard⟩,
      k_ROW_LENGTHS_cat := ⟨_, k_ROW_LENGTHS_cat⟩,
      k_ROW_LENGTHS_nest := ⟨_, k_ROW_LENGTHS_nest⟩,
      k_ROW_LENGTHS_align := ⟨_, k_ROW_LENGTHS_align⟩,
      k_ROW_LENGTHS_group := ⟨_, k_ROW_LENGTHS_group⟩,
      g_MOST_WIDTH := ⟨t_MOST_WIDTH, PySem.W.mg_of X G g_MOST_WIDTH⟩,
      g_ALL := ⟨t_ALL, PySem.W.mg_of X G g_ALL⟩,
      g_BARE := ⟨t_BARE, PySem.W.mg_of X G g_BARE⟩,
      g_LOOSE := ⟨t_LOOSE, PySem.W.mg_of X G g_LOOSE⟩,
      g_HARD := ⟨t_HARD, PySem.W.mg_of X G g_HARD⟩,
      g_LEAF_BREAKS := PySem.W.mg_of X G g_LEAF_BREAKS,
      k_LEAF_BREAKS := ⟨_, _, kl_LEAF_BREAKS, kk_LEAF_BREAKS, kw_LEAF_BREAKS⟩,
      k_LEAF_BREAKS_line := ⟨_, k_LEAF_BREAKS_line⟩,
      k_LEAF_BREAKS_hard := ⟨_, k_LEAF_BREAKS_hard⟩,
      g_LONE := PySem.W.mg_of X G g_LONE,
      q_LONE := ⟨_, _, _, tl_LONE, rfl, rfl, tt_LONE⟩,
      g_BROKEN_LINE := PySem.W.mg_of X G g_BROKEN_LINE,
      q_BROKEN_LINE := ⟨_, _, _, tl_BROKEN_LINE, rfl, rfl, tt_BROKEN_LINE⟩,
      c_LayoutError := PySem.W.mg_of X G a_LayoutError,
      c_InvalidDoc := PySem.W.mg_of X G a_InvalidDoc,
      c_InvalidPath := PySem.W.mg_of X G a_InvalidPath,
      c_InvalidBound := PySem.W.mg_of X G a_InvalidBound,
      c_Doc := PySem.W.mg_of X G a_Doc,
      c_Row := PySem.W.mg_of X G a_Row,
      c_Facts := PySem.W.mg_of X G a_Facts,
      cl_Doc := ⟨pg_Doc, hd_Doc, po_Doc, sa_Doc⟩,
      i_Doc := ⟨i_Doc_1, i_Doc_2, i_Doc_3, i_Doc_4, kit_self, kit_not (by decide) ic_Doc tc_Doc i_Doc_6, kit_not (by decide) ic_Doc tc_Doc i_Doc_7, kit_not (by decide) ic_Doc tc_Doc i_Doc_8, i_Doc_9, i_Doc_10, i_Doc_11, i_Doc_12⟩,
      na_Doc__rows := na_Doc__rows,
      na_Doc_facts := na_Doc_facts,
      na_Doc_group_facts := na_Doc_group_facts,
      f_Doc___init__ := methDef_mk (st := s_Doc___init__) fi_Doc___init__ is_Doc___init__ l_Doc___init__ cn_Doc___init__ kp_Doc___init__ (fun _ _ _ _ _ _ us hl => match us, hl with | [_, _], _ => rfl),
      f_Doc___eq__ := methDef_mk (st := s_Doc___eq__) fi_Doc___eq__ is_Doc___eq__ l_Doc___eq__ cn_Doc___eq__ kp_Doc___eq__ (fun _ _ _ _ _ _ us hl => match us, hl with | [_, _], _ => rfl),
      f_Doc_row_list := methDef_mk (st := s_Doc_row_list) fi_Doc_row_list is_Doc_row_list l_Doc_row_list cn_Doc_row_list kp_Doc_row_list (fun _ _ _ _ _ _ us hl => match us, hl with | [_], _ => rfl),
      mk_Doc := ⟨mk_Doc, kc_Doc⟩,
      cl_Row := ⟨pg_Row, hd_Row, po_Row, sa_Row⟩,
      i_Row := ⟨i_Row_1, i_Row_2, i_Row_3, i_Row_4, kit_self, kit_not (by decide) ic_Row tc_Row i_Row_6, kit_not (by decide) ic_Row tc_Row i_Row_7, kit_not (by decide) ic_Row tc_Row i_Row_8, i_Row_9, i_Row_10, i_Row_11, i_Row_12⟩,
      na_Row_number := na_Row_number,
      na_Row_kind := na_Row_kind,
      na_Row_parts := na_Row_parts,
      na_Row_string := na_Row_string,
      na_Row_more := na_Row_more,
      na_Row_wide := na_Row_wide,
      na_Row_lead := na_Row_lead,
      na_Row_breaks := na_Row_breaks,
      na_Row_groups := na_Row_groups,
      na_Row_is_still := na_Row_is_still,
      na_Row_inner := na_Row_inner,
      na_Row_matters := na_Row_matters,
      na_Row_ends := na_Row_ends,
      na_Row_has_last := na_Row_has_last,
      na_Row_steps := na_Row_steps,
      na_Row_known := na_Row_known,
      na_Row_opened := na_Row_opened,
      f_Row___init__ := methDef_mk (st := s_Row___init__) fi_Row___init__ is_Row___init__ l_Row___init__ cn_Row___init__ kp_Row___init__ (fun _ _ _ _ _ _ us hl => match us, hl with | [_, _, _, _, _], _ => rfl),
      f_Row__add_kind := methDef_mk (st := s_Row__add_kind) fi_Row__add_kind is_Row__add_kind l_Row__add_kind cn_Row__add_kind kp_Row__add_kind (fun _ _ _ _ _ _ us hl => match us, hl with | [_, _], _ => rfl),
      f_Row__add_groups := methDef_mk (st := s_Row__add_groups) fi_Row__add_groups is_Row__add_groups l_Row__add_groups cn_Row__add_groups kp_Row__add_groups (fun _ _ _ _ _ _ us hl => match us, hl with | [_], _ => rfl),
      f_Row__add_steps := methDef_mk (st := s_Row__add_steps) fi_Row__add_steps is_Row__add_steps l_Row__add_steps cn_Row__add_steps kp_Row__add_steps (fun _ _ _ _ _ _ us hl => match us, hl with | [_], _ => rfl),
      f_Row__add_bases := methDef_mk (st := s_Row__add_bases) fi_Row__add_bases is_Row__add_bases l_Row__add_bases cn_Row__add_bases kp_Row__add_bases (fun _ _ _ _ _ _ us hl => match us, hl with | [_], _ => rfl),
      mk_Row := ⟨mk_Row, kc_Row⟩,
      cl_Facts := ⟨pg_Facts, hd_Facts, po_Facts, sa_Facts⟩,
      i_Facts := ⟨i_Facts_1, i_Facts_2, i_Facts_3, i_Facts_4, kit_self, kit_not (by decide) ic_Facts tc_Facts i_Facts_6, kit_not (by decide) ic_Facts tc_Facts i_Facts_7, kit_not (by decide) ic_Facts tc_Facts i_Facts_8, i_Facts_9, i_Facts_10, i_Facts_11, i_Facts_12⟩,
      na_Facts_rows := na_Facts_rows,
      na_Facts_last := na_Facts_last,
      na_Facts_counts_groups := na_Facts_counts_groups,
      na_Facts_laids := na_Facts_laids,
      na_Facts_counts := na_Facts_counts,
      na_Facts_mosts := na_Facts_mosts,
      na_Facts_flats := na_Facts_flats,
      na_Facts_flips := na_Facts_flips,
      na_Facts_agreed := na_Facts_agreed,
      na_Facts_alike := na_Facts_alike,
      na_Facts_latest := na_Facts_latest,
      na_Facts_is_new := na_Facts_is_new,
      f_Facts___init__ := methDef_mk (st := s_Facts___init__) fi_Facts___init__ is_Facts___init__ l_Facts___init__ cn_Facts___init__ kp_Facts___init__ (fun _ _ _ _ _ _ us hl => match us, hl with | [_, _, _, _], _ => rfl),
      mk_Facts := ⟨mk_Facts, kc_Facts⟩,
      e_InvalidBound := ⟨PySem.W.mg_of X G a_InvalidBound, ⟨⟨_, _, _, _, _, _, _, _, _, _, _, _, _, _, _, ec_InvalidBound, eo_InvalidBound⟩, esa_InvalidBound, eex_InvalidBound, ety_InvalidBound, ekp_InvalidBound⟩, f_InvalidBound___init__, _, fi_InvalidBound___init__, tyf_InvalidBound___init__, fun_mk (st := s_InvalidBound___init__) l_InvalidBound___init__ cn_InvalidBound___init__ kp_InvalidBound___init__, (fun_mk (st := s_InvalidBound___init__) l_InvalidBound___init__ cn_InvalidBound___init__ kp_InvalidBound___init__).binds (fun _ _ _ _ _ _ us hl => match us, hl with | [_, _], _ => rfl)⟩,
      x_InvalidBound := ⟨xg_InvalidBound, xk_InvalidBound, eex_InvalidBound, xd_InvalidBound, xa_InvalidBound, exg_n, exg_t, xm_InvalidBound⟩,
      na_InvalidBound_argument := na_InvalidBound_argument,
      exm_InvalidBound := PySem.W.exm_ref sup_ex sup_hd sup_ty xs_InvalidBound,
      kt_InvalidBound_InvalidDoc := kt_InvalidBound_InvalidDoc,
      kt_InvalidBound_InvalidPath := kt_InvalidBound_InvalidPath,
      kt_InvalidBound_InvalidBound := kit_self,
      kt_InvalidBound_Arith := kt_InvalidBound_Arith,
      exS := exS,
      ab_cat := ab_cat,
      ab_group := ab_group,
      sup := ⟨⟨sup_rd, sup_ga⟩, sup_at⟩,
      f__wall := topDef_mk (st := s__wall) X G fi__wall l__wall cn__wall kp__wall (fun _ _ _ _ _ _ us hl => match us, hl with | [_], _ => rfl),
      f__shown := topDef_mk (st := s__shown) X G fi__shown l__shown cn__shown kp__shown (fun _ _ _ _ _ _ us hl => match us, hl with | [_], _ => rfl),
      f_is_integer := topDef_mk (st := s_is_integer) X G fi_is_integer l_is_integer cn_is_integer kp_is_integer (fun _ _ _ _ _ _ us hl => match us, hl with | [_], _ => rfl),
      f_is_between := topDef_mk (st := s_is_between) X G fi_is_between l_is_between cn_is_between kp_is_between (fun _ _ _ _ _ _ us hl => match us, hl with | [_, _, _], _ => rfl),
      f_rows_in := topDef_mk (st := s_rows_in) X G fi_rows_in l_rows_in cn_rows_in kp_rows_in (fun _ _ _ _ _ _ us hl => match us, hl with | [_], _ => rfl),
      f_copied_row := topDef_mk (st := s_copied_row) X G fi_copied_row l_copied_row cn_copied_row kp_copied_row (fun _ _ _ _ _ _ us hl => match us, hl with | [_], _ => rfl),
      f_is_row := topDef_mk (st := s_is_row) X G fi_is_row l_is_row cn_is_row kp_is_row (fun _ _ _ _ _ _ us hl => match us, hl with | [_, _], _ => rfl),
      f__checked_rows := topDef_mk (st := s__checked_rows) X G fi__checked_rows l__checked_rows cn__checked_rows kp__checked_rows (fun _ _ _ _ _ _ us hl => match us, hl with | [_], _ => rfl),
      f__is_signs := topDef_mk (st := s__is_signs) X G fi__is_signs l__is_signs cn__is_signs kp__is_signs (fun _ _ _ _ _ _ us hl => match us, hl with | [_, _], _ => rfl),
      f__is_parts := topDef_mk (st := s__is_parts) X G fi__is_parts l__is_parts cn__is_parts kp__is_parts (fun _ _ _ _ _ _ us hl => match us, hl with | [_, _], _ => rfl),
      f_check_doc := topDef_mk (st := s_check_doc) X G fi_check_doc l_check_doc cn_check_doc kp_check_doc (fun _ _ _ _ _ _ us hl => match us, hl with | [_], _ => rfl),
      f_check_number := topDef_mk (st := s_check_number) X G fi_check_number l_check_number cn_check_number kp_check_number (fun _ _ _ _ _ _ us hl => match us, hl with | [_, _, _, _], _ => rfl),
      f_rows_on_path := topDef_mk (st := s_rows_on_path) X G fi_rows_on_path l_rows_on_path cn_rows_on_path kp_rows_on_path (fun _ _ _ _ _ _ us hl => match us, hl with | [_, _], _ => rfl),
      f_count_all := topDef_mk (st := s_count_all) X G fi_count_all l_count_all cn_count_all kp_count_all (fun _ _ _ _ _ _ us hl => match us, hl with | [_, _], _ => rfl),
      f_count_ahead := topDef_mk (st := s_count_ahead) X G fi_count_ahead l_count_ahead cn_count_ahead kp_count_ahead (fun _ _ _ _ _ _ us hl => match us, hl with | [_, _, _], _ => rfl),
      f_path_of_number := topDef_mk (st := s_path_of_number) X G fi_path_of_number l_path_of_number cn_path_of_number kp_path_of_number (fun _ _ _ _ _ _ us hl => match us, hl with | [_, _, _], _ => rfl),
      f__is_chosen := topDef_mk (st := s__is_chosen) X G fi__is_chosen l__is_chosen cn__is_chosen kp__is_chosen (fun _ _ _ _ _ _ us hl => match us, hl with | [_, _], _ => rfl),
      f__counts_below := topDef_mk (st := s__counts_below) X G fi__counts_below l__counts_below cn__counts_below kp__counts_below (fun _ _ _ _ _ _ us hl => match us, hl with | [_, _], _ => rfl),
      f_facts_of := topDef_mk (st := s_facts_of) X G fi_facts_of l_facts_of cn_facts_of kp_facts_of (fun _ _ _ _ _ _ us hl => match us, hl with | [_], _ => rfl),
      f__new_facts := topDef_mk (st := s__new_facts) X G fi__new_facts l__new_facts cn__new_facts kp__new_facts (fun _ _ _ _ _ _ us hl => match us, hl with | [_, _], _ => rfl),
      f_kind_total := topDef_mk (st := s_kind_total) X G fi_kind_total l_kind_total cn_kind_total kp_kind_total (fun _ _ _ _ _ _ us hl => match us, hl with | [_, _], _ => rfl),
      f_path_of_kind := topDef_mk (st := s_path_of_kind) X G fi_path_of_kind l_path_of_kind cn_path_of_kind kp_path_of_kind (fun _ _ _ _ _ _ us hl => match us, hl with | [_, _, _], _ => rfl),
      f_kinds_before := topDef_mk (st := s_kinds_before) X G fi_kinds_before l_kinds_before cn_kinds_before kp_kinds_before (fun _ _ _ _ _ _ us hl => match us, hl with | [_, _, _], _ => rfl),
      f__checked_kind := topDef_mk (st := s__checked_kind) X G fi__checked_kind l__checked_kind cn__checked_kind kp__checked_kind (fun _ _ _ _ _ _ us hl => match us, hl with | [_], _ => rfl),
      f__checked_path := topDef_mk (st := s__checked_path) X G fi__checked_path l__checked_path cn__checked_path kp__checked_path (fun _ _ _ _ _ _ us hl => match us, hl with | [_, _, _], _ => rfl),
      f_node_total := topDef_mk (st := s_node_total) X G fi_node_total l_node_total cn_node_total kp_node_total (fun _ _ _ _ _ _ us hl => match us, hl with | [_], _ => rfl),
      f_group_total := topDef_mk (st := s_group_total) X G fi_group_total l_group_total cn_group_total kp_group_total (fun _ _ _ _ _ _ us hl => match us, hl with | [_], _ => rfl),
      f__law_well := topDef_mk (st := s__law_well) X G fi__law_well l__law_well cn__law_well kp__law_well (fun _ _ _ _ _ _ us hl => match us, hl with | [_], _ => rfl),
      f__law_draw := topDef_mk (st := s__law_draw) X G fi__law_draw l__law_draw cn__law_draw kp__law_draw (fun _ _ _ _ _ _ us hl => match us, hl with | [_, _], _ => rfl),
      f__law_pick := topDef_mk (st := s__law_pick) X G fi__law_pick l__law_pick cn__law_pick kp__law_pick (fun _ _ _ _ _ _ us hl => match us, hl with | [_, _], _ => rfl),
      f__law_below := topDef_mk (st := s__law_below) X G fi__law_below l__law_below cn__law_below kp__law_below (fun _ _ _ _ _ _ us hl => match us, hl with | [_], _ => rfl),
      f__law_row := topDef_mk (st := s__law_row) X G fi__law_row l__law_row cn__law_row kp__law_row (fun _ _ _ _ _ _ us hl => match us, hl with | [_, _], _ => rfl),
      f__law_rows := topDef_mk (st := s__law_rows) X G fi__law_rows l__law_rows cn__law_rows kp__law_rows (fun _ _ _ _ _ _ us hl => match us, hl with | [_], _ => rfl),
      f__law_nodes := topDef_mk (st := s__law_nodes) X G fi__law_nodes l__law_nodes cn__law_nodes kp__law_nodes (fun _ _ _ _ _ _ us hl => match us, hl with | [_, _, _], _ => rfl),
      f__law_is_refused := topDef_mk (st := s__law_is_refused) X G fi__law_is_refused l__law_is_refused cn__law_is_refused kp__law_is_refused (fun _ _ _ _ _ _ us hl => match us, hl with | [_, _, _], _ => rfl),
      f__law_right := topDef_mk (st := s__law_right) X G fi__law_right l__law_right cn__law_right kp__law_right (fun _ _ _ _ _ _ us hl => match us, hl with | [_, _, _], _ => rfl),
      f_law := topDef_mk (st := s_law) X G fi_law l_law cn_law kp_law (fun _ _ _ _ _ _ us hl => match us, hl with | [_], _ => rfl) }, _, PySem.W.mg_of X G fi_law, F_law, F_law.binds (fun _ _ _ _ _ _ us hl => match us, hl with | [_], _ => rfl)⟩
theorem walk {l : PySem.W.OpenLaw} {q : Program} {loose : List Str} {XP : (Str → Option Value) → Heap → Prop} {YP : World → Heap → Prop} {d : DefRec} {KK : Params → PySem.W.Frag} (hn : l.most = some 63) (hdf : d.params.defaults = []) (hname : d.name = "law")
    (hY : ∀ (w : World) (h : Heap), YP w h → (KK w.params).In h)
    (F : ∀ (w : World) (mg : Str → Option Value) (h : Heap), (KK w.params).In h → h.Ns mainGlobals mg → ∃ W fl, Txt w (KK w.params) mg W ∧ ∃ fd, mg "law" = some (.ref fl) ∧ Fun (KK w.params) "law" "law" s_law fl fd ∧ Binds (KK w.params) fd ["_law_script"] []) :
    PySem.W.WalkO q loose XP YP l.row.toRowW d [] (fun f vs => PySem.call f vs) :=
  walk_G (n := 63) (k := 30) (x := "_law_script") (sp := fun w => sp_law (KK w.params)) hn (by decide) hdf ⟨rfl, by decide, by decide⟩ hY (fun w mg fa h KX G hmg => by
    obtain ⟨W, fl, T, fd, h1, h2, h3⟩ := F w mg h KX G
    rw [hname, h1] at hmg
    cases hmg
    refine ⟨fd, fun s u => ?_, fun base _ _ => fn_law T h2⟩
    obtain ⟨oc, od, kV, doc, pm, an, cdv, ct, osl, rfl, _, _⟩ := h2.ex
    exact .of_eq rfl)
    fun w H a ns hl hS => ⟨a, ns, rfl, hS, hl, fun _ => rfl⟩
end Lw

open PySem PySem.W PyProof.Rows in
set_option maxRecDepth 100000 in
set_option maxHeartbeats 0 in
theorem PySem.Challenge.cw_farlayout_k33_nodes_of_a_kind_holds : PySem.Challenge.rw_farlayout_k33_nodes_of_a_kind.Holds := by
  w_on; o_law; k_head; (case hw => w_witness2)
  k_fill
  refine Lw.walk (l := PySem.Challenge.rw_farlayout_k33_nodes_of_a_kind) rfl rfl rfl (fun w h Y => PySem.W.kIn_of Y) ?F
  case F =>
    intro w mg h KX G
    refine' Lw.all_mk (w := w) KX G ?a_LayoutError ?a_InvalidDoc ?a_InvalidPath ?a_InvalidBound ?a_Doc ?a_Row ?a_Facts ?fi_Doc___init__ ?fi_Doc___eq__ ?fi_Doc_row_list ?fi_Row___init__ ?fi_Row__add_kind ?fi_Row__add_groups ?fi_Row__add_steps ?fi_Row__add_bases ?fi_Facts___init__ ?fi_InvalidBound___init__ ?fi__wall ?fi__shown ?fi_is_integer ?fi_is_between ?fi_rows_in ?fi_copied_row ?fi_is_row ?fi__checked_rows ?fi__is_signs ?fi__is_parts ?fi_check_doc ?fi_check_number ?fi_rows_on_path ?fi_count_all ?fi_count_ahead ?fi_path_of_number ?fi__is_chosen ?fi__counts_below ?fi_facts_of ?fi__new_facts ?fi_kind_total ?fi_path_of_kind ?fi_kinds_before ?fi__checked_kind ?fi__checked_path ?fi_node_total ?fi_group_total ?fi__law_well ?fi__law_draw ?fi__law_pick ?fi__law_below ?fi__law_row ?fi__law_rows ?fi__law_nodes ?fi__law_is_refused ?fi__law_right ?fi_law ?pg_Doc ?hd_Doc ?po_Doc ?sa_Doc ?mk_Doc ?kc_Doc ?na_Doc__rows ?na_Doc_facts ?na_Doc_group_facts ?i_Doc_1 ?i_Doc_2 ?i_Doc_3 ?i_Doc_4 ?ic_Doc ?tc_Doc ?i_Doc_6 ?i_Doc_7 ?i_Doc_8 ?i_Doc_9 ?i_Doc_10 ?i_Doc_11 ?i_Doc_12 ?is_Doc___init__ ?l_Doc___init__ ?cn_Doc___init__ ?kp_Doc___init__ ?is_Doc___eq__ ?l_Doc___eq__ ?cn_Doc___eq__ ?kp_Doc___eq__ ?is_Doc_row_list ?l_Doc_row_list ?cn_Doc_row_list ?kp_Doc_row_list ?pg_Row ?hd_Row ?po_Row ?sa_Row ?mk_Row ?kc_Row ?na_Row_number ?na_Row_kind ?na_Row_parts ?na_Row_string ?na_Row_more ?na_Row_wide ?na_Row_lead ?na_Row_breaks ?na_Row_groups ?na_Row_is_still ?na_Row_inner ?na_Row_matters ?na_Row_ends ?na_Row_has_last ?na_Row_steps ?na_Row_known ?na_Row_opened ?i_Row_1 ?i_Row_2 ?i_Row_3 ?i_Row_4 ?ic_Row ?tc_Row ?i_Row_6 ?i_Row_7 ?i_Row_8 ?i_Row_9 ?i_Row_10 ?i_Row_11 ?i_Row_12 ?is_Row___init__ ?l_Row___init__ ?cn_Row___init__ ?kp_Row___init__ ?is_Row__add_kind ?l_Row__add_kind ?cn_Row__add_kind ?kp_Row__add_kind ?is_Row__add_groups ?l_Row__add_groups ?cn_Row__add_groups ?kp_Row__add_groups ?is_Row__add_steps ?l_Row__add_steps ?cn_Row__add_steps ?kp_Row__add_steps ?is_Row__add_bases ?l_Row__add_bases ?cn_Row__add_bases ?kp_Row__add_bases ?pg_Facts ?hd_Facts ?po_Facts ?sa_Facts ?mk_Facts ?kc_Facts ?na_Facts_rows ?na_Facts_last ?na_Facts_counts_groups ?na_Facts_laids ?na_Facts_counts ?na_Facts_mosts ?na_Facts_flats ?na_Facts_flips ?na_Facts_agreed ?na_Facts_alike ?na_Facts_latest ?na_Facts_is_new ?i_Facts_1 ?i_Facts_2 ?i_Facts_3 ?i_Facts_4 ?ic_Facts ?tc_Facts ?i_Facts_6 ?i_Facts_7 ?i_Facts_8 ?i_Facts_9 ?i_Facts_10 ?i_Facts_11 ?i_Facts_12 ?is_Facts___init__ ?l_Facts___init__ ?cn_Facts___init__ ?kp_Facts___init__ ?sup_rd ?sup_ga ?sup_at ?sup_ex ?sup_hd ?sup_ty ?exg_n ?exg_t ?ec_InvalidBound ?eo_InvalidBound ?esa_InvalidBound ?eex_InvalidBound ?ety_InvalidBound ?ekp_InvalidBound ?xg_InvalidBound ?xk_InvalidBound ?xd_InvalidBound ?xa_InvalidBound ?xm_InvalidBound ?xs_InvalidBound ?kt_InvalidBound_Arith ?na_InvalidBound_argument ?kt_InvalidBound_InvalidDoc ?kt_InvalidBound_InvalidPath ?l_InvalidBound___init__ ?cn_InvalidBound___init__ ?kp_InvalidBound___init__ ?tyf_InvalidBound___init__ ?l__wall ?cn__wall ?kp__wall ?l__shown ?cn__shown ?kp__shown ?l_is_integer ?cn_is_integer ?kp_is_integer ?l_is_between ?cn_is_between ?kp_is_between ?l_rows_in ?cn_rows_in ?kp_rows_in ?l_copied_row ?cn_copied_row ?kp_copied_row ?l_is_row ?cn_is_row ?kp_is_row ?l__checked_rows ?cn__checked_rows ?kp__checked_rows ?l__is_signs ?cn__is_signs ?kp__is_signs ?l__is_parts ?cn__is_parts ?kp__is_parts ?l_check_doc ?cn_check_doc ?kp_check_doc ?l_check_number ?cn_check_number ?kp_check_number ?l_rows_on_path ?cn_rows_on_path ?kp_rows_on_path ?l_count_all ?cn_count_all ?kp_count_all ?l_count_ahead ?cn_count_ahead ?kp_count_ahead ?l_path_of_number ?cn_path_of_number ?kp_path_of_number ?l__is_chosen ?cn__is_chosen ?kp__is_chosen ?l__counts_below ?cn__counts_below ?kp__counts_below ?l_facts_of ?cn_facts_of ?kp_facts_of ?l__new_facts ?cn__new_facts ?kp__new_facts ?l_kind_total ?cn_kind_total ?kp_kind_total ?l_path_of_kind ?cn_path_of_kind ?kp_path_of_kind ?l_kinds_before ?cn_kinds_before ?kp_kinds_before ?l__checked_kind ?cn__checked_kind ?kp__checked_kind ?l__checked_path ?cn__checked_path ?kp__checked_path ?l_node_total ?cn_node_total ?kp_node_total ?l_group_total ?cn_group_total ?kp_group_total ?l__law_well ?cn__law_well ?kp__law_well ?l__law_draw ?cn__law_draw ?kp__law_draw ?l__law_pick ?cn__law_pick ?kp__law_pick ?l__law_below ?cn__law_below ?kp__law_below ?l__law_row ?cn__law_row ?kp__law_row ?l__law_rows ?cn__law_rows ?kp__law_rows ?l__law_nodes ?cn__law_nodes ?kp__law_nodes ?l__law_is_refused ?cn__law_is_refused ?kp__law_is_refused ?l__law_right ?cn__law_right ?kp__law_right ?l_law ?cn_law ?kp_law ?g_MOST_ROWS ?g_MOST_PARTS ?g_MOST_NEST ?g_MOST_TEXT_SIGNS ?g_MOST_LINE_SIGNS ?g_ROW_LENGTHS ?kl_ROW_LENGTHS ?kk_ROW_LENGTHS ?kw_ROW_LENGTHS ?k_ROW_LENGTHS_text ?k_ROW_LENGTHS_line ?k_ROW_LENGTHS_hard ?k_ROW_LENGTHS_cat ?k_ROW_LENGTHS_nest ?k_ROW_LENGTHS_align ?k_ROW_LENGTHS_group ?g_MOST_WIDTH ?g_ALL ?g_BARE ?g_LOOSE ?g_HARD ?g_LEAF_BREAKS ?kl_LEAF_BREAKS ?kk_LEAF_BREAKS ?kw_LEAF_BREAKS ?k_LEAF_BREAKS_line ?k_LEAF_BREAKS_hard ?g_LONE ?tl_LONE ?tt_LONE ?g_BROKEN_LINE ?tl_BROKEN_LINE ?tt_BROKEN_LINE ?z_bool ?z_enumerate ?z_int ?z_isinstance ?z_len ?z_list ?z_min ?z_range ?z_str ?z_sum ?z_tuple ?z_zip ?exS ?ab_cat ?ab_group
    (case a_LayoutError => k_is)
    (case a_InvalidDoc => k_is)
    (case a_InvalidPath => k_is)
    (case a_InvalidBound => k_is)
    (case a_Doc => k_is)
    (case a_Row => k_is)
    (case a_Facts => k_is)
    (case fi_Doc___init__ => k_is)
    (case fi_Doc___eq__ => k_is)
    (case fi_Doc_row_list => k_is)
    (case fi_Row___init__ => k_is)
    (case fi_Row__add_kind => k_is)
    (case fi_Row__add_groups => k_is)
    (case fi_Row__add_steps => k_is)
    (case fi_Row__add_bases => k_is)
    (case fi_Facts___init__ => k_is)
    (case fi_InvalidBound___init__ => k_is)
    (case fi__wall => k_is)
    (case fi__shown => k_is)
    (case fi_is_integer => k_is)
    (case fi_is_between => k_is)
    (case fi_rows_in => k_is)
    (case fi_copied_row => k_is)
    (case fi_is_row => k_is)
    (case fi__checked_rows => k_is)
    (case fi__is_signs => k_is)
    (case fi__is_parts => k_is)
    (case fi_check_doc => k_is)
    (case fi_check_number => k_is)
    (case fi_rows_on_path => k_is)
    (case fi_count_all => k_is)
    (case fi_count_ahead => k_is)
    (case fi_path_of_number => k_is)
    (case fi__is_chosen => k_is)
    (case fi__counts_below => k_is)
    (case fi_facts_of => k_is)
    (case fi__new_facts => k_is)
    (case fi_kind_total => k_is)
    (case fi_path_of_kind => k_is)
    (case fi_kinds_before => k_is)
    (case fi__checked_kind => k_is)
    (case fi__checked_path => k_is)
    (case fi_node_total => k_is)
    (case fi_group_total => k_is)
    (case fi__law_well => k_is)
    (case fi__law_draw => k_is)
    (case fi__law_pick => k_is)
    (case fi__law_below => k_is)
    (case fi__law_row => k_is)
    (case fi__law_rows => k_is)
    (case fi__law_nodes => k_is)
    (case fi__law_is_refused => k_is)
    (case fi__law_right => k_is)
    (case fi_law => k_is)
    (case pg_Doc => k_is)
    (case hd_Doc => k_is)
    (case po_Doc => k_is)
    (case sa_Doc => k_is)
    (case mk_Doc => k_is)
    (case kc_Doc => k_is)
    (case na_Doc__rows => k_is)
    (case na_Doc_facts => k_is)
    (case na_Doc_group_facts => k_is)
    (case i_Doc_1 => k_is)
    (case i_Doc_2 => k_is)
    (case i_Doc_3 => k_is)
    (case i_Doc_4 => k_is)
    (case ic_Doc => k_is)
    (case tc_Doc => k_is)
    (case i_Doc_6 => k_is)
    (case i_Doc_7 => k_is)
    (case i_Doc_8 => k_is)
    (case i_Doc_9 => k_is)
    (case i_Doc_10 => k_is)
    (case i_Doc_11 => k_is)
    (case i_Doc_12 => k_is)
    (case is_Doc___init__ => k_is)
    (case l_Doc___init__ => k_is)
    (case cn_Doc___init__ => k_is)
    (case kp_Doc___init__ => k_is)
    (case is_Doc___eq__ => k_is)
    (case l_Doc___eq__ => k_is)
    (case cn_Doc___eq__ => k_is)
    (case kp_Doc___eq__ => k_is)
    (case is_Doc_row_list => k_is)
    (case l_Doc_row_list => k_is)
    (case cn_Doc_row_list => k_is)
    (case kp_Doc_row_list => k_is)
    (case pg_Row => k_is)
    (case hd_Row => k_is)
    (case po_Row => k_is)
    (case sa_Row => k_is)
    (case mk_Row => k_is)
    (case kc_Row => k_is)
    (case na_Row_number => k_is)
    (case na_Row_kind => k_is)
    (case na_Row_parts => k_is)
    (case na_Row_string => k_is)
    (case na_Row_more => k_is)
    (case na_Row_wide => k_is)
    (case na_Row_lead => k_is)
    (case na_Row_breaks => k_is)
    (case na_Row_groups => k_is)
    (case na_Row_is_still => k_is)
    (case na_Row_inner => k_is)
    (case na_Row_matters => k_is)
    (case na_Row_ends => k_is)
    (case na_Row_has_last => k_is)
    (case na_Row_steps => k_is)
    (case na_Row_known => k_is)
    (case na_Row_opened => k_is)
    (case i_Row_1 => k_is)
    (case i_Row_2 => k_is)
    (case i_Row_3 => k_is)
    (case i_Row_4 => k_is)
    (case ic_Row => k_is)
    (case tc_Row => k_is)
    (case i_Row_6 => k_is)
    (case i_Row_7 => k_is)
    (case i_Row_8 => k_is)
    (case i_Row_9 => k_is)
    (case i_Row_10 => k_is)
    (case i_Row_11 => k_is)
    (case i_Row_12 => k_is)
    (case is_Row___init__ => k_is)
    (case l_Row___init__ => k_is)
    (case cn_Row___init__ => k_is)
    (case kp_Row___init__ => k_is)
    (case is_Row__add_kind => k_is)
    (case l_Row__add_kind => k_is)
    (case cn_Row__add_kind => k_is)
    (case kp_Row__add_kind => k_is)
    (case is_Row__add_groups => k_is)
    (case l_Row__add_groups => k_is)
    (case cn_Row__add_groups => k_is)
    (case kp_Row__add_groups => k_is)
    (case is_Row__add_steps => k_is)
    (case l_Row__add_steps => k_is)
    (case cn_Row__add_steps => k_is)
    (case kp_Row__add_steps => k_is)
    (case is_Row__add_bases => k_is)
    (case l_Row__add_bases => k_is)
    (case cn_Row__add_bases => k_is)
    (case kp_Row__add_bases => k_is)
    (case pg_Facts => k_is)
    (case hd_Facts => k_is)
    (case po_Facts => k_is)
    (case sa_Facts => k_is)
    (case mk_Facts => k_is)
    (case kc_Facts => k_is)
    (case na_Facts_rows => k_is)
    (case na_Facts_last => k_is)
    (case na_Facts_counts_groups => k_is)
    (case na_Facts_laids => k_is)
    (case na_Facts_counts => k_is)
    (case na_Facts_mosts => k_is)
    (case na_Facts_flats => k_is)
    (case na_Facts_flips => k_is)
    (case na_Facts_agreed => k_is)
    (case na_Facts_alike => k_is)
    (case na_Facts_latest => k_is)
    (case na_Facts_is_new => k_is)
    (case i_Facts_1 => k_is)
    (case i_Facts_2 => k_is)
    (case i_Facts_3 => k_is)
    (case i_Facts_4 => k_is)
    (case ic_Facts => k_is)
    (case tc_Facts => k_is)
    (case i_Facts_6 => k_is)
    (case i_Facts_7 => k_is)
    (case i_Facts_8 => k_is)
    (case i_Facts_9 => k_is)
    (case i_Facts_10 => k_is)
    (case i_Facts_11 => k_is)
    (case i_Facts_12 => k_is)
    (case is_Facts___init__ => k_is)
    (case l_Facts___init__ => k_is)
    (case cn_Facts___init__ => k_is)
    (case kp_Facts___init__ => k_is)
    (case sup_rd => k_is)
    (case sup_ga => k_is)
    (case sup_at => k_is)
    (case sup_ex => k_is)
    (case sup_hd => k_is)
    (case sup_ty => k_is)
    (case exg_n => k_is)
    (case exg_t => k_is)
    (case ec_InvalidBound => k_is)
    (case eo_InvalidBound => rfl)
    (case esa_InvalidBound => k_is)
    (case eex_InvalidBound => k_is)
    (case ety_InvalidBound => k_is)
    (case ekp_InvalidBound => k_is)
    (case xg_InvalidBound => k_is)
    (case xk_InvalidBound => k_is)
    (case xd_InvalidBound => k_is)
    (case xa_InvalidBound => k_is)
    (case xm_InvalidBound => k_is)
    (case xs_InvalidBound => k_is)
    (case kt_InvalidBound_Arith => first | k_is | decide +kernel | kernel_rfl)
    (case na_InvalidBound_argument => k_is)
    (case kt_InvalidBound_InvalidDoc => first | k_is | decide +kernel | kernel_rfl)
    (case kt_InvalidBound_InvalidPath => first | k_is | decide +kernel | kernel_rfl)
    (case l_InvalidBound___init__ => k_is)
    (case cn_InvalidBound___init__ => k_is)
    (case kp_InvalidBound___init__ => k_is)
    (case tyf_InvalidBound___init__ => k_is)
    (case l__wall => k_is)
    (case cn__wall => k_is)
    (case kp__wall => k_is)
    (case l__shown => k_is)
    (case cn__shown => k_is)
    (case kp__shown => k_is)
    (case l_is_integer => k_is)
    (case cn_is_integer => k_is)
    (case kp_is_integer => k_is)
    (case l_is_between => k_is)
    (case cn_is_between => k_is)
    (case kp_is_between => k_is)
    (case l_rows_in => k_is)
    (case cn_rows_in => k_is)
    (case kp_rows_in => k_is)
    (case l_copied_row => k_is)
    (case cn_copied_row => k_is)
    (case kp_copied_row => k_is)
    (case l_is_row => k_is)
    (case cn_is_row => k_is)
    (case kp_is_row => k_is)
    (case l__checked_rows => k_is)
    (case cn__checked_rows => k_is)
    (case kp__checked_rows => k_is)
    (case l__is_signs => k_is)
    (case cn__is_signs => k_is)
    (case kp__is_signs => k_is)
    (case l__is_parts => k_is)
    (case cn__is_parts => k_is)
    (case kp__is_parts => k_is)
    (case l_check_doc => k_is)
    (case cn_check_doc => k_is)
    (case kp_check_doc => k_is)
    (case l_check_number => k_is)
    (case cn_check_number => k_is)
    (case kp_check_number => k_is)
    (case l_rows_on_path => k_is)
    (case cn_rows_on_path => k_is)
    (case kp_rows_on_path => k_is)
    (case l_count_all => k_is)
    (case cn_count_all => k_is)
    (case kp_count_all => k_is)
    (case l_count_ahead => k_is)
    (case cn_count_ahead => k_is)
    (case kp_count_ahead => k_is)
    (case l_path_of_number => k_is)
    (case cn_path_of_number => k_is)
    (case kp_path_of_number => k_is)
    (case l__is_chosen => k_is)
    (case cn__is_chosen => k_is)
    (case kp__is_chosen => k_is)
    (case l__counts_below => k_is)
    (case cn__counts_below => k_is)
    (case kp__counts_below => k_is)
    (case l_facts_of => k_is)
    (case cn_facts_of => k_is)
    (case kp_facts_of => k_is)
    (case l__new_facts => k_is)
    (case cn__new_facts => k_is)
    (case kp__new_facts => k_is)
    (case l_kind_total => k_is)
    (case cn_kind_total => k_is)
    (case kp_kind_total => k_is)
    (case l_path_of_kind => k_is)
    (case cn_path_of_kind => k_is)
    (case kp_path_of_kind => k_is)
    (case l_kinds_before => k_is)
    (case cn_kinds_before => k_is)
    (case kp_kinds_before => k_is)
    (case l__checked_kind => k_is)
    (case cn__checked_kind => k_is)
    (case kp__checked_kind => k_is)
    (case l__checked_path => k_is)
    (case cn__checked_path => k_is)
    (case kp__checked_path => k_is)
    (case l_node_total => k_is)
    (case cn_node_total => k_is)
    (case kp_node_total => k_is)
    (case l_group_total => k_is)
    (case cn_group_total => k_is)
    (case kp_group_total => k_is)
    (case l__law_well => k_is)
    (case cn__law_well => k_is)
    (case kp__law_well => k_is)
    (case l__law_draw => k_is)
    (case cn__law_draw => k_is)
    (case kp__law_draw => k_is)
    (case l__law_pick => k_is)
    (case cn__law_pick => k_is)
    (case kp__law_pick => k_is)
    (case l__law_below => k_is)
    (case cn__law_below => k_is)
    (case kp__law_below => k_is)
    (case l__law_row => k_is)
    (case cn__law_row => k_is)
    (case kp__law_row => k_is)
    (case l__law_rows => k_is)
    (case cn__law_rows => k_is)
    (case kp__law_rows => k_is)
    (case l__law_nodes => k_is)
    (case cn__law_nodes => k_is)
    (case kp__law_nodes => k_is)
    (case l__law_is_refused => k_is)
    (case cn__law_is_refused => k_is)
    (case kp__law_is_refused => k_is)
    (case l__law_right => k_is)
    (case cn__law_right => k_is)
    (case kp__law_right => k_is)
    (case l_law => k_is)
    (case cn_law => k_is)
    (case kp_law => k_is)
    (case g_MOST_ROWS => k_is)
    (case g_MOST_PARTS => k_is)
    (case g_MOST_NEST => k_is)
    (case g_MOST_TEXT_SIGNS => k_is)
    (case g_MOST_LINE_SIGNS => k_is)
    (case g_ROW_LENGTHS => k_is)
    (case kl_ROW_LENGTHS => k_is)
    (case kk_ROW_LENGTHS => k_keys)
    (case kw_ROW_LENGTHS => decide)
    (case k_ROW_LENGTHS_text => k_is)
    (case k_ROW_LENGTHS_line => k_is)
    (case k_ROW_LENGTHS_hard => k_is)
    (case k_ROW_LENGTHS_cat => k_is)
    (case k_ROW_LENGTHS_nest => k_is)
    (case k_ROW_LENGTHS_align => k_is)
    (case k_ROW_LENGTHS_group => k_is)
    (case g_MOST_WIDTH => k_is)
    (case g_ALL => k_is)
    (case g_BARE => k_is)
    (case g_LOOSE => k_is)
    (case g_HARD => k_is)
    (case g_LEAF_BREAKS => k_is)
    (case kl_LEAF_BREAKS => k_is)
    (case kk_LEAF_BREAKS => k_keys)
    (case kw_LEAF_BREAKS => decide)
    (case k_LEAF_BREAKS_line => k_is)
    (case k_LEAF_BREAKS_hard => k_is)
    (case g_LONE => k_is)
    (case tl_LONE => k_is)
    (case tt_LONE => exact fun _ _ => (.cons rfl (.cons rfl (.cons rfl .nil))))
    (case g_BROKEN_LINE => k_is)
    (case tl_BROKEN_LINE => k_is)
    (case tt_BROKEN_LINE => exact fun _ _ => (.cons rfl (.cons rfl (.cons rfl (.cons rfl (.cons rfl .nil))))))
    (case z_bool => k_is)
    (case z_enumerate => k_is)
    (case z_int => k_is)
    (case z_isinstance => k_is)
    (case z_len => k_is)
    (case z_list => k_is)
    (case z_min => k_is)
    (case z_range => k_is)
    (case z_str => k_is)
    (case z_sum => k_is)
    (case z_tuple => k_is)
    (case z_zip => k_is)
    (case exS => first | k_is | decide +kernel | kernel_rfl)
    (case ab_cat => k_is)
    (case ab_group => k_is)
