import PyProof.Rows.All
import Wide.All
import OpenK.AllK
import Wide.FinOn
import HandS.ForMost
import HandS.IsInst
import HandS.OwnEq
import HandS.More
import HandS.Text
import HandS.Conv
import HandS.Evl
import HandS.MakeKwOnly
import PyProof.ListStr
import PyProof.ReprRoads
import PyProof.Rows.PlainNe
import PyProof.InstNe
import HandS.Walk
import HandS.Iter
import HandS.RaiseMore
import HandS.Defaults
import HandS.ForExc
import HandS.ExcInit
import HandS.ExcIs
import HandS.ExcField
import HandS.ClsMeth
import HandS.FStr
import KE.KExcInit
import HandS.Lambda
import HandS.EndTab
import HandS.SetFor
import KE.KNestM
import HandS.StrMore
import HandS.Flow
import HandS.Style
import PySem.Challenge.RW_farlayout_k04_texts_that_are_none
set_option Elab.async false
set_option linter.all false
set_option maxRecDepth 100000
/-! Views: a part of the abstract heap of which facts are told; what is made is added to it, what is changed lies outside. -/
namespace VW
open PySem L2

structure Gr (S : Addr → Prop) (V H V' H' : Hp) : Prop where
  v : Same V V'
  s : Same V' H'
  k : ∀ b o, ¬ S b → H b = some o → H' b = some o
  n : ∀ b, H b ≠ none → H' b ≠ none ∧ V' b = V b

abbrev S0 : Addr → Prop := fun _ => False

theorem some_ne {x : Option HO} {o : HO} (h : x = some o) : x ≠ none := by rw [h]; exact fun z => nomatch z
section
variable {S S' : Addr → Prop} {V H V' H' V2 H2 : Hp} {p a : Addr} {o : HO}

theorem Gr.refl (h : Same V H) : Gr S V H V H := ⟨Same.refl _, h, fun _ _ _ e => e, fun _ e => ⟨e, rfl⟩⟩
theorem Gr.trans (a : Gr S V H V' H') (b : Gr S V' H' V2 H2) : Gr S V H V2 H2 :=
  ⟨a.v.trans b.v, b.s, fun x o hx e => b.k x o hx (a.k x o hx e), fun x e => ⟨(b.n x (a.n x e).1).1, ((b.n x (a.n x e).1).2).trans (a.n x e).2⟩⟩
theorem Gr.back (g : Gr S V H V' H') : Gr S V H V H' := ⟨Same.refl _, g.v.trans g.s, g.k, fun x e => ⟨(g.n x e).1, rfl⟩⟩
theorem Gr.weak (hS : ∀ b, S b → S' b) (g : Gr S V H V' H') : Gr S' V H V' H' := ⟨g.v, g.s, fun b o hb e => g.k b o (fun z => hb (hS b z)) e, g.n⟩
theorem Gr.of0 (g : Gr S0 V H V' H') : Gr S V H V' H' := g.weak fun _ z => z.elim
theorem Gr.same (g : Gr S0 V H V' H') : Same H H' := fun b o e => g.k b o (fun z => z) e
theorem Gr.free (g : Gr S V H V' H') (h : H' p = none) : H p = none := by
  cases e : H p with
  | none => rfl
  | some o => exact absurd h (g.n p (by rw [e]; exact fun z => nomatch z)).1
theorem vfree (s : Same V H) (h : H p = none) : V p = none := s.free h
/-- a new object, told of -/
theorem Gr.new (g : Gr S V H V' H') (h : H' p = none) : Gr S V H (upd V' p o) (upd H' p o) := by
  refine ⟨fun b u e => ?_, fun b u e => ?_, fun b u hb e => ?_, fun b e => ?_⟩
  · have q := g.v b u e
    rw [upd_ne (ne_of_none (g.s b u q) h)]
    exact q
  · by_cases hb : b = p
    · subst hb
      rw [upd_same] at e ⊢
      exact e
    · rw [upd_ne hb] at e ⊢
      exact g.s b u e
  · have q := g.k b u hb e
    rw [upd_ne (ne_of_none q h)]
    exact q
  · have hb : b ≠ p := fun z => by
      subst z
      exact e (g.free h)
    rw [upd_ne hb, upd_ne hb]
    exact g.n b e
/-- a new object, not told of -/
theorem Gr.newH (g : Gr S V H V' H') (h : H' p = none) : Gr S V H V' (upd H' p o) := by
  refine ⟨g.v, fun b u e => ?_, fun b u hb e => ?_, fun b e => ?_⟩
  · have q := g.s b u e
    rw [upd_ne (ne_of_none q h)]
    exact q
  · have q := g.k b u hb e
    rw [upd_ne (ne_of_none q h)]
    exact q
  · have hb : b ≠ p := fun z => by
      subst z
      exact e (g.free h)
    rw [upd_ne hb]
    exact g.n b e
/-- what is outside of the view is changed -/
theorem Gr.mut (g : Gr S V H V' H') (hS : S p ∨ H p = none) (hv : V' p = none) : Gr S V H V' (upd H' p o) := by
  refine ⟨g.v, fun b u e => ?_, fun b u hb e => ?_, fun b e => ⟨?_, (g.n b e).2⟩⟩
  · have hb : b ≠ p := fun z => by
      subst z
      rw [hv] at e
      cases e
    rw [upd_ne hb]
    exact g.s b u e
  · have hbp : b ≠ p := fun z => by
      subst z
      rcases hS with hS | hS
      · exact hb hS
      · rw [hS] at e
        cases e
    rw [upd_ne hbp]
    exact g.k b u hb e
  · by_cases hb : b = p
    · subst hb
      rw [upd_same]
      exact fun z => nomatch z
    · rw [upd_ne hb]
      exact (g.n b e).1
/-- what was outside is told of from now on: p is new since H -/
theorem Gr.tell (g : Gr S V H V' H') (h0 : H p = none) (h : H' p = some o) (hv : V' p = none) : Gr S V H (upd V' p o) H' := by
  refine ⟨fun b u e => ?_, fun b u e => ?_, g.k, fun b e => ⟨(g.n b e).1, ?_⟩⟩
  · have q := g.v b u e
    rw [upd_ne (ne_of_none q hv)]
    exact q
  · by_cases hb : b = p
    · subst hb
      rw [upd_same] at e
      rw [h]
      exact e
    · rw [upd_ne hb] at e
      exact g.s b u e
  · have hb : b ≠ p := fun z => by
      subst z
      exact e h0
    rw [upd_ne hb]
    exact (g.n b e).2
theorem Gr.grow (g : Gr S V H V' H') (e : Same H' H2) : Gr S V H V' H2 :=
  ⟨g.v, g.s.trans e, fun b o hb q => e b o (g.k b o hb q), fun b q => ⟨(by
    cases z : H' b with
    | none => exact absurd z (g.n b q).1
    | some o => exact some_ne (e b o z)), (g.n b q).2⟩⟩
/-- all that is new is told of, but for M -/
noncomputable def allU (M : Addr → Prop) (H H' V' : Hp) : Hp := by
  classical exact fun b => if H b = none ∧ ¬ M b then H' b else V' b
theorem allU_new {M : Addr → Prop} (h : H p = none) (hM : ¬ M p) : allU M H H' V' p = H' p := by
  unfold allU
  exact if_pos ⟨h, hM⟩
theorem allU_old {M : Addr → Prop} (h : H p ≠ none) : allU M H H' V' p = V' p := by
  unfold allU
  exact if_neg fun z => h z.1
theorem allU_M {M : Addr → Prop} (h : M p) : allU M H H' V' p = V' p := by
  unfold allU
  exact if_neg fun z => z.2 h
theorem Gr.all (M : Addr → Prop) (h0 : Same V H) (g : Gr S V H V' H') : Gr S V H (allU M H H' V') H' := by
  refine ⟨fun b o e => ?_, fun b o e => ?_, g.k, fun b e => ⟨(g.n b e).1, (allU_old e).trans (g.n b e).2⟩⟩
  · rw [allU_old (some_ne (h0 b o e))]
    exact g.v b o e
  · by_cases hb : H b = none
    · by_cases hM : M b
      · rw [allU_M hM] at e
        exact g.s b o e
      · rw [allU_new hb hM] at e
        exact e
    · rw [allU_old hb] at e
      exact g.s b o e
theorem Gr.allSame (M : Addr → Prop) (g : Gr S V H V' H') : Same V' (allU M H H' V') := fun b o e => by
  by_cases hb : H b = none
  · by_cases hM : M b
    · rw [allU_M hM]
      exact e
    · rw [allU_new hb hM]
      exact g.s b o e
  · rw [allU_old hb]
    exact e
/-- what was made first and changed afterwards is new -/
theorem Gr.under (hD : H p = none) (g : Gr (fun b => b = p) V (upd H p o) V' H') : Gr S V H V' H' := by
  refine ⟨g.v, g.s, fun b u _ e => ?_, fun b e => ?_⟩
  · have hb := ne_of_none e hD
    exact g.k b u hb (by rw [upd_ne hb]; exact e)
  · have hb : b ≠ p := fun z => e (by rw [z]; exact hD)
    exact g.n b (by rw [upd_ne hb]; exact e)
theorem Gr.out (g : Gr S V H V' H') (h : H p ≠ none) (hv : V p = none) : V' p = none := (g.n p h).2.trans hv
theorem Gr.there (g : Gr S V H V' H') (h : H p ≠ none) : H' p ≠ none := (g.n p h).1
end

section
variable {K : PySem.W.Frag} {H H' : Hp}
theorem rdS {a : Addr} {u : HO} (e : Same H H') (h : Rd H a u) : Rd H' a u := by
  rcases h with h | ⟨o, h⟩
  · exact Or.inl (e a _ h)
  · exact Or.inr ⟨o, e a _ h⟩
theorem sqlS {a : Addr} {xs : List V} (e : Same H H') (h : SqL K H a xs) : SqL K H' a xs := e.seq h
theorem sqtS {a : Addr} {xs : List V} (e : Same H H') (h : SqT K H a xs) : SqT K H' a xs := by
  rcases h with h | h
  · exact Or.inl (rdS e h)
  · exact Or.inr h
theorem sqlO {a : Addr} {xs : List V} (h : H a = some (.lst xs)) : SqL K H a xs := Or.inl (Or.inl h)
theorem sqtO {a : Addr} {xs : List V} (h : H a = some (.tup xs)) : SqT K H a xs := Or.inl (Or.inl h)
mutual
theorem dpS (e : Same H H') : ∀ {d : PyData} {v : V}, Dp K H v d → Dp K H' v d
  | .none, _, h => by cases h; exact .non
  | .bool _, _, h => by cases h; exact .bl _
  | .int _, _, h => by cases h; exact .int _
  | .str _, _, h => by cases h; exact .str _
  | .list _, _, h => by
    cases h with
    | lst hs ha => exact .lst (sqlS e hs) (dpsS e ha)
  | .tuple _, _, h => by
    cases h with
    | tup hs ha => exact .tup (sqtS e hs) (dpsS e ha)
  | .dict _, _, h => by cases h
theorem dpsS (e : Same H H') : ∀ {ds : List PyData} {vs : List V}, DpAll K H vs ds → DpAll K H' vs ds
  | [], _, h => by cases h; exact .nil
  | _ :: _, _, h => by
    cases h with
    | cons h1 h2 => exact .cons (dpS e h1) (dpsS e h2)
end
theorem dps_length : ∀ {ds : List PyData} {vs : List V}, DpAll K H vs ds → vs.length = ds.length
  | [], _, h => by cases h; rfl
  | _ :: _, _, h => by
    cases h with
    | cons h1 h2 => rw [List.length_cons, List.length_cons, dps_length h2]
theorem dps_get : ∀ {ds : List PyData} {vs : List V} {i : Nat} {v : V}, DpAll K H vs ds → vs[i]? = some v → ∃ d, ds[i]? = some d ∧ Dp K H v d
  | [], _, i, v, h, e => by cases h; simp at e
  | d :: ds, _, 0, v, h, e => by
    cases h with
    | cons h1 h2 =>
      simp at e
      subst e
      exact ⟨d, by simp, h1⟩
  | d :: ds, _, i + 1, v, h, e => by
    cases h with
    | cons h1 h2 =>
      simp at e
      obtain ⟨d', q1, q2⟩ := dps_get h2 e
      exact ⟨d', by simpa using q1, q2⟩
theorem dps_append {vs ws : List V} {ds es : List PyData} (h : DpAll K H vs ds) (h2 : DpAll K H ws es) : DpAll K H (vs ++ ws) (ds ++ es) := by
  induction vs generalizing ds with
  | nil => cases h; exact h2
  | cons v vs ih =>
    cases h with
    | cons h1 h3 => exact .cons h1 (ih h3)
theorem dps_take {vs : List V} {ds : List PyData} (n : Nat) (h : DpAll K H vs ds) : DpAll K H (vs.take n) (ds.take n) := by
  induction vs generalizing ds n with
  | nil => cases h; simp; exact .nil
  | cons v vs ih =>
    cases h with
    | cons h1 h3 =>
      cases n with
      | zero => exact .nil
      | succ n => exact .cons h1 (ih n h3)
theorem dps_drop {vs : List V} {ds : List PyData} (n : Nat) (h : DpAll K H vs ds) : DpAll K H (vs.drop n) (ds.drop n) := by
  induction vs generalizing ds n with
  | nil => cases h; simp; exact .nil
  | cons v vs ih =>
    cases h with
    | cons h1 h3 =>
      cases n with
      | zero => exact .cons h1 h3
      | succ n => exact ih n h3
theorem dps_ints (ns : List Int) : DpAll K H (ns.map V.int) (ns.map PyData.int) := by
  induction ns with
  | nil => exact .nil
  | cons n ns ih => exact .cons (.int n) ih
theorem dps_of_ints {vs : List V} {ns : List Int} (h : DpAll K H vs (ns.map PyData.int)) : vs = ns.map V.int := by
  induction ns generalizing vs with
  | nil => cases h; rfl
  | cons n ns ih =>
    cases h with
    | cons h1 h2 =>
      cases h1
      rw [ih h2]
      rfl
end
theorem same_new {H : Hp} {p : Addr} {o : HO} (h : H p = none) : Same H (upd H p o) := fun b u e => by rw [upd_ne (ne_of_none e h)]; exact e
/-- all but s -/
noncomputable def hide (s : Addr) (H : Hp) : Hp := by
  classical exact fun b => if b = s then none else H b
theorem hide_at {s : Addr} {H : Hp} : hide s H s = none := by
  unfold hide
  exact if_pos rfl
theorem hide_ne {s b : Addr} {H : Hp} (h : b ≠ s) : hide s H b = H b := by
  unfold hide
  exact if_neg h
theorem hide_same {s : Addr} {H : Hp} : Same (hide s H) H := fun b o e => by
  by_cases h : b = s
  · rw [h, hide_at] at e
    cases e
  · rw [hide_ne h] at e
    exact e
theorem hide_in {s : Addr} {U H : Hp} (h : Same U H) (hs : U s = none) : Same U (hide s H) := fun b o e => by
  have hb : b ≠ s := fun z => by
    rw [z, hs] at e
    cases e
  rw [hide_ne hb]
  exact h b o e
end VW

/-! More rules over the hand layer: a def by its name, list(text), repr(data), w.get(k) of a written dict, == and != by an own __eq__. -/
namespace L2
open PySem PySem.Spec PyProof.Rows

/-! ### a def of the text, by its name -/
structure DefOk (P : Program) (w : World) (K : PySem.W.Frag) (mg : Str → Option Value) (base : Heap) (x : Str) (st : Stmt) (ps : List Str) (k : Nat) (sp : Sp) : Prop where
  ex : ∃ f fd, mg x = some (.ref f) ∧ Fun K x x st f fd ∧ Binds K fd ps [] ∧ FnOk P w K mg base CX0 k f fd ps sp
structure TopDef (K : PySem.W.Frag) (mg : Str → Option Value) (x : Str) (st : Stmt) (ps : List Str) : Prop where
  ex : ∃ f fd, mg x = some (.ref f) ∧ Fun K x x st f fd ∧ Binds K fd ps []
section
variable {X : Cx}
theorem pe_callD {x : Str} {st : Stmt} {ps : List Str} {k : Nat} {sp : Sp} {e : Expr} {es : List Expr} {t : TA} {p pos : Pos} (D : DefOk X.prog X.w X.K X.mg X.base x st ps k sp) (hr : Room k X.A) (ha : PA X (e :: es) t) (hg : Gl X x := by rfl)
    (hdb : (x == ("__debug__" : Str)) = false := by decide) (he : starEach (e :: es) X.env = (false, eval e X.env) :: starEach es X.env := by rfl) (hpl : (backTo pos (starEach es X.env)).any (·.1) = false := by rfl) :
    PE X (.Call (.Name x p) (e :: es) [] pos) (tCall sp [] E0 t) := by
  obtain ⟨f, fd, hm, hk, hb, F⟩ := D.ex
  exact pe_call F hr hg hm hk.kp hb .nil pass0 ha hdb he hpl
theorem pe_callD0 {x : Str} {st : Stmt} {ps : List Str} {k : Nat} {sp : Sp} {p pos : Pos} (D : DefOk X.prog X.w X.K X.mg X.base x st ps k sp) (hr : Room k X.A) (hg : Gl X x := by rfl) (hdb : (x == ("__debug__" : Str)) = false := by decide) :
    PE X (.Call (.Name x p) [] [] pos) (tCall sp [] E0 tNil) := by
  obtain ⟨f, fd, hm, hk, hb, F⟩ := D.ex
  exact pe_call0 F hr hg hm hk.kp hb .nil pass0 hdb
theorem pe_globI {x : Str} {i : Int} {pos : Pos} (h : ∃ t, X.mg x = some (.int i t)) (hg : Gl X x := by rfl) (hd : (x == ("__debug__" : Str)) = false := by decide) : PE X (.Name x pos) (tC (.int i)) := by
  obtain ⟨t, h⟩ := h
  exact pe_glob hg h ⟨t, rfl⟩ hd
/-- the body of a def, as a rule for its promise -/
theorem TopDef.ok {P : Program} {w : World} {K : PySem.W.Frag} {mg : Str → Option Value} {base : Heap} {x : Str} {st : Stmt} {N ps : List Str} {k : Nat} {sp : Sp} (T : TopDef K mg x st ps) (S : FnScope N ps (defScope st)) (len : ∀ vs H Q E, sp vs H Q E → vs.length = ps.length)
    (hbody : ∀ (f : Addr) (cdv : Value) (A : Around) (outer : List Env) (s : Shared) (H : Hp) (vs : List V) (Q : VK) (E : XK), Room k (A.deeper (envOfC x (defScope st) s.heap.objs.size f cdv)) → sp vs H Q E →
      ∃ t, PSs (cxOf CX0 P w K mg base N x (defScope st) f cdv A outer s H E).nox (defBody st) t ∧ t { nx := fun _ H' => Q .non H', rt := Q } (start N vs) H) : DefOk P w K mg base x st ps (k + 1) sp := by
  obtain ⟨f, fd, hm, F, hb⟩ := T.ex
  exact ⟨f, fd, hm, F, hb, F.ok S len (hbody f)⟩
end
theorem topDef_mk {K : PySem.W.Frag} {mg : Str → Option Value} {h : Heap} {f : Addr} {x : Str} {st : Stmt} {ps : List Str} {oc : Value} {od an : Option Addr} {osl : Array (Option Value)} {kV doc pm cdv ct : Value} (X : K.In h) (G : h.Ns mainGlobals mg)
    (a : PySem.W.nsIn K mainGlobals x = some (some (.ref f)))
    (l : K.lookup f = some ⟨oc, od, .func (PySem.W.fnOf x x (defArgs st) (defBody st) (defScope st) .none kV doc pm an cdv ct), osl⟩)
    (c : PySem.W.codeIn K cdv x = true) (k : PySem.W.keepIn K (.ref f) = true)
    (hb : ∀ (kV doc pm : Value) (an : Option Addr) (cdv ct : Value) (us : List Value), us.length = ps.length → bindArgs (PySem.W.fnOf x x (defArgs st) (defBody st) (defScope st) .none kV doc pm an cdv ct) ⟨us, []⟩ = pure (ps.zip us)) : TopDef K mg x st ps :=
  have F := fun_mk (st := st) l c k
  ⟨f, _, PySem.W.mg_of X G a, F, F.binds hb⟩

/-! ### list(text) -/
theorem call_list_text {X : Cx} (hc : X.calm = true) : CallR X (.type "list") (fun xs H Q => ∃ z : Str, xs = [.str z] ∧ z.cps.size ≤ sizeLine ∧ ∀ l, H l = none → Q (.ref l) (upd H l (.lst (z.cps.toList.map fun c => V.str ⟨#[c]⟩)))) := by
  intro pins s σ H xs us Q I r h
  obtain ⟨z, rfl, hz, q⟩ := h
  obtain ⟨u, rfl, t, rfl⟩ := vals1 r
  refine PySem.call_list_str (I.ok.hd hc) z t (fun h' tk acc' c' hk hS hacc => ?_) hz
  refine ⟨.ref s.heap.objs.size, _, I.laid (t' := tk) hk (Nat.le_refl _) (show ObjOk X.prog X.w _ h' _ (.lst (z.cps.toList.map fun c => V.str ⟨#[c]⟩)) from ⟨?_, acc'.toList, c', ?_, ?_⟩), rfl, q _ (I.hok.fresh (Nat.le_refl _))⟩
  · rw [List.length_map, Array.length_toList]
    exact hz
  · refine vals_of_at (by rw [List.length_map, Array.length_toList, Array.length_toList]; exact hacc.1.symm) fun j x w h1 h2 => ?_
    have h3 := hacc.2 j w (by rw [← Array.getElem?_toList]; exact h2)
    obtain ⟨c, t', e1, e2⟩ := h3
    have e3 : z.cps.toList[j]? = some c := by rw [Array.getElem?_toList]; exact e1
    rw [List.getElem?_map, e3] at h1
    cases h1
    exact ⟨t', e2⟩
  · rw [Array.toArray_toList]
    exact hS

/-! ### repr of data -/
theorem call_reprD {X : Cx} (hu : X.A.units + 65 < cLine) (hg : X.A.guards = some []) : CallR X (.builtin "repr") (fun xs H Q => ∃ a d, xs = [.ref a] ∧ Dp X.K H (.ref a) d ∧ d.showable = true ∧ d.hasDict = false ∧ d.depth ≤ 64 ∧ d.shown.length ≤ sizeLine ∧ Q (.str d.shown) H) := by
  intro pins s σ H xs us Q I r h
  obtain ⟨a, d, rfl, hd, h1, h2, h3, h4, q⟩ := h
  obtain ⟨u, rfl, rx⟩ := vals1 r
  obtain ⟨as, hr⟩ := Dp.reads I d _ u hd rx
  cases rx
  refine PySem.repr_of_reads' (h₀ := s.heap) hr h1 (PyData.noDict_hsm h2) hg (by omega) (fun _ _ e => e) (fun h' u tk hk => ?_) h4
  exact ⟨.str d.shown, H, I.kept (t' := tk) hk, ⟨u, rfl⟩, q⟩

/-! ### w.get(k), w a dict of the module whose keys are texts -/
def tKGet (K : PySem.W.Frag) (w : World) (td ty : TE) : TE := fun σ H Q => td σ H fun x H1 => ∃ a es n, x = .ref a ∧ K.lookup a = some ⟨.type "dict", none, .dict es n, #[]⟩ ∧ PySem.W.KeysLit w.params es.toList ∧ (a == sysModules) = false ∧
  ty σ H1 fun y H2 => ∃ z r v, y = .str z ∧ PySem.W.nsIn K a z = some r ∧ RelV v (r.getD .none) ∧ Q v H2
theorem pe_dgetK {X : Cx} {o e : Expr} {apos cpos : Pos} {td ty : TE} (ho : PE X o td) (he : PE X e ty) (m : M1 X o "get" apos e cpos) : PE X (.Call (.Attribute o "get" apos) [e] [] cpos) (tKGet X.K X.w td ty) := by
  refine ⟨fun pins s σ H Q I h => ?_⟩
  refine wpAny_Call_method m.base m.few m.line PySem.F.plainAttrs_dict PySem.F.slot_dict_get PySem.F.type_dict_get (thn (ho.run pins s σ H _ I h) fun u s1 ⟨x, H1, I1, rx, a, es, n, ex, hl, hk, low, q1⟩ => ?_)
  subst ex
  obtain rfl : u = Value.ref a := rx
  have hm := PySem.W.mapOf_K (prog := X.prog) (w := X.w) I1.kIn hl hk
  refine ⟨hm.typeIs, hm.noDict, ?_⟩
  rw [m.trees]
  refine Calls.callWith_builtin rfl (Calls.evalArgs_plain (Calls.spliced_cons (thn (he.run pins s1 σ H1 _ I1 q1) fun iv s2 ⟨y, H2, I2, ry, z, r, v, ey, e, rv, q2⟩ => Calls.spliced_nil ?_)))
  subst ey
  obtain ⟨t, rfl⟩ := (show ∃ t, iv = Value.str z t from ry)
  have hm2 := PySem.W.mapOf_K (prog := X.prog) (w := X.w) I2.kIn hl hk
  refine call_meetsIn PySem.F.slot_dict_get hm2.typeIs PySem.F.entry_dict_get (PySem.F.args_dict_get_2 _ _) (meets_dict_get (strKind X.prog X.w) a (strKind_is X.prog X.w z t) low) ⟨_, hm2, ?_⟩
  rw [PySem.W.find_K hl e]
  exact ⟨v, H2, I2.tok _, rv, q2⟩

/-! ### == and != of an instance whose class has an own __eq__ (and no __ne__) -/
/-- what the right side is -/
inductive Rhs (K : PySem.W.Frag) (H : Hp) : V → Value → Prop where
  | int (i : Int) : Rhs K H (.int i) (.type "int")
  | non : Rhs K H .non (.type "NoneType")
  | lst {a : Addr} {xs : List V} (e : H a = some (.lst xs)) : Rhs K H (.ref a) (.type "list")
  | ins {a C dx : Addr} {fs : List (Str × V)} (e : H a = some (.ins C dx fs)) : Rhs K H (.ref a) (.ref C)
theorem Rhs.looks {X : Cx} {pins : List (Addr × Obj)} {σ : St} {H : Hp} {s : Shared} {y : V} {u t : Value} {M : Model} (I : Inv X pins σ H s) (r : RelV y u) (h : Rhs X.K H y t) : PySem.W.Looks M s.heap (typeOf u) t := by
  cases h with
  | int i =>
    obtain ⟨tk, rfl⟩ := r
    exact PySem.W.Looks.of_pure rfl
  | non =>
    cases r
    exact PySem.W.Looks.of_pure rfl
  | @lst a xs e =>
    cases r
    obtain ⟨_, its, n, _, h1⟩ := (show ObjOk X.prog X.w H s.heap a (.lst xs) from I.hok a _ e)
    exact (PySem.W.Looks.ld h1).andThen .now
  | @ins a C dx fs e =>
    cases r
    obtain ⟨mA, J, _⟩ := ins_get I.hok e
    obtain ⟨od, J, _⟩ := J.look
    exact J.type
/-- the class at C has the own __eq__ that keeps sp -/
structure EqOk (P : Program) (w : World) (K : PySem.W.Frag) (mg : Str → Option Value) (base : Heap) (C : Addr) (k : Nat) (sp : Sp) : Prop where
  ex : ∃ f fd, PySem.W.findIn K (.ref C) "__eq__" = some (some (.ref f)) ∧ PySem.W.isFn K (.ref f) = true ∧ Binds K fd ["self", "other"] [] ∧ FnOk P w K mg base CX0 k f fd ["self", "other"] sp
def rEqO (K : PySem.W.Frag) (C : Addr) (sp : Sp) : R2 := fun x y H Q => ∃ a dx fs t, x = .ref a ∧ H a = some (.ins C dx fs) ∧ Rhs K H y t ∧ PySem.W.notFirst K C t = true ∧ sp [x, y] H (fun v H' => ∃ b, v = .bl b ∧ Q (.bl b) H') E0
section
variable {X : Cx} {C : Addr} {k : Nat} {sp : Sp}
theorem run_eqO (D : EqOk X.prog X.w X.K X.mg X.base C k sp) {A : Around} {pins : List (Addr × Obj)} {σ : St} {H : Hp} {s : Shared} {a dx : Addr} {fs : List (Str × V)} {y : V} {v t : Value} {R : Bool → Shared → Prop} (hr : Room k A) (hf : A.frames = X.A.frames)
    (I : Inv X pins σ H s) (e : H a = some (.ins C dx fs)) (ry : RelV y v) (hR : Rhs X.K H y t) (hn : PySem.W.notFirst X.K C t = true)
    (hs : sp [.ref a, y] H (fun v H' => ∃ b, v = .bl b ∧ ∀ s', Inv X pins σ H' s' → R b s') E0) :
    wpAny (model X.prog X.w) A (richCompare .Eq (.ref a) v) (fun r s' => ∃ b, r = .bool b ∧ R b s') X.xe s := by
  obtain ⟨f, fd, h1, h2, hb, F⟩ := D.ex
  obtain ⟨mA, J, _⟩ := ins_get I.hok e
  obtain ⟨od, J, _⟩ := J.look
  obtain ⟨m, hF⟩ := I.fr
  refine PySem.W.cmp_K (op := .Eq) (tb := t) hr.units0 hF I.ok.mod.kin J (hR.looks I ry) hn h1 h2 ?_
  have e0 : Env0 X.prog X.w X.K X.mg X.base A X.stack s H := by
    have e := I.env0
    exact ⟨by rw [hf]; exact e.frames, e.mod, e.bs, e.bsz, e.funs, e.frf, e.hok, e.bare⟩
  have hl := F.len _ _ _ _ hs
  have r2 : Vals [V.ref a, y] [Value.ref a, v] := .cons rfl (.cons ry .nil)
  refine wpAny_call (codeAny_mono (F.run A X.stack s H ⟨[.ref a, v], []⟩ [.ref a, v] [.ref a, y] _ E0 hr e0 (by
    have := hb s [.ref a, v] I.kIn (by simpa using hl)
    simpa using this) r2 hs) fun r s' hq => ?_)
  cases r with
  | error e => exact False.elim hq
  | ok fl =>
    cases fl with
    | ret w =>
      obtain ⟨z, H', I', rz, b, ez, ex⟩ := I.after hq
      subst ez
      cases rz
      exact ⟨b, rfl, ex s' I'⟩
    | next => exact False.elim hq
    | brk => exact False.elim hq
    | cont => exact False.elim hq
theorem op_eqO (D : EqOk X.prog X.w X.K X.mg X.base C k sp) (hr : Room k X.A) (mono : ∀ vs H Q Q' E, (∀ v H', Q v H' → Q' v H') → sp vs H Q E → sp vs H Q' E) : OpR X (compareOp .Eq) (rEqO X.K C sp) := by
  intro pins s σ H x y v u Q I rx ry h
  obtain ⟨a, dx, fs, t, rfl, e, hR, hn, hs⟩ := h
  cases rx
  show wpAny (model X.prog X.w) X.A (richCompare .Eq (.ref a) u) (EP X pins σ Q) X.xe s
  refine wpAny_mono (run_eqO D (R := fun b s' => ∃ H', Inv X pins σ H' s' ∧ Q (.bl b) H') hr rfl I e ry hR hn (mono _ _ _ _ _ (fun v H' z => ?_) hs)) (fun r s' z => ?_) fun _ _ z => z
  · obtain ⟨b, ev, q⟩ := z
    exact ⟨b, ev, fun s' I' => ⟨H', I', q⟩⟩
  · obtain ⟨b, rfl, H', I', q⟩ := z
    exact ⟨.bl b, H', I', rfl, q⟩
end

/-! ### a method of a class, by its name -/
structure MethDef (K : PySem.W.Frag) (C : Addr) (m qual : Str) (st : Stmt) (ps : List Str) : Prop where
  ex : ∃ f fd, PySem.W.findIn K (.ref C) m = some (some (.ref f)) ∧ PySem.W.isFn K (.ref f) = true ∧ Fun K m qual st f fd ∧ Binds K fd ps []
theorem methDef_mk {K : PySem.W.Frag} {C f : Addr} {x q : Str} {st : Stmt} {ps : List Str} {oc : Value} {od an : Option Addr} {osl : Array (Option Value)} {kV doc pm cdv ct : Value}
    (a : PySem.W.findIn K (.ref C) x = some (some (.ref f))) (i : PySem.W.isFn K (.ref f) = true)
    (l : K.lookup f = some ⟨oc, od, .func (PySem.W.fnOf x q (defArgs st) (defBody st) (defScope st) .none kV doc pm an cdv ct), osl⟩)
    (c : PySem.W.codeIn K cdv q = true) (k : PySem.W.keepIn K (.ref f) = true)
    (hb : ∀ (kV doc pm : Value) (an : Option Addr) (cdv ct : Value) (us : List Value), us.length = ps.length → bindArgs (PySem.W.fnOf x q (defArgs st) (defBody st) (defScope st) .none kV doc pm an cdv ct) ⟨us, []⟩ = pure (ps.zip us)) : MethDef K C x q st ps :=
  have F := fun_mk (st := st) l c k
  ⟨f, _, a, i, F, F.binds hb⟩
/-- a method that keeps its promise -/
structure MethOk (P : Program) (w : World) (K : PySem.W.Frag) (mg : Str → Option Value) (base : Heap) (C : Addr) (m q : Str) (st : Stmt) (ps : List Str) (k : Nat) (sp : Sp) : Prop where
  ex : ∃ f fd, PySem.W.findIn K (.ref C) m = some (some (.ref f)) ∧ PySem.W.isFn K (.ref f) = true ∧ Fun K m q st f fd ∧ Binds K fd ps [] ∧ FnOk P w K mg base CX0 k f fd ps sp
theorem MethDef.ok {P : Program} {w : World} {K : PySem.W.Frag} {mg : Str → Option Value} {base : Heap} {C : Addr} {m q : Str} {st : Stmt} {N ps : List Str} {k : Nat} {sp : Sp} (T : MethDef K C m q st ps) (S : FnScope N ps (defScope st)) (len : ∀ vs H Q E, sp vs H Q E → vs.length = ps.length)
    (hbody : ∀ (f : Addr) (cdv : Value) (A : Around) (outer : List Env) (s : Shared) (H : Hp) (vs : List V) (Q : VK) (E : XK), Room k (A.deeper (envOfC q (defScope st) s.heap.objs.size f cdv)) → sp vs H Q E →
      ∃ t, PSs (cxOf CX0 P w K mg base N q (defScope st) f cdv A outer s H E).nox (defBody st) t ∧ t { nx := fun _ H' => Q .non H', rt := Q } (start N vs) H) : MethOk P w K mg base C m q st ps (k + 1) sp := by
  obtain ⟨f, fd, h1, h2, F, hb⟩ := T.ex
  exact ⟨f, fd, h1, h2, F, hb, F.ok S len (hbody f)⟩
section
variable {X : Cx} {C : Addr} {m q : Str} {st : Stmt} {ps : List Str} {k : Nat} {sp : Sp} {o e : Expr} {es : List Expr} {ta : TE} {t tk : TA} {apos pos p : Pos} {pl : Sem Bool} {x : Str}
theorem pe_methD (D : MethOk X.prog X.w X.K X.mg X.base C m q st ps k sp) (c : Cls X.K C) (hr : Room k X.A) (he : PE X o ta) (ha : PA X (e :: es) t)
    (hst : starEach (e :: es) X.env = (false, eval e X.env) :: starEach es X.env := by rfl) (hpl : (backTo pos (starEach es X.env)).any (·.1) = false := by rfl)
    (ht : eval (.Call (.Attribute o m apos) (e :: es) [] pos) X.env = (do
      let ov ← eval o X.env
      standAt apos.atName
      let (f, first) ← holding [ov] (getMethod ov m pl)
      callWith pos f first (backTo pos (starEach (e :: es) X.env)) (backToKw pos (keywordEach [] X.env))) := by rfl) :
    PE X (.Call (.Attribute o m apos) (e :: es) [] pos) (tMeth C m sp [] E0 ta t) := by
  obtain ⟨f, fd, h1, h2, h3, hb, F⟩ := D.ex
  exact pe_meth he c ⟨h1, h2, h3.kp⟩ F hr hb .nil pass0 ha hst hpl ht
theorem pe_methD0 (D : MethOk X.prog X.w X.K X.mg X.base C m q st ps k sp) (c : Cls X.K C) (hr : Room k X.A) (he : PE X o ta)
    (ht : eval (.Call (.Attribute o m apos) [] [] pos) X.env = (do
      let ov ← eval o X.env
      standAt apos.atName
      let (f, first) ← holding [ov] (getMethod ov m pl)
      callWith pos f first (backTo pos (starEach [] X.env)) (backToKw pos (keywordEach [] X.env))) := by rfl) :
    PE X (.Call (.Attribute o m apos) [] [] pos) (tMeth C m sp [] E0 ta tNil) := by
  obtain ⟨f, fd, h1, h2, h3, hb, F⟩ := D.ex
  exact pe_meth0 he c ⟨h1, h2, h3.kp⟩ F hr hb .nil pass0 ht
/-- C(e, ..) -/
theorem pe_makeD (D : MethOk X.prog X.w X.K X.mg X.base C "__init__" q st ps k sp) (hmk : PySem.W.makesIn X.K C = true ∧ PySem.W.keepIn X.K (.ref C) = true) (hm : X.mg x = some (.ref C)) (hr : Room (k + 1) X.A) (ha : PA X (e :: es) t) (hg : Gl X x := by rfl)
    (hdb : (x == ("__debug__" : Str)) = false := by decide) (he : starEach (e :: es) X.env = (false, eval e X.env) :: starEach es X.env := by rfl) (hpl : (backTo pos (starEach es X.env)).any (·.1) = false := by rfl) :
    PE X (.Call (.Name x p) (e :: es) [] pos) (tMake C sp [] E0 t) := by
  obtain ⟨f, fd, h1, h2, h3, hb, F⟩ := D.ex
  exact pe_make ⟨hmk.1, h1, h2, hmk.2⟩ F hr hg hm hb .nil pass0 ha hdb he hpl
/-- C(k = e, ..): all by keywords in their order -/
theorem Fun.kbn {K : PySem.W.Frag} {x q : Str} {st : Stmt} {f : Addr} {fd : FuncData} {ps ks : List Str} {n : Nat} (F : Fun K x q st f fd)
    (h : ∀ (kV doc pm : Value) (an : Option Addr) (cdv ct : Value) (us ws : List Value), us.length = n → ws.length = ks.length → bindArgs (PySem.W.fnOf x q (defArgs st) (defBody st) (defScope st) .none kV doc pm an cdv ct) ⟨us, ks.zip ws⟩ = pure (ps.zip (us ++ ws))) :
    KBn K fd ps n ks (fun us ws => us ++ ws) (fun vs zs => vs ++ zs) := by
  obtain ⟨oc, od, kV, doc, pm, an, cdv, ct, osl, rfl, lk, hcd⟩ := F.ex
  exact ⟨fun s us ws _ l1 l2 => .of_eq (h kV doc pm an cdv ct us ws l1 l2), fun a b => a.append b⟩
theorem pe_makeD_kw {kws : List Keyword} {ks : List Str} (D : MethOk X.prog X.w X.K X.mg X.base C "__init__" q st ps k sp) (hmk : PySem.W.makesIn X.K C = true ∧ PySem.W.keepIn X.K (.ref C) = true) (hm : X.mg x = some (.ref C)) (hr : Room (k + 1) X.A)
    (h : ∀ (kV doc pm : Value) (an : Option Addr) (cdv ct : Value) (us ws : List Value), us.length = 1 → ws.length = ks.length → bindArgs (PySem.W.fnOf "__init__" q (defArgs st) (defBody st) (defScope st) .none kV doc pm an cdv ct) ⟨us, ks.zip ws⟩ = pure (ps.zip (us ++ ws)))
    (hkw : PK X kws tk) (hg : Gl X x := by rfl)
    (hall : (backToKw pos (keywordEach kws X.env)).all (·.1.isSome) = true := by rfl) (hks : (backToKw pos (keywordEach kws X.env)).filterMap (·.1) = ks := by rfl) (hdb : (x == ("__debug__" : Str)) = false := by decide)
    (hpl : ((backTo pos (starEach [] X.env)).any (·.1) || (backToKw pos (keywordEach kws X.env)).any (·.1.isNone)) = false := by rfl) :
    PE X (.Call (.Name x p) [] kws pos) (tMakeK C 0 ks.length sp (fun vs zs => vs ++ zs) E0 tNil tk) := by
  obtain ⟨f, fd, h1, h2, h3, hb, F⟩ := D.ex
  exact pe_makeK0 ⟨hmk.1, h1, h2, hmk.2⟩ F hr hg hm (h3.kbn h) pass0 hkw hall hks hdb hpl
end
/-- what isinstance and == ask of a class of the text -/
structure ClsIsi (K : PySem.W.Frag) (C : Addr) : Prop where
  ha : PySem.W.findIn K (.ref C) "__class__" = some (some (.builtin "object.__class__"))
  hn : PySem.W.specialIn K (.builtin "object.__class__") "__get__" = some (some (.builtin "getset_descriptor.__get__"))
  htk : PySem.W.takesIn K (.builtin "object.__class__") = some true
  hm : PySem.W.mroIn K C (.type "object") = some true
  self_ : PySem.W.kitOne K (.ref C) (.ref C) = some true
  int_ : PySem.W.kitOne K (.type "int") (.ref C) = some false
  non_ : PySem.W.kitOne K (.type "NoneType") (.ref C) = some false
  lst_ : PySem.W.kitOne K (.type "list") (.ref C) = some false
  nSelf : PySem.W.notFirst K C (.ref C) = true
  nInt : PySem.W.notFirst K C (.type "int") = true
  nNon : PySem.W.notFirst K C (.type "NoneType") = true
  nLst : PySem.W.notFirst K C (.type "list") = true
/-! ### the same rules with the written part named (within a comprehension) -/
section
variable {X : Cx} {K : PySem.W.Frag}
theorem ix_tupK (h : X.K = K := by rfl) : IxR X (rIxT K) := by
  subst h
  exact ix_tup
theorem ix_listK (h : X.K = K := by rfl) : IxR X (rIxL K) := by
  subst h
  exact ix_list
theorem call_lenK (h : X.K = K := by rfl) : CallR X (.builtin "len") (fun xs H Q => ∃ x n, xs = [x] ∧ LenV K x H n ∧ Q (.int n) H) := by
  subst h
  exact call_len
theorem call_isiK' (h : X.K = K := by rfl) : CallR X (.builtin "isinstance") (rIsi K) := by
  subst h
  exact call_isi
theorem call_list_ofK (h : X.K = K := by rfl) : CallR X (.type "list") (fun xs H Q => ∃ p ys, xs = [.ref p] ∧ (SqL K H p ys ∨ SqT K H p ys) ∧ ∀ l, H l = none → Q (.ref l) (upd H l (.lst ys))) := by
  subst h
  exact call_list_of
end
end L2

/-! The law's own def where it asks repr: its promise for the claim's caller alone (nothing is being shown around it), and its end. -/
namespace L2
open PySem PySem.Spec PyProof.Rows
/-- a promise that holds where nothing is being shown around the call -/
structure FnOkG (P : Program) (w : World) (K : PySem.W.Frag) (mg : Str → Option Value) (base : Heap) (k : Nat) (f : Addr) (fd : FuncData) (ps : List Str) (sp : Sp) : Prop where
  len : ∀ vs H Q E, sp vs H Q E → vs.length = ps.length
  go : ∀ (A : Around) (outer : List Env) (st : Shared) (H : Hp) (args : Args) (us : List Value) (vs : List V) (Q : VK) (E : XK), A.guards = some [] → Room k A → Env0 P w K mg base A outer st H → BindsTo st fd args (ps.zip us) →
    Vals vs us → sp vs H Q E → codeAny (model P w) A (.call (.ref f) args) (CR CX0 outer P w H st Q E) st
theorem some_neq {α : Type} {x : Option α} {o : α} (h : x = some o) : x ≠ none := by
  rw [h]
  exact fun z => nomatch z
section
variable {P : Program} {w : World} {K : PySem.W.Frag} {mg : Str → Option Value} {base : Heap}
theorem Fun.okG {x qual : Str} {d : Stmt} {f : Addr} {fd : FuncData} {N ps : List Str} {k : Nat} {sp : Sp} (F : Fun K x qual d f fd) (S : FnScope N ps (defScope d)) (len : ∀ vs H Q E, sp vs H Q E → vs.length = ps.length)
    (body : ∀ (cdv : Value) (A : Around) (outer : List Env) (st : Shared) (H : Hp) (vs : List V) (Q : VK) (E : XK), (A.deeper (envOfC qual (defScope d) st.heap.objs.size f cdv)).guards = some [] →
      Room k (A.deeper (envOfC qual (defScope d) st.heap.objs.size f cdv)) → sp vs H Q E →
      ∃ t, PSs (cxOf CX0 P w K mg base N qual (defScope d) f cdv A outer st H E).nox (defBody d) t ∧ t { nx := fun _ H' => Q .non H', rt := Q } (start N vs) H) : FnOkG P w K mg base (k + 1) f fd ps sp := by
  obtain ⟨oc, od, kV, doc, pm, an, cdv, ct, osl, rfl, at_f, cod⟩ := F.ex
  refine ⟨len, fun A outer st H args us vs Q E hgd room e0 hbd rel ask => ?_⟩
  have n_args := len _ _ _ _ ask
  have inK : K.In st.heap := e0.mod.kin.keeps fun b o q => (e0.bs b o q).1
  have noLim : st.heap.NoLimit := e0.mod.nolimit.keeps fun b o q => (e0.bs b o q).1
  have kinds : ∀ y ∈ ps.zip us, (defScope d).names.lookup y.1 = some .local ∨ ((defScope d).names.lookup y.1 = some .cell ∧ ((cellsFrom (st.heap.objs.size + 1) (defScope d).names []).lookup y.1).isSome = true) :=
    fun ⟨nm, u⟩ hy => (S.par nm (List.of_mem_zip hy).1).elim (fun q => .inl q) fun q => .inr ⟨q, PySem.W.cellsFrom_some _ _ _ (.inl q)⟩
  refine codeAny_call_function room.depth (inK _ _ at_f) rfl S.co S.gen rfl (PySem.W.codeRec_of inK cod) (hbd _ _ _ _ (wpAny_newFunctionEnv_cells S.kind kinds fun env he s1 x => ?_))
  subst he
  refine ⟨noLim.keeps x.toInCall.keep, codeAny_func ?_⟩
  obtain ⟨t, ht, hq⟩ := body cdv A outer st H vs Q E hgd (room.deeper _) ask
  refine wpAny_mono (ht.nox.run [] s1 (start N vs) H _ (inv_start S room.hd e0 n_args rel x) hq) (fun fl s' z => ?_) fun e s' z => z
  cases fl with
  | ret u =>
    obtain ⟨v, σ', H', J, rv, q⟩ := z
    exact ⟨v, H', J.os, J.bare, J.base, J.hok, rv, q⟩
  | next =>
    obtain ⟨σ', H', J, q⟩ := z
    exact ⟨V.non, H', J.os, J.bare, J.base, J.hok, rfl, q⟩
  | brk => exact z.elim fun _ z => z.elim fun _ z => z.2.elim
  | cont => exact z.elim fun _ z => z.elim fun _ z => z.2.elim
/-- the end: the law's call from the claim's caller -/
theorem law_callG {mb : Str → Option Value} {k : Nat} {fa a : Addr} {fd : FuncData} {x : Str} {sp : Sp} {st : Shared} {vs : List Value} {ns : List Int}
    (inK : K.In st.heap) (gl : st.heap.Ns mainGlobals mg) (bl : st.heap.Ns builtinsNs mb) (bb : ∀ x : Str, x ≠ "__name__" → mb x = bootBuiltins x) (lim : st.heap.NoLimit) (gens : st.gens = #[])
    (obj : st.heap.get? a = some { cls := .type "list", data := .seq vs.toArray }) (areInts : IntsAre vs ns) (short : ns.length ≤ sizeLine) (room : Room k callerA)
    (F : ∀ base : Heap, K.In base → base.Ns mainGlobals mg → FnOkG P w K mg base k fa fd [x] sp) (binds : ∀ (s : Shared) (u : Value), BindsTo s fd ⟨[u], []⟩ [(x, u)])
    (ask : ∀ H : Hp, SqL K H a (ns.map V.int) → sp [.ref a] H (fun v _ => v = .bl true) fun _ _ _ => False) :
    codeAny (model P w) callerA (.call (.ref fa) ⟨[.ref a], []⟩) (fun r s' => r = .ok (.ret (.bool true)) ∧ OldK st.heap s'.heap ∧ s'.os = st.os ∧ AllBare s'.gens) st := by
  have rel := vals_ints areInts
  have n_vs := areInts.length
  -- H: nothing is told of, or the script alone, as a thing that stays
  have core : ∀ H : Hp, (∀ b, H b = none ∨ ∃ ob xs, H b = some (.frz ob (.lst xs))) → SqL K H a (ns.map V.int) → HOk P w H st.heap → (∀ b, H b ≠ none → b = a) → (H a ≠ none → K.lookup a = none) →
      codeAny (model P w) callerA (.call (.ref fa) ⟨[.ref a], []⟩) (fun r s' => r = .ok (.ret (.bool true)) ∧ OldK st.heap s'.heap ∧ s'.os = st.os ∧ AllBare s'.gens) st := by
    intro H hO hS hok only_a notK
    have stands : ∀ {b : Addr} {o : Obj}, st.heap.get? b = some o → H b = none → (hidT st.heap H).get? b = some o := fun e n => hidT_get e n
    have free_of : ∀ {b : Addr}, b ≠ a → H b = none := fun {b} hb => by
      cases q : H b with
      | none => rfl
      | some u => exact absurd (only_a b (some_neq q)) hb
    have keepNs : ∀ {b : Addr} {m : Str → Option Value}, st.heap.Ns b m → (hidT st.heap H).Ns b m := fun {b m} ⟨o, es, ep, e, hdat, more⟩ => ⟨o, es, ep, stands e (free_of fun eq => by
      rw [eq, obj] at e
      cases e
      cases hdat), hdat, more⟩
    have inB : K.In (hidT st.heap H) := fun b o e => stands (inK b o e) (by
      cases q : H b with
      | none => rfl
      | some u =>
        have eq := only_a b (some_neq q)
        subst eq
        rw [notK (some_neq q)] at e
        cases e)
    have md : Mod K mg (hidT st.heap H) := ⟨inB, keepNs gl, ⟨mb, keepNs bl, bb⟩, lim.elim fun mc h => ⟨mc, keepNs h.1, h.2⟩⟩
    have e0 : Env0 P w K mg (hidT st.heap H) callerA [] st H := ⟨rfl, md, fun b o e => of_hidT e, Nat.le_of_eq (hidT_size _ _), trivial, fun b hb => (List.not_mem_nil (a := b) hb).elim, hok, .of_eq gens⟩
    refine codeAny_mono ((F _ inB (keepNs gl)).go callerA [] st H ⟨[.ref a], []⟩ [.ref a] [.ref a] _ _ rfl room e0 (binds st (.ref a)) (.cons rfl .nil) (ask H hS)) fun r s' z => ?_
    cases r with
    | error e => exact False.elim z
    | ok fl =>
      cases fl with
      | next => exact False.elim z
      | brk => exact False.elim z
      | cont => exact False.elim z
      | ret u =>
        obtain ⟨v, H', eos, br, un, ok2, rv, (ev : v = .bl true)⟩ := z
        subst ev
        cases rv
        refine ⟨rfl, OldK.of_keep fun b o e => ?_, eos, br⟩
        rcases hO b with q | ⟨ob, xs, q⟩
        · exact un.keep b o e q (fun z => (List.not_mem_nil (a := b) z).elim) (by simp)
        · have h1 := (hok b _ q).1
          have h2 := (ok2 b _ (un.frzs b ob _ q)).1
          rw [e] at h1
          cases h1
          exact h2
  cases at_a : K.lookup a with
  | some o =>
    have e := inK a o at_a
    rw [obj] at e
    cases e
    exact core (fun _ => none) (fun _ => .inl rfl) (.inr ⟨_, vs.toArray, _, at_a, rfl, rfl, rfl, by rw [List.size_toArray, n_vs]; exact short, by simpa using rel⟩) (fun b u z => nomatch z) (fun b z => absurd rfl z) fun z => absurd rfl z
  | none =>
    have yes : ∀ {b : Addr} {u : HO}, (if b = a then some (HO.frz { cls := .type "list", data := .seq vs.toArray } (.lst (ns.map V.int))) else none) = some u → b = a ∧ u = .frz { cls := .type "list", data := .seq vs.toArray } (.lst (ns.map V.int)) := fun {b u} z => by
      by_cases hb : b = a
      · rw [if_pos hb] at z
        exact ⟨hb, (Option.some.inj z).symm⟩
      · rw [if_neg hb] at z
        cases z
    refine core (fun b => if b = a then some (.frz { cls := .type "list", data := .seq vs.toArray } (.lst (ns.map V.int))) else none) (fun b => ?_) (.inl (.inr ⟨{ cls := .type "list", data := .seq vs.toArray }, if_pos rfl⟩)) (fun b u z => ?_) (fun b z => ?_) fun _ => at_a
    · by_cases hb : b = a
      · exact .inr ⟨_, _, if_pos hb⟩
      · exact .inl (if_neg hb)
    · obtain ⟨rfl, rfl⟩ := yes z
      exact ⟨obj, by rw [List.length_map]; exact short, vs, _, rel, obj⟩
    · by_cases hb : b = a
      · exact hb
      · exact absurd (if_neg hb) z
theorem walk_G {l : PySem.W.OpenLaw} {n k : Nat} {q : Program} {loose : List Str} {XP : (Str → Option Value) → Heap → Prop} {YP : World → Heap → Prop} {d : DefRec} {KK : Params → PySem.W.Frag} {sp : World → Sp} {x : Str}
    (hn : l.most = some n) (hn2 : n ≤ sizeLine) (hdf : d.params.defaults = []) (room : Room k callerA) (hY : ∀ (w : World) (h : Heap), YP w h → (KK w.params).In h)
    (F : ∀ (w : World) (mg : Str → Option Value) (fa : Addr) (h : Heap), (KK w.params).In h → h.Ns mainGlobals mg → mg d.name = some (.ref fa) →
      ∃ fd : FuncData, (∀ (s : Shared) (u : Value), BindsTo s fd ⟨[u], []⟩ [(x, u)]) ∧ ∀ base : Heap, (KK w.params).In base → base.Ns mainGlobals mg → FnOkG l.prog w (KK w.params) mg base k fa fd [x] (sp w))
    (ask : ∀ (w : World) (H : Hp) (a : Addr) (ns : List Int), ns.length ≤ n → SqL (KK w.params) H a (ns.map V.int) → sp w [.ref a] H (fun v _ => v = .bl true) fun _ _ _ => False) :
    PySem.W.WalkO q loose XP YP l.row.toRowW d [] (fun f vs => PySem.call f vs) :=
  Att.attach_call hn hdf fun w s₀ s₁ mg mb fa o pm cd doc a vs ns G Y ho hd hcd hmg hobj hints hlen hgens => by
    obtain ⟨fd, hb, hF⟩ := F w mg fa _ (hY w _ Y) G.T.g hmg
    exact law_callG (hY w _ Y) G.T.g G.T.b G.T.builtins G.T.nolimit hgens hobj hints (Nat.le_trans hlen hn2) room hF hb fun H hS => ask w H a ns hlen hS
end
end L2

/-! != by an own __eq__ without __ne__; a list of one such instance == a list of one other value. -/
namespace L2
open PySem PySem.Spec PyProof.Rows
/-- the class at C has an own __eq__ at f, and no __ne__; it stands on object alone -/
structure ClsNe (K : PySem.W.Frag) (C : Addr) : Prop where
  ex : ∃ (f : Addr) (nm q : Str) (N : Addr) (bs : List Value) (sn : List Str) (sub : List Value) (ab : Bool) (col : Option Bool) (dd : Option Addr) (k0 k1 k2 k3 k5 : Option Value) (oc : Value) (od : Option Addr) (es : Array DictEntry) (n : Nat) (sl : Array (Option Value)),
    K.lookup C = some (excClassObj nm q C N bs [.type "object"] true sn sub ab col dd k0 k1 k2 k3 k5 "object.__new__") ∧ K.lookup N = some ⟨oc, od, .dict es n, sl⟩ ∧ StrKeys es ∧ PySem.W.nsIn K N "__eq__" = some (some (.ref f)) ∧ PySem.W.nsIn K N "__ne__" = some none ∧
    PySem.W.findIn K (.ref C) "__eq__" = some (some (.ref f))
theorem find_of_nsIn {K : PySem.W.Frag} {N : Addr} {oc : Value} {od : Option Addr} {es : Array DictEntry} {n : Nat} {sl : Array (Option Value)} {x : Str} {r : Option Value} (h : K.lookup N = some ⟨oc, od, .dict es n, sl⟩) (e : PySem.W.nsIn K N x = some r) : nsFind es x = r := by
  unfold PySem.W.nsIn at e
  rw [h] at e
  dsimp only at e
  unfold nsFind findBy
  rw [← Array.find?_toList]
  have alt : ∀ en : DictEntry, Value.isStr en.key x = en.key.isStr x := fun _ => rfl
  cases q : es.toList.find? (·.key.isStr x) with
  | some en =>
    rw [q] at e
    simp only [Option.some.injEq] at e
    rw [← e]
    rfl
  | none =>
    rw [q] at e
    dsimp only at e
    split at e
    · cases e
    · cases e
      rfl
theorem strKeys_of {P : Params} {es : Array DictEntry} (h : PySem.W.KeysLit P es.toList) : StrKeys es := fun e he => by
  obtain ⟨x, t, e1, _⟩ := h.all e (Array.mem_toList_iff.mpr he)
  exact ⟨x, t, e1⟩
theorem kit_self {K : PySem.W.Frag} {C : Addr} : PySem.W.kitOne K (.ref C) (.ref C) = some true := if_pos (beq_self_eq_true _)
theorem kit_not {K : PySem.W.Frag} {C : Addr} {t : Value} {b : Bool} (hne : (match t with | .ref _ => false | _ => true) = true) (h1 : PySem.W.isClsIn K C = true) (h2 : PySem.W.typeIn K (.ref C) = some (.type "type")) (h3 : PySem.W.subIn K t (.ref C) = some b) : PySem.W.kitOne K t (.ref C) = some b := by
  have e : (t == Value.ref C) = false := by
    cases q : t == Value.ref C with
    | false => rfl
    | true =>
      have := eq_of_beq q
      subst this
      cases hne
  have h1' : (PySem.W.clsIn K C).isSome = true := h1
  show (if (t == Value.ref C) = true then some true else if ((PySem.W.clsIn K C).isSome && PySem.W.typeIn K (.ref C) == some (.type "type")) = true then PySem.W.subIn K t (.ref C) else none) = some b
  rw [e, if_neg Bool.false_ne_true, if_pos (by rw [h1', h2]; rfl)]
  exact h3
theorem isFn_obj {K : PySem.W.Frag} {f : Addr} (h : PySem.W.isFn K (.ref f) = true) : ∃ o, K.lookup f = some o ∧ o.cls = .type "function" := by
  unfold PySem.W.isFn at h
  exact Option.map_eq_some_iff.mp (beq_iff_eq.mp h)
def rNeO (C : Addr) (sp : Sp) : R2 := fun x y H Q => ∃ a b dx fs dy gs, x = .ref a ∧ y = .ref b ∧ H a = some (.ins C dx fs) ∧ H b = some (.ins C dy gs) ∧ sp [x, y] H (fun v H' => ∃ k, v = .bl k ∧ Q (.bl (!k)) H') E0
section
variable {X : Cx} {C : Addr} {k : Nat} {sp : Sp}
theorem op_neO (D : EqOk X.prog X.w X.K X.mg X.base C k sp) (N : ClsNe X.K C) (hr : Room (k + 1) X.A) (mono : ∀ vs H Q Q' E, (∀ v H', Q v H' → Q' v H') → sp vs H Q E → sp vs H Q' E) : OpR X (compareOp .NotEq) (rNeO C sp) := by
  intro pins s σ H x y v u Q I rx ry h
  obtain ⟨a, b, dx, fs, dy, gs, rfl, rfl, ea, eb, hs⟩ := h
  cases rx
  cases ry
  obtain ⟨f, fd, h1, h2, hb, F⟩ := D.ex
  obtain ⟨f', nm, q, NN, bs, sn, sub, ab, col, dd, k0, k1, k2, k3, k5, oc, od, es, n, sl, l1, l2, sk, e1, e2, e3⟩ := N.ex
  obtain rfl : f = f' := by
    have z := h1.symm.trans e3
    cases z
    rfl
  obtain ⟨mA, J, _⟩ := ins_get I.hok ea
  obtain ⟨oA, J, _⟩ := J.look
  obtain ⟨mB, J2, _⟩ := ins_get I.hok eb
  obtain ⟨oB, J2, _⟩ := J2.look
  obtain ⟨of, lf, cf⟩ := isFn_obj h2
  have base : s.heap.OwnEqNoNe a C f "object" [.type "object"] :=
    ⟨_, of, nm, q, NN, bs, true, sn, sub, ab, col, dd, k0, k1, k2, k3, k5, "object.__new__", nsFind es, _, J.at_, J.cls, I.kIn _ _ l1, ⟨_, es, n, I.kIn _ _ l2, rfl, sk, fun _ => rfl⟩, find_of_nsIn l2 e1, I.kIn _ _ lf, cf, PySem.F.mro_object, PySem.F.cmp_object.eq.lookup, find_of_nsIn l2 e2⟩
  have e0 : Env0 X.prog X.w X.K X.mg X.base X.A.in1 X.stack s H := I.env0.in1
  have hl := F.len _ _ _ _ hs
  have r2 : Vals [V.ref a, V.ref b] [Value.ref a, Value.ref b] := .cons rfl (.cons rfl .nil)
  have run := F.run X.A.in1 X.stack s H ⟨[.ref a, .ref b], []⟩ [.ref a, .ref b] [.ref a, .ref b] _ E0 hr.in1 e0 (by
    have := hb s [.ref a, .ref b] I.kIn (by simpa using hl)
    simpa using this) r2 hs
  obtain ⟨hp, g, d, t, os⟩ := s
  refine compareOp_ne_ownEq PySem.F.cmp_object base J2.at_ J2.cls (by have := hr.un; omega) (wpAny_call (codeAny_mono run fun r s' hq => ?_))
  cases r with
  | error e => exact False.elim hq
  | ok fl =>
    cases fl with
    | ret w =>
      obtain ⟨z, H', I', rz, b', ez, ex⟩ := I.after hq
      subst ez
      cases rz
      exact ⟨b', rfl, .bl (!b'), H', I', rfl, ex⟩
    | next => exact False.elim hq
    | brk => exact False.elim hq
    | cont => exact False.elim hq
end
end L2
namespace GQ1
open PySem PySem.SeqAt GQ
open AutoSeq1 (wpAny_loadPart')
open MeetsSeq MeetsSeq2 MeetsSeq3 SeqRoads2
section
variable {prog : Program} {w : World} {A : Around} {E : Value → Shared → Prop}
/-- two lists of one item each, whose items are not equal -/
theorem one_ne {l b : Addr} {x y : Value} {xs ys : Array Value} {n m : Nat} {st : Shared} {Q : Value → Shared → Prop} (hu : A.units < cLine) (hl : st.heap.get? l = some { cls := .type "list", data := .seq xs n }) (hb : st.heap.get? b = some { cls := .type "list", data := .seq ys m })
    (sx : xs.size = 1) (sy : ys.size = 1) (ex : xs[((0 : Int)).toNat]? = some x) (ey : ys[((0 : Int)).toNat]? = some y)
    (item : wpAny (model prog w) A.in1 (eqBool x y) (fun r s' => r = false ∧ (∃ zs us n' m', s'.heap.get? l = some { cls := .type "list", data := .seq zs n' } ∧ s'.heap.get? b = some { cls := .type "list", data := .seq us m' } ∧ zs[((0 : Int)).toNat]?.isSome = true ∧ us[((0 : Int)).toNat]?.isSome = true) ∧ Q (.bool false) s') E st) :
    wpAny (model prog w) A (richCompare .Eq (.ref l) (.ref b)) Q E st := by
  refine wpAny_richCompare_same_room (op := .Eq) ⟨_, hl, rfl⟩ ⟨_, hb, rfl⟩ F.slot_list_eq (call_here F.slot_list_eq ⟨_, hl, rfl⟩ F.entry_list_eq (F.args_list_eq_2 _ _) ?_) hu
  have sub := AutoSeq1.sub_list_list
  have turn : wpAny (model prog w) A.in1 (Builtin.«list.__eq__.loop» ⟨[.ref l, .ref b, rawInt 0, rawInt 2], []⟩) (FinOf prog w A (wants (fun v s' => v ≠ .notImplemented ∧ Q v s') E)) (fun e s' => wants (fun v s' => v ≠ .notImplemented ∧ Q v s') E (.error e) s') st := by
    obtain ⟨hp, g, d, tk, os⟩ := st
    wp_walk using wpAny_loadPart' hl, wpAny_loadPart' hb
    rw [ex, ey]
    refine wpAny_bind (wpAny_mono item (fun r s2 q => ?_) fun _ _ z => z)
    obtain ⟨hr, ⟨zs, us, n', m', hl2, hb2, i1, i2⟩, q⟩ := q
    subst hr
    obtain ⟨z, e1⟩ := Option.isSome_iff_exists.mp i1
    obtain ⟨u, e2⟩ := Option.isSome_iff_exists.mp i2
    obtain ⟨hp2, g2, d2, tk2, os2⟩ := s2
    wp_walk using wpAny_loadPart' hl2, wpAny_loadPart' hb2
    rw [e1, e2]
    wp_walk
    exact ⟨(fun z => nomatch z), q⟩
  have same : ¬ (xs.size != ys.size) = true := by simp [sx, sy]
  obtain ⟨hp, g, d, tk, os⟩ := st
  wp_walk using wpAny_loadPart' hl, wpAny_loadPart' hb
  exact ⟨plainId_quiet plain_eq_loop _, codeAny_builtin entry_eq_loop (by
    rw [Around.under_plainId plain_eq_loop _]
    exact turn)⟩
theorem eq_other {a : Addr} {y : Value} {st : Shared} {Q : Bool → Shared → Prop} (hy : y = .none) (h : wpAny (model prog w) A (richCompare .Eq (.ref a) y) (fun v s' => ∃ r, v = .bool r ∧ Q r s') E st) : wpAny (model prog w) A (eqBool (.ref a) y) Q E st := by
  subst hy
  unfold eqBool
  refine wpAny_holding ?_
  refine wpAny_ite_split (fun z => absurd (eq_of_beq z) (fun z => nomatch z)) fun _ => ?_
  refine wpAny_bind (wpAny_mono h (fun v s' hv => ?_) fun _ _ z => z)
  obtain ⟨r, rfl, q⟩ := hv
  exact wpAny_truthy_bool q
end
end GQ1
namespace L2
open PySem PySem.Spec PyProof.Rows
section
variable {X : Cx} {C : Addr} {k : Nat} {sp : Sp}
/-- [a] == [None], a an instance that is not equal to None -/
def rEq1 (K : PySem.W.Frag) (C : Addr) (sp : Sp) : R2 := fun x y H Q => ∃ l b a dx fs, x = .ref l ∧ y = .ref b ∧ H l = some (.lst [.ref a]) ∧ H b = some (.lst [.non]) ∧ H a = some (.ins C dx fs) ∧ PySem.W.notFirst K C (.type "NoneType") = true ∧ sp [.ref a, .non] H (fun v H' => v = .bl false ∧ H' = H) E0 ∧ Q (.bl false) H
theorem op_eq1 (D : EqOk X.prog X.w X.K X.mg X.base C k sp) (hr : Room (k + 1) X.A) (mono : ∀ vs H Q Q' E, (∀ v H', Q v H' → Q' v H') → sp vs H Q E → sp vs H Q' E) : OpR X (compareOp .Eq) (rEq1 X.K C sp) := by
  intro pins s σ H x y v u Q I rx ry h
  obtain ⟨l, b, a, dx, fs, rfl, rfl, hl, hb, ha, hn, hs, q⟩ := h
  cases rx
  cases ry
  obtain ⟨_, its, n, r1, h1⟩ := (show ObjOk X.prog X.w H s.heap l (.lst [.ref a]) from I.hok l _ hl)
  obtain ⟨_, its2, m, r2, h2⟩ := (show ObjOk X.prog X.w H s.heap b (.lst [.non]) from I.hok b _ hb)
  cases r1 with | cons q1 t1 =>
  cases t1
  cases q1
  cases r2 with | cons q2 t2 =>
  cases t2
  cases q2
  show wpAny (model X.prog X.w) X.A (richCompare .Eq (.ref l) (.ref b)) (EP X pins σ Q) X.xe s
  refine GQ1.one_ne (x := .ref a) (y := .none) hr.units0 h1 h2 rfl rfl rfl rfl (GQ1.eq_other rfl (wpAny_mono (run_eqO D (R := fun c s' => c = false ∧ Inv X pins σ H s' ∧ True) (hr.in1) rfl I ha (show RelV .non Value.none from rfl) .non hn (mono _ _ _ _ _ (fun v H' z => ?_) hs)) (fun r s' z => ?_) fun _ _ z => z))
  · obtain ⟨rfl, rfl⟩ := z
    exact ⟨false, rfl, fun s' I' => ⟨rfl, I', True.intro⟩⟩
  · obtain ⟨c, rfl, rfl, I', _⟩ := z
    obtain ⟨_, jts, n', r1, g1⟩ := (show ObjOk X.prog X.w H s'.heap l (.lst [.ref a]) from I'.hok l _ hl)
    obtain ⟨_, jts2, m', r2, g2⟩ := (show ObjOk X.prog X.w H s'.heap b (.lst [.non]) from I'.hok b _ hb)
    cases r1 with | cons q1 t1 =>
    cases t1
    cases q1
    cases r2 with | cons q2 t2 =>
    cases t2
    cases q2
    exact ⟨false, rfl, rfl, ⟨_, _, n', m', g1, g2, rfl, rfl⟩, .bl false, H, I', rfl, q⟩
end
end L2

/-! for k in w, w a dict of the module whose keys are texts. -/
namespace L2
open PySem PySem.Spec PyProof.Rows
/-- the keys of such a dict -/
def keysL : List DictEntry → Option (List Str)
  | [] => some []
  | e :: r => match e.key, keysL r with
    | .str z _, some zs => some (z :: zs)
    | _, _ => none
theorem keysL_cons {e : DictEntry} {r : List DictEntry} {ks : List Str} (h : keysL (e :: r) = some ks) : ∃ z t zs, e.key = .str z t ∧ keysL r = some zs ∧ ks = z :: zs := by
  unfold keysL at h
  split at h
  · rename_i z t zs e1 e2
    cases h
    exact ⟨z, t, zs, e1, e2, rfl⟩
  · cases h
theorem keysL_len : ∀ {es : List DictEntry} {ks : List Str}, keysL es = some ks → ks.length = es.length
  | [], ks, h => by
    cases h
    rfl
  | e :: r, ks, h => by
    obtain ⟨z, t, zs, _, h2, rfl⟩ := keysL_cons h
    rw [List.length_cons, List.length_cons, keysL_len h2]
theorem keysL_get : ∀ {es : List DictEntry} {ks : List Str} {i : Nat}, keysL es = some ks → i < ks.length → ∃ e z t, es[i]? = some e ∧ e.key = .str z t ∧ ks[i]? = some z
  | [], ks, i, h, hi => by
    cases h
    exact absurd hi (Nat.not_lt_zero _)
  | e :: r, ks, i, h, hi => by
    obtain ⟨z, t, zs, h1, h2, rfl⟩ := keysL_cons h
    cases i with
    | zero => exact ⟨e, z, t, rfl, h1, rfl⟩
    | succ i =>
      obtain ⟨e', z', t', a, b, c⟩ := keysL_get h2 (i := i) (by simpa using hi)
      exact ⟨e', z', t', by simpa using a, b, by simpa using c⟩
/-- turns over the texts ks -/
def Iwk (ks : List Str) : It := ⟨fun i _ => i < ks.length, fun i H x H' => H' = H ∧ ∃ z, ks[i]? = some z ∧ x = .str z, fun i _ => ks.length ≤ i⟩
theorem walk_wk {ks : List Str} : Walk (Iwk ks) ks.length (fun _ => True) (fun i H x H' => H' = H ∧ ∃ z, ks[i]? = some z ∧ x = .str z) :=
  ⟨fun _ _ h _ => h, fun _ _ => Nat.le_refl _, fun _ _ _ _ _ _ y => y⟩
section
variable {P : Program} {w : World} {K : PySem.W.Frag} {tg : Expr}
theorem turn_wk {a : Addr} {es : Array DictEntry} {n : Nat} {ks : List Str} (it : Addr) (hl : K.lookup a = some ⟨.type "dict", none, .dict es n, #[]⟩) (hk : keysL es.toList = some ks) :
    Turn P w K tg (Iwk ks) [it] it (fun i h => h.IsKeyIter it a i ks.length n) where
  mem := List.mem_singleton.mpr rfl
  obj := fun i h st b hb => by
    obtain rfl : b = it := List.mem_singleton.mp hb
    obtain ⟨o, e1, _, e3⟩ := st
    exact ⟨o, e1, fun v z => by rw [e3] at z; cases z⟩
  keep := fun i h h' st k => st.at fun o e => k it (List.mem_singleton.mpr rfl) o e
  item := by
    intro X eP ew eK hc i pins s σ H E I hf st hg
    subst eP ew eK
    obtain ⟨f0, f1, f2, f3, f4, f5⟩ := hf it (List.mem_singleton.mpr rfl)
    obtain ⟨en, z, tk, e1, e2, e3⟩ := keysL_get hk hg
    have hsz : es.size = ks.length := by rw [keysL_len hk, Array.length_toList]
    refine next_key_item st (I.kIn _ _ hl) rfl hsz (by rw [← Array.getElem?_toList]; exact e1) fun h' st' sb => ?_
    have J : Inv X pins σ H { s with heap := h' } := I.turned (t' := s.toks) (fun b o hb q => (sb.2 b hb).trans q) f0 f1 f3 f4 f5
    obtain ⟨o, q1, q2, q3⟩ := id st'
    refine ⟨en.key, rfl, go_of (s := { s with heap := h' }) q1 q2 q3 (by decide) ⟨.str z, H, J, ?_, ⟨rfl, z, e3, rfl⟩, st', fun b hb => (hf b hb).1⟩⟩
    rw [e2]
    exact ⟨tk, rfl⟩
  done := by
    intro X eP ew eK hc i pins s σ H E I hf st hg
    subst eP ew eK
    obtain ⟨f0, f1, f2, f3, f4, f5⟩ := hf it (List.mem_singleton.mpr rfl)
    have hsz : es.size = ks.length := by rw [keysL_len hk, Array.length_toList]
    exact next_key_end (I.ok.hd hc) st (I.kIn _ _ hl) rfl hsz hg fun h' eb => ⟨rfl, I.turned (t' := s.toks) (fun b o hb q => eb b o hb q) f0 f1 f3 f4 f5⟩
  self := fun B j s Q E turned more => by
    have hT := turned.typeIs
    exact wpAny_pyIter_slot hT F.slot_dict_keyiterator_iter (wpAny_call_entry F.slot_dict_keyiterator_iter hT F.entry_dict_keyiterator_iter (wpAny_pure ⟨_, rfl, "dict_keyiterator", _, hT, F.slot_dict_keyiterator_next.lookup, more⟩) (F.args_dict_keyiterator_iter_1 _))
end
def iWk (K : PySem.W.Frag) (td : TE) : TI := fun σ H R => td σ H fun x H1 => ∃ a es n ks, x = .ref a ∧ K.lookup a = some ⟨.type "dict", none, .dict es n, #[]⟩ ∧ (a == sysModules) = false ∧ keysL es.toList = some ks ∧ R (Iwk ks) H1
theorem pi_wk {X : Cx} {tg e : Expr} {td : TE} (he : PE X e td) : PI X tg e (iWk X.K td) := by
  refine ⟨fun pins s σ H R I h => ?_⟩
  refine thn (he.run pins s σ H _ I h) fun u s1 ⟨x, H1, I1, rx, a, es, n, ks, ex, hl, hs, hk, q⟩ => ?_
  subst ex
  obtain rfl : u = Value.ref a := rx
  have hsz : es.size = ks.length := by rw [keysL_len hk, Array.length_toList]
  refine iter_keys hs (I1.kIn _ _ hl) ⟨rfl, rfl, rfl⟩ rfl (pi_one (tk := s1.toks) I1 _ (turn_wk _ hl hk) ⟨_, Heap.get?_push_size _ rfl, rfl, ?_⟩ q)
  rw [hsz] <;> rfl
end L2

/-! Documents as plain data: rows, their texts, and how a text is read. -/
namespace Lw
open PySem L2
def GoodS (n : Nat) (z : Str) : Prop := z.cps.size ≤ n ∧ ∀ c ∈ z.cps.toList, 32 ≤ c ∧ c ≤ 126
inductive Row where
  | text (z : Str) | line (z : Str) | hard | cat (ps : List Int) | nest (n j : Int) | align (j : Int) | group (j : Int)
def Row.data : Row → PyData
  | .text z => .tuple [.str "text", .str z]
  | .line z => .tuple [.str "line", .str z]
  | .hard => .tuple [.str "hard"]
  | .cat ps => .tuple [.str "cat", .list (ps.map .int)]
  | .nest n j => .tuple [.str "nest", .int n, .int j]
  | .align j => .tuple [.str "align", .int j]
  | .group j => .tuple [.str "group", .int j]
def Row.ok (k : Nat) : Row → Prop
  | .text z => GoodS 20 z
  | .line z => GoodS 3 z
  | .hard => True
  | .cat ps => ps.length ≤ 8 ∧ ∀ j ∈ ps, 0 ≤ j ∧ j < k
  | .nest n j => 0 ≤ n ∧ n ≤ 8 ∧ 0 ≤ j ∧ j < k
  | .align j => 0 ≤ j ∧ j < k
  | .group j => 0 ≤ j ∧ j < k
theorem GoodS.mono {n m : Nat} {z : Str} (h : GoodS n z) (hm : n ≤ m) : GoodS m z := ⟨Nat.le_trans h.1 hm, h.2⟩
def OkRows (rs : List Row) : Prop := ∀ (i : Nat) (r : Row), rs[i]? = some r → Row.ok i r
theorem OkRows.snoc {rs : List Row} {r : Row} (h : OkRows rs) (hr : r.ok rs.length) : OkRows (rs ++ [r]) := fun i q e => by
  rcases Nat.lt_trichotomy i rs.length with l | l | l
  · rw [List.getElem?_append_left l] at e
    exact h i q e
  · subst l
    rw [List.getElem?_append_right (Nat.le_refl _), Nat.sub_self] at e
    cases e
    exact hr
  · rw [List.getElem?_eq_none (by rw [List.length_append, List.length_singleton]; omega)] at e
    cases e
def Row.kind : Row → Str
  | .text _ => "text" | .line _ => "line" | .hard => "hard" | .cat _ => "cat" | .nest _ _ => "nest" | .align _ => "align" | .group _ => "group"

/-! ### a line is read -/
def comm : List Nat → List Nat → Nat
  | a :: as, b :: bs => if a = b then comm as bs + 1 else 0
  | _, _ => 0
/-- digits of a number less than e -/
def digs (e : Nat) : List Nat → Option Nat → Nat → Option Nat × Nat
  | [], n, s => (n, s)
  | c :: r, n, s => if 48 ≤ c ∧ c ≤ 57 then (if n = some 0 ∨ e ≤ n.getD 0 * 10 + (c - 48) then (n, s) else digs e r (some (n.getD 0 * 10 + (c - 48))) (s + 1)) else (n, s)
def rdNum (l : List Nat) (s e : Nat) : Option Nat × Nat := if e = 0 ∨ l[s]? ≠ some 32 then (none, s) else digs e (l.drop (s + 1)) none (s + 1)
def good (c : Nat) : Bool := decide (32 ≤ c ∧ c ≤ 126)
def run : Nat → List Nat → Nat
  | 0, _ => 0
  | _ + 1, [] => 0
  | m + 1, c :: r => if good c then run m r + 1 else 0
/-- k: the length of the kind -/
def rdStr (k : Nat) (l : List Nat) (most : Nat) : Option (List Nat) × Nat :=
  if l[k]? ≠ some 32 then (none, k) else if k + 1 + run most (l.drop (k + 1)) < l.length then (none, k + 1 + run most (l.drop (k + 1))) else (some (l.drop (k + 1)), k + 1 + run most (l.drop (k + 1)))
def rdParts (l : List Nat) (k : Nat) : Nat → Nat → List Nat → Option (List Nat) × Nat
  | 0, s, ps => if s < l.length then (none, s) else (some ps, s)
  | m + 1, s, ps => if s < l.length then (match rdNum l s k with | (none, t) => (none, t) | (some p, t) => rdParts l k m t (ps ++ [p])) else (some ps, s)
def rdNums (l : List Nat) : List Nat → Nat → List Nat → Option (List Nat) × Nat
  | [], s, fs => if s < l.length then (none, s) else (some fs, s)
  | e :: es, s, fs => match rdNum l s e with | (none, t) => (none, t) | (some n, t) => rdNums l es t (fs ++ [n])
inductive Kind where
  | text | line | hard | cat | nest | align | group
  deriving DecidableEq
def Kind.str : Kind → Str
  | .text => "text" | .line => "line" | .hard => "hard" | .cat => "cat" | .nest => "nest" | .align => "align" | .group => "group"
def Kind.cps (q : Kind) : List Nat := q.str.cps.toList
def kinds : List Kind := [.text, .line, .hard, .cat, .nest, .align, .group]
def Kind.needs : Kind → Bool
  | .nest => true | .align => true | .group => true | _ => false
def strOf (l : List Nat) : Str := ⟨l.toArray⟩
def rdKind (q : Kind) (l : List Nat) (k : Nat) : Option Row × Nat :=
  if k = 0 ∧ q.needs = true then (none, 0) else
  if comm q.cps l < q.cps.length then (none, comm q.cps l) else
  match q with
  | .text => match rdStr 4 l 20 with | (none, s) => (none, s) | (some z, s) => (some (.text (strOf z)), s)
  | .line => match rdStr 4 l 3 with | (none, s) => (none, s) | (some z, s) => (some (.line (strOf z)), s)
  | .cat => match rdParts l k 8 3 [] with | (none, s) => (none, s) | (some ps, s) => (some (.cat (ps.map Int.ofNat)), s)
  | .nest => match rdNums l [9, k] 4 [] with | (some [n, j], s) => (some (.nest n j), s) | (_, s) => (none, s)
  | .hard => match rdNums l [] 4 [] with | (some _, s) => (some .hard, s) | (none, s) => (none, s)
  | .align => match rdNums l [k] 5 [] with | (some [j], s) => (some (.align j), s) | (_, s) => (none, s)
  | .group => match rdNums l [k] 5 [] with | (some [j], s) => (some (.group j), s) | (_, s) => (none, s)
def rdRow (l : List Nat) (k : Nat) : List Kind → Nat → Option Row × Nat
  | [], m => (none, m)
  | q :: qs, m => match rdKind q l k with | (some r, s) => (some r, s) | (none, s) => rdRow l k qs (max m s)
def rdDoc : List (List Nat) → List Row → Except (Nat × Nat) (List Row)
  | [], rs => .ok rs
  | l :: ls, rs => if rs.length = 200 then .error (200, 0) else match rdRow l rs.length kinds 0 with | (none, s) => .error (rs.length, s) | (some r, _) => rdDoc ls (rs ++ [r])

/-! ### what is read is a row -/
theorem digs_lt {e : Nat} : ∀ {l : List Nat} {n : Option Nat} {s : Nat} {m t : Nat}, digs e l n s = (some m, t) → (∀ a, n = some a → a < e) → m < e
  | [], n, s, m, t, h, hn => by
    cases h
    exact hn m rfl
  | c :: r, n, s, m, t, h, hn => by
    unfold digs at h
    split at h
    · split at h
      · cases h
        exact hn m rfl
      · rename_i h2
        refine digs_lt h fun a ha => ?_
        cases ha
        omega
    · cases h
      exact hn m rfl
theorem rdNum_lt {l : List Nat} {s e m t : Nat} (h : rdNum l s e = (some m, t)) : m < e := by
  unfold rdNum at h
  split at h
  · cases h
  · exact digs_lt h fun a ha => nomatch ha
theorem run_le : ∀ (m : Nat) (l : List Nat), run m l ≤ m ∧ run m l ≤ l.length
  | 0, l => ⟨Nat.le_refl _, Nat.zero_le _⟩
  | m + 1, [] => ⟨Nat.zero_le _, Nat.zero_le _⟩
  | m + 1, c :: r => by
    have := run_le m r
    unfold run
    rw [List.length_cons]
    split <;> omega
theorem run_good : ∀ (m : Nat) (l : List Nat) (i : Nat), i < run m l → ∃ c, l[i]? = some c ∧ good c = true
  | 0, l, i, h => absurd h (Nat.not_lt_zero _)
  | m + 1, [], i, h => absurd h (Nat.not_lt_zero _)
  | m + 1, c :: r, i, h => by
    unfold run at h
    split at h
    · rename_i hc
      cases i with
      | zero => exact ⟨c, rfl, hc⟩
      | succ i => exact run_good m r i (by omega)
    · omega
theorem rdStr_ok {k most s : Nat} {l z : List Nat} (h : rdStr k l most = (some z, s)) : GoodS most (strOf z) := by
  unfold rdStr at h
  split at h
  · cases h
  split at h
  · cases h
  rename_i h2
  cases h
  have r1 := run_le most (l.drop (k + 1))
  rw [List.length_drop] at r1
  refine ⟨?_, fun c hc => ?_⟩
  · show (l.drop (k + 1)).toArray.size ≤ most
    rw [List.size_toArray, List.length_drop]
    omega
  · obtain ⟨i, hi⟩ := List.mem_iff_getElem?.mp (show c ∈ l.drop (k + 1) by simpa [strOf] using hc)
    have hlt : i < (l.drop (k + 1)).length := (List.getElem?_eq_some_iff.mp hi).1
    rw [List.length_drop] at hlt
    obtain ⟨d, h1, h2⟩ := run_good most (l.drop (k + 1)) i (by omega)
    rw [hi] at h1
    cases h1
    exact of_decide_eq_true h2
theorem rdParts_ok {l : List Nat} {k : Nat} : ∀ {m s : Nat} {ps qs : List Nat} {t : Nat}, rdParts l k m s ps = (some qs, t) → (∀ p ∈ ps, p < k) → qs.length ≤ ps.length + m ∧ ∀ p ∈ qs, p < k
  | 0, s, ps, qs, t, h, hp => by
    unfold rdParts at h
    split at h <;> cases h
    exact ⟨Nat.le_refl _, hp⟩
  | m + 1, s, ps, qs, t, h, hp => by
    unfold rdParts at h
    split at h
    · split at h
      · cases h
      · rename_i p t' e
        have := rdParts_ok h fun q hq => by
          rcases List.mem_append.mp hq with hq | hq
          · exact hp q hq
          · rw [List.mem_singleton.mp hq]
            exact rdNum_lt e
        rw [List.length_append, List.length_singleton] at this
        exact ⟨by omega, this.2⟩
    · cases h
      exact ⟨by omega, hp⟩
theorem rdNums1 {l : List Nat} {e s j t : Nat} {fs : List Nat} (h : rdNums l [e] s [] = (some fs, t)) : ∃ j, fs = [j] ∧ j < e := by
  unfold rdNums at h
  split at h
  · cases h
  · rename_i n t' e1
    unfold rdNums at h
    split at h <;> cases h
    exact ⟨n, rfl, rdNum_lt e1⟩
theorem rdNums2 {l : List Nat} {e e' s j t : Nat} {fs : List Nat} (h : rdNums l [e, e'] s [] = (some fs, t)) : ∃ i j, fs = [i, j] ∧ i < e ∧ j < e' := by
  unfold rdNums at h
  split at h
  · cases h
  · rename_i n t' e1
    unfold rdNums at h
    split at h
    · cases h
    · rename_i m t2 e2
      unfold rdNums at h
      split at h <;> cases h
      exact ⟨n, m, rfl, rdNum_lt e1, rdNum_lt e2⟩
theorem rdKind_ok {q : Kind} {l : List Nat} {k s : Nat} {r : Row} (h : rdKind q l k = (some r, s)) : r.ok k := by
  unfold rdKind at h
  split at h
  · cases h
  split at h
  · cases h
  cases q with
  | text =>
    dsimp only at h
    split at h <;> cases h
    exact rdStr_ok (by assumption)
  | line =>
    dsimp only at h
    split at h <;> cases h
    exact rdStr_ok (by assumption)
  | hard =>
    dsimp only at h
    split at h <;> cases h
    exact True.intro
  | cat =>
    dsimp only at h
    split at h <;> cases h
    rename_i ps e
    have := rdParts_ok e fun p hp => nomatch hp
    refine ⟨by rw [List.length_map]; simpa using this.1, fun j hj => ?_⟩
    obtain ⟨n, hn, rfl⟩ := List.mem_map.mp hj
    exact ⟨Int.natCast_nonneg n, Int.ofNat_lt.mpr (this.2 n hn)⟩
  | nest =>
    dsimp only at h
    split at h <;> cases h
    rename_i n j e
    obtain ⟨a, b, e1, h1, h2⟩ := rdNums2 (j := 0) e
    cases e1
    exact ⟨Int.natCast_nonneg _, by omega, Int.natCast_nonneg _, Int.ofNat_lt.mpr h2⟩
  | align =>
    dsimp only at h
    split at h <;> cases h
    rename_i j e
    obtain ⟨a, e1, h1⟩ := rdNums1 (j := 0) e
    cases e1
    exact ⟨Int.natCast_nonneg _, Int.ofNat_lt.mpr h1⟩
  | group =>
    dsimp only at h
    split at h <;> cases h
    rename_i j e
    obtain ⟨a, e1, h1⟩ := rdNums1 (j := 0) e
    cases e1
    exact ⟨Int.natCast_nonneg _, Int.ofNat_lt.mpr h1⟩
theorem rdRow_ok {l : List Nat} {k : Nat} {r : Row} {s : Nat} : ∀ {qs : List Kind} {m : Nat}, rdRow l k qs m = (some r, s) → r.ok k
  | [], m, h => by cases h
  | q :: qs, m, h => by
    unfold rdRow at h
    split at h
    · cases h
      exact rdKind_ok (by assumption)
    · exact rdRow_ok h
theorem rdDoc_ok : ∀ {ls : List (List Nat)} {rs qs : List Row}, rdDoc ls rs = .ok qs → OkRows rs → rs.length ≤ 200 → OkRows qs ∧ qs.length ≤ 200 ∧ qs.length = rs.length + ls.length
  | [], rs, qs, h, ho, hl => by
    cases h
    exact ⟨ho, hl, rfl⟩
  | l :: ls, rs, qs, h, ho, hl => by
    unfold rdDoc at h
    split at h
    · cases h
    split at h
    · cases h
    · rename_i hne r s e
      have := rdDoc_ok h (ho.snoc (rdRow_ok e)) (by rw [List.length_append, List.length_singleton]; omega)
      rw [List.length_append, List.length_singleton] at this
      rw [List.length_cons]
      exact ⟨this.1, this.2.1, by omega⟩

/-! ### the text of a row, and back -/
def dg (n : Nat) : List Nat := if n < 10 then [48 + n] else if n < 100 then [48 + n / 10, 48 + n % 10] else [48 + n / 100, 48 + n / 10 % 10, 48 + n % 10]
/-- the words of a row behind its kind -/
def Row.words : Row → List (List Nat)
  | .text z => [z.cps.toList]
  | .line z => [z.cps.toList]
  | .hard => []
  | .cat ps => ps.map fun p => dg p.toNat
  | .nest n j => [dg n.toNat, dg j.toNat]
  | .align j => [dg j.toNat]
  | .group j => [dg j.toNat]
def tailL (ws : List (List Nat)) : List Nat := ws.flatMap fun w => 32 :: w
def Row.q : Row → Kind
  | .text _ => .text | .line _ => .line | .hard => .hard | .cat _ => .cat | .nest _ _ => .nest | .align _ => .align | .group _ => .group
def Row.codes (r : Row) : List Nat := r.q.cps ++ tailL r.words
theorem digs_dg {e n : Nat} {r : List Nat} {s : Nat} (hn : n < e) (he : e ≤ 1000) (hr : r = [] ∨ ∃ t, r = 32 :: t) : digs e (dg n ++ r) none s = (some n, s + (dg n).length) := by
  have stop : ∀ (m : Nat) (s : Nat), digs e r (some m) s = (some m, s) := fun m s => by
    rcases hr with rfl | ⟨t, rfl⟩
    · rfl
    · unfold digs
      rw [if_neg (by decide)]
  have step : ∀ (o : Option Nat) (d : Nat) (s : Nat) (t : List Nat), d < 10 → o ≠ some 0 → o.getD 0 * 10 + d < e → digs e ((48 + d) :: t) o s = digs e t (some (o.getD 0 * 10 + d)) (s + 1) := fun o d s t hd ho hlt => by
    conv => lhs; unfold digs
    rw [if_pos (by omega), show 48 + d - 48 = d by omega, if_neg (by rintro (h | h) <;> first | exact ho h | omega)]
  unfold dg
  split
  · rename_i h
    rw [List.cons_append, step none n s _ h (fun z => nomatch z) (by simpa using hn)]
    simpa using stop n (s + 1)
  split
  · rename_i h1 h
    rw [List.cons_append, step none (n / 10) s _ (by omega) (fun z => nomatch z) (by simp; omega), List.cons_append, step _ (n % 10) _ _ (by omega) (fun z => by
      have := Option.some.inj z
      simp at this
      omega) (by simp; omega)]
    have e1 : (some (Option.getD none 0 * 10 + n / 10)).getD 0 * 10 + n % 10 = n := by simp; omega
    rw [e1]
    exact stop n (s + 2)
  · rename_i h1 h
    rw [List.cons_append, step none (n / 100) s _ (by omega) (fun z => nomatch z) (by simp; omega), List.cons_append, step _ (n / 10 % 10) _ _ (by omega) (fun z => by
      have := Option.some.inj z
      simp at this
      omega) (by simp; omega), List.cons_append, step _ (n % 10) _ _ (by omega) (fun z => by
      have := Option.some.inj z
      simp at this
      omega) (by simp; omega)]
    have e1 : (some ((some (Option.getD none 0 * 10 + n / 100)).getD 0 * 10 + n / 10 % 10)).getD 0 * 10 + n % 10 = n := by simp; omega
    rw [e1]
    exact stop n (s + 3)
/-- l is p, then w -/
theorem rdNum_dg {p : List Nat} {e n : Nat} {r : List Nat} (hn : n < e) (he : e ≤ 1000) (hr : r = [] ∨ ∃ t, r = 32 :: t) : rdNum (p ++ 32 :: (dg n ++ r)) p.length e = (some n, p.length + (1 + (dg n).length)) := by
  unfold rdNum
  rw [if_neg (by
    rintro (h | h)
    · omega
    · exact h (by rw [List.getElem?_append_right (Nat.le_refl _), Nat.sub_self]; rfl)), show p ++ 32 :: (dg n ++ r) = (p ++ [32]) ++ (dg n ++ r) by simp, List.drop_append_of_le_length (by simp), show List.drop (p.length + 1) (p ++ [32]) = [] from List.drop_eq_nil_of_le (by simp), List.nil_append, digs_dg hn he hr]
  congr 1
  omega
theorem tail_shape (ws : List (List Nat)) : tailL ws = [] ∨ ∃ t, tailL ws = 32 :: t := by
  cases ws with
  | nil => exact .inl rfl
  | cons w ws => exact .inr ⟨w ++ tailL ws, by simp [tailL]⟩
theorem tail_cons (w : List Nat) (ws : List (List Nat)) : tailL (w :: ws) = 32 :: (w ++ tailL ws) := by simp [tailL]
theorem rdParts_back {k : Nat} (hk : k ≤ 1000) : ∀ (ps : List Nat) (p : List Nat) (m : Nat) (qs : List Nat), ps.length ≤ m → (∀ j ∈ ps, j < k) → ∃ t, rdParts (p ++ tailL (ps.map dg)) k m p.length qs = (some (qs ++ ps), t)
  | [], p, 0, qs, hm, hj => ⟨p.length, by
    unfold rdParts
    rw [if_neg (by simp [tailL])]
    simp⟩
  | [], p, m + 1, qs, hm, hj => ⟨p.length, by
    unfold rdParts
    rw [if_neg (by simp [tailL])]
    simp⟩
  | j :: ps, p, 0, qs, hm, hj => absurd hm (by simp)
  | j :: ps, p, m + 1, qs, hm, hj => by
    have e := rdNum_dg (p := p) (hj j List.mem_cons_self) hk (tail_shape (ps.map dg))
    obtain ⟨t, ht⟩ := rdParts_back hk ps (p ++ 32 :: dg j) m (qs ++ [j]) (by simpa using hm) fun i hi => hj i (List.mem_cons_of_mem _ hi)
    refine ⟨t, ?_⟩
    rw [List.map_cons, tail_cons]
    unfold rdParts
    rw [if_pos (by rw [List.length_append, List.length_cons]; omega), e]
    dsimp only
    have e2 : p.length + (1 + (dg j).length) = (p ++ 32 :: dg j).length := by rw [List.length_append, List.length_cons]; omega
    have e3 : p ++ 32 :: (dg j ++ tailL (ps.map dg)) = (p ++ 32 :: dg j) ++ tailL (ps.map dg) := by simp
    rw [e2, e3, ht]
    simp
theorem rdNums_back : ∀ (es ns : List Nat) (p : List Nat) (qs : List Nat), es.length = ns.length → (∀ (i e n : Nat), es[i]? = some e → ns[i]? = some n → n < e ∧ e ≤ 1000) → ∃ t, rdNums (p ++ tailL (ns.map dg)) es p.length qs = (some (qs ++ ns), t)
  | [], [], p, qs, hl, h => ⟨p.length, by
    unfold rdNums
    rw [if_neg (by simp [tailL])]
    simp⟩
  | [], n :: ns, p, qs, hl, h => absurd hl (by simp)
  | e :: es, [], p, qs, hl, h => absurd hl (by simp)
  | e :: es, n :: ns, p, qs, hl, h => by
    obtain ⟨h1, h2⟩ := h 0 e n rfl rfl
    have e1 := rdNum_dg (p := p) h1 h2 (tail_shape (ns.map dg))
    obtain ⟨t, ht⟩ := rdNums_back es ns (p ++ 32 :: dg n) (qs ++ [n]) (by simpa using hl) fun i a b ha hb => h (i + 1) a b ha hb
    refine ⟨t, ?_⟩
    rw [List.map_cons, tail_cons]
    unfold rdNums
    rw [e1]
    dsimp only
    have e2 : p.length + (1 + (dg n).length) = (p ++ 32 :: dg n).length := by rw [List.length_append, List.length_cons]; omega
    have e3 : p ++ 32 :: (dg n ++ tailL (ns.map dg)) = (p ++ 32 :: dg n) ++ tailL (ns.map dg) := by simp
    rw [e2, e3, ht]
    simp
theorem run_all : ∀ (l : List Nat) (m : Nat), l.length ≤ m → (∀ c ∈ l, good c = true) → run m l = l.length
  | [], 0, _, _ => rfl
  | [], _ + 1, _, _ => rfl
  | c :: r, 0, h, _ => absurd h (by simp)
  | c :: r, m + 1, h, hg => by
    unfold run
    rw [if_pos (hg c List.mem_cons_self), run_all r m (by simpa using h) fun d hd => hg d (List.mem_cons_of_mem _ hd)]
    rfl
theorem rdStr_back {p : List Nat} {z : Str} {most : Nat} (h : GoodS most z) : ∃ t, rdStr p.length (p ++ 32 :: z.cps.toList) most = (some z.cps.toList, t) := by
  have e : (p ++ 32 :: z.cps.toList).drop (p.length + 1) = z.cps.toList := by
    rw [show p ++ 32 :: z.cps.toList = (p ++ [32]) ++ z.cps.toList by simp, List.drop_append_of_le_length (by simp), show List.drop (p.length + 1) (p ++ [32]) = [] from List.drop_eq_nil_of_le (by simp), List.nil_append]
  have hr := run_all z.cps.toList most (by simpa using h.1) fun c hc => decide_eq_true (h.2 c hc)
  refine ⟨p.length + 1 + z.cps.toList.length, ?_⟩
  unfold rdStr
  rw [if_neg (by
    intro hne
    exact hne (by rw [List.getElem?_append_right (Nat.le_refl _), Nat.sub_self]; rfl)), e, hr, if_neg (by rw [List.length_append, List.length_cons]; omega)]
theorem comm_self : ∀ (a b : List Nat), comm a (a ++ b) = a.length
  | [], b => by cases b <;> rfl
  | c :: a, b => by
    rw [List.cons_append]
    unfold comm
    rw [if_pos rfl, comm_self a b]
    rfl
theorem cps_text : Kind.cps .text = [116, 101, 120, 116] := by decide +kernel
theorem cps_line : Kind.cps .line = [108, 105, 110, 101] := by decide +kernel
theorem cps_hard : Kind.cps .hard = [104, 97, 114, 100] := by decide +kernel
theorem cps_cat : Kind.cps .cat = [99, 97, 116] := by decide +kernel
theorem cps_nest : Kind.cps .nest = [110, 101, 115, 116] := by decide +kernel
theorem cps_align : Kind.cps .align = [97, 108, 105, 103, 110] := by decide +kernel
theorem cps_group : Kind.cps .group = [103, 114, 111, 117, 112] := by decide +kernel
theorem rdKind_back {r : Row} {k : Nat} (h : r.ok k) (hk : k ≤ 1000) : ∃ t, rdKind r.q r.codes k = (some r, t) := by
  have h0 : ¬ (k = 0 ∧ r.q.needs = true) := by
    rintro ⟨rfl, hn⟩
    cases r with
    | nest n j => exact absurd (show 0 ≤ n ∧ n ≤ 8 ∧ 0 ≤ j ∧ j < (0 : Nat) from h) (by omega)
    | align j => exact absurd (show 0 ≤ j ∧ j < (0 : Nat) from h) (by omega)
    | group j => exact absurd (show 0 ≤ j ∧ j < (0 : Nat) from h) (by omega)
    | _ => cases hn
  unfold rdKind
  rw [if_neg h0, if_neg (by unfold Row.codes; rw [comm_self]; omega)]
  cases r with
  | text z =>
    obtain ⟨t, ht⟩ := rdStr_back (p := Kind.cps .text) (z := z) (most := 20) h
    refine ⟨t, ?_⟩
    have e : Row.codes (.text z) = Kind.cps .text ++ 32 :: z.cps.toList := by simp [Row.codes, Row.words, Row.q, tailL]
    have e4 : (Kind.cps .text).length = 4 := by rw [cps_text]; rfl
    rw [e4] at ht
    show (match rdStr 4 (Row.codes (.text z)) 20 with | (none, s) => (none, s) | (some z, s) => (some (Row.text (strOf z)), s)) = _
    rw [e, ht]
    rfl
  | line z =>
    obtain ⟨t, ht⟩ := rdStr_back (p := Kind.cps .line) (z := z) (most := 3) h
    refine ⟨t, ?_⟩
    have e : Row.codes (.line z) = Kind.cps .line ++ 32 :: z.cps.toList := by simp [Row.codes, Row.words, Row.q, tailL]
    have e4 : (Kind.cps .line).length = 4 := by rw [cps_line]; rfl
    rw [e4] at ht
    show (match rdStr 4 (Row.codes (.line z)) 3 with | (none, s) => (none, s) | (some z, s) => (some (Row.line (strOf z)), s)) = _
    rw [e, ht]
    rfl
  | hard =>
    obtain ⟨t, ht⟩ := rdNums_back [] [] (Kind.cps .hard) [] rfl fun i e n a => by simp at a
    have e4 : (Kind.cps .hard).length = 4 := by rw [cps_hard]; rfl
    rw [e4] at ht
    refine ⟨t, ?_⟩
    show (match rdNums (Row.codes .hard) [] 4 [] with | (some _, s) => (some Row.hard, s) | (none, s) => (none, s)) = _
    rw [show Row.codes .hard = Kind.cps .hard ++ tailL (([] : List Nat).map dg) from rfl, ht]
  | cat ps =>
    obtain ⟨h8, hp⟩ := h
    obtain ⟨t, ht⟩ := rdParts_back hk (ps.map Int.toNat) (Kind.cps .cat) 8 [] (by rw [List.length_map]; exact h8) fun j hj => by
      obtain ⟨i, hi, rfl⟩ := List.mem_map.mp hj
      have := hp i hi
      omega
    have e3 : (Kind.cps .cat).length = 3 := by rw [cps_cat]; rfl
    rw [e3] at ht
    refine ⟨t, ?_⟩
    show (match rdParts (Row.codes (.cat ps)) k 8 3 [] with | (none, s) => (none, s) | (some ps, s) => (some (Row.cat (ps.map Int.ofNat)), s)) = _
    have e : Row.codes (.cat ps) = Kind.cps .cat ++ tailL ((ps.map Int.toNat).map dg) := by simp [Row.codes, Row.words, Row.q, List.map_map, Function.comp_def]
    rw [e, ht]
    dsimp only
    have e2 : (([] : List Nat) ++ ps.map Int.toNat).map Int.ofNat = ps := by
      rw [List.nil_append, List.map_map]
      clear ht e h8 h0
      induction ps with
      | nil => rfl
      | cons j ps ih =>
        rw [List.map_cons, ih fun i hi => hp i (List.mem_cons_of_mem _ hi)]
        have := (hp j List.mem_cons_self).1
        congr 1
        show (j.toNat : Int) = j
        omega
    rw [e2]
  | nest n j =>
    obtain ⟨n0, n8, j0, jk⟩ := h
    obtain ⟨t, ht⟩ := rdNums_back [9, k] [n.toNat, j.toNat] (Kind.cps .nest) [] rfl fun i a b ha hb => by
      match i, ha, hb with
      | 0, ha, hb => cases ha; cases hb; omega
      | 1, ha, hb => cases ha; cases hb; omega
      | i + 2, ha, hb => simp at ha
    have e4 : (Kind.cps .nest).length = 4 := by rw [cps_nest]; rfl
    rw [e4] at ht
    refine ⟨t, ?_⟩
    show (match rdNums (Row.codes (.nest n j)) [9, k] 4 [] with | (some [n, j], s) => (some (Row.nest n j), s) | (_, s) => (none, s)) = _
    rw [show Row.codes (.nest n j) = Kind.cps .nest ++ tailL ([n.toNat, j.toNat].map dg) from rfl, ht]
    dsimp only [List.nil_append]
    rw [show ((n.toNat : Nat) : Int) = n by omega, show ((j.toNat : Nat) : Int) = j by omega]
  | align j =>
    obtain ⟨j0, jk⟩ := h
    obtain ⟨t, ht⟩ := rdNums_back [k] [j.toNat] (Kind.cps .align) [] rfl fun i a b ha hb => by
      match i, ha, hb with
      | 0, ha, hb => cases ha; cases hb; omega
      | i + 1, ha, hb => simp at ha
    have e4 : (Kind.cps .align).length = 5 := by rw [cps_align]; rfl
    rw [e4] at ht
    refine ⟨t, ?_⟩
    show (match rdNums (Row.codes (.align j)) [k] 5 [] with | (some [j], s) => (some (Row.align j), s) | (_, s) => (none, s)) = _
    rw [show Row.codes (.align j) = Kind.cps .align ++ tailL ([j.toNat].map dg) from rfl, ht]
    dsimp only [List.nil_append]
    rw [show ((j.toNat : Nat) : Int) = j by omega]
  | group j =>
    obtain ⟨j0, jk⟩ := h
    obtain ⟨t, ht⟩ := rdNums_back [k] [j.toNat] (Kind.cps .group) [] rfl fun i a b ha hb => by
      match i, ha, hb with
      | 0, ha, hb => cases ha; cases hb; omega
      | i + 1, ha, hb => simp at ha
    have e4 : (Kind.cps .group).length = 5 := by rw [cps_group]; rfl
    rw [e4] at ht
    refine ⟨t, ?_⟩
    show (match rdNums (Row.codes (.group j)) [k] 5 [] with | (some [j], s) => (some (Row.group j), s) | (_, s) => (none, s)) = _
    rw [show Row.codes (.group j) = Kind.cps .group ++ tailL ([j.toNat].map dg) from rfl, ht]
    dsimp only [List.nil_append]
    rw [show ((j.toNat : Nat) : Int) = j by omega]
/-- another kind does not read it -/
theorem comm_head {a b : Nat} {as bs : List Nat} (h : a ≠ b) : comm (a :: as) (b :: bs) = 0 := by
  unfold comm
  exact if_neg h
theorem rdKind_other {q q' : Kind} {l t : List Nat} {k : Nat} (h : q ≠ q') (e : l = q'.cps ++ t) : rdKind q l k = (none, 0) := by
  have c0 : comm q.cps l = 0 := by
    rw [e]
    cases q <;> cases q' <;> first | exact absurd rfl h | skip
    all_goals (simp only [cps_text, cps_line, cps_hard, cps_cat, cps_nest, cps_align, cps_group, List.cons_append]; exact comm_head (by decide))
  have hq : 0 < q.cps.length := by cases q <;> decide +kernel
  unfold rdKind
  split
  · rfl
  · rw [c0, if_pos hq]
theorem rdRow_back {r : Row} {k : Nat} (h : r.ok k) (hk : k ≤ 1000) : ∃ t, rdRow r.codes k kinds 0 = (some r, t) := by
  obtain ⟨t, ht⟩ := rdKind_back h hk
  refine ⟨t, ?_⟩
  have other : ∀ q, q ≠ r.q → rdKind q r.codes k = (none, 0) := fun q hq => rdKind_other hq rfl
  have go : ∀ qs m, r.q ∈ qs → rdRow r.codes k qs m = (some r, t) := fun qs => by
    induction qs with
    | nil => intro m hm; cases hm
    | cons q qs ih =>
      intro m hm
      by_cases e : q = r.q
      · unfold rdRow
        rw [e, ht]
      · unfold rdRow
        rw [other q e]
        exact ih _ ((List.mem_cons.mp hm).resolve_left fun z => e z.symm)
  exact go kinds 0 (by cases r <;> simp [Row.q, kinds])
theorem rdDoc_back : ∀ (qs rs : List Row), OkRows (rs ++ qs) → (rs ++ qs).length ≤ 200 → rdDoc (qs.map Row.codes) rs = .ok (rs ++ qs)
  | [], rs, _, _ => by simp [rdDoc]
  | q :: qs, rs, ho, hl => by
    rw [List.length_append, List.length_cons] at hl
    obtain ⟨t, ht⟩ := rdRow_back (r := q) (k := rs.length) (ho rs.length q (by rw [List.getElem?_append_right (Nat.le_refl _), Nat.sub_self]; rfl)) (by omega)
    rw [List.map_cons]
    unfold rdDoc
    rw [if_neg (by omega), ht]
    have e : rs ++ q :: qs = (rs ++ [q]) ++ qs := by simp
    have := rdDoc_back qs (rs ++ [q]) (by rw [← e]; exact ho) (by rw [← e, List.length_append, List.length_cons]; omega)
    rw [e]
    exact this
end Lw

/-! Texts that are none: the farthest sign of a reader is the length of the longest beginning of a row's line. -/
namespace Lw
open PySem L2
/-! ### a reader looks no farther than the sign that it tells -/
theorem digs_ge {e : Nat} : ∀ {l : List Nat} {n : Option Nat} {s : Nat} {r : Option Nat} {t : Nat}, digs e l n s = (r, t) → s ≤ t ∧ t ≤ s + l.length
  | [], n, s, r, t, h => by cases h; exact ⟨Nat.le_refl _, Nat.le_refl _⟩
  | c :: l, n, s, r, t, h => by
    unfold digs at h
    rw [List.length_cons]
    split at h
    · split at h
      · cases h; omega
      · have := digs_ge h; omega
    · cases h; omega
theorem digs_loc {e : Nat} : ∀ {a b : List Nat} {n : Option Nat} {s j : Nat} {r : Option Nat} {t : Nat}, digs e a n s = (r, t) → t < s + j → j ≤ a.length → b.take j = a.take j → digs e b n s = (r, t)
  | [], b, n, s, j, r, t, h, h1, h2, h3 => by
    cases h
    rw [List.length_nil] at h2
    omega
  | c :: a, b, n, s, 0, r, t, h, h1, h2, h3 => by have := (digs_ge h).1; omega
  | c :: a, [], n, s, j + 1, r, t, h, h1, h2, h3 => by simp at h3
  | c :: a, d :: b, n, s, j + 1, r, t, h, h1, h2, h3 => by
    rw [List.take_succ_cons, List.take_succ_cons] at h3
    obtain ⟨e0, h9⟩ := List.cons.inj h3
    subst e0
    unfold digs at h ⊢
    split at h
    · rename_i hc
      rw [if_pos hc]
      split at h
      · rename_i h4
        rw [if_pos h4]
        exact h
      · rename_i h4
        rw [if_neg h4]
        exact digs_loc h (by omega) (by simpa using h2) h9
    · rename_i hc
      rw [if_neg hc]
      exact h
theorem take_at {l l' : List Nat} {m i : Nat} (h : l'.take m = l.take m) (hi : i < m) : l'[i]? = l[i]? := by
  rw [← List.getElem?_take_of_lt hi, h, List.getElem?_take_of_lt hi]
theorem take_drop {l l' : List Nat} {m i : Nat} (h : l'.take m = l.take m) : (l'.drop i).take (m - i) = (l.drop i).take (m - i) := by
  rw [List.take_drop, List.take_drop]
  by_cases hi : i ≤ m
  · rw [show i + (m - i) = m by omega, h]
  · rw [show m - i = 0 by omega, Nat.add_zero]
    rw [List.drop_eq_nil_of_le (by simp; omega), List.drop_eq_nil_of_le (by simp; omega)]
theorem take_len {l l' : List Nat} {m : Nat} (h : l'.take m = l.take m) (hm : m ≤ l.length) : m ≤ l'.length := by
  have := congrArg List.length h
  rw [List.length_take, List.length_take] at this
  omega
theorem rdNum_ge {l : List Nat} {s e : Nat} {r : Option Nat} {t : Nat} (h : rdNum l s e = (r, t)) : s ≤ t := by
  unfold rdNum at h
  split at h
  · cases h; exact Nat.le_refl _
  · have := (digs_ge h).1; omega
theorem rdNum_loc {l l' : List Nat} {s e m : Nat} {r : Option Nat} {t : Nat} (h : rdNum l s e = (r, t)) (ht : t < m) (hm : m ≤ l.length) (q : l'.take m = l.take m) : rdNum l' s e = (r, t) := by
  have hs := rdNum_ge h
  unfold rdNum at h ⊢
  rw [take_at q (by omega)]
  split at h
  · rename_i h1
    rw [if_pos h1]
    exact h
  · rename_i h1
    rw [if_neg h1]
    have := (digs_ge h).1
    exact digs_loc (j := m - (s + 1)) h (by omega) (by rw [List.length_drop]; omega) (take_drop q)
theorem run_loc : ∀ {M : Nat} {a b : List Nat} {j : Nat}, run M a < j → j ≤ a.length → b.take j = a.take j → run M b = run M a
  | 0, a, b, j, h, h2, h3 => rfl
  | M + 1, [], b, j, h, h2, h3 => by rw [List.length_nil] at h2; omega
  | M + 1, c :: a, b, 0, h, h2, h3 => by omega
  | M + 1, c :: a, [], j + 1, h, h2, h3 => by simp at h3
  | M + 1, c :: a, d :: b, j + 1, h, h2, h3 => by
    rw [List.take_succ_cons, List.take_succ_cons] at h3
    obtain ⟨e0, h9⟩ := List.cons.inj h3
    subst e0
    unfold run at h ⊢
    split at h
    · rename_i hc
      rw [if_pos hc, if_pos hc, run_loc (by omega) (by simpa using h2) h9]
    · rename_i hc
      rw [if_neg hc, if_neg hc]
theorem rdStr_loc {k most m t : Nat} {l l' : List Nat} (h : rdStr k l most = (none, t)) (ht : t < m) (hm : m ≤ l.length) (q : l'.take m = l.take m) : rdStr k l' most = (none, t) := by
  have hl := take_len q hm
  unfold rdStr at h ⊢
  split at h
  · rename_i h1
    cases h
    rw [if_pos (by rw [take_at q ht]; exact h1)]
  · rename_i h1
    split at h
    · rename_i h2
      cases h
      have e := run_loc (M := most) (j := m - (k + 1)) (by omega) (by rw [List.length_drop]; omega) (take_drop (i := k + 1) q)
      rw [if_neg (by rw [take_at q (by omega)]; exact h1), e, if_pos (by omega)]
    · cases h
theorem rdParts_ge {l : List Nat} {k : Nat} : ∀ {M s : Nat} {ps : List Nat} {r : Option (List Nat)} {t : Nat}, rdParts l k M s ps = (r, t) → s ≤ t
  | 0, s, ps, r, t, h => by
    unfold rdParts at h
    split at h <;> cases h <;> exact Nat.le_refl _
  | M + 1, s, ps, r, t, h => by
    unfold rdParts at h
    split at h
    · split at h
      · rename_i e
        cases h
        exact rdNum_ge e
      · rename_i e
        have := rdNum_ge e
        have := rdParts_ge h
        omega
    · cases h
      exact Nat.le_refl _
theorem rdParts_loc {l l' : List Nat} {k m : Nat} (hm : m ≤ l.length) (q : l'.take m = l.take m) : ∀ {M s : Nat} {ps : List Nat} {t : Nat}, rdParts l k M s ps = (none, t) → t < m → rdParts l' k M s ps = (none, t)
  | 0, s, ps, t, h, ht => by
    have hl := take_len q hm
    unfold rdParts at h ⊢
    split at h
    · cases h
      rw [if_pos (by omega)]
    · cases h
  | M + 1, s, ps, t, h, ht => by
    have hl := take_len q hm
    have hs := rdParts_ge h
    unfold rdParts at h ⊢
    rw [if_pos (by omega)]
    split at h
    · split at h
      · rename_i e
        cases h
        rw [rdNum_loc e ht hm q]
      · rename_i e
        have := rdParts_ge h
        rw [rdNum_loc e (by omega) hm q]
        exact rdParts_loc hm q h ht
    · cases h
theorem rdNums_ge {l : List Nat} : ∀ {es : List Nat} {s : Nat} {fs : List Nat} {r : Option (List Nat)} {t : Nat}, rdNums l es s fs = (r, t) → s ≤ t
  | [], s, fs, r, t, h => by
    unfold rdNums at h
    split at h <;> cases h <;> exact Nat.le_refl _
  | e :: es, s, fs, r, t, h => by
    unfold rdNums at h
    split at h
    · rename_i e1
      cases h
      exact rdNum_ge e1
    · rename_i e1
      have := rdNum_ge e1
      have := rdNums_ge h
      omega
theorem rdNums_loc {l l' : List Nat} {m : Nat} (hm : m ≤ l.length) (q : l'.take m = l.take m) : ∀ {es : List Nat} {s : Nat} {fs : List Nat} {t : Nat}, rdNums l es s fs = (none, t) → t < m → rdNums l' es s fs = (none, t)
  | [], s, fs, t, h, ht => by
    have hl := take_len q hm
    unfold rdNums at h ⊢
    split at h
    · cases h
      rw [if_pos (by omega)]
    · cases h
  | e :: es, s, fs, t, h, ht => by
    unfold rdNums at h ⊢
    split at h
    · rename_i e1
      cases h
      rw [rdNum_loc e1 ht hm q]
    · rename_i e1
      have := rdNums_ge h
      rw [rdNum_loc e1 (by omega) hm q]
      exact rdNums_loc hm q h ht
theorem comm_loc : ∀ {w l l' : List Nat} {m : Nat}, comm w l < w.length → comm w l < m → m ≤ l.length → l'.take m = l.take m → comm w l' = comm w l
  | [], l, l', m, h, h1, h2, h3 => by simp at h
  | a :: w, [], l', m, h, h1, h2, h3 => by rw [List.length_nil] at h2; omega
  | a :: w, c :: l, l', 0, h, h1, h2, h3 => by omega
  | a :: w, c :: l, [], m + 1, h, h1, h2, h3 => by simp at h3
  | a :: w, c :: l, d :: l', m + 1, h, h1, h2, h3 => by
    rw [List.take_succ_cons, List.take_succ_cons] at h3
    obtain ⟨e0, h9⟩ := List.cons.inj h3
    subst e0
    unfold comm at h h1 ⊢
    split at h
    · rename_i hc
      rw [if_pos hc] at h1
      rw [if_pos hc, if_pos hc, comm_loc (by simpa using h) (by omega) (by simpa using h2) h9]
    · rename_i hc
      rw [if_neg hc, if_neg hc]
theorem comm_le : ∀ (w l : List Nat), comm w l ≤ w.length ∧ comm w l ≤ l.length ∧ l.take (comm w l) = w.take (comm w l)
  | [], l => by simp [comm]
  | a :: w, [] => by simp [comm]
  | a :: w, c :: l => by
    have := comm_le w l
    unfold comm
    split
    · rename_i hc
      rw [List.length_cons, List.length_cons, List.take_succ_cons, List.take_succ_cons, this.2.2, hc]
      exact ⟨by omega, by omega, rfl⟩
    · simp
theorem rdKind_loc {kd : Kind} {l l' : List Nat} {k t m : Nat} (h : rdKind kd l k = (none, t)) (ht : t < m) (hm : m ≤ l.length) (q : l'.take m = l.take m) : rdKind kd l' k = (none, t) := by
  unfold rdKind at h
  unfold rdKind
  split at h
  · rename_i h1
    rw [if_pos h1]
    exact h
  rename_i h1
  rw [if_neg h1]
  split at h
  · rename_i h2
    cases h
    rw [comm_loc h2 ht hm q, if_pos h2]
  rename_i h2
  have c1 := comm_le kd.cps l
  have h4 : kd.cps.length ≤ t := by
    cases kd with
    | text =>
      dsimp only at h
      split at h <;> cases h
      rename_i e
      rw [cps_text]
      unfold rdStr at e
      split at e
      · cases e; exact Nat.le_refl _
      · split at e <;> cases e
        show 4 ≤ _
        omega
    | line =>
      dsimp only at h
      split at h <;> cases h
      rename_i e
      rw [cps_line]
      unfold rdStr at e
      split at e
      · cases e; exact Nat.le_refl _
      · split at e <;> cases e
        show 4 ≤ _
        omega
    | hard =>
      dsimp only at h
      split at h <;> cases h
      rw [cps_hard]
      exact rdNums_ge (by assumption)
    | cat =>
      dsimp only at h
      split at h <;> cases h
      rw [cps_cat]
      exact rdParts_ge (by assumption)
    | nest =>
      rw [cps_nest]
      have : ∃ x, rdNums l [9, k] 4 [] = (x, t) := by
        dsimp only at h
        split at h <;> cases h
        exact ⟨_, by assumption⟩
      obtain ⟨x, e⟩ := this
      exact rdNums_ge e
    | align =>
      rw [cps_align]
      have : ∃ x, rdNums l [k] 5 [] = (x, t) := by
        dsimp only at h
        split at h <;> cases h
        exact ⟨_, by assumption⟩
      obtain ⟨x, e⟩ := this
      exact rdNums_ge e
    | group =>
      rw [cps_group]
      have : ∃ x, rdNums l [k] 5 [] = (x, t) := by
        dsimp only at h
        split at h <;> cases h
        exact ⟨_, by assumption⟩
      obtain ⟨x, e⟩ := this
      exact rdNums_ge e
  have h5 : ¬ comm kd.cps l' < kd.cps.length := fun h3 => by
    have e := comm_loc (w := kd.cps) (l := l') (l' := l) (m := m) h3 (by omega) (take_len q hm) q.symm
    omega
  rw [if_neg h5]
  cases kd with
  | text =>
    dsimp only at h ⊢
    split at h <;> cases h
    rename_i e
    rw [rdStr_loc e ht hm q]
  | line =>
    dsimp only at h ⊢
    split at h <;> cases h
    rename_i e
    rw [rdStr_loc e ht hm q]
  | hard =>
    dsimp only at h ⊢
    split at h <;> cases h
    rename_i e
    rw [rdNums_loc hm q e ht]
  | cat =>
    dsimp only at h ⊢
    split at h <;> cases h
    rename_i e
    rw [rdParts_loc hm q e ht]
  | nest =>
    have e : rdNums l [9, k] 4 [] = (none, t) := by
      dsimp only at h
      split at h <;> cases h
      rename_i x h6 e
      cases x with
      | none => exact e
      | some fs =>
        obtain ⟨i, j, rfl, _⟩ := rdNums2 (j := 0) e
        exact (h6 _ _ rfl).elim
    dsimp only
    rw [rdNums_loc hm q e ht]
  | align =>
    have e : rdNums l [k] 5 [] = (none, t) := by
      dsimp only at h
      split at h <;> cases h
      rename_i x h6 e
      cases x with
      | none => exact e
      | some fs =>
        obtain ⟨j, rfl, _⟩ := rdNums1 (j := 0) e
        exact (h6 _ rfl).elim
    dsimp only
    rw [rdNums_loc hm q e ht]
  | group =>
    have e : rdNums l [k] 5 [] = (none, t) := by
      dsimp only at h
      split at h <;> cases h
      rename_i x h6 e
      cases x with
      | none => exact e
      | some fs =>
        obtain ⟨j, rfl, _⟩ := rdNums1 (j := 0) e
        exact (h6 _ rfl).elim
    dsimp only
    rw [rdNums_loc hm q e ht]
end Lw

/-! What is read was written; where a reader stops, something can follow. -/
namespace Lw
open PySem L2
theorem digs_zero {e : Nat} {l : List Nat} {s : Nat} : digs e l (some 0) s = (some 0, s) := by
  cases l with
  | nil => rfl
  | cons c r =>
    unfold digs
    split
    · rw [if_pos (.inl rfl)]
    · rfl
theorem digs_some {e a s t n : Nat} {c : Nat} {r : List Nat} (h : digs e (c :: r) (some a) s = (some n, t)) : (n = a ∧ t = s) ∨ ∃ d, d < 10 ∧ c = 48 + d ∧ a ≠ 0 ∧ a * 10 + d < e ∧ digs e r (some (a * 10 + d)) (s + 1) = (some n, t) := by
  unfold digs at h
  split at h
  · rename_i hc
    split at h
    · cases h; exact .inl ⟨rfl, rfl⟩
    · rename_i h2
      refine .inr ⟨c - 48, by omega, by omega, fun z => h2 (.inl (by rw [z])), ?_, h⟩
      have : ¬ e ≤ (some a).getD 0 * 10 + (c - 48) := fun z => h2 (.inr z)
      simp at this
      exact this
  · cases h; exact .inl ⟨rfl, rfl⟩
theorem digs_nil {e a s t n : Nat} (h : digs e [] (some a) s = (some n, t)) : n = a ∧ t = s := by
  cases h
  exact ⟨rfl, rfl⟩
theorem digs_inv {e s t n : Nat} {l : List Nat} (he : e ≤ 1000) (h : digs e l none s = (some n, t)) : n < e ∧ ∃ r, l = dg n ++ r ∧ t = s + (dg n).length := by
  have hn : n < e := digs_lt h fun a z => nomatch z
  refine ⟨hn, ?_⟩
  cases l with
  | nil => cases h
  | cons c r =>
    unfold digs at h
    split at h
    · rename_i hc
      split at h
      · cases h
      · rename_i h2
        obtain ⟨d, hd, rfl⟩ : ∃ d, d < 10 ∧ c = 48 + d := ⟨c - 48, by omega, by omega⟩
        have h : digs e r (some d) (s + 1) = (some n, t) := by
          have e1 : (none : Option Nat).getD 0 * 10 + (48 + d - 48) = d := by simp
          rw [e1] at h
          exact h
        have one : n = d → t = s + 1 → ∃ r', (48 + d) :: r = dg n ++ r' ∧ t = s + (dg n).length := fun e1 e2 => by
          subst e1
          refine ⟨r, ?_, ?_⟩ <;> unfold dg <;> rw [if_pos hd]
          · rfl
          · exact e2
        cases r with
        | nil =>
          obtain ⟨e1, e2⟩ := digs_nil h
          exact one e1 e2
        | cons c2 r =>
          rcases digs_some h with ⟨e1, e2⟩ | ⟨d2, hd2, rfl, ha, hlt, h⟩
          · exact one e1 e2
          have two : n = d * 10 + d2 → t = s + 2 → ∃ r', (48 + d) :: (48 + d2) :: r = dg n ++ r' ∧ t = s + (dg n).length := fun e1 e2 => by
            subst e1
            refine ⟨r, ?_, ?_⟩ <;> unfold dg <;> rw [if_neg (by omega), if_pos (by omega)]
            · rw [show (d * 10 + d2) / 10 = d by omega, show (d * 10 + d2) % 10 = d2 by omega]
              rfl
            · exact e2
          cases r with
          | nil =>
            obtain ⟨e1, e2⟩ := digs_nil h
            exact two e1 e2
          | cons c3 r =>
            rcases digs_some h with ⟨e1, e2⟩ | ⟨d3, hd3, rfl, ha3, hlt3, h⟩
            · exact two e1 e2
            have three : n = (d * 10 + d2) * 10 + d3 → t = s + 3 → ∃ r', (48 + d) :: (48 + d2) :: (48 + d3) :: r = dg n ++ r' ∧ t = s + (dg n).length := fun e1 e2 => by
              subst e1
              refine ⟨r, ?_, ?_⟩ <;> unfold dg <;> rw [if_neg (by omega), if_neg (by omega)]
              · rw [show ((d * 10 + d2) * 10 + d3) / 100 = d by omega, show ((d * 10 + d2) * 10 + d3) / 10 % 10 = d2 by omega, show ((d * 10 + d2) * 10 + d3) % 10 = d3 by omega]
                rfl
              · exact e2
            cases r with
            | nil =>
              obtain ⟨e1, e2⟩ := digs_nil h
              exact three e1 e2
            | cons c4 r =>
              rcases digs_some h with ⟨e1, e2⟩ | ⟨d4, hd4, rfl, ha4, hlt4, h⟩
              · exact three e1 e2
              · omega
    · cases h
theorem digs_no {e s t : Nat} : ∀ {l : List Nat} {o : Option Nat}, digs e l o s = (none, t) → o = none ∧ t = s
  | [], o, h => by cases h; exact ⟨rfl, rfl⟩
  | c :: l, o, h => by
    unfold digs at h
    split at h
    · split at h
      · cases h; exact ⟨rfl, rfl⟩
      · have h9 : ∀ {l : List Nat} {a s t : Nat}, digs e l (some a) s = (none, t) → False := fun {l} => by
          induction l with
          | nil => intro a s t h; cases h
          | cons c l ih =>
            intro a s t h
            unfold digs at h
            split at h
            · split at h
              · cases h
              · exact ih h
            · cases h
        exact (h9 h).elim
    · cases h; exact ⟨rfl, rfl⟩
theorem drop_at {l : List Nat} {s c : Nat} (h : l[s]? = some c) : l.drop s = c :: l.drop (s + 1) := by
  obtain ⟨hs, e⟩ := List.getElem?_eq_some_iff.mp h
  rw [List.drop_eq_getElem_cons hs, e]
theorem take_add {l a r : List Nat} {s : Nat} (hs : s ≤ l.length) (h : l.drop s = a ++ r) : l.take (s + a.length) = l.take s ++ a ∧ l.drop (s + a.length) = r ∧ s + a.length ≤ l.length := by
  have e : l = l.take s ++ (a ++ r) := by rw [← h, List.take_append_drop]
  have hl : (l.take s).length = s := by rw [List.length_take]; omega
  have hlen := congrArg List.length h
  rw [List.length_drop, List.length_append] at hlen
  refine ⟨?_, ?_, by omega⟩
  · rw [List.take_add, h, List.take_left']
    rfl
  · rw [← List.drop_drop, h, List.drop_left']
    rfl
theorem rdNum_inv {l : List Nat} {s e n t : Nat} (he : e ≤ 1000) (hs : s ≤ l.length) (h : rdNum l s e = (some n, t)) : n < e ∧ l.take t = l.take s ++ 32 :: dg n ∧ t ≤ l.length := by
  unfold rdNum at h
  split at h
  · cases h
  rename_i h1
  have h32 : l[s]? = some 32 := by
    cases e1 : decide (l[s]? = some 32) with
    | true => exact of_decide_eq_true e1
    | false => exact absurd (.inr (of_decide_eq_false e1)) h1
  obtain ⟨hn, r, e2, rfl⟩ := digs_inv he h
  have e3 : l.drop s = (32 :: dg n) ++ r := by rw [drop_at h32, e2]; rfl
  obtain ⟨q1, q2, q3⟩ := take_add hs e3
  rw [List.length_cons] at q1 q3
  rw [show s + 1 + (dg n).length = s + ((dg n).length + 1) by omega]
  exact ⟨hn, q1, q3⟩
theorem rdNum_no {l : List Nat} {s e t : Nat} (hs : s ≤ l.length) (h : rdNum l s e = (none, t)) : t = s ∨ e ≠ 0 ∧ l.take t = l.take s ++ [32] ∧ t ≤ l.length := by
  unfold rdNum at h
  split at h
  · cases h; exact .inl rfl
  rename_i h1
  have h32 : l[s]? = some 32 := by
    cases e1 : decide (l[s]? = some 32) with
    | true => exact of_decide_eq_true e1
    | false => exact absurd (.inr (of_decide_eq_false e1)) h1
  obtain ⟨_, rfl⟩ := digs_no h
  have e3 : l.drop s = [32] ++ l.drop (s + 1) := drop_at h32
  obtain ⟨q1, q2, q3⟩ := take_add hs e3
  exact .inr ⟨fun z => h1 (.inl z), q1, q3⟩
theorem tail_snoc (ws : List (List Nat)) (w : List Nat) : tailL (ws ++ [w]) = tailL ws ++ 32 :: w := by simp [tailL]
/-- the figures of ns behind blanks -/
abbrev figs (ns : List Nat) : List Nat := tailL (ns.map dg)
theorem figs_cons (n : Nat) (ns : List Nat) : figs (n :: ns) = 32 :: dg n ++ figs ns := by
  show tailL (dg n :: ns.map dg) = _
  rw [tail_cons]
  rfl
theorem rdParts_some {l : List Nat} {k : Nat} (hk : k ≤ 1000) : ∀ {M s : Nat} {ps qs : List Nat} {t : Nat}, s ≤ l.length → rdParts l k M s ps = (some qs, t) → ∃ ns, qs = ps ++ ns ∧ ns.length ≤ M ∧ (∀ n ∈ ns, n < k) ∧ l = l.take s ++ figs ns
  | 0, s, ps, qs, t, hs, h => by
    unfold rdParts at h
    split at h
    · cases h
    · cases h
      exact ⟨[], by simp, Nat.le_refl _, fun n hn => by simp at hn, by rw [List.take_of_length_le (by omega)]; simp [figs, tailL]⟩
  | M + 1, s, ps, qs, t, hs, h => by
    unfold rdParts at h
    split at h
    · split at h
      · cases h
      · rename_i p t' e
        obtain ⟨hp, e1, ht⟩ := rdNum_inv hk hs e
        obtain ⟨ns, rfl, h1, h2, h3⟩ := rdParts_some hk ht h
        refine ⟨p :: ns, by simp, by rw [List.length_cons]; omega, fun n hn => ?_, ?_⟩
        · rcases List.mem_cons.mp hn with rfl | hn
          · exact hp
          · exact h2 n hn
        · rw [figs_cons, ← List.append_assoc, ← e1]
          exact h3
    · cases h
      exact ⟨[], by simp, Nat.zero_le _, fun n hn => by simp at hn, by rw [List.take_of_length_le (by omega)]; simp [figs, tailL]⟩
theorem rdParts_no {l : List Nat} {k : Nat} (hk : k ≤ 1000) : ∀ {M s : Nat} {ps : List Nat} {t : Nat}, s ≤ l.length → rdParts l k M s ps = (none, t) → t ≤ l.length ∧ ∃ ns, ns.length ≤ M ∧ (∀ n ∈ ns, n < k) ∧ (l.take t = l.take s ++ figs ns ∨ ns.length < M ∧ k ≠ 0 ∧ l.take t = l.take s ++ figs ns ++ [32])
  | 0, s, ps, t, hs, h => by
    unfold rdParts at h
    split at h
    · cases h
      exact ⟨hs, [], Nat.le_refl _, fun n hn => by simp at hn, .inl (by simp [figs, tailL])⟩
    · cases h
  | M + 1, s, ps, t, hs, h => by
    unfold rdParts at h
    split at h
    · split at h
      · rename_i e
        cases h
        rcases rdNum_no hs e with rfl | ⟨h1, h2, h3⟩
        · exact ⟨hs, [], Nat.zero_le _, fun n hn => by simp at hn, .inl (by simp [figs, tailL])⟩
        · exact ⟨h3, [], Nat.zero_le _, fun n hn => by simp at hn, .inr ⟨Nat.zero_lt_succ _, h1, by rw [h2]; simp [figs, tailL]⟩⟩
      · rename_i p t' e
        obtain ⟨hp, e1, ht⟩ := rdNum_inv hk hs e
        obtain ⟨ht2, ns, h1, h2, h3⟩ := rdParts_no hk ht h
        refine ⟨ht2, p :: ns, by rw [List.length_cons]; omega, fun n hn => ?_, ?_⟩
        · rcases List.mem_cons.mp hn with rfl | hn
          · exact hp
          · exact h2 n hn
        · rw [figs_cons, ← List.append_assoc, ← e1, List.length_cons]
          rcases h3 with h3 | ⟨h3, h4, h5⟩
          · exact .inl h3
          · exact .inr ⟨by omega, h4, h5⟩
    · cases h
theorem rdNums_some {l : List Nat} : ∀ {es : List Nat} {s : Nat} {fs qs : List Nat} {t : Nat}, (∀ e ∈ es, e ≤ 1000) → s ≤ l.length → rdNums l es s fs = (some qs, t) → ∃ ns, qs = fs ++ ns ∧ l = l.take s ++ figs ns
  | [], s, fs, qs, t, he, hs, h => by
    unfold rdNums at h
    split at h
    · cases h
    · cases h
      exact ⟨[], by simp, by rw [List.take_of_length_le (by omega)]; simp [figs, tailL]⟩
  | e :: es, s, fs, qs, t, he, hs, h => by
    unfold rdNums at h
    split at h
    · cases h
    · rename_i p t' e1
      obtain ⟨hp, e2, ht⟩ := rdNum_inv (he e List.mem_cons_self) hs e1
      obtain ⟨ns, rfl, h3⟩ := rdNums_some (fun x hx => he x (List.mem_cons_of_mem _ hx)) ht h
      refine ⟨p :: ns, by simp, ?_⟩
      rw [figs_cons, ← List.append_assoc, ← e2]
      exact h3
/-- numbers, each less than its bound -/
inductive Less : List Nat → List Nat → Prop where
  | nil {es} : Less [] es
  | cons {n e ns es} : n < e → Less ns es → Less (n :: ns) (e :: es)
theorem rdNums_no {l : List Nat} : ∀ {es : List Nat} {s : Nat} {fs : List Nat} {t : Nat}, (∀ e ∈ es, e ≤ 1000) → s ≤ l.length → rdNums l es s fs = (none, t) → t ≤ l.length ∧ ∃ ns, Less ns es ∧ (l.take t = l.take s ++ figs ns ∨ ns.length < es.length ∧ l.take t = l.take s ++ figs ns ++ [32])
  | [], s, fs, t, he, hs, h => by
    unfold rdNums at h
    split at h
    · cases h
      exact ⟨hs, [], .nil, .inl (by simp [figs, tailL])⟩
    · cases h
  | e :: es, s, fs, t, he, hs, h => by
    unfold rdNums at h
    split at h
    · rename_i e1
      cases h
      rcases rdNum_no hs e1 with rfl | ⟨h1, h2, h3⟩
      · exact ⟨hs, [], .nil, .inl (by simp [figs, tailL])⟩
      · exact ⟨h3, [], .nil, .inr ⟨Nat.zero_lt_succ _, by rw [h2]; simp [figs, tailL]⟩⟩
    · rename_i p t' e1
      obtain ⟨hp, e2, ht⟩ := rdNum_inv (he e List.mem_cons_self) hs e1
      obtain ⟨ht2, ns, h1, h3⟩ := rdNums_no (fun x hx => he x (List.mem_cons_of_mem _ hx)) ht h
      refine ⟨ht2, p :: ns, .cons hp h1, ?_⟩
      rw [figs_cons, ← List.append_assoc, ← e2, List.length_cons, List.length_cons]
      rcases h3 with h3 | ⟨h3, h5⟩
      · exact .inl h3
      · exact .inr ⟨by omega, h5⟩
end Lw

/-! The sign that a reader tells of a line that is none is the length of the longest beginning of a row's line. -/
namespace Lw
open PySem L2
theorem strOf_list (z : List Nat) : (strOf z).cps.toList = z := by simp [strOf]
theorem str_self (z : Str) : strOf z.cps.toList = z := by simp [strOf]
theorem kind_take {q : Kind} {l : List Nat} (h : ¬ comm q.cps l < q.cps.length) : l.take q.cps.length = q.cps ∧ q.cps.length ≤ l.length := by
  obtain ⟨h1, h2, h3⟩ := comm_le q.cps l
  have e : comm q.cps l = q.cps.length := by omega
  rw [e] at h2 h3
  exact ⟨by rw [h3, List.take_length], h2⟩
theorem codes_cat (ns : List Nat) : Row.codes (.cat (ns.map Int.ofNat)) = Kind.cps .cat ++ figs ns := by
  show Kind.cps .cat ++ tailL ((ns.map Int.ofNat).map fun p => dg p.toNat) = _
  rw [List.map_map]
  rfl
theorem codes_nest (n j : Nat) : Row.codes (.nest n j) = Kind.cps .nest ++ figs [n, j] := rfl
theorem codes_align (j : Nat) : Row.codes (.align j) = Kind.cps .align ++ figs [j] := rfl
theorem codes_group (j : Nat) : Row.codes (.group j) = Kind.cps .group ++ figs [j] := rfl
theorem codes_text (z : Str) : Row.codes (.text z) = Kind.cps .text ++ 32 :: z.cps.toList := by simp [Row.codes, Row.words, Row.q, tailL]
theorem codes_line (z : Str) : Row.codes (.line z) = Kind.cps .line ++ 32 :: z.cps.toList := by simp [Row.codes, Row.words, Row.q, tailL]
theorem codes_hard : Row.codes .hard = Kind.cps .hard := by simp [Row.codes, Row.words, Row.q, tailL]
theorem rdStr_some {k most : Nat} {l z : List Nat} {s : Nat} (h : rdStr k l most = (some z, s)) : l = l.take k ++ 32 :: z := by
  unfold rdStr at h
  split at h
  · cases h
  rename_i h1
  split at h
  · cases h
  · cases h
    have h32 : l[k]? = some 32 := by
      cases e1 : decide (l[k]? = some 32) with
      | true => exact of_decide_eq_true e1
      | false => exact absurd (of_decide_eq_false e1) h1
    rw [← drop_at h32, List.take_append_drop]
theorem rdStr_no {k most : Nat} {l : List Nat} {s : Nat} (hk : k ≤ l.length) (h : rdStr k l most = (none, s)) : s = k ∨ s ≤ l.length ∧ ∃ z, GoodS most (strOf z) ∧ l.take s = l.take k ++ 32 :: z := by
  unfold rdStr at h
  split at h
  · cases h; exact .inl rfl
  rename_i h1
  split at h
  · rename_i h2
    cases h
    have h32 : l[k]? = some 32 := by
      cases e1 : decide (l[k]? = some 32) with
      | true => exact of_decide_eq_true e1
      | false => exact absurd (of_decide_eq_false e1) h1
    have r1 := run_le most (l.drop (k + 1))
    have hlt : ((l.drop (k + 1)).take (run most (l.drop (k + 1)))).length = run most (l.drop (k + 1)) := by rw [List.length_take]; omega
    refine .inr ⟨by omega, (l.drop (k + 1)).take (run most (l.drop (k + 1))), ⟨?_, fun c hc => ?_⟩, ?_⟩
    · show ((l.drop (k + 1)).take (run most (l.drop (k + 1)))).toArray.size ≤ most
      rw [List.size_toArray, hlt]
      exact r1.1
    · rw [strOf_list] at hc
      obtain ⟨i, hi⟩ := List.mem_iff_getElem?.mp hc
      have hlt2 : i < ((l.drop (k + 1)).take (run most (l.drop (k + 1)))).length := (List.getElem?_eq_some_iff.mp hi).1
      rw [hlt] at hlt2
      rw [List.getElem?_take_of_lt hlt2] at hi
      obtain ⟨d, e1, e2⟩ := run_good most (l.drop (k + 1)) i hlt2
      rw [hi] at e1
      cases e1
      exact of_decide_eq_true e2
    · have e3 : l.drop k = (32 :: (l.drop (k + 1)).take (run most (l.drop (k + 1)))) ++ (l.drop (k + 1)).drop (run most (l.drop (k + 1))) := by
        rw [drop_at h32, List.cons_append, List.take_append_drop]
      have q := (take_add hk e3).1
      rw [List.length_cons, hlt] at q
      rw [show k + 1 + run most (l.drop (k + 1)) = k + (run most (l.drop (k + 1)) + 1) by omega]
      exact q
  · cases h
theorem rdKind_inv {q : Kind} {l : List Nat} {k t : Nat} {r : Row} (hk : k ≤ 1000) (h : rdKind q l k = (some r, t)) : r.codes = l := by
  unfold rdKind at h
  split at h
  · cases h
  split at h
  · cases h
  rename_i h2
  obtain ⟨ht, hl⟩ := kind_take h2
  have le2 : ∀ e ∈ [9, k], e ≤ 1000 := fun e he => by simp at he; omega
  have le1 : ∀ e ∈ [k], e ≤ 1000 := fun e he => by simp at he; omega
  cases q with
  | text =>
    dsimp only at h
    split at h <;> cases h
    rename_i z e
    have := rdStr_some e
    rw [codes_text, strOf_list, ← ht, cps_text]
    exact this.symm
  | line =>
    dsimp only at h
    split at h <;> cases h
    rename_i z e
    have := rdStr_some e
    rw [codes_line, strOf_list, ← ht, cps_line]
    exact this.symm
  | hard =>
    dsimp only at h
    split at h <;> cases h
    rename_i z e
    rw [cps_hard] at hl ht
    unfold rdNums at e
    split at e <;> cases e
    rename_i h4
    rw [codes_hard, cps_hard, ← ht]
    exact List.take_of_length_le (by show l.length ≤ 4; omega)
  | cat =>
    dsimp only at h
    split at h <;> cases h
    rename_i z e
    rw [cps_cat] at hl
    obtain ⟨ns, rfl, h1, h2, h3⟩ := rdParts_some hk hl e
    rw [codes_cat, ← ht, cps_cat]
    exact h3.symm
  | nest =>
    dsimp only at h
    split at h <;> cases h
    rename_i n j e
    rw [cps_nest] at hl
    obtain ⟨ns, e1, h3⟩ := rdNums_some le2 hl e
    rw [List.nil_append] at e1
    subst e1
    rw [codes_nest, ← ht, cps_nest]
    exact h3.symm
  | align =>
    dsimp only at h
    split at h <;> cases h
    rename_i j e
    rw [cps_align] at hl
    obtain ⟨ns, e1, h3⟩ := rdNums_some le1 hl e
    rw [List.nil_append] at e1
    subst e1
    rw [codes_align, ← ht, cps_align]
    exact h3.symm
  | group =>
    dsimp only at h
    split at h <;> cases h
    rename_i j e
    rw [cps_group] at hl
    obtain ⟨ns, e1, h3⟩ := rdNums_some le1 hl e
    rw [List.nil_append] at e1
    subst e1
    rw [codes_group, ← ht, cps_group]
    exact h3.symm
theorem rdRow_inv {l : List Nat} {k : Nat} {r : Row} {t : Nat} (hk : k ≤ 1000) : ∀ {qs : List Kind} {m : Nat}, rdRow l k qs m = (some r, t) → r.codes = l
  | [], m, h => by cases h
  | q :: qs, m, h => by
    unfold rdRow at h
    split at h
    · cases h
      exact rdKind_inv hk (by assumption)
    · exact rdRow_inv hk h
theorem rdRow_max {l : List Nat} {k : Nat} {s : Nat} : ∀ {qs : List Kind} {m : Nat}, rdRow l k qs m = (none, s) → m ≤ s ∧ (∀ q ∈ qs, ∃ t, rdKind q l k = (none, t) ∧ t ≤ s) ∧ (s = m ∨ ∃ q ∈ qs, rdKind q l k = (none, s))
  | [], m, h => by
    cases h
    exact ⟨Nat.le_refl _, fun q hq => by simp at hq, .inl rfl⟩
  | q :: qs, m, h => by
    unfold rdRow at h
    split at h
    · cases h
    · rename_i t e
      obtain ⟨h1, h2, h3⟩ := rdRow_max h
      refine ⟨by omega, fun q' hq' => ?_, ?_⟩
      · rcases List.mem_cons.mp hq' with rfl | hq'
        · exact ⟨t, e, by omega⟩
        · exact h2 q' hq'
      · rcases h3 with h3 | ⟨q', hq', e'⟩
        · by_cases hmt : t ≤ m
          · exact .inl (by omega)
          · have e9 : s = t := by omega
            exact .inr ⟨q, List.mem_cons_self, by rw [e9]; exact e⟩
        · exact .inr ⟨q', List.mem_cons_of_mem _ hq', e'⟩
/-- the line of a row with the number k -/
def IsRow (k : Nat) (l : List Nat) : Prop := ∃ r : Row, r.ok k ∧ r.codes = l
theorem far_up {l l' : List Nat} {k s m : Nat} (hk : k ≤ 1000) (h : rdRow l k kinds 0 = (none, s)) (hm : m ≤ l.length) (q : l'.take m = l.take m) (hr : IsRow k l') : m ≤ s := by
  obtain ⟨r, hok, rfl⟩ := hr
  obtain ⟨_, h2, _⟩ := rdRow_max h
  obtain ⟨t, ht, hts⟩ := h2 r.q (by cases r <;> simp [Row.q, kinds])
  by_cases hlt : t < m
  · have e := rdKind_loc ht hlt hm q
    obtain ⟨t2, e2⟩ := rdKind_back hok hk
    rw [e] at e2
    cases e2
  · omega
def tails0 : List (List Nat) := [[], [32], [48], [32, 48], [48, 32, 48], [32, 48, 32, 48]]
def tails1 : List (List Nat) := [[], [32], [32, 48], [32, 48, 32, 48]]
/-- what the law lets follow -/
def tailsOf (b : List Nat) : List (List Nat) := tails0 ++ kinds.flatMap fun q => if q.cps.take b.length = b then tails1.map (q.cps.drop b.length ++ ·) else []
theorem tails_word {q : Kind} {b x : List Nat} (h : q.cps.take b.length = b) (hx : x ∈ tails1) : q.cps.drop b.length ++ x ∈ tailsOf b :=
  List.mem_append.mpr (.inr (List.mem_flatMap.mpr ⟨q, by cases q <;> simp [kinds], by rw [if_pos h]; exact List.mem_map.mpr ⟨x, hx, rfl⟩⟩))
theorem tails_any {b x : List Nat} (hx : x ∈ tails0) : x ∈ tailsOf b := List.mem_append.mpr (.inl hx)
theorem good_nil (n : Nat) : GoodS n (strOf []) := ⟨Nat.zero_le _, fun c hc => by simp [strOf] at hc⟩
/-- the plainest row of a kind -/
theorem plain_row {q : Kind} {k : Nat} (h : ¬ (k = 0 ∧ q.needs = true)) : ∃ (r : Row) (x : List Nat), r.ok k ∧ x ∈ tails1 ∧ r.codes = q.cps ++ x := by
  have k0 : q.needs = true → 0 < k := fun z => Nat.pos_of_ne_zero fun e => h ⟨e, z⟩
  cases q with
  | text => exact ⟨.text (strOf []), [32], good_nil _, by simp [tails1], by rw [codes_text, strOf_list]⟩
  | line => exact ⟨.line (strOf []), [32], good_nil _, by simp [tails1], by rw [codes_line, strOf_list]⟩
  | hard => exact ⟨.hard, [], True.intro, by simp [tails1], by rw [codes_hard, List.append_nil]⟩
  | cat => exact ⟨.cat [], [], ⟨Nat.zero_le _, fun j hj => by simp at hj⟩, by simp [tails1], by rw [show Row.codes (.cat []) = Kind.cps .cat ++ [] from rfl]⟩
  | nest => exact ⟨.nest (0 : Nat) (0 : Nat), [32, 48, 32, 48], ⟨by omega, by omega, by omega, by have := k0 rfl; omega⟩, by simp [tails1], codes_nest 0 0⟩
  | align => exact ⟨.align (0 : Nat), [32, 48], ⟨by omega, by have := k0 rfl; omega⟩, by simp [tails1], codes_align 0⟩
  | group => exact ⟨.group (0 : Nat), [32, 48], ⟨by omega, by have := k0 rfl; omega⟩, by simp [tails1], codes_group 0⟩
theorem ok_cat {k : Nat} {ns : List Nat} (h : ns.length ≤ 8) (h2 : ∀ n ∈ ns, n < k) : Row.ok k (.cat (ns.map Int.ofNat)) := by
  refine ⟨by rw [List.length_map]; exact h, fun j hj => ?_⟩
  obtain ⟨n, hn, rfl⟩ := List.mem_map.mp hj
  exact ⟨Int.natCast_nonneg n, Int.ofNat_lt.mpr (h2 n hn)⟩
theorem dg0 : dg 0 = [48] := rfl
theorem figs_snoc (ns : List Nat) (n : Nat) : figs (ns ++ [n]) = figs ns ++ 32 :: dg n := by
  show tailL ((ns ++ [n]).map dg) = _
  rw [List.map_append, List.map_cons, List.map_nil, tail_snoc]
/-- one number: what is still to come -/
theorem one_more {q : Kind} {k t : Nat} {l : List Nat} {f : Nat → Row} (hk : 0 < k) (hf : ∀ n, n < k → (f n).ok k ∧ (f n).codes = q.cps ++ figs [n]) (ht : t ≤ l.length) {ns : List Nat} (hn : Less ns [k])
    (h : l.take t = q.cps ++ figs ns ∨ ns.length < 1 ∧ l.take t = q.cps ++ figs ns ++ [32]) : ∃ x ∈ tails0, IsRow k (l.take t ++ x) := by
  cases hn with
  | nil =>
    rcases h with h | ⟨_, h⟩
    · exact ⟨[32, 48], by simp [tails0], f 0, (hf 0 hk).1, by rw [(hf 0 hk).2, h]; simp [figs, tailL, dg0]⟩
    · exact ⟨[48], by simp [tails0], f 0, (hf 0 hk).1, by rw [(hf 0 hk).2, h]; simp [figs, tailL, dg0]⟩
  | cons h1 h2 =>
    rename_i n ns'
    cases h2
    rcases h with h | ⟨h9, h⟩
    · exact ⟨[], by simp [tails0], f n, (hf n h1).1, by rw [(hf n h1).2, h, List.append_nil]⟩
    · simp at h9
theorem far_kind {q : Kind} {l : List Nat} {k t : Nat} (hk : k ≤ 1000) (h : rdKind q l k = (none, t)) : t ≤ l.length ∧ ∃ x ∈ tailsOf (l.take t), IsRow k (l.take t ++ x) := by
  unfold rdKind at h
  split at h
  · cases h
    refine ⟨Nat.zero_le _, Kind.cps .text ++ [32], ?_, .text (strOf []), good_nil _, ?_⟩
    · have := tails_word (q := .text) (b := l.take 0) (x := [32]) (by simp) (by simp [tails1])
      simpa using this
    · rw [codes_text, strOf_list]
      simp
  rename_i h1
  have k0 : q.needs = true → 0 < k := fun z => Nat.pos_of_ne_zero fun e => h1 ⟨e, z⟩
  split at h
  · rename_i h2
    cases h
    obtain ⟨c1, c2, c3⟩ := comm_le q.cps l
    obtain ⟨r, x, hr, hx, e⟩ := plain_row h1
    have hlen : (l.take (comm q.cps l)).length = comm q.cps l := by rw [List.length_take]; omega
    refine ⟨c2, q.cps.drop (l.take (comm q.cps l)).length ++ x, tails_word (by rw [hlen, c3]) hx, r, hr, ?_⟩
    rw [e, hlen, ← List.append_assoc, c3, List.take_append_drop]
  rename_i h2
  obtain ⟨ht, hl⟩ := kind_take h2
  have le2 : ∀ e ∈ [9, k], e ≤ 1000 := fun e he => by simp at he; omega
  have le1 : ∀ e ∈ [k], e ≤ 1000 := fun e he => by simp at he; omega
  cases q with
  | text =>
    dsimp only at h
    split at h <;> cases h
    rename_i e
    rw [cps_text] at hl
    rcases rdStr_no hl e with rfl | ⟨h3, z, hz, e2⟩
    · refine ⟨hl, [32], tails_any (by simp [tails0]), .text (strOf []), good_nil _, ?_⟩
      rw [codes_text, strOf_list, ← ht, cps_text]
    · refine ⟨h3, [], tails_any (by simp [tails0]), .text (strOf z), hz, ?_⟩
      rw [codes_text, strOf_list, e2, List.append_nil, ← ht, cps_text]
  | line =>
    dsimp only at h
    split at h <;> cases h
    rename_i e
    rw [cps_line] at hl
    rcases rdStr_no hl e with rfl | ⟨h3, z, hz, e2⟩
    · refine ⟨hl, [32], tails_any (by simp [tails0]), .line (strOf []), good_nil _, ?_⟩
      rw [codes_line, strOf_list, ← ht, cps_line]
    · refine ⟨h3, [], tails_any (by simp [tails0]), .line (strOf z), hz, ?_⟩
      rw [codes_line, strOf_list, e2, List.append_nil, ← ht, cps_line]
  | hard =>
    dsimp only at h
    split at h <;> cases h
    rename_i e
    rw [cps_hard] at hl ht
    unfold rdNums at e
    split at e <;> cases e
    refine ⟨hl, [], tails_any (by simp [tails0]), .hard, True.intro, ?_⟩
    rw [codes_hard, List.append_nil, cps_hard, ← ht]
    rfl
  | cat =>
    dsimp only at h
    split at h <;> cases h
    rename_i e
    have hl : 3 ≤ l.length := by rw [cps_cat] at hl; exact hl
    obtain ⟨h3, ns, h4, h5, h6⟩ := rdParts_no hk hl e
    have ht : l.take 3 = Kind.cps .cat := by rw [← ht, cps_cat]; rfl
    rw [ht] at h6
    rcases h6 with h6 | ⟨h6, h7, h8⟩
    · exact ⟨h3, [], tails_any (by simp [tails0]), .cat (ns.map Int.ofNat), ok_cat h4 h5, by rw [codes_cat, h6, List.append_nil]⟩
    · refine ⟨h3, [48], tails_any (by simp [tails0]), .cat ((ns ++ [0]).map Int.ofNat), ok_cat (by rw [List.length_append, List.length_singleton]; omega) (fun n hn => ?_), ?_⟩
      · rcases List.mem_append.mp hn with hn | hn
        · exact h5 n hn
        · rw [List.mem_singleton.mp hn]; omega
      · rw [codes_cat, h8, figs_snoc, dg0]
        simp
  | align =>
    have hk0 := k0 rfl
    have e : ∃ x, rdNums l [k] 5 [] = (x, t) ∧ x = none := by
      dsimp only at h
      split at h <;> cases h
      rename_i x h6 e
      cases x with
      | none => exact ⟨_, e, rfl⟩
      | some fs =>
        obtain ⟨j, rfl, _⟩ := rdNums1 (j := 0) e
        exact (h6 _ rfl).elim
    obtain ⟨_, e, rfl⟩ := e
    have ht : l.take 5 = Kind.cps .align := by rw [← ht, cps_align]; rfl
    have hl : 5 ≤ l.length := by rw [cps_align] at hl; exact hl
    obtain ⟨h3, ns, h4, h5⟩ := rdNums_no le1 hl e
    rw [ht] at h5
    obtain ⟨x, hx, hr⟩ := one_more (q := .align) (f := fun n => .align n) hk0 (fun n hn => ⟨⟨Int.natCast_nonneg n, Int.ofNat_lt.mpr hn⟩, codes_align n⟩) h3 h4 h5
    exact ⟨h3, x, tails_any hx, hr⟩
  | group =>
    have hk0 := k0 rfl
    have e : ∃ x, rdNums l [k] 5 [] = (x, t) ∧ x = none := by
      dsimp only at h
      split at h <;> cases h
      rename_i x h6 e
      cases x with
      | none => exact ⟨_, e, rfl⟩
      | some fs =>
        obtain ⟨j, rfl, _⟩ := rdNums1 (j := 0) e
        exact (h6 _ rfl).elim
    obtain ⟨_, e, rfl⟩ := e
    have ht : l.take 5 = Kind.cps .group := by rw [← ht, cps_group]; rfl
    have hl : 5 ≤ l.length := by rw [cps_group] at hl; exact hl
    obtain ⟨h3, ns, h4, h5⟩ := rdNums_no le1 hl e
    rw [ht] at h5
    obtain ⟨x, hx, hr⟩ := one_more (q := .group) (f := fun n => .group n) hk0 (fun n hn => ⟨⟨Int.natCast_nonneg n, Int.ofNat_lt.mpr hn⟩, codes_group n⟩) h3 h4 h5
    exact ⟨h3, x, tails_any hx, hr⟩
  | nest =>
    have hk0 := k0 rfl
    have e : ∃ x, rdNums l [9, k] 4 [] = (x, t) ∧ x = none := by
      dsimp only at h
      split at h <;> cases h
      rename_i x h6 e
      cases x with
      | none => exact ⟨_, e, rfl⟩
      | some fs =>
        obtain ⟨i, j, rfl, _⟩ := rdNums2 (j := 0) e
        exact (h6 _ _ rfl).elim
    obtain ⟨_, e, rfl⟩ := e
    have ht : l.take 4 = Kind.cps .nest := by rw [← ht, cps_nest]; rfl
    have hl : 4 ≤ l.length := by rw [cps_nest] at hl; exact hl
    obtain ⟨h3, ns, h4, h5⟩ := rdNums_no le2 hl e
    rw [ht] at h5
    have ok : ∀ n j : Nat, n < 9 → j < k → Row.ok k (.nest n j) := fun n j h1 h2 => ⟨Int.natCast_nonneg n, by omega, Int.natCast_nonneg j, Int.ofNat_lt.mpr h2⟩
    cases h4 with
    | nil =>
      rcases h5 with h | ⟨_, h⟩
      · exact ⟨h3, [32, 48, 32, 48], tails_any (by simp [tails0]), .nest (0 : Nat) (0 : Nat), ok 0 0 (by omega) hk0, by rw [codes_nest, h]; simp [figs, tailL, dg0]⟩
      · exact ⟨h3, [48, 32, 48], tails_any (by simp [tails0]), .nest (0 : Nat) (0 : Nat), ok 0 0 (by omega) hk0, by rw [codes_nest, h]; simp [figs, tailL, dg0]⟩
    | cons ha h4 =>
      rename_i a ns
      cases h4 with
      | nil =>
        rcases h5 with h | ⟨_, h⟩
        · exact ⟨h3, [32, 48], tails_any (by simp [tails0]), .nest a (0 : Nat), ok a 0 ha hk0, by rw [codes_nest, h]; simp [figs, tailL, dg0]⟩
        · exact ⟨h3, [48], tails_any (by simp [tails0]), .nest a (0 : Nat), ok a 0 ha hk0, by rw [codes_nest, h]; simp [figs, tailL, dg0]⟩
      | cons hb h4 =>
        rename_i b ns
        cases h4
        rcases h5 with h | ⟨h9, h⟩
        · exact ⟨h3, [], tails_any (by simp [tails0]), .nest a b, ok a b ha hb, by rw [codes_nest, h, List.append_nil]⟩
        · simp at h9
theorem far_at {l : List Nat} {k s : Nat} (hk : k ≤ 1000) (h : rdRow l k kinds 0 = (none, s)) : s ≤ l.length ∧ ∃ x ∈ tailsOf (l.take s), IsRow k (l.take s ++ x) := by
  obtain ⟨_, h2, h3⟩ := rdRow_max h
  rcases h3 with rfl | ⟨q, hq, e⟩
  · obtain ⟨t, ht, hts⟩ := h2 .text (by simp [kinds])
    obtain rfl : t = 0 := by omega
    exact far_kind hk ht
  · exact far_kind hk e
theorem isRow_iff {l : List Nat} {k : Nat} (hk : k ≤ 1000) : IsRow k l ↔ ∃ r t, rdRow l k kinds 0 = (some r, t) := by
  constructor
  · rintro ⟨r, hr, rfl⟩
    obtain ⟨t, ht⟩ := rdRow_back hr hk
    exact ⟨r, t, ht⟩
  · rintro ⟨r, t, h⟩
    exact ⟨r, rdRow_ok h, rdRow_inv hk h⟩
end Lw

/-! Texts as lists of signs. -/
namespace Lw
open PySem PySem.Spec PyProof.Rows L2
/-- a number, or None -/
def optI : Option Nat → V
  | none => .non
  | some n => .int n
abbrev cl (z : Str) : List Nat := z.cps.toList
theorem cl_len (z : Str) : (cl z).length = z.length := Array.length_toList
theorem cl_inj {a b : Str} (h : cl a = cl b) : a = b := Str.ext' (Array.toList_inj.mp h)
theorem cl_one (c : Nat) : cl ⟨#[c]⟩ = [c] := rfl
theorem cut_take (z : Str) (i j : Nat) (hij : i ≤ j) : cl (cutS z (some (i : Int)) (some (j : Int))) = ((cl z).drop i).take (j - i) := by
  unfold cutS
  rw [HT.sIx_nat, HT.sIx_nat]
  show ((cl z).drop (min i z.length)).take (min j z.length - min i z.length) = _
  by_cases h : i ≤ z.length
  · rw [Nat.min_eq_left h]
    by_cases h2 : j ≤ z.length
    · rw [Nat.min_eq_left h2]
    · rw [Nat.min_eq_right (by omega), List.take_of_length_le (by rw [List.length_drop, cl_len]; omega), List.take_of_length_le (by rw [List.length_drop, cl_len]; omega)]
  · rw [Nat.min_eq_right (by omega : z.length ≤ i), Nat.min_eq_right (by omega : z.length ≤ j), Nat.sub_self, List.take_zero, List.drop_of_length_le (by rw [cl_len]; omega), List.take_nil]
theorem cut_from (z : Str) (i : Nat) : cl (cutS z (some (i : Int)) none) = (cl z).drop i := by
  unfold cutS
  rw [HT.sIx_nat, HT.sIx_none]
  show ((cl z).drop (min i z.length)).take (z.length - min i z.length) = _
  by_cases h : i ≤ z.length
  · rw [Nat.min_eq_left h, List.take_of_length_le (by rw [List.length_drop, cl_len]; omega)]
  · rw [Nat.min_eq_right (by omega), Nat.sub_self, List.take_zero, List.drop_of_length_le (by rw [cl_len]; omega)]
theorem cut_one (z : Str) (i : Nat) : cl (cutS z (some (i : Int)) (some ((i : Int) + 1))) = ((cl z).drop i).take 1 := by
  have := cut_take z i (i + 1) (by omega)
  rw [show i + 1 - i = 1 by omega] at this
  exact this
theorem take1 (l : List Nat) (i : Nat) : (l.drop i).take 1 = match l[i]? with | some c => [c] | none => [] := by
  cases h : l[i]? with
  | none =>
    have := List.getElem?_eq_none_iff.mp h
    rw [List.drop_of_length_le this, List.take_nil]
  | some c =>
    obtain ⟨hi, e⟩ := List.getElem?_eq_some_iff.mp h
    rw [List.drop_eq_getElem_cons hi, e]
    rfl
/-- z[i:i+1] == the sign c -/
theorem cut_eq (z : Str) (i c : Nat) : decide (V.str (cutS z (some (i : Int)) (some ((i : Int) + 1))) = V.str ⟨#[c]⟩) = decide ((cl z)[i]? = some c) := by
  have e := cut_one z i
  rw [take1] at e
  by_cases h : (cl z)[i]? = some c
  · rw [h] at e
    rw [decide_eq_true h, decide_eq_true (by rw [cl_inj (a := cutS z _ _) (b := ⟨#[c]⟩) e])]
  · rw [decide_eq_false h, decide_eq_false (fun q => h ?_)]
    rw [V.str.inj q] at e
    cases h2 : (cl z)[i]? with
    | none => rw [h2] at e; cases e
    | some d =>
      rw [h2] at e
      rw [List.cons.inj e |>.1]
theorem lt1 (a b : Nat) : decide (([a] : List Nat) < [b]) = decide (a < b) := by
  by_cases h : a < b
  · rw [decide_eq_true h]
    exact decide_eq_true (show List.Lex _ _ _ from List.Lex.rel h)
  · rw [decide_eq_false h, decide_eq_false]
    intro z
    cases z with
    | rel h' => exact h h'
    | cons h' => cases h'
theorem not_lt1 (a b : Nat) : (!decide (([a] : List Nat) < [b])) = decide (b ≤ a) := by
  rw [lt1]
  by_cases z : a < b
  · rw [decide_eq_true z, decide_eq_false (by omega)]
    rfl
  · rw [decide_eq_false z, decide_eq_true (by omega)]
    rfl
theorem from0 (c : Nat) : (!decide (({ cps := #[c] } : Str).cps.toList < (Str.ofString "0").cps.toList)) = decide (48 ≤ c) := not_lt1 c 48
theorem to9 (c : Nat) : (!decide ((Str.ofString "9").cps.toList < ({ cps := #[c] } : Str).cps.toList)) = decide (c ≤ 57) := not_lt1 57 c
theorem fromB (c : Nat) : (!decide (({ cps := #[c] } : Str).cps.toList < (Str.ofString " ").cps.toList)) = decide (32 ≤ c) := not_lt1 c 32
theorem toT (c : Nat) : (!decide ((Str.ofString "~").cps.toList < ({ cps := #[c] } : Str).cps.toList)) = decide (c ≤ 126) := not_lt1 126 c
theorem scal_opt (o : Option Nat) (i : Int) : scal (optI o) (.int i) = true := by cases o <;> rfl
theorem tru_opt {K : PySem.W.Frag} {H : Hp} (o : Option Nat) : TruV K (optI o) H (match o with | none => false | some n => (n : Int) != 0) := by cases o <;> rfl
/-- what is told of the sign at i -/
theorem at_sign {z : Str} {i : Nat} (h : i < z.length) : ∃ c, (cl z)[i]? = some c ∧ atI (cl z) (i : Int) = some c :=
  ⟨(cl z)[i]'(by rw [cl_len]; exact h), List.getElem?_eq_getElem _, atI_nat (List.getElem?_eq_getElem _)⟩
theorem digit_text (c : Nat) (h : 48 ≤ c ∧ c ≤ 57) : PySem.intText? ⟨#[c]⟩ = some ((c - 48 : Nat) : Int) := by
  have : ∀ d, d < 10 → PySem.intText? ⟨#[48 + d]⟩ = some ((d : Nat) : Int) := by decide +kernel
  have e := this (c - 48) (by omega)
  rw [show 48 + (c - 48) = c by omega] at e
  exact e
theorem dg_text : ∀ n : Nat, n < 1000 → cl (toString (n : Int) : Str) = dg n := by
  have h : (List.range 1000).all (fun n : Nat => decide (cl (toString (n : Int) : Str) = dg n)) = true := by decide +kernel
  intro n hn
  exact of_decide_eq_true (List.all_eq_true.mp h n (List.mem_range.mpr hn))
theorem drop_step {α : Type} {l : List α} {m : Nat} {c : α} (h : l[m]? = some c) : l.drop m = c :: l.drop (m + 1) := by
  obtain ⟨hi, e⟩ := List.getElem?_eq_some_iff.mp h
  rw [List.drop_eq_getElem_cons hi, e]
theorem drop_end {l : List Nat} {m : Nat} (h : l[m]? = none) : l.drop m = [] := List.drop_of_length_le (List.getElem?_eq_none_iff.mp h)
theorem comm_go {a b : List Nat} {m c : Nat} (ha : a[m]? = some c) (hb : b[m]? = some c) : comm (a.drop m) (b.drop m) = comm (a.drop (m + 1)) (b.drop (m + 1)) + 1 := by
  rw [drop_step ha, drop_step hb]
  conv => lhs; unfold comm
  rw [if_pos rfl]
theorem comm_stop {a b : List Nat} {m : Nat} (h : a[m]? = none ∨ a[m]? ≠ b[m]?) : comm (a.drop m) (b.drop m) = 0 := by
  cases ha : a[m]? with
  | none =>
    rw [drop_end ha]
    rfl
  | some c =>
    cases hb : b[m]? with
    | none =>
      rw [drop_end hb, drop_step ha]
      rfl
    | some d =>
      rw [drop_step ha, drop_step hb]
      unfold comm
      rw [if_neg]
      rintro rfl
      rcases h with h | h
      · rw [ha] at h
        cases h
      · exact h (ha.trans hb.symm)
theorem run_go {l : List Nat} {m n c : Nat} (h : l[m]? = some c) (hg : good c = true) : run (n + 1) (l.drop m) = run n (l.drop (m + 1)) + 1 := by
  rw [drop_step h]
  conv => lhs; unfold run
  rw [if_pos hg]
theorem run_stop {l : List Nat} {m n : Nat} (h : n = 0 ∨ l[m]? = none ∨ ∃ c, l[m]? = some c ∧ good c = false) : run n (l.drop m) = 0 := by
  rcases h with rfl | h | ⟨c, h, hg⟩
  · unfold run
    rfl
  · rw [drop_end h]
    cases n <;> rfl
  · rw [drop_step h]
    cases n with
    | zero => rfl
    | succ n =>
      unfold run
      rw [hg]
      rfl
theorem digs_in {e m c : Nat} {l : List Nat} {o : Option Nat} (h : l[m]? = some c) (hc : 48 ≤ c ∧ c ≤ 57) (ho : o ≠ some 0) (he : o.getD 0 * 10 + (c - 48) < e) : digs e (l.drop m) o m = digs e (l.drop (m + 1)) (some (o.getD 0 * 10 + (c - 48))) (m + 1) := by
  rw [drop_step h]
  conv => lhs; unfold digs
  rw [if_pos hc, if_neg (by rintro (z | z) <;> first | exact ho z | omega)]
theorem digs_out {e m c : Nat} {l : List Nat} {o : Option Nat} (h : l[m]? = some c) (hc : ¬ (48 ≤ c ∧ c ≤ 57) ∨ o = some 0 ∨ e ≤ o.getD 0 * 10 + (c - 48)) : digs e (l.drop m) o m = (o, m) := by
  rw [drop_step h]
  unfold digs
  by_cases h1 : 48 ≤ c ∧ c ≤ 57
  · rw [if_pos h1, if_pos (hc.resolve_left fun z => z h1)]
  · rw [if_neg h1]
end Lw
namespace Lw
open PySem PySem.Spec PyProof.Rows L2
def RowV (K : PySem.W.Frag) (U : Hp) (v : V) : Option Row → Prop
  | none => v = .non
  | some r => Dp K U v r.data
theorem strOf_cl (z : Str) : strOf (cl z) = z := cl_inj (by simp [strOf])
end Lw
namespace Lw
open PySem PySem.Spec PyProof.Rows L2 TL
theorem join_tail (w : List Nat) (ws : List (List Nat)) : joinL [32] (w :: ws) = w ++ tailL ws := by
  induction ws generalizing w with
  | nil => simp [tailL, joinL]
  | cons v ws ih =>
    show w ++ ([32] ++ joinL [32] (v :: ws)) = _
    rw [ih, tail_cons]
    rfl
theorem dg_len (n : Nat) : (dg n).length ≤ 3 := by
  unfold dg
  split
  · simp
  split <;> simp
theorem dg_clean (n : Nat) (h : n < 1000) : ∀ c ∈ dg n, 48 ≤ c ∧ c ≤ 57 := by
  intro c hc
  unfold dg at hc
  split at hc
  · simp at hc
    omega
  split at hc <;> simp at hc <;> omega
theorem tail_len (m : Nat) : ∀ (ws : List (List Nat)), (∀ w ∈ ws, w.length ≤ m) → (tailL ws).length ≤ ws.length * (m + 1)
  | [], _ => by simp [tailL]
  | w :: ws, h => by
    rw [tail_cons, List.length_cons, List.length_append, List.length_cons, Nat.succ_mul]
    have := tail_len m ws fun v hv => h v (List.mem_cons_of_mem _ hv)
    have := h w List.mem_cons_self
    omega
theorem kind_short (q : Kind) : q.cps.length ≤ 5 ∧ ∀ c ∈ q.cps, 97 ≤ c ∧ c ≤ 122 := by cases q <;> decide +kernel
theorem codes_len {r : Row} {k : Nat} (h : r.ok k) : r.codes.length ≤ 64 := by
  have hk := (kind_short r.q).1
  unfold Row.codes
  rw [List.length_append]
  cases r with
  | text z =>
    have := tail_len 20 [cl z] fun w hw => by rw [List.mem_singleton.mp hw, cl_len]; exact h.1
    show _ + (tailL [cl z]).length ≤ 64
    simp at this
    omega
  | line z =>
    have := tail_len 20 [cl z] fun w hw => by rw [List.mem_singleton.mp hw, cl_len]; exact Nat.le_trans h.1 (by decide)
    show _ + (tailL [cl z]).length ≤ 64
    simp at this
    omega
  | hard =>
    show _ + 0 ≤ 64
    omega
  | cat ps =>
    have := tail_len 3 (ps.map fun p => dg p.toNat) fun w hw => by
      obtain ⟨p, _, rfl⟩ := List.mem_map.mp hw
      exact dg_len _
    rw [List.length_map] at this
    have h8 : ps.length ≤ 8 := h.1
    show _ + (tailL (ps.map fun p => dg p.toNat)).length ≤ 64
    omega
  | nest n j =>
    have := tail_len 3 [dg n.toNat, dg j.toNat] fun w hw => by
      simp at hw
      rcases hw with rfl | rfl <;> exact dg_len _
    simp at this
    show _ + (tailL [dg n.toNat, dg j.toNat]).length ≤ 64
    omega
  | align j =>
    have := tail_len 3 [dg j.toNat] fun w hw => by rw [List.mem_singleton.mp hw]; exact dg_len _
    simp at this
    show _ + (tailL [dg j.toNat]).length ≤ 64
    omega
  | group j =>
    have := tail_len 3 [dg j.toNat] fun w hw => by rw [List.mem_singleton.mp hw]; exact dg_len _
    simp at this
    show _ + (tailL [dg j.toNat]).length ≤ 64
    omega
theorem words_clean {r : Row} {k : Nat} (h : r.ok k) (hk : k ≤ 1000) : ∀ w ∈ r.words, ∀ c ∈ w, 32 ≤ c ∧ c ≤ 126 := by
  have num : ∀ (j : Int), 0 ≤ j → j < 1000 → ∀ c ∈ dg j.toNat, 32 ≤ c ∧ c ≤ 126 := fun j h0 h1 c hc => by
    have := dg_clean j.toNat (by omega) c hc
    omega
  cases r with
  | text z =>
    intro w hw c hc
    rw [show w = cl z from List.mem_singleton.mp hw] at hc
    exact h.2 c hc
  | line z =>
    intro w hw c hc
    rw [show w = cl z from List.mem_singleton.mp hw] at hc
    exact h.2 c hc
  | hard =>
    intro w hw
    cases hw
  | cat ps =>
    intro w hw c hc
    obtain ⟨p, hp, rfl⟩ := List.mem_map.mp hw
    have := h.2 p hp
    exact num p this.1 (by omega) c hc
  | nest n j =>
    obtain ⟨n0, n8, j0, jk⟩ := h
    intro w hw c hc
    simp [Row.words] at hw
    rcases hw with rfl | rfl
    · exact num n n0 (by omega) c hc
    · exact num j j0 (by omega) c hc
  | align j =>
    intro w hw c hc
    rw [show w = dg j.toNat from List.mem_singleton.mp hw] at hc
    have h : 0 ≤ j ∧ j < k := h
    exact num j h.1 (by omega) c hc
  | group j =>
    intro w hw c hc
    rw [show w = dg j.toNat from List.mem_singleton.mp hw] at hc
    have h : 0 ≤ j ∧ j < k := h
    exact num j h.1 (by omega) c hc
theorem codes_clean {r : Row} {k : Nat} (h : r.ok k) (hk : k ≤ 1000) : ∀ c ∈ r.codes, 32 ≤ c ∧ c ≤ 126 := by
  intro c hc
  rcases List.mem_append.mp hc with hc | hc
  · have := (kind_short r.q).2 c hc
    omega
  · obtain ⟨w, hw, hc⟩ := List.mem_flatMap.mp hc
    rcases List.mem_cons.mp hc with rfl | hc
    · omega
    · exact words_clean h hk w hw c hc
/-- a text, or a number, as str() has it -/
theorem call_str_is {X : Cx} : CallR X (.type "str") (fun xs H Q => (∃ i, xs = [.int i] ∧ i.natAbs.log2 < 1920 ∧ Q (.str (toString i)) H) ∨ (∃ a, xs = [.str a] ∧ Q (.str a) H)) :=
  fun pins s σ H xs us Q I r h => h.elim (call_str_int pins s σ H xs us Q I r) (SkE.call_str_str pins s σ H xs us Q I r)
theorem small_log {i : Int} (h : i.natAbs < 2 ^ 64) : i.natAbs.log2 < 1920 := by
  by_cases h0 : i.natAbs = 0
  · rw [h0]
    decide
  · exact Nat.lt_of_lt_of_le ((Nat.log2_lt h0).mpr h) (by decide)
theorem lines_len {m : Nat} : ∀ (zs : List Str), (∀ z ∈ zs, z.length ≤ m) → (zs.map (·.length)).sum ≤ zs.length * m
  | [], _ => Nat.zero_le _
  | z :: zs, h => by
    rw [List.map_cons, List.sum_cons, List.length_cons, Nat.succ_mul]
    have := lines_len zs fun y hy => h y (List.mem_cons_of_mem _ hy)
    have := h z List.mem_cons_self
    omega
theorem joinL_len (m : Nat) : ∀ (ls : List (List Nat)), (∀ l ∈ ls, l.length ≤ m) → (joinL [10] ls).length ≤ ls.length * (m + 1)
  | [], _ => Nat.zero_le _
  | [p], h => by
    have := h p (List.mem_singleton.mpr rfl)
    show p.length ≤ 1 * (m + 1)
    omega
  | p :: q :: r, h => by
    show (p ++ ([10] ++ joinL [10] (q :: r))).length ≤ _
    rw [List.length_append, List.length_append, show (p :: q :: r).length = (q :: r).length + 1 from rfl, Nat.succ_mul]
    have := joinL_len m (q :: r) fun l hl => h l (List.mem_cons_of_mem _ hl)
    have := h p List.mem_cons_self
    have e1 : ([10] : List Nat).length = 1 := rfl
    omega
end Lw

/-! The law's own look at a line, and what a row's line is. -/
namespace Lw
open PySem PySem.Spec PyProof.Rows L2 TL
/-- the pieces between the signs s -/
def splitB (s : Nat) : List Nat → List (List Nat)
  | [] => [[]]
  | c :: r => if c = s then [] :: splitB s r else match splitB s r with | [] => [[c]] | p :: ps => (c :: p) :: ps
theorem splitB_ne {s : Nat} : ∀ (l : List Nat), splitB s l ≠ []
  | [] => fun h => nomatch h
  | c :: r => by
    unfold splitB
    split
    · exact fun h => nomatch h
    · split <;> exact fun h => nomatch h
theorem splitB_join {s : Nat} : ∀ (l : List Nat), joinL [s] (splitB s l) = l ∧ ∀ p ∈ splitB s l, s ∉ p
  | [] => ⟨rfl, fun p hp => by rw [List.mem_singleton.mp hp]; simp⟩
  | c :: r => by
    obtain ⟨h1, h2⟩ := splitB_join (s := s) r
    have hne := splitB_ne (s := s) r
    unfold splitB
    split
    · rename_i hc
      subst hc
      refine ⟨?_, fun p hp => ?_⟩
      · cases e : splitB c r with
        | nil => exact absurd e hne
        | cons p ps =>
          rw [e] at h1
          show [] ++ ([c] ++ joinL [c] (p :: ps)) = _
          rw [h1]
          rfl
      · rcases List.mem_cons.mp hp with rfl | hp
        · simp
        · exact h2 p hp
    · rename_i hc
      cases e : splitB s r with
      | nil => exact absurd e hne
      | cons p ps =>
        rw [e] at h1 h2
        refine ⟨?_, fun q hq => ?_⟩
        · show joinL [s] ((c :: p) :: ps) = c :: r
          cases ps with
          | nil =>
            have h1 : p = r := h1
            show c :: p = c :: r
            rw [h1]
          | cons p2 ps =>
            have h1 : p ++ ([s] ++ joinL [s] (p2 :: ps)) = r := h1
            show (c :: p) ++ ([s] ++ joinL [s] (p2 :: ps)) = c :: r
            rw [List.cons_append, h1]
        · rcases List.mem_cons.mp hq with rfl | hq
          · intro z
            rcases List.mem_cons.mp z with z | z
            · exact hc z.symm
            · exact h2 p List.mem_cons_self z
          · exact h2 q (List.mem_cons_of_mem _ hq)
theorem splitB_app {s : Nat} : ∀ {w r : List Nat}, s ∉ w → splitB s (w ++ s :: r) = w :: splitB s r
  | [], r, h => by
    show splitB s (s :: r) = _
    conv => lhs; unfold splitB
    rw [if_pos rfl]
  | c :: w, r, h => by
    have hc : ¬ c = s := fun z => h (by rw [z]; exact List.mem_cons_self)
    have := splitB_app (s := s) (w := w) (r := r) fun z => h (List.mem_cons_of_mem _ z)
    rw [List.cons_append]
    conv => lhs; unfold splitB
    rw [if_neg hc, this]
theorem splitB_one {s : Nat} : ∀ {w : List Nat}, s ∉ w → splitB s w = [w]
  | [], h => rfl
  | c :: w, h => by
    have hc : ¬ c = s := fun z => h (by rw [z]; exact List.mem_cons_self)
    have := splitB_one (s := s) (w := w) fun z => h (List.mem_cons_of_mem _ z)
    unfold splitB
    rw [if_neg hc, this]
theorem splitB_of {s : Nat} : ∀ {ls : List (List Nat)}, ls ≠ [] → (∀ p ∈ ls, s ∉ p) → splitB s (joinL [s] ls) = ls
  | [], h, _ => absurd rfl h
  | [p], _, h => splitB_one (h p List.mem_cons_self)
  | p :: q :: r, _, h => by
    show splitB s (p ++ ([s] ++ joinL [s] (q :: r))) = _
    rw [List.singleton_append, splitB_app (h p List.mem_cons_self), splitB_of (ls := q :: r) (fun z => nomatch z) fun x hx => h x (List.mem_cons_of_mem _ hx)]
theorem splitB_len {s : Nat} : ∀ (l : List Nat), (splitB s l).length ≤ l.length + 1
  | [] => Nat.le_refl _
  | c :: r => by
    have := splitB_len (s := s) r
    unfold splitB
    rw [List.length_cons]
    split
    · rw [List.length_cons]; omega
    · split
      · show 1 ≤ _
        omega
      · rename_i e
        rw [e, List.length_cons] at this
        rw [List.length_cons]
        omega
theorem splitB_mem {s : Nat} : ∀ {l p : List Nat} {c : Nat}, p ∈ splitB s l → c ∈ p → c ∈ l
  | [], p, c, hp, hc => by rw [List.mem_singleton.mp hp] at hc; exact hc
  | d :: r, p, c, hp, hc => by
    unfold splitB at hp
    split at hp
    · rcases List.mem_cons.mp hp with rfl | hp
      · simp at hc
      · exact List.mem_cons_of_mem _ (splitB_mem hp hc)
    · split at hp
      · rw [List.mem_singleton.mp hp, List.mem_singleton] at hc
        rw [hc]
        exact List.mem_cons_self
      · rename_i q qs e
        rcases List.mem_cons.mp hp with rfl | hp
        · rcases List.mem_cons.mp hc with rfl | hc
          · exact List.mem_cons_self
          · exact List.mem_cons_of_mem _ (splitB_mem (p := q) (by rw [e]; exact List.mem_cons_self) hc)
        · exact List.mem_cons_of_mem _ (splitB_mem (p := p) (by rw [e]; exact List.mem_cons_of_mem _ hp) hc)
theorem splitB_short {s : Nat} : ∀ {l p : List Nat}, p ∈ splitB s l → p.length ≤ l.length
  | [], p, hp => by rw [List.mem_singleton.mp hp]; exact Nat.le_refl _
  | d :: r, p, hp => by
    unfold splitB at hp
    rw [List.length_cons]
    split at hp
    · rcases List.mem_cons.mp hp with rfl | hp
      · exact Nat.zero_le _
      · have := splitB_short hp; omega
    · split at hp
      · rw [List.mem_singleton.mp hp]
        show 1 ≤ _
        omega
      · rename_i q qs e
        rcases List.mem_cons.mp hp with rfl | hp
        · have := splitB_short (s := s) (l := r) (p := q) (by rw [e]; exact List.mem_cons_self)
          rw [List.length_cons]
          omega
        · have := splitB_short (s := s) (l := r) (p := p) (by rw [e]; exact List.mem_cons_of_mem _ hp)
          omega
def ofL' (l : List Nat) : Str := ⟨l.toArray⟩
theorem split_is {z y : Str} {s : Nat} (hy : tl y = [s]) (h : (y.cps.all fun x => decide (x < 256)) = true) : (Txt.split z y).map cl = splitB s (cl z) := by
  obtain ⟨h1, h2⟩ := splitB_join (s := s) (cl z)
  have e : ((splitB s (cl z)).map ofL').map cl = splitB s (cl z) := by
    rw [List.map_map]
    exact List.map_id' _
  have ez : z = Txt.join y ((splitB s (cl z)).map ofL') := cl_inj (by
    rw [join_eq]
    show cl z = tl (Str.join y _)
    rw [tl_join, hy, show ((splitB s (cl z)).map ofL').map tl = ((splitB s (cl z)).map ofL').map cl from rfl, e]
    exact h1.symm)
  conv => lhs; rw [ez]
  rw [split_join (S := []) (s := s) hy h (fun q => splitB_ne _ (List.map_eq_nil_iff.mp q)) fun p q => ?_]
  · exact e
  · obtain ⟨l, hl, rfl⟩ := List.mem_map.mp q
    exact h2 l hl
/-! ### the law's look -/
def isNum (l : List Nat) (m : Nat) : Bool := (List.range m).any fun n => decide (l = dg n)
theorem isNum_iff {l : List Nat} {m : Nat} : isNum l m = true ↔ ∃ n, n < m ∧ l = dg n := by
  unfold isNum
  rw [List.any_eq_true]
  constructor
  · rintro ⟨n, h1, h2⟩
    exact ⟨n, List.mem_range.mp h1, of_decide_eq_true h2⟩
  · rintro ⟨n, h1, h2⟩
    exact ⟨n, List.mem_range.mpr h1, decide_eq_true h2⟩
abbrev wText : List Nat := [116, 101, 120, 116]
abbrev wLine : List Nat := [108, 105, 110, 101]
abbrev wHard : List Nat := [104, 97, 114, 100]
abbrev wCat : List Nat := [99, 97, 116]
abbrev wNest : List Nat := [110, 101, 115, 116]
abbrev wAlign : List Nat := [97, 108, 105, 103, 110]
abbrev wGroup : List Nat := [103, 114, 111, 117, 112]
/-- the words of a line that is no text's and no line's -/
def wordsRow (k : Nat) (w : List Nat) (ps : List (List Nat)) : Prop :=
  (w = wHard ∧ ps = []) ∨ (w = wNest ∧ ∃ a b, ps = [a, b] ∧ isNum a 9 = true ∧ isNum b k = true) ∨
  ((w = wAlign ∨ w = wGroup) ∧ ∃ a, ps = [a] ∧ isNum a k = true) ∨ (w = wCat ∧ ps.length ≤ 8 ∧ ∀ p ∈ ps, isNum p k = true)
def headed (l : List Nat) : Bool := decide (l.take 5 = wText ++ [32]) || decide (l.take 5 = wLine ++ [32])
theorem take_app {w : List Nat} {l : List Nat} {n : Nat} (hn : n = w.length) (h : l.take n = w) : l = w ++ l.drop n := by
  conv => lhs; rw [← List.take_append_drop n l, h]
theorem isRow_text {k : Nat} {l : List Nat} (h : l.take 5 = wText ++ [32]) : IsRow k l ↔ l.length ≤ 25 ∧ ∀ c ∈ l, good c = true := by
  have e := take_app (n := 5) (w := wText ++ [32]) rfl h
  have el := congrArg List.length e
  rw [List.length_append] at el
  have el : l.length = 5 + (l.drop 5).length := el
  constructor
  · rintro ⟨r, hr, er⟩
    cases r with
    | text z =>
      rw [codes_text, cps_text] at er
      have hz : GoodS 20 z := hr
      have e5 : l.drop 5 = cl z := by rw [← er]; rfl
      refine ⟨?_, fun c hc => ?_⟩
      · rw [e5, cl_len] at el
        have : z.length ≤ 20 := hz.1
        omega
      · rw [← er] at hc
        unfold good
        rcases List.mem_append.mp hc with hc | hc
        · exact decide_eq_true (by simp at hc; omega)
        · rcases List.mem_cons.mp hc with rfl | hc
          · decide
          · exact decide_eq_true (hz.2 c hc)
    | line z => rw [codes_line, cps_line, ] at er; rw [← er] at h; simp at h
    | hard => rw [codes_hard, cps_hard] at er; rw [← er] at h; simp at h
    | cat ps =>
      have : l.take 1 = [99] := by rw [← er]; rfl
      rw [e] at this
      simp at this
    | nest n j =>
      have : l.take 1 = [110] := by rw [← er]; rfl
      rw [e] at this
      simp at this
    | align j =>
      have : l.take 1 = [97] := by rw [← er]; rfl
      rw [e] at this
      simp at this
    | group j =>
      have : l.take 1 = [103] := by rw [← er]; rfl
      rw [e] at this
      simp at this
  · rintro ⟨h1, h2⟩
    refine ⟨.text (strOf (l.drop 5)), ⟨?_, fun c hc => ?_⟩, ?_⟩
    · show (l.drop 5).toArray.size ≤ 20
      rw [List.size_toArray]
      omega
    · rw [strOf_list] at hc
      exact of_decide_eq_true (h2 c (List.mem_of_mem_drop hc))
    · rw [codes_text, cps_text, strOf_list]
      exact e.symm
theorem isRow_line {k : Nat} {l : List Nat} (h : l.take 5 = wLine ++ [32]) : IsRow k l ↔ l.length ≤ 8 ∧ ∀ c ∈ l, good c = true := by
  have e := take_app (n := 5) (w := wLine ++ [32]) rfl h
  have el := congrArg List.length e
  rw [List.length_append] at el
  have el : l.length = 5 + (l.drop 5).length := el
  constructor
  · rintro ⟨r, hr, er⟩
    cases r with
    | line z =>
      rw [codes_line, cps_line] at er
      have hz : GoodS 3 z := hr
      have e5 : l.drop 5 = cl z := by rw [← er]; rfl
      refine ⟨?_, fun c hc => ?_⟩
      · rw [e5, cl_len] at el
        have : z.length ≤ 3 := hz.1
        omega
      · rw [← er] at hc
        unfold good
        rcases List.mem_append.mp hc with hc | hc
        · exact decide_eq_true (by simp at hc; omega)
        · rcases List.mem_cons.mp hc with rfl | hc
          · decide
          · exact decide_eq_true (hz.2 c hc)
    | text z => rw [codes_text, cps_text, ] at er; rw [← er] at h; simp at h
    | hard => rw [codes_hard, cps_hard] at er; rw [← er] at h; simp at h
    | cat ps =>
      have : l.take 1 = [99] := by rw [← er]; rfl
      rw [e] at this
      simp at this
    | nest n j =>
      have : l.take 1 = [110] := by rw [← er]; rfl
      rw [e] at this
      simp at this
    | align j =>
      have : l.take 1 = [97] := by rw [← er]; rfl
      rw [e] at this
      simp at this
    | group j =>
      have : l.take 1 = [103] := by rw [← er]; rfl
      rw [e] at this
      simp at this
  · rintro ⟨h1, h2⟩
    refine ⟨.line (strOf (l.drop 5)), ⟨?_, fun c hc => ?_⟩, ?_⟩
    · show (l.drop 5).toArray.size ≤ 3
      rw [List.size_toArray]
      omega
    · rw [strOf_list] at hc
      exact of_decide_eq_true (h2 c (List.mem_of_mem_drop hc))
    · rw [codes_line, cps_line, strOf_list]
      exact e.symm
theorem dg_no32 (n : Nat) (h : n < 1000) : 32 ∉ dg n := fun z => by have := dg_clean n h 32 z; omega
theorem nums_of {k : Nat} : ∀ {ps : List (List Nat)}, (∀ p ∈ ps, isNum p k = true) → ∃ ns : List Nat, ps = ns.map dg ∧ ∀ n ∈ ns, n < k
  | [], _ => ⟨[], rfl, fun n hn => by simp at hn⟩
  | p :: ps, h => by
    obtain ⟨n, hn, e⟩ := isNum_iff.mp (h p List.mem_cons_self)
    obtain ⟨ns, e2, h2⟩ := nums_of (ps := ps) fun q hq => h q (List.mem_cons_of_mem _ hq)
    refine ⟨n :: ns, by rw [e, e2]; rfl, fun m hm => ?_⟩
    rcases List.mem_cons.mp hm with rfl | hm
    · exact hn
    · exact h2 m hm
theorem isRow_words {k : Nat} (hk : k ≤ 1000) {l w : List Nat} {ps : List (List Nat)} (h : headed l = false) (e : splitB 32 l = w :: ps) : IsRow k l ↔ wordsRow k w ps := by
  have el : l = w ++ tailL ps := by
    have := (splitB_join (s := 32) l).1
    rw [e, join_tail] at this
    exact this.symm
  have h0 : ¬ l.take 5 = wText ++ [32] := fun z => by unfold headed at h; rw [decide_eq_true z] at h; cases h
  have h1 : ¬ l.take 5 = wLine ++ [32] := fun z => by unfold headed at h; rw [decide_eq_true z, Bool.or_true] at h; cases h
  have back : ∀ (q : List Nat) (ns : List Nat), 32 ∉ q → (∀ n ∈ ns, n < 1000) → q ++ figs ns = l → w = q ∧ ps = ns.map dg := fun q ns hq hn e2 => by
    have : splitB 32 l = q :: ns.map dg := by
      rw [← e2, show q ++ figs ns = joinL [32] (q :: ns.map dg) by rw [join_tail]]
      refine splitB_of (fun z => nomatch z) fun p hp => ?_
      rcases List.mem_cons.mp hp with rfl | hp
      · exact hq
      · obtain ⟨n, hn', rfl⟩ := List.mem_map.mp hp
        exact dg_no32 n (hn n hn')
    rw [e] at this
    obtain ⟨a, b⟩ := List.cons.inj this
    exact ⟨a, b⟩
  constructor
  · rintro ⟨r, hr, er⟩
    cases r with
    | text z => rw [codes_text, cps_text] at er; exact absurd (by rw [← er]; rfl) h0
    | line z => rw [codes_line, cps_line] at er; exact absurd (by rw [← er]; rfl) h1
    | hard =>
      rw [codes_hard, cps_hard] at er
      obtain ⟨a, b⟩ := back wHard [] (by decide) (fun n hn => by simp at hn) (by rw [← er]; simp [figs, tailL])
      exact .inl ⟨a, b⟩
    | cat qs =>
      obtain ⟨h8, hq⟩ : qs.length ≤ 8 ∧ ∀ j ∈ qs, 0 ≤ j ∧ j < k := hr
      have e3 : qs = (qs.map Int.toNat).map Int.ofNat := by
        rw [List.map_map]
        clear er h8
        induction qs with
        | nil => rfl
        | cons j qs ih =>
          rw [List.map_cons, ← ih fun i hi => hq i (List.mem_cons_of_mem _ hi)]
          have := (hq j List.mem_cons_self).1
          congr 1
          show j = (j.toNat : Int)
          omega
      rw [e3, codes_cat, cps_cat] at er
      have hlt : ∀ n ∈ qs.map Int.toNat, n < k := fun n hn => by
        obtain ⟨j, hj, rfl⟩ := List.mem_map.mp hn
        have := hq j hj
        omega
      obtain ⟨a, b⟩ := back wCat (qs.map Int.toNat) (by decide) (fun n hn => by have := hlt n hn; omega) er
      refine .inr (.inr (.inr ⟨a, by rw [b, List.length_map, List.length_map]; exact h8, fun p hp => ?_⟩))
      rw [b] at hp
      obtain ⟨n, hn, rfl⟩ := List.mem_map.mp hp
      exact isNum_iff.mpr ⟨n, hlt n hn, rfl⟩
    | nest n j =>
      obtain ⟨n0, n8, j0, jk⟩ : 0 ≤ n ∧ n ≤ 8 ∧ 0 ≤ j ∧ j < k := hr
      obtain ⟨n, rfl⟩ := Int.eq_ofNat_of_zero_le n0
      obtain ⟨j, rfl⟩ := Int.eq_ofNat_of_zero_le j0
      rw [codes_nest, cps_nest] at er
      obtain ⟨a, b⟩ := back wNest [n, j] (by decide) (fun m hm => by simp at hm; omega) er
      exact .inr (.inl ⟨a, _, _, b, isNum_iff.mpr ⟨n, by omega, rfl⟩, isNum_iff.mpr ⟨j, by omega, rfl⟩⟩)
    | align j =>
      obtain ⟨j0, jk⟩ : 0 ≤ j ∧ j < k := hr
      obtain ⟨j, rfl⟩ := Int.eq_ofNat_of_zero_le j0
      rw [codes_align, cps_align] at er
      obtain ⟨a, b⟩ := back wAlign [j] (by decide) (fun m hm => by simp at hm; omega) er
      exact .inr (.inr (.inl ⟨.inl a, _, b, isNum_iff.mpr ⟨j, by omega, rfl⟩⟩))
    | group j =>
      obtain ⟨j0, jk⟩ : 0 ≤ j ∧ j < k := hr
      obtain ⟨j, rfl⟩ := Int.eq_ofNat_of_zero_le j0
      rw [codes_group, cps_group] at er
      obtain ⟨a, b⟩ := back wGroup [j] (by decide) (fun m hm => by simp at hm; omega) er
      exact .inr (.inr (.inl ⟨.inr a, _, b, isNum_iff.mpr ⟨j, by omega, rfl⟩⟩))
  · intro hw
    rcases hw with ⟨rfl, rfl⟩ | ⟨rfl, a, b, rfl, ha, hb⟩ | ⟨hw, a, rfl, ha⟩ | ⟨rfl, h8, hp⟩
    · exact ⟨.hard, True.intro, by rw [codes_hard, cps_hard, el]; simp [tailL]⟩
    · obtain ⟨n, hn, rfl⟩ := isNum_iff.mp ha
      obtain ⟨j, hj, rfl⟩ := isNum_iff.mp hb
      exact ⟨.nest n j, ⟨Int.natCast_nonneg n, by omega, Int.natCast_nonneg j, Int.ofNat_lt.mpr hj⟩, by rw [codes_nest, cps_nest, el]; rfl⟩
    · obtain ⟨j, hj, rfl⟩ := isNum_iff.mp ha
      rcases hw with rfl | rfl
      · exact ⟨.align j, ⟨Int.natCast_nonneg j, Int.ofNat_lt.mpr hj⟩, by rw [codes_align, cps_align, el]; rfl⟩
      · exact ⟨.group j, ⟨Int.natCast_nonneg j, Int.ofNat_lt.mpr hj⟩, by rw [codes_group, cps_group, el]; rfl⟩
    · obtain ⟨ns, rfl, hn⟩ := nums_of hp
      exact ⟨.cat (ns.map Int.ofNat), ok_cat (by rw [List.length_map] at h8; exact h8) hn, by rw [codes_cat, cps_cat, el]⟩
/-- whether a line is a row's: what the reader says -/
def lineB (l : List Nat) (k : Nat) : Bool := (rdRow l k kinds 0).1.isSome
theorem lineB_iff {l : List Nat} {k : Nat} (hk : k ≤ 1000) : lineB l k = true ↔ IsRow k l := by
  rw [isRow_iff hk]
  unfold lineB
  cases e : rdRow l k kinds 0 with
  | mk o t =>
    cases o with
    | none => exact ⟨fun z => (nomatch z), fun ⟨_, _, z⟩ => (nomatch z)⟩
    | some r => exact ⟨fun _ => ⟨r, t, rfl⟩, fun _ => rfl⟩
theorem lineB_eq {l : List Nat} {k : Nat} {b : Bool} (hk : k ≤ 1000) (h : b = true ↔ IsRow k l) : lineB l k = b := by
  have := lineB_iff (l := l) hk
  cases hb : b with
  | true => exact this.mpr (h.mp hb)
  | false =>
    cases hl : lineB l k with
    | false => rfl
    | true =>
      have := h.mpr (this.mp hl)
      rw [hb] at this
      cases this
end Lw

/-! f(k = v, ..): a def called by the names of its parameters alone. -/
namespace L2
open PySem PySem.Spec PyProof.Rows
def tKwOnly (m : Nat) (sp : Sp) (gV : List V → List V) (tk : TA) : TE := fun σ H Q => tk σ H fun zs H1 => zs.length = m ∧ sp (gV zs) H1 Q E0
section
variable {X : Cx} {x : Str} {st : Stmt} {ps ks : List Str} {k : Nat} {sp : Sp} {kws : List Keyword} {tk : TA} {p pos : Pos} {g : List Value → List Value} {gV : List V → List V}
theorem pe_kwD (D : DefOk X.prog X.w X.K X.mg X.base x st ps k sp) (hr : Room k X.A) (rel : ∀ {zs : List V} {ws : List Value}, Vals zs ws → Vals (gV zs) (g ws))
    (hb : ∀ (kV doc pm : Value) (an : Option Addr) (cdv ct : Value) (ws : List Value), ws.length = ks.length → bindArgs (PySem.W.fnOf x x (defArgs st) (defBody st) (defScope st) .none kV doc pm an cdv ct) ⟨[], ks.zip ws⟩ = pure (ps.zip (g ws)))
    (hkw : PK X kws tk) (hg : Gl X x := by rfl) (named : (backToKw pos (keywordEach kws X.env)).all (·.1.isSome) = true := by rfl) (hks : (backToKw pos (keywordEach kws X.env)).filterMap (·.1) = ks := by rfl)
    (hdb : (x == ("__debug__" : Str)) = false := by decide) (plain : ((backTo pos (starEach [] X.env)).any (·.1) || (backToKw pos (keywordEach kws X.env)).any (·.1.isNone)) = false := by rfl) :
    PE X (.Call (.Name x p) [] kws pos) (tKwOnly ks.length sp gV tk) := by
  obtain ⟨f, fd, hm, F, _, G⟩ := D.ex
  have kp := F.kp
  obtain ⟨oc, od, kV, doc, pm, an, cdv, ct, osl, rfl, lk, hcd⟩ := F.ex
  refine ⟨fun pins s σ H Q I h => wpAny_Call_Name_kw (ld_glob I hg hm (PySem.W.callWith_KW0 (h₀ := X.base) I.ok.mod.kin kp named (thn (hkw.run pos pins s σ H _ I h) fun ws s2 ⟨zs, H2, I2, rz, l2, q⟩ => ⟨I2.kIn, ?_⟩) plain) hdb)⟩
  rw [hks]
  have r2 := rel rz
  refine wpAny_call (codeAny_mono (G.run X.A X.stack s2 H2 ⟨[], ks.zip ws⟩ (g ws) (gV zs) Q E0 hr I2.env0 (.of_eq (hb _ _ _ _ _ _ ws (rz.length.symm.trans l2))) r2 q) fun r s' z => ?_)
  cases r with
  | error e => exact pass0 pins σ H2 s2 e s' I2 z
  | ok fl =>
    cases fl with
    | ret u => exact I2.after z
    | next => exact False.elim z
    | brk => exact False.elim z
    | cont => exact False.elim z
end
end L2

/-! Error classes over a class of the text that stands over ArithmeticError: made, raised, asked. -/
namespace PySem
namespace AX
open PySem.W PySem.Calls PyProof.Rows PySem.HandSPX PySem.OEX
abbrev arith : List Value := [.type "ArithmeticError", .type "Exception", .type "BaseException", .type "object"]
/-- classes of the text, then ArithmeticError's own line -/
def overA : List Value → Bool
  | .ref _ :: r => overA r
  | l => l == arith
theorem overA_own {l : List Value} : overA l = true → ∃ rs : List Addr, l = rs.map Value.ref ++ arith := by
  induction l with
  | nil => intro z; exact absurd z (by decide)
  | cons v r ih =>
    intro z
    by_cases q : ∃ c, v = .ref c
    · obtain ⟨c, rfl⟩ := q
      obtain ⟨rs, e⟩ := ih z
      exact ⟨c :: rs, by rw [e]; rfl⟩
    · refine ⟨[], ?_⟩
      cases v <;> first | exact absurd ⟨_, rfl⟩ q | exact beq_iff_eq.mp z
theorem own_pass (self : Value) : ∀ rs : List Addr, refuseLoop self "__setattr__" (rs.map Value.ref ++ arith) = pure ()
  | [] => F.store_ArithmeticError.passes self
  | c :: rs => by
    rw [List.map_cons, List.cons_append, refuseLoop_ref]
    exact own_pass self rs
theorem own_has (X : String) : ∀ rs : List Addr, (rs.map Value.ref ++ arith).contains (.type X) = arith.contains (.type X)
  | [] => rfl
  | c :: rs => by
    rw [List.map_cons, List.cons_append, List.contains_cons, own_has X rs]
    rfl
theorem over_pass {l : List Value} (self : Value) (h : overA l = true) : refuseLoop self "__setattr__" l = pure () := by
  obtain ⟨rs, rfl⟩ := overA_own h
  exact own_pass self rs
theorem over_has {l : List Value} (X : String) (h : overA l = true) : l.contains (.type X) = arith.contains (.type X) := by
  obtain ⟨rs, rfl⟩ := overA_own h
  exact own_has X rs
theorem over_some {l : List Value} (h : overA l = true) : l.isEmpty = false := by
  cases l with
  | nil => exact absurd h (by decide)
  | cons _ _ => rfl
section
open Builtin Builtin.ObjectAttr
variable {P : Program} {w : World} {A : Around} {R : Result → Shared → Prop} {g0 : Heap} {gs : Array GenState} {dr : Drawn} {n : Nat} {os : OsState} {K : W.Frag} {f : Str} {tk : Tok} {v : Value} {e C : Addr} {fv : Array Value} {cl : ClassData}
/-- e.f = v where e has its dict, or none as yet: what the checks ahead of the store ask -/
theorem store_ahead {od : Option Obj} {oe : Obj} (inK : K.In g0) (J : W.InstAt g0 e oe C od) (hc : W.clsIn K C = some cl) (over : overA cl.mro = true) (free : W.findIn K (.ref C) f = some none)
    (go : wpAny (model P w) A.in1 (storeInOwnDict (.ref e) (.ref C) (.str f tk) f v false) (fun r z => match r with | .done u => R (.ok u) z | .again c => c.quiet = true ∧ codeAny (model P w) A c R z) (fun x z => R (.error x) z) ⟨g0, gs, dr, n, os⟩) :
    codeAny (model P w) A (.call (.builtin "object.__setattr__") ⟨[.ref e, .str f tk, v], []⟩) R ⟨g0, gs, dr, n, os⟩ := by
  have B := F.store_object
  have isObj : cl.mro.contains (.type "object") = true := (over_has "object" over).trans (by decide +kernel)
  have inst : W.Looks (model P w) g0 (isInstance (.ref e) (.type "object")) true :=
    J.type.andThen (W.looks_mroIn inK (by unfold W.mroIn; rw [hc, Option.bind_some, if_neg (by rw [over_some over]; decide), isObj]))
  refine codeAny_call_builtin B.slot.plain B.entry (@W.check_slot (model P w) _ _ ⟨g0, gs, dr, n, os⟩ "object.__setattr__" "object" "__setattr__" (.ref e) [.str f tk, v] [] _ B.kind B.split inst (B.args (.ref e) (.str f tk) v) ?_)
  have line : W.Looks (model P w) g0 (mroOf (.ref C)) cl.mro := (W.looks_clsIn inK hc).andThen .now
  have taker : W.Looks (model P w) g0 (storeTaker? none) none := .now
  rw [W.osa_eq, refuse_eq]
  refine wpAny_bind (wpAny_bind (J.type.at (wpAny_bind (line.at ?_))))
  rw [over_pass _ over]
  exact wpAny_pure (wpAny_bind (J.type.at (wpAny_bind ((W.looks_findIn inK free).at (wpAny_bind (taker.at go))))))
/-- the first field -/
theorem field_one (inK : K.In g0) (at_e : g0.get? e = some { cls := .ref C, data := .fields fv }) (hc : W.clsIn K C = some cl) (over : overA cl.mro = true) (own : cl.hasDict = true) (free : W.findIn K (.ref C) f = some none)
    (done : ∀ g1 n1 dx, (∀ b u, b ≠ e → g0.get? b = some u → g1.get? b = some u) → g0.objs.size ≤ dx → dx ≠ e → g1.get? e = some { cls := .ref C, dict := some dx, data := .fields fv } →
      g1.Ns1 dx (fun y => if y = f then some v else none) → R (.ok (.ret .none)) ⟨g1, gs, dr, n1, os⟩) :
    codeAny (model P w) A (.call (.builtin "object.__setattr__") ⟨[.ref e, .str f tk, v], []⟩) R ⟨g0, gs, dr, n, os⟩ := by
  refine store_ahead inK (oe := { cls := .ref C, data := .fields fv }) (od := none) ⟨at_e, rfl, rfl, trivial⟩ hc over free ?_
  have e_old : e ≠ g0.objs.size := Nat.ne_of_lt (Heap.lt_size at_e)
  have cld : W.Looks (model P w) g0 (classData C) cl := W.looks_clsIn inK hc
  obtain ⟨q1, q2, q3, q4, q5, q6, q7, q8, q9, q10, q11⟩ := cl
  dsimp only at own
  subst own
  unfold storeInOwnDict ownDictForStores
  repeat (first | with_reducible refine store_in_new ?_ ?_ | with_reducible refine wpAny_loadPart_at at_e ?_ | with_reducible refine cld.at ?_ | wp_step)
  · exact ⟨_, #[], _, (Heap.get?_update_ne _ _ _ _ e_old.symm).trans (Heap.get?_push_at rfl rfl), rfl, fun x hx => absurd hx (by simp), fun _ => rfl⟩
  · intro g1 n1 names same
    have at1 : (g0.push { cls := .type "dict", data := .dict #[] }).get? e = some { cls := .ref C, data := .fields fv } := Heap.get?_push_of_some _ at_e
    refine done g1 n1 g0.objs.size (fun b u hb hu => ?_) (Nat.le_refl _) e_old.symm ?_ names
    · exact (same.2 b (Nat.ne_of_lt (Heap.lt_size hu))).trans ((Heap.get?_update_ne _ _ _ _ hb).trans (Heap.get?_push_of_some _ hu))
    · exact (same.2 e e_old).trans (Heap.get?_update_self _ at1 rfl)
/-- a further field -/
theorem field_more {dx : Addr} {old : Str → Option Value} {ns : List Str} (inK : K.In g0) (at_e : g0.get? e = some { cls := .ref C, dict := some dx, data := .fields fv }) (nsd : g0.Ns1 dx old) (few : Within old ns) (many : ns.length ≤ 1000)
    (hc : W.clsIn K C = some cl) (over : overA cl.mro = true) (own : cl.hasDict = true) (free : W.findIn K (.ref C) f = some none)
    (done : ∀ g1 n1, (∀ b u, b ≠ dx → g0.get? b = some u → g1.get? b = some u) → g1.Ns1 dx (fun y => if y = f then some v else old y) → R (.ok (.ret .none)) ⟨g1, gs, dr, n1, os⟩) :
    codeAny (model P w) A (.call (.builtin "object.__setattr__") ⟨[.ref e, .str f tk, v], []⟩) R ⟨g0, gs, dr, n, os⟩ := by
  obtain ⟨oD, esD, epD, hoD, hdD, _⟩ := nsd.count few
  refine store_ahead inK (oe := { cls := .ref C, dict := some dx, data := .fields fv }) (od := some oD) ⟨at_e, rfl, rfl, hoD⟩ hc over free ?_
  have cld : W.Looks (model P w) g0 (classData C) cl := W.looks_clsIn inK hc
  obtain ⟨q1, q2, q3, q4, q5, q6, q7, q8, q9, q10, q11⟩ := cl
  dsimp only at own
  subst own
  unfold storeInOwnDict ownDictForStores
  repeat (first | with_reducible refine store_in_old nsd few many ?_ | with_reducible refine wpAny_loadPart_at at_e ?_ | with_reducible refine cld.at ?_ | wp_step)
  intro g1 n1 names same
  exact done g1 n1 (fun b u hb hu => (same.2 b hb).trans hu) names
end
end AX
end PySem

namespace L2
open PySem PySem.Spec PyProof.Rows PySem.AX
/-- what the text says of such a class -/
structure AeC (K : PySem.W.Frag) (C : Addr) : Prop where
  cls : ∃ nm q N bs bm sn sub ab col dd k0 k1 k2 k3 k5, K.lookup C = some (excClassObj nm q C N bs bm true sn sub ab col dd k0 k1 k2 k3 k5 "ArithmeticError.__new__") ∧ overA bm = true
  sa : PySem.W.findIn K (.ref C) "__setattr__" = some (some (.builtin "object.__setattr__"))
  ex : PySem.W.subIn K (.ref C) (.type "BaseException") = some true
  ty : PySem.W.typeIn K (.ref C) = some (.type "type")
  kp : PySem.W.keepIn K (.ref C) = true
theorem AeC.data {K : PySem.W.Frag} {C : Addr} (T : AeC K C) : ∃ cl : ClassData, PySem.W.clsIn K C = some cl ∧ overA cl.mro = true ∧ cl.hasDict = true := by
  obtain ⟨nm, q, N, bs, bm, sn, sub, ab, col, dd, k0, k1, k2, k3, k5, hC, over⟩ := T.cls
  refine ⟨{ name := nm, bases := bs, mro := .ref C :: bm, ns := N, qualname := q, hasDict := true, slotNames := sn, subclasses := sub, abstract := ab, collection := col, hasDel := false }, ?_, over, rfl⟩
  unfold PySem.W.clsIn
  rw [hC] <;> rfl
section
variable {X : Cx} {pins : List (Addr × Obj)} {σ : St} {H : Hp} {s : Shared} {e C dx : Addr} {f : Str} {y : V} {u : Value} {fs : List (Str × V)} {Q : Unit → Shared → Prop} {E : Value → Shared → Prop} {A : Around}
theorem set_one (T : AeC X.K C) (J : Inv X pins σ H s) (he : H e = some (exo e C none)) (free : PySem.W.findIn X.K (.ref C) f = some none) (ry : RelV y u)
    (go : ∀ dx s', H dx = none → dx ≠ e → Inv X pins σ (upd (upd H dx (exd dx [(f, y)])) e (exo e C (some dx))) s' → Q () s') : wpAny (model X.prog X.w) A (setAttr (.ref e) f u) Q E s := by
  obtain ⟨cl, hcl, over, own⟩ := T.data
  obtain ⟨t1, at_e⟩ := exo_at J.hok he
  obtain ⟨g0, gs, dr, n, os⟩ := s
  refine PySem.W.set_plain J.kIn (ox := { cls := .ref C, dict := none, data := .fields #[.ref t1, .none, .none, .none, .bool false, .none] }) (od := none) ⟨at_e, rfl, rfl, trivial⟩ T.sa (field_one J.kIn at_e hcl over own free fun g1 n1 dx old new ne at1 names => ?_)
  have dxH : H dx = none := J.hok.fresh new
  have off : ∀ {b : Addr} {o : Obj}, g0.get? b = some o → b ≠ dx := fun q => Nat.ne_of_lt (Nat.lt_of_lt_of_le (Heap.lt_size q) new)
  have offe : ∀ {b : Addr}, H b = none → b ≠ e := fun {b} q z => by
    rw [z, he] at q
    cases q
  -- what is tracked but for e stands as it stood
  have stands : ∀ {b : Addr} {o : HO}, H b = some o → b ≠ e → (upd (upd H dx (exd dx [(f, y)])) e (exo e C (some dx))) b = some o := fun {b o} q z => by
    rw [upd_ne z, upd_ne (ne_of_none q dxH)]
    exact q
  have un : Un X.fs [] H (upd (upd H dx (exd dx [(f, y)])) e (exo e C (some dx))) g0 g1 := {
    keep := fun b o q z _ _ => old b o (offe z) q
    slot := fun b o q z _ _ => ⟨o.slots, old b o (offe z) q⟩
    free := fun b o q z _ => by
      rw [upd_ne (offe z), upd_ne (off q)]
      exact z
    there := fun b o q _ => by
      by_cases hb : b = e
      · subst hb
        exact ⟨_, at1⟩
      · exact ⟨o, old b o hb q⟩
    tups := fun b vs q => stands q (at_ne he q exo_tup)
    frzs := fun b o v q => stands q (at_ne he q exo_frz)
    tbls := fun b ps q => ⟨#[], by rw [stands q (at_ne he q exo_tbl)]; simp⟩ }
  refine go dx _ dxH ne (J.un (t' := n1) un fun b o q => ?_)
  by_cases hb : b = e
  · rw [hb, upd_same] at q
    rw [hb, ← Option.some.inj q]
    exact exo_ok at1
  · rw [upd_ne hb] at q
    by_cases hd : b = dx
    · rw [hd, upd_same] at q
      rw [hd, ← Option.some.inj q]
      exact exd_ok names (relO_put (fs := []) ry fun _ => True.intro)
    · rw [upd_ne hd] at q
      have apart : ∀ {c : Addr}, (c = b ∨ H c = some (.own b)) → c ≠ e := fun {c} hc => by
        rcases hc with rfl | hc
        · exact hb
        · exact at_ne he hc exo_own
      exact (J.hok b o q).stay (fun c v hc z => old c v (apart hc) z) (fun c hc => stands hc (at_ne he hc exo_own)) (fun c vs hc => stands hc (at_ne he hc exo_tup))
theorem set_more (T : AeC X.K C) (J : Inv X pins σ H s) (he : H e = some (exo e C (some dx))) (hd : H dx = some (exd dx fs)) (few : fs.length ≤ 900) (free : PySem.W.findIn X.K (.ref C) f = some none) (ry : RelV y u)
    (go : ∀ s', Inv X pins σ (upd H dx (exd dx ((f, y) :: fs))) s' → Q () s') : wpAny (model X.prog X.w) A (setAttr (.ref e) f u) Q E s := by
  obtain ⟨cl, hcl, over, own⟩ := T.data
  obtain ⟨t1, at_e⟩ := exo_at J.hok he
  obtain ⟨mA, names, rel⟩ := exd_at J.hok hd
  have within := within_of rel
  obtain ⟨g0, gs, dr, n, os⟩ := s
  obtain ⟨oD, _, _, hoD, _, _⟩ := names.count within
  refine PySem.W.set_plain J.kIn (ox := { cls := .ref C, dict := some dx, data := .fields #[.ref t1, .none, .none, .none, .bool false, .none] }) (od := some oD) ⟨at_e, rfl, rfl, hoD⟩ T.sa
    (field_more J.kIn at_e names within (by rw [List.length_map]; omega) hcl over own free fun g1 n1 old names1 => ?_)
  obtain ⟨o1, _, _, there, _⟩ := id names1
  exact go _ (J.write (t' := n1) (x := dx) (e := dx) (o := exd dx ((f, y) :: fs)) (by rw [hd]; exact True.intro) (.inl rfl) old ⟨o1, there⟩ (exd_ok names1 (relO_put ry rel)))
/-- ArithmeticError.__init__(e, ..) of one that is being made -/
theorem init_over {us : List Value} {Q : Value → Shared → Prop} (T : AeC X.K C) (J : Inv X pins σ H s) (he : H e = some (exo e C none)) (hl : us.length ≤ sizeLine) (go : ∀ s', Inv X pins σ H s' → Q .none s') :
    wpAny (model X.prog X.w) A (call (.builtin "ArithmeticError.__init__") (.ref e :: us)) Q E s := by
  obtain ⟨nm, q, N, bs, bm, sn, sub, ab, col, dd, k0, k1, k2, k3, k5, hC, over⟩ := T.cls
  obtain ⟨t1, at_e⟩ := exo_at J.hok he
  obtain ⟨g0, gs, dr, n, os⟩ := s
  refine wpAny_call (PySem.HandSPX.init_base F.excBase_ArithmeticError (fun Y => over_has Y over) (J.kIn _ _ hC) at_e hl fun g1 t2 old at1 => ?_)
  have J1 := J.write (t' := n) (x := e) (e := e) (o := exo e C none) (by rw [he]; exact True.intro) (.inl rfl) old ⟨_, at1⟩ (exo_ok at1)
  rw [show upd H e (exo e C none) = H from funext fun b => if hb : b = e then by rw [hb, upd_same, he] else upd_ne hb] at J1
  exact go _ J1
end
/-! ### readings and rules -/
/-- L.__init__(self, text), L the class of the text above -/
def tSupI (K : PySem.W.Frag) (ta : TA) : TE := fun σ H Q => ta σ H fun vs H1 => ∃ (e C : Addr) (ws : List V), vs = .ref e :: ws ∧ ws.length ≤ 1000 ∧ AeC K C ∧ H1 e = some (exo e C none) ∧ Q .non H1
/-- self.f = y -/
def tFst (K : PySem.W.Frag) (f : Str) (to te : TE) : TS := fun D σ H => te σ H fun y H1 => to σ H1 fun x H2 => ∃ e C : Addr, x = .ref e ∧ AeC K C ∧ PySem.W.findIn K (.ref C) f = some none ∧
  ((H2 e = some (exo e C none) ∧ ∀ dx, H2 dx = none → dx ≠ e → D.nx σ (upd (upd H2 dx (exd dx [(f, y)])) e (exo e C (some dx)))) ∨
    ∃ (dx : Addr) (fs : List (Str × V)), H2 e = some (exo e C (some dx)) ∧ H2 dx = some (exd dx fs) ∧ fs.length ≤ 900 ∧ D.nx σ (upd H2 dx (exd dx ((f, y) :: fs))))
/-- what is asked of L to read L.__init__ -/
structure SupC (K : PySem.W.Frag) (L : Addr) (mc : Value) : Prop where
  rd : ClX.CRead K L mc
  at_ : PySem.W.findCls K (.ref L) mc "__init__" = some (.val (.builtin "ArithmeticError.__init__"))
section
variable {X : Cx} {o e : Expr} {es : List Expr} {to te : TE} {ta : TA} {f x : Str} {p p' p1 p2 pos : Pos} {L : Addr} {mc : Value}
theorem pe_supinit {pl : Sem Bool} (S : SupC X.K L mc) (hm : X.mg x = some (.ref L)) (ha : PA X (e :: es) ta) (hg : Gl X x := by rfl) (hdb : (x == ("__debug__" : Str)) = false := by decide)
    (hc : eval (.Call (.Attribute (.Name x p1) "__init__" p2) (e :: es) [] pos) X.env = (do
      let ov ← eval (.Name x p1) X.env
      standAt p2.atName
      let (f, first) ← holding [ov] (getMethod ov "__init__" pl)
      callWith pos f first (backTo pos (starEach (e :: es) X.env)) (backToKw pos (keywordEach [] X.env))) := by rfl)
    (he : starEach (e :: es) X.env = (false, eval e X.env) :: starEach es X.env := by rfl) (hpl : (backTo pos (starEach es X.env)).any (·.1) = false := by rfl) :
    PE X (.Call (.Attribute (.Name x p1) "__init__" p2) (e :: es) [] pos) (tSupI X.K ta) := by
  refine ⟨fun pins s σ H Q J h => PySem.W.methodCall_KW (ld_glob J hg hm (PySem.W.method_cls J.kIn S.rd.ga (PySem.W.cls_value J.kIn S.rd.rd S.at_ rfl ?_)) hdb) hc⟩
  refine PyProof.Rows.callWith_method1 (thn (ha.run pos pins _ σ H _ (J.tok _) h) fun us s1 ⟨vs, H1, J1, r1, er, C, ws, ev, hl, T, at_e, q⟩ => ?_) he hpl
  subst ev
  cases r1 with
  | @cons _ u0 _ ur ra rest =>
    obtain rfl : u0 = Value.ref er := ra
    exact init_over T J1 at_e (by rw [← Paired.length rest, sizeLine_eq]; omega) fun s' J2 => ⟨.non, H1, J2, rfl, q⟩
theorem ps_field (ho : PE X o to) (he : PE X e te) (hs : swapsWith e (some (.Attribute o f p')) pos.line X.env = pure false := by rfl) : PS X (.Assign [.Attribute o f p'] e pos) (tFst X.K f to te) := by
  refine ⟨fun pins s σ H D J h => plainObj_wpAny_Assign_Attribute (thn (he.run pins s σ H _ J h) fun v s1 ⟨y, H1, J1, r1, q1⟩ => thn (ho.run pins s1 σ H1 _ J1 q1) fun u s2 hu => ?_) hs⟩
  obtain ⟨x, H2, J2, r2, er, C, rfl, T, free, q⟩ := hu
  obtain rfl : u = Value.ref er := r2
  rcases q with ⟨at_e, q⟩ | ⟨dx, fs, at_e, at_d, few, q⟩
  · exact set_one T J2 at_e free r1 fun dx s' n ne J3 => ⟨σ, _, J3, q dx n ne⟩
  · exact set_more T J2 at_e at_d few free r1 fun s' J3 => ⟨σ, _, J3, q⟩
/-- C(e, ..), to be raised -/
theorem pmk_over {CX : CXT} {C fI : Addr} {k : Nat} {fd : FuncData} {ps : List Str} {sp : Sp} (T : AeC X.K C) (at_i : PySem.W.findIn X.K (.ref C) "__init__" = some (some (.ref fI))) (ty_i : PySem.W.typeIn X.K (.ref fI) = some (.type "function"))
    (G : FnOk X.prog X.w X.K X.mg X.base CX k fI fd ps sp) (hr : Room (k + 1) X.A) (hb : Binds X.K fd ps []) (hx : Passes CX X (fun _ _ _ => False)) (hm : X.mg x = some (.ref C)) (ha : PA X (e :: es) ta) (hg : Gl X x := by rfl)
    (hdb : (x == ("__debug__" : Str)) = false := by decide) (he : starEach (e :: es) X.env = (false, eval e X.env) :: starEach es X.env := by rfl) (hpl : (backTo pos (starEach es X.env)).any (·.1) = false := by rfl) :
    PMk X (.Call (.Name x p) (e :: es) [] pos) (tMkO C sp [] ta) := by
  intro pins s σ H Q J h
  obtain ⟨nm, q, N, bs, bm, sn, sub, ab, col, dd, k0, k1, k2, k3, k5, hC, over⟩ := T.cls
  refine wpAny_Call_Name_kw (ld_glob J hg hm (PySem.W.callWith_K (h₀ := X.base) J.ok.mod.kin T.kp (thn (ha.run pos pins s σ H _ J h) fun us s1 ⟨vs, H1, J1, r1, few, q1⟩ => ⟨J1.kIn, ?_⟩) he hpl) hdb)
  obtain ⟨g0, gs, dr, tk, os⟩ := s1
  have nextE : g0.objs.size ≤ g0.objs.size + 1 := Nat.le_succ _
  have noE : H1 (g0.objs.size + 1) = none := J1.hok.fresh nextE
  have ask := q1 (g0.objs.size + 1) noE
  have old : ∀ b o, g0.get? b = some o → ((g0.push (PySem.W.kdv_tup us)).push (PySem.HandSPX.excO C g0.objs.size)).get? b = some o := fun b o z => Heap.get?_push_of_some _ (Heap.get?_push_of_some _ z)
  have at_e : ((g0.push (PySem.W.kdv_tup us)).push (PySem.HandSPX.excO C g0.objs.size)).get? (g0.objs.size + 1) = some (PySem.HandSPX.excO C g0.objs.size) := by heap_get
  have J2 : Inv X pins σ (upd H1 (g0.objs.size + 1) (exo (g0.objs.size + 1) C none)) ⟨(g0.push (PySem.W.kdv_tup us)).push (PySem.HandSPX.excO C g0.objs.size), gs, dr, tk, os⟩ := J1.laid (t' := tk) old nextE (exo_ok at_e)
  rw [List.append_nil] at ask
  have r2 : Vals (V.ref (g0.objs.size + 1) :: vs) (Value.ref (g0.objs.size + 1) :: us) := .cons rfl r1
  have n_us : (Value.ref (g0.objs.size + 1) :: us).length = ps.length := r2.length.symm.trans (G.len _ _ _ _ ask)
  have us_few : us.length ≤ sizeLine := by
    rw [← Paired.length r1, sizeLine_eq]
    omega
  have bound := hb _ (Value.ref (g0.objs.size + 1) :: us) J2.kIn (by rw [List.append_nil]; exact n_us)
  rw [List.append_nil] at bound
  refine wpAny_call (PySem.HandSPX.call_own F.excBase_ArithmeticError (fun Y => over_has Y over) (J1.kIn _ _ hC) (PySem.W.looks_findIn J1.kIn at_i) (fun self => PySem.W.bind_fn J1.kIn self ty_i) us_few
    (codeAny_mono (G.run _ X.stack _ _ ⟨Value.ref (g0.objs.size + 1) :: us, []⟩ (Value.ref (g0.objs.size + 1) :: us) _ _ (fun _ _ _ => False) (hr.make C us []) (J2.env0.make C us []) bound r2 ask) fun r s' z => ?_))
  cases r with
  | error er => exact hx pins σ _ _ er s' J2 z
  | ok fl =>
    cases fl with
    | next => exact z.elim
    | brk => exact z.elim
    | cont => exact z.elim
    | ret u =>
      obtain ⟨v, H2, os2, bare2, un2, hok2, rv, ev, d, fs, ea, ed, free_d, q2⟩ := z
      subst ev
      obtain ⟨g2, gs2, dr2, tk2, os'⟩ := s'
      exact ⟨rv, mk_end (raises_own T.ex T.ty) J1 nextE old un2 hok2 os2 bare2 ea ed free_d q2⟩
end
end L2

/-! Caught errors that have fields; lambdas handed to a def; defs that raise. -/
namespace PySem.W
open PySem PySem.Spec PySem.Calls PyProof.Rows
section
variable {prog : Program} {w : World} {A : Around} {E : Value → Shared → Prop} {K : Frag} {s : Shared} {x D : Addr} {ox : Obj} {od : Option Obj}
theorem find_dataO {C : Addr} {name : Str} {a g : Value} (hc : (clsIn K C).isSome = true) (ha : findIn K (.ref C) name = some (some a)) (hg : specialIn K a "__get__" = some (some g)) (ht : takesIn K a = some true) : findObj K C od name = some (.bind g a) := by
  obtain ⟨cd, e⟩ := Option.isSome_iff_exists.mp hc
  unfold findObj
  rw [e, Option.bind_some, ha, Option.bind_some]
  simp only [hg, ht, Option.bind_some]
/-- x.__class__ of an error that may have a dict -/
theorem classE {Q : Option Value → Shared → Prop} (ga : findIn K (.ref D) "__getattribute__" = some (some (.builtin "BaseException.__getattribute__"))) (gg : findIn K (.ref D) "__getattr__" = some none) (isE : subIn K (.ref D) (.type "BaseException") = some true)
    (hasD : hasDictIn K D = true) (atC : findIn K (.ref D) "__class__" = some (some (.builtin "object.__class__"))) (getC : specialIn K (.builtin "object.__class__") "__get__" = some (some (.builtin "getset_descriptor.__get__")))
    (takC : takesIn K (.builtin "object.__class__") = some true) (objD : mroIn K D (.type "object") = some true) (inK : K.In s.heap) (J : InstAt s.heap x ox D od) (go : Q (some (.ref D)) { s with toks := s.toks + 1 }) :
    wpAny (model prog w) A (getAttr? (.ref x) "__class__") Q E s := by
  have hf : findObj K D od "__class__" = some (.bind (.builtin "getset_descriptor.__get__") (.builtin "object.__class__")) := find_dataO (by obtain ⟨cd, hc, _⟩ := any_some hasD; rw [hc]; rfl) atC getC takC
  obtain ⟨g0, gs, dr, n, os⟩ := s
  have T0 := J.type (M := model prog w)
  have T1 := looks_findIn (M := model prog w) inK ga
  have T2 := looks_findIn (M := model prog w) inK gg
  have T3 := looks_find (M := model prog w) inK J hf
  have over : Looks (model prog w) g0 (isInstance (.ref x) (.type "BaseException")) true := T0.andThen (looks_subIn inK isE)
  have no : (Value.builtin "BaseException.__getattribute__" == Value.builtin "object.__getattribute__") = false := by decide +kernel
  unfold getAttr? getAttrBy? getAttrBy
  refine wpAny_bind (wpAny_mkText (wpAny_bind (wpAny_attempt (wpAny_holding (wpAny_bind (T0.at (wpAny_bind (T1.at ?_))))))))
  show wpAny _ _ (if (onTheHeap (Value.ref D) && Value.builtin "BaseException.__getattribute__" == Value.builtin "object.__getattribute__") = true then _ else _) _ _ _
  rw [no, Bool.and_false, if_neg Bool.false_ne_true]
  unfold getAttrByItsOwn hookBefore
  refine wpAny_bind ?_
  rw [if_pos (show onTheHeap (Value.ref D) = true from rfl)]
  refine T2.at (wpAny_bind (wpAny_attempt (wpAny_holding ?_)))
  unfold callGetattribute
  rw [show (false && onTheHeap (Value.builtin "BaseException.__getattribute__")) = false from rfl, if_neg Bool.false_ne_true]
  unfold boundAndCalled
  rw [PySem.F.excAttr_ValueError.ga.bind (.ref x)]
  refine wpAny_bind (wpAny_pure ?_)
  show wpAny _ _ (call (.builtin "BaseException.__getattribute__") [.ref x, .str "__class__" n]) _ _ _
  refine wpAny_call (codeAny_call_builtin PySem.F.excAttr_ValueError.ga.plain PySem.F.entry_bexc_ga ?_)
  refine @check_slot (model prog w) _ _ ⟨g0, gs, dr, n + 1, os⟩ "BaseException.__getattribute__" "BaseException" "__getattribute__" (.ref x) [.str "__class__" n] [] _ (by decide +kernel) (by decide +kernel) over (PySem.F.args_bexc_ga (.ref x) (.str "__class__" n)) ?_
  unfold Builtin.«object.__getattribute__»
  refine wpAny_bind (wpAny_of_eq (a := ((Value.ref x : Value), [Value.str "__class__" n])) (by first | rfl | (simp only [slotArgs]; rfl)) ?_)
  refine wpAny_bind (wpAny_pure (wpAny_bind (T0.at (wpAny_bind (T3.at ?_)))))
  show wpAny _ _ (holding [Value.builtin "object.__class__"] (call (.builtin "getset_descriptor.__get__") [.builtin "object.__class__", .ref x, .ref D]) >>= ret) _ _ _
  refine wpAny_bind (wpAny_holding (wpAny_call (class_get (s := ⟨g0, gs, dr, n + 1, os⟩) (ox := ox) (od := od) inK J objD (wpAny_pure ?_))))
  show wpAny _ _ (handedOut (.ref D)) _ _ _
  rw [handedOut_of (v := .ref D) rfl]
  first | exact wpAny_pure (wpAny_pure go) | exact wpAny_pure go | exact wpAny_pure (wpAny_bind (wpAny_pure (wpAny_pure go)))
theorem kitE (ga : findIn K (.ref D) "__getattribute__" = some (some (.builtin "BaseException.__getattribute__"))) (gg : findIn K (.ref D) "__getattr__" = some none) (isE : subIn K (.ref D) (.type "BaseException") = some true) (hasD : hasDictIn K D = true)
    (atC : findIn K (.ref D) "__class__" = some (some (.builtin "object.__class__"))) (getC : specialIn K (.builtin "object.__class__") "__get__" = some (some (.builtin "getset_descriptor.__get__"))) (takC : takesIn K (.builtin "object.__class__") = some true)
    (objD : mroIn K D (.type "object") = some true) : KitX K (.ref x) (.ref D) (fun h => InstAt h x ox D od) := by
  have lk : ∃ o' c' cd sl, K.lookup D = some ⟨o', c', .cls cd, sl⟩ := by
    obtain ⟨cd, hc, _⟩ := any_some hasD
    unfold clsIn at hc
    split at hc
    · exact ⟨_, _, _, _, by assumption⟩
    · cases hc
  obtain ⟨o', c', cd, sl, lk⟩ := lk
  exact {
    ty := fun _ _ _ J => J.type
    it := fun _ _ inK _ => by
      intro A' Q' E' s' k q
      unfold isType loadHead
      exact wpAny_bind (wpAny_loadPart (k _ _ (inK _ _ lk)) (wpAny_pure q))
    ne := fun h tp dd its n sl inK htp => Bool.eq_false_iff.mpr fun q => by
      obtain rfl : D = tp := Value.ref.inj (beq_iff_eq.mp q)
      have z := (inK _ _ lk).symm.trans htp
      cases z
    ca := fun inK J k => classE ga gg isE hasD atC getC takC objD inK J k }
end
end PySem.W

namespace L2
open PySem PySem.Spec PyProof.Rows
/-- isinstance(e, c), e the error that the suite holds, with its fields at dd -/
def rIsF (K : PySem.W.Frag) (cls : Value) (d : Option Addr) (a : Addr) : List V → Hp → VK → Prop := fun xs H Q =>
  ∃ (D dd : Addr) (fs : List (Str × V)) (c : V) (cv : Value) (b : Bool), cls = .ref D ∧ d = some dd ∧ ExcC K D ∧ H dd = some (.xd fs) ∧ xs = [.ref a, c] ∧ (∀ u, RelV c u → u = cv) ∧ PySem.W.kitOne K (.ref D) cv = some b ∧ Q (.bl b) H
theorem call_isF {X : Cx} {a : Addr} {cls : Value} {d : Option Addr} {oe : Obj} {pn : List (Addr × Obj)} (hz : Zc cls d oe) (hf : ∃ vs, oe.data = .fields vs) : CallR (X.suite a ((a, oe) :: pn)) (.builtin "isinstance") (rIsF X.K cls d a) := by
  intro pins s σ H xs us Q J r h
  obtain ⟨D, dd, fs, c, cv, b, rfl, rfl, C, hd, rfl, hcv, k, q⟩ := h
  cases r with
  | cons rx rr =>
    cases rr with
    | cons rt rr =>
      cases rr
      cases rx
      obtain rfl := hcv _ rt
      obtain ⟨at_a, _⟩ := J.pin (a, oe) (List.mem_append.mpr (.inl List.mem_cons_self))
      obtain ⟨mA, names, _⟩ := (show ObjOk X.prog X.w H s.heap dd (.xd fs) from J.hok dd _ hd)
      obtain ⟨od, at_d, _⟩ := lookIn_ns names
      obtain ⟨vs, hv⟩ := hf
      have I0 : PySem.W.InstAt s.heap a oe D (some od) := ⟨at_a, hz.1, by unfold PySem.W.notCls; rw [hv] <;> rfl, by rw [hz.2]; exact at_d⟩
      exact PySem.W.kia_one (PySem.W.kitE C.hg C.hk C.hs C.hd C.ha C.hn C.ht C.hm) J.kIn I0 k (fun z => nomatch z) fun tk => ⟨.bl b, H, J.kept (t' := tk) fun _ _ z => z, rfl, q⟩
/-- xs.count(True), xs a list of bools -/
def eqT : Value → Bool
  | .bool b => b
  | _ => false
theorem bools_count : ∀ {bs : List Bool} {its : List Value}, Vals (bs.map V.bl) its → its.countP eqT = bs.count true
  | [], _, h => by cases h; rfl
  | b :: bs, _, h => by
    cases h with
    | cons h1 h2 =>
      cases h1
      rw [List.countP_cons, bools_count h2, List.count_cons]
      cases b <;> rfl
theorem bools_mem : ∀ {bs : List Bool} {its : List Value}, Vals (bs.map V.bl) its → ∀ y ∈ its, ∃ b, y = .bool b
  | [], _, h, y, hy => by
    cases h
    cases hy
  | b :: bs, _, h, y, hy => by
    cases h with
    | cons h1 h2 =>
      rcases List.mem_cons.mp hy with rfl | hy
      · exact ⟨b, h1⟩
      · exact bools_mem h2 y hy
theorem mt_countT {X : Cx} : MtR X "list.count" (fun x xs H Q => ∃ (p : Addr) (bs : List Bool), x = .ref p ∧ xs = [.bl true] ∧ SqL X.K H p (bs.map V.bl) ∧ Q (.int (bs.count true : Nat)) H) := by
  intro pins s σ H x xs v us Q J r rs h
  obtain ⟨p, bs, rfl, rfl, hs, q⟩ := h
  cases r
  obtain ⟨u, rfl, ru⟩ := rs.one
  cases ru
  obtain ⟨its, rv, ⟨⟨cls, dd, data, sl⟩, n, ho, hc, hdn, hd⟩, hlen⟩ := J.list hs
  simp only at hc hd
  subst hc hd
  refine call_meets PySem.F.slot_list_count ⟨_, ho, rfl⟩ PySem.F.entry_list_count (PySem.F.args_list_count_2 _ _)
    (SeqAt.list_countAt p its.toArray n dd sl (.bool true) eqT) ⟨ho, fun y hy => ?_, ?_⟩
  · obtain ⟨b, rfl⟩ := bools_mem rv y (by simpa using hy)
    have z := SeqAt.EqAt.bool_bool (A := X.A.in1) (s := s) b true
    rw [show (b == true) = eqT (.bool b) by cases b <;> rfl] at z
    exact z
  · have ec : its.toArray.toList.countP eqT = bs.count true := by rw [List.toList_toArray]; exact bools_count rv
    refine ⟨.int (bs.count true : Nat), H, J.tok _, ⟨s.toks, ?_⟩, q⟩
    show Value.int ((its.toArray.toList.countP eqT : Nat) : Int) s.toks = _
    rw [ec]
end L2
namespace L2
open PySem PySem.Spec PyProof.Rows LamX
theorem kany_yes {K : PySem.W.Frag} {t c : Value} {r : List Value} (h : PySem.W.kitOne K t c = some true) : PySem.W.kitAny K t (c :: r) = some true := by
  unfold PySem.W.kitAny
  rw [h]
theorem kany_no {K : PySem.W.Frag} {t c : Value} {r : List Value} {b : Option Bool} (h : PySem.W.kitOne K t c = some false) (h2 : PySem.W.kitAny K t r = b) : PySem.W.kitAny K t (c :: r) = b := by
  unfold PySem.W.kitAny
  rw [h]
  exact h2
/-! ### defs that raise -/
structure DefOkX (P : Program) (w : World) (K : PySem.W.Frag) (mg : Str → Option Value) (base : Heap) (x : Str) (st : Stmt) (ps : List Str) (k : Nat) (sp : Sp) : Prop where
  ex : ∃ f fd, mg x = some (.ref f) ∧ Fun K x x st f fd ∧ Binds K fd ps [] ∧ FnOk P w K mg base (L2.CX P w) k f fd ps sp
section
variable {P : Program} {w : World} {K : PySem.W.Frag} {mg : Str → Option Value} {base : Heap}
theorem TopDef.okX {x : Str} {st : Stmt} {N ps : List Str} {k : Nat} {sp : Sp} (T : TopDef K mg x st ps) (S : FnScope N ps (defScope st)) (len : ∀ vs H Q E, sp vs H Q E → vs.length = ps.length)
    (hbody : ∀ (f : Addr) (cdv : Value) (A : Around) (outer : List Env) (s : Shared) (H : Hp) (vs : List V) (Q : VK) (E : XK), Room k (A.deeper (envOfC x (defScope st) s.heap.objs.size f cdv)) → sp vs H Q E →
      ∃ t, PSs (cxOf (L2.CX P w) P w K mg base N x (defScope st) f cdv A outer s H E) (defBody st) t ∧ t { nx := fun _ H' => Q .non H', rt := Q } (start N vs) H) : DefOkX P w K mg base x st ps (k + 1) sp := by
  obtain ⟨f, fd, hm, F, hb⟩ := T.ex
  exact ⟨f, fd, hm, F, hb, F.okX S len (hbody f)⟩
end
section
variable {X : Cx} {x : Str} {st : Stmt} {ps : List Str} {k : Nat} {sp : Sp} {e : Expr} {es : List Expr} {t : TA} {p pos : Pos} {E : XK} {W : WX}
/-- a call of a def that may raise; what it raises is wished for by E -/
theorem pe_callX (D : DefOkX X.prog X.w X.K X.mg X.base x st ps k sp) (hr : Room k X.A) (tk : Takes X W) (hW : ∀ cls d σ H, E cls d H → W cls d σ H) (ha : PA X (e :: es) t) (hg : Gl X x := by rfl)
    (hdb : (x == ("__debug__" : Str)) = false := by decide) (he : starEach (e :: es) X.env = (false, eval e X.env) :: starEach es X.env := by rfl) (hpl : (backTo pos (starEach es X.env)).any (·.1) = false := by rfl) :
    PE X (.Call (.Name x p) (e :: es) [] pos) (tCall sp [] E t) := by
  obtain ⟨f, fd, hm, hk, hb, F⟩ := D.ex
  exact pe_call F hr hg hm hk.kp hb .nil (passes_call tk hW) ha hdb he hpl
/-- .. that raises nothing here -/
theorem pe_callX0 (D : DefOkX X.prog X.w X.K X.mg X.base x st ps k sp) (hr : Room k X.A) (ha : PA X (e :: es) t) (hg : Gl X x := by rfl)
    (hdb : (x == ("__debug__" : Str)) = false := by decide) (he : starEach (e :: es) X.env = (false, eval e X.env) :: starEach es X.env := by rfl) (hpl : (backTo pos (starEach es X.env)).any (·.1) = false := by rfl) :
    PE X (.Call (.Name x p) (e :: es) [] pos) (tCall sp [] E0 t) := by
  obtain ⟨f, fd, hm, hk, hb, F⟩ := D.ex
  exact pe_call F hr hg hm hk.kp hb .nil passL ha hdb he hpl
end
/-! ### error classes of the text -/
structure ErrDef (K : PySem.W.Frag) (mg : Str → Option Value) (x q : Str) (C : Addr) (st : Stmt) (ps : List Str) : Prop where
  g : mg x = some (.ref C)
  ae : AeC K C
  init : ∃ f fd, PySem.W.findIn K (.ref C) "__init__" = some (some (.ref f)) ∧ PySem.W.typeIn K (.ref f) = some (.type "function") ∧ Fun K "__init__" q st f fd ∧ Binds K fd ps []
/-- its __init__ keeps sp -/
structure ErrOk (P : Program) (w : World) (K : PySem.W.Frag) (mg : Str → Option Value) (base : Heap) (x : Str) (C : Addr) (ps : List Str) (k : Nat) (sp : Sp) : Prop where
  g : mg x = some (.ref C)
  ae : AeC K C
  ex : ∃ f fd, PySem.W.findIn K (.ref C) "__init__" = some (some (.ref f)) ∧ PySem.W.typeIn K (.ref f) = some (.type "function") ∧ Binds K fd ps [] ∧ FnOk P w K mg base CX0 k f fd ps sp
theorem ErrDef.ok {P : Program} {w : World} {K : PySem.W.Frag} {mg : Str → Option Value} {base : Heap} {x q : Str} {C : Addr} {st : Stmt} {N ps : List Str} {k : Nat} {sp : Sp} (T : ErrDef K mg x q C st ps) (S : FnScope N ps (defScope st)) (len : ∀ vs H Q E, sp vs H Q E → vs.length = ps.length)
    (hbody : ∀ (f : Addr) (cdv : Value) (A : Around) (outer : List Env) (s : Shared) (H : Hp) (vs : List V) (Q : VK) (E : XK), Room k (A.deeper (envOfC q (defScope st) s.heap.objs.size f cdv)) → sp vs H Q E →
      ∃ t, PSs (cxOf CX0 P w K mg base N q (defScope st) f cdv A outer s H E).nox (defBody st) t ∧ t { nx := fun _ H' => Q .non H', rt := Q } (start N vs) H) : ErrOk P w K mg base x C ps (k + 1) sp := by
  obtain ⟨f, fd, h1, h2, F, hb⟩ := T.init
  exact ⟨T.g, T.ae, f, fd, h1, h2, hb, F.ok S len (hbody f)⟩
theorem pmk_err {X : Cx} {x : Str} {C : Addr} {ps : List Str} {k : Nat} {sp : Sp} {e : Expr} {es : List Expr} {ta : TA} {p pos : Pos} (D : ErrOk X.prog X.w X.K X.mg X.base x C ps k sp) (hr : Room (k + 1) X.A) (ha : PA X (e :: es) ta) (hg : Gl X x := by rfl)
    (hdb : (x == ("__debug__" : Str)) = false := by decide) (he : starEach (e :: es) X.env = (false, eval e X.env) :: starEach es X.env := by rfl) (hpl : (backTo pos (starEach es X.env)).any (·.1) = false := by rfl) :
    PMk X (.Call (.Name x p) (e :: es) [] pos) (tMkO C sp [] ta) := by
  obtain ⟨f, fd, h1, h2, hb, F⟩ := D.ex
  exact pmk_over D.ae h1 h2 F hr hb pass0 D.g ha hg hdb he hpl
/-- what a made error leaves: its fields at d; what was there stands -/
def made1 (C e : Addr) (f : Str) (v : V) (H : Hp) (Q : VK) : Prop := ∀ (H1 : Hp) (d : Addr), Same H H1 → H1 d = none → d ≠ e → Q .non (upd (upd H1 d (exd d [(f, v)])) e (exo e C (some d)))
def spErr1 (C : Addr) (f : Str) (ok : V → Prop) : Sp := fun vs H Q _ => ∃ (e : Addr) (v : V), vs = [.ref e, v] ∧ H e = some (exo e C none) ∧ ok v ∧ made1 C e f v H Q
def spErr2 (C : Addr) (f g : Str) (ok : V → Prop) : Sp := fun vs H Q _ => ∃ (e : Addr) (u v : V), vs = [.ref e, u, v] ∧ H e = some (exo e C none) ∧ ok u ∧ ok v ∧
  ∀ (H1 : Hp) (d : Addr), Same H H1 → H1 d = none → d ≠ e → Q .non (upd (upd H1 d (exd d [(g, v), (f, u)])) e (exo e C (some d)))
theorem exo_new {H : Hp} {e : Addr} {o : HO} (h : H e = none) : Same H (upd H e o) := fun b u q => by rw [upd_ne (ne_of_none q h)]; exact q
/-- the reading of raise C(v) -/
theorem raise_core {C e d : Addr} {fs : List (Str × V)} {H H1 : Hp} (he : H e = none) (s : Same (upd H e (exo e C none)) H1) (hd : H1 d = none) (ne : d ≠ e) :
    Same H (upd (del (upd (upd H1 d (exd d fs)) e (exo e C (some d))) e) d (.xd fs)) ∧ H d = none ∧ (upd (del (upd (upd H1 d (exd d fs)) e (exo e C (some d))) e) d (.xd fs)) d = some (.xd fs) := by
  have free : H d = none := by
    cases q : H d with
    | none => rfl
    | some o =>
      have := s d o (by rw [upd_ne ne]; exact q)
      rw [hd] at this
      cases this
  refine ⟨fun b o q => ?_, free, upd_same⟩
  have hb : b ≠ e := ne_of_none q he
  have hbd : b ≠ d := ne_of_none q free
  rw [upd_ne hbd, del_ne hb, upd_ne hb, upd_ne hbd]
  exact s b o (by rw [upd_ne hb]; exact q)
theorem raise1 {C e : Addr} {f : Str} {ok : V → Prop} {v : V} {H : Hp} {R : Value → Option Addr → Hp → Prop} {E : XK} (he : H e = none) (hv : ok v) (k : ∀ (d : Addr) (H' : Hp), Same H H' → H d = none → H' d = some (.xd [(f, v)]) → R (.ref C) (some d) H') :
    spErr1 C f ok [.ref e, v] (upd H e (exo e C none)) (fun w H2 => w = .non ∧ ∃ (d : Addr) (fs : List (Str × V)), H2 e = some (exo e C (some d)) ∧ H2 d = some (exd d fs) ∧ H d = none ∧ R (.ref C) (some d) (upd (del H2 e) d (.xd fs))) E := by
  refine ⟨e, v, rfl, upd_same, hv, fun H1 d s hd ne => ⟨rfl, d, [(f, v)], upd_same, by rw [upd_ne ne]; exact upd_same, ?_⟩⟩
  obtain ⟨a, b, c⟩ := raise_core (fs := [(f, v)]) he s hd ne
  exact ⟨b, k d _ a b c⟩
theorem raise2 {C e : Addr} {f g : Str} {ok : V → Prop} {u v : V} {H : Hp} {R : Value → Option Addr → Hp → Prop} {E : XK} (he : H e = none) (hu : ok u) (hv : ok v) (k : ∀ (d : Addr) (H' : Hp), Same H H' → H d = none → H' d = some (.xd [(g, v), (f, u)]) → R (.ref C) (some d) H') :
    spErr2 C f g ok [.ref e, u, v] (upd H e (exo e C none)) (fun w H2 => w = .non ∧ ∃ (d : Addr) (fs : List (Str × V)), H2 e = some (exo e C (some d)) ∧ H2 d = some (exd d fs) ∧ H d = none ∧ R (.ref C) (some d) (upd (del H2 e) d (.xd fs))) E := by
  refine ⟨e, u, v, rfl, upd_same, hu, hv, fun H1 d s hd ne => ⟨rfl, d, [(g, v), (f, u)], upd_same, by rw [upd_ne ne]; exact upd_same, ?_⟩⟩
  obtain ⟨a, b, c⟩ := raise_core (fs := [(g, v), (f, u)]) he s hd ne
  exact ⟨b, k d _ a b c⟩
/-- a text or a number that is not too great: it can be shown -/
def Shows (v : V) : Prop := (∃ z : Str, v = .str z ∧ z.length ≤ 1000) ∨ ∃ i : Int, v = .int i ∧ i.natAbs < 2 ^ 64 ∧ (toString i : Str).length ≤ 1000
/-! ### a law's def whose code object is known -/
structure LawDef (K : PySem.W.Frag) (mg : Str → Option Value) (x : Str) (st : Stmt) (ps : List Str) (c P : Addr) : Prop where
  ex : ∃ f fd, mg x = some (.ref f) ∧ Fun K x x st f fd ∧ Binds K fd ps [] ∧ fd.code = .ref c
  code : PySem.W.codeHdIn K c P = true
  no : K.lookup P = none
theorem Fun.okC {P : Program} {w : World} {K : PySem.W.Frag} {mg : Str → Option Value} {base : Heap} {x q : Str} {st : Stmt} {f c : Addr} {fd : FuncData} {N ps : List Str} {k : Nat} {sp : Sp} (F : Fun K x q st f fd) (hc : fd.code = .ref c) (S : FnScope N ps (defScope st)) (len : ∀ vs H Q E, sp vs H Q E → vs.length = ps.length)
    (hbody : ∀ (A : Around) (outer : List Env) (s : Shared) (H : Hp) (vs : List V) (Q : VK) (E : XK), Room k (A.deeper (envOfC q (defScope st) s.heap.objs.size f (.ref c))) → sp vs H Q E →
      ∃ t, PSs (cxOf CX0 P w K mg base N q (defScope st) f (.ref c) A outer s H E).nox (defBody st) t ∧ t { nx := fun _ H' => Q .non H', rt := Q } (start N vs) H) : FnOk P w K mg base CX0 (k + 1) f fd ps sp := by
  obtain ⟨oc, od, kV, doc, pm, an, cdv, ct, osl, rfl, lk, hcd⟩ := F.ex
  obtain rfl : cdv = .ref c := hc
  exact fn_of lk hcd S len fun A outer s H vs Q E hr hsp => by
    obtain ⟨t, h, z⟩ := hbody A outer s H vs Q E hr hsp
    exact ⟨t, h.nox, z⟩
/-- the slots are as many as the names -/
theorem Takes.len {X : Cx} {W : WX} (tk : Takes X W) : Takes X (fun cls d σ H => σ.length = X.N.length → W cls d σ H) := fun u s' ⟨a, B, sI, pins, σ, H, cls, d, e, I, nb, up, sky, na, os, ag, w⟩ => tk u s' ⟨a, B, sI, pins, σ, H, cls, d, e, I, nb, up, sky, na, os, ag, w I.len⟩
/-- a method of a built-in type, the written part named -/
theorem pe_bmK {X : Cx} {K : PySem.W.Frag} {T id : String} {name : Str} {r : V → List V → Hp → VK → Prop} {o e : Expr} {es : List Expr} {to : TE} {t : TA} {apos cpos : Pos} (pa : PlainAttrs T) (slot : Slot T name id) (hty : typeOf (.builtin id) = pure (.type "method_descriptor")) (hm : MtR X id r) (ho : PE X o to) (ha : PA X (e :: es) t)
    (hK : X.K = K := by rfl) (hbase : attributeBase o name X.env (eval o X.env) = eval o X.env := by rfl)
    (few : ((backTo cpos (starEach (e :: es) X.env)).all (fun x => !x.1) && (backToKw cpos (keywordEach [] X.env)).all (fun x => x.1.isSome) && decide ((e :: es).length + ([] : List Keyword).length + (if ([] : List Keyword).isEmpty then 0 else 1) < 30)) = true := by rfl)
    (one : (apos.endLine == cpos.line) = true := by rfl) (he : starEach (e :: es) X.env = (false, eval e X.env) :: starEach es X.env := by rfl) (pl : (backTo cpos (starEach es X.env)).any (·.1) = false := by rfl) :
    PE X (.Call (.Attribute o name apos) (e :: es) [] cpos) (tBM K T r to t) := by
  subst hK
  exact pe_bm pa slot hty hm ho ha hbase few one he pl
theorem mt_countTK {X : Cx} {K : PySem.W.Frag} (hK : X.K = K := by rfl) : MtR X "list.count" (fun x xs H Q => ∃ (p : Addr) (bs : List Bool), x = .ref p ∧ xs = [.bl true] ∧ SqL K H p (bs.map V.bl) ∧ Q (.int (bs.count true : Nat)) H) := by
  subst hK
  exact mt_countT
/-- an expression that is never asked -/
theorem pe_false {X : Cx} {e : Expr} : PE X e (fun _ _ _ => False) := ⟨fun _ _ _ _ _ _ h => h.elim⟩
theorem xfc {K : PySem.W.Frag} {C : Addr} (T : ExcC K C) : XfC K C := ⟨T.hg, T.hk, T.hs, T.hd⟩
/-! ### x(lambda: body) -/
structure Asks (X : Cx) (x a : Str) (st : Stmt) (TT : (XK → Hp → VK → Prop) → Hp → VK → Prop) : Prop where
  ex : ∃ (g : Addr) (oc kV doc pm cdv ct : Value) (od an : Option Addr) (osl : Array (Option Value)) (Ng : List Str), X.mg x = some (.ref g) ∧ PySem.W.keepIn X.K (.ref g) = true ∧
    X.K.lookup g = some ⟨oc, od, .func (PySem.W.fnOf x x (defArgs st) (defBody st) (defScope st) .none kV doc pm an cdv ct), osl⟩ ∧ PySem.W.codeIn X.K cdv x = true ∧ Binds X.K (PySem.W.fnOf x x (defArgs st) (defBody st) (defScope st) .none kV doc pm an cdv ct) [a] [] ∧
    FnScope Ng [a] (defScope st) ∧ Ng[0]? = some a ∧ ∀ q, GivesTo X Ng x (defScope st) g cdv (defBody st) a q TT
theorem pe_ask {X : Cx} {T : List (Addr × Str)} {TT : (XK → Hp → VK → Prop) → Hp → VK → Prop} {x a : Str} {st : Stmt} {c P : Addr} {k : Nat} {params : Arguments} {body : Expr} {scope : Scope} {t : XK → TE} {p lpos pos : Pos} (D : Asks X x a st TT) (TB : TabB X.base X.mg c P) (hcode : X.env.code = .ref c)
    (hmT : (P, X.env.qual ++ "<lambda>") ∈ T) (hu : ∀ p ∈ T, p.1 = P → p.2 = X.env.qual ++ "<lambda>") (hr : Room (k + 2) X.A) (L : LamS X.env.scope scope)
    (hbody : ∀ (A : Around) (outer : List Env) (s : Shared) (H : Hp) (E : XK) (f c' : Addr), Room k (A.deeper (lamEnv X scope s.heap.objs.size f c')) → PE (lamCx X A outer s H E scope f c') body (t E))
    (hva : Vis (defScope st) a := by exact Or.inl rfl) (hg : Gl X x := by rfl) (hdef : defaultsOf params X.env = ([], []) := by rfl)
    (hbind : ∀ (q : Str) (cl : List (Str × Addr)) (pm cv ctv : Value), bindArgs (PySem.W.kla_fn "<lambda>" q params body scope cl pm cv ctv) ⟨[], []⟩ = pure [] := by intros; rfl)
    (hdb : (x == ("__debug__" : Str)) = false := by decide) (hd : (a == ("__debug__" : Str)) = false := by decide) (hcd : (a == ("__classdict__" : Str)) = false := by decide) :
    PE X (.Call (.Name x p) [.Lambda params body scope lpos] [] pos) (tLam T TT t) := by
  obtain ⟨g, oc, kV, doc, pm, cdv, ct, od, an, osl, Ng, hm, hk, lk, hcg, hb, Sg, hNg, hG⟩ := D.ex
  exact pe_lamcall hg hm hk lk hcg hb Sg hNg hva (hG _) TB hcode hmT hu hr L hdef hbind hbody hdb hd hcd
end L2

namespace Lw
open PySem PySem.Spec PyProof.Rows L2 VW TL
def top (i : Nat) : Stmt := PySem.Challenge.pw_farlayout_k04_texts_that_are_none.main.body.getD i (.Pass ⟨0, 0, 0, 0⟩)
abbrev s_InvalidDoc___init__ : Stmt := (inClass (top 2) 0)
abbrev s_InvalidBound___init__ : Stmt := (inClass (top 3) 0)
abbrev s_InvalidText___init__ : Stmt := (inClass (top 4) 0)
abbrev s_InvalidValue___init__ : Stmt := (inClass (top 5) 0)
abbrev s_InvalidCall___init__ : Stmt := (inClass (top 6) 0)
abbrev s_LimitExceeded___init__ : Stmt := (inClass (top 7) 0)
abbrev s__shown : Stmt := (top 8)
abbrev s_is_integer : Stmt := (top 10)
abbrev s_is_between : Stmt := (top 11)
abbrev s_Doc___init__ : Stmt := (inClass (top 19) 0)
abbrev s_Doc___eq__ : Stmt := (inClass (top 19) 1)
abbrev s_Doc_row_list : Stmt := (inClass (top 19) 2)
abbrev s_copied_row : Stmt := (top 20)
abbrev s_is_row : Stmt := (top 21)
abbrev s__checked_rows : Stmt := (top 22)
abbrev s__is_signs : Stmt := (top 23)
abbrev s__is_parts : Stmt := (top 24)
abbrev s_check_doc : Stmt := (top 26)
abbrev s_doc_text : Stmt := (top 28)
abbrev s_read_doc : Stmt := (top 29)
abbrev s__row_line : Stmt := (top 30)
abbrev s__read_row : Stmt := (top 31)
abbrev s__read_kind : Stmt := (top 32)
abbrev s__common_signs : Stmt := (top 33)
abbrev s__read_string : Stmt := (top 34)
abbrev s__read_cat : Stmt := (top 35)
abbrev s__read_numbers : Stmt := (top 36)
abbrev s__read_number : Stmt := (top 37)
abbrev s__law_cell_at : Stmt := (top 39)
abbrev s__law_source_of : Stmt := (top 40)
abbrev s__law_next : Stmt := (top 41)
abbrev s__law_one : Stmt := (top 42)
abbrev s__law_signs : Stmt := (top 43)
abbrev s__law_row : Stmt := (top 44)
abbrev s__law_rows : Stmt := (top 45)
abbrev s__law_said : Stmt := (top 46)
abbrev s__law_is_number : Stmt := (top 47)
abbrev s__law_is_line : Stmt := (top 48)
abbrev s__law_can_begin : Stmt := (top 49)
abbrev s__law_wrong : Stmt := (top 50)
abbrev s__law_bent : Stmt := (top 51)
abbrev s__law_deep_right : Stmt := (top 52)
abbrev s_law : Stmt := (top 53)
structure Wd where
  c_LayoutError : Addr
  c_InvalidDoc : Addr
  c_InvalidBound : Addr
  c_InvalidText : Addr
  c_InvalidValue : Addr
  c_InvalidCall : Addr
  c_LimitExceeded : Addr
  c_Doc : Addr
  ROW_LENGTHS : Addr
  tc__law_deep_right : Addr
  tp__law_deep_right : Addr
  none_ : Unit := ()
structure Txt (w : World) (K : PySem.W.Frag) (mg : Str → Option Value) (W : Wd) : Prop where
  n_ArithmeticError : mg "ArithmeticError" = none
  n_bool : mg "bool" = none
  n_enumerate : mg "enumerate" = none
  n_int : mg "int" = none
  n_isinstance : mg "isinstance" = none
  n_len : mg "len" = none
  n_list : mg "list" = none
  n_max : mg "max" = none
  n_range : mg "range" = none
  n_repr : mg "repr" = none
  n_str : mg "str" = none
  n_tuple : mg "tuple" = none
  g_MOST_ROWS : ∃ t, mg "MOST_ROWS" = some (.int 200 t)
  g_MOST_PARTS : ∃ t, mg "MOST_PARTS" = some (.int 8 t)
  g_MOST_NEST : ∃ t, mg "MOST_NEST" = some (.int 8 t)
  g_MOST_TEXT_SIGNS : ∃ t, mg "MOST_TEXT_SIGNS" = some (.int 20 t)
  g_MOST_LINE_SIGNS : ∃ t, mg "MOST_LINE_SIGNS" = some (.int 3 t)
  g_ROW_LENGTHS : mg "ROW_LENGTHS" = some (.ref W.ROW_LENGTHS)
  k_ROW_LENGTHS : ∃ es n, K.lookup W.ROW_LENGTHS = some ⟨.type "dict", none, .dict es n, #[]⟩ ∧ PySem.W.KeysLit w.params es.toList ∧ (W.ROW_LENGTHS == sysModules) = false
  kt_ROW_LENGTHS : ∃ es n, K.lookup W.ROW_LENGTHS = some ⟨.type "dict", none, .dict es n, #[]⟩ ∧ (W.ROW_LENGTHS == sysModules) = false ∧ L2.keysL es.toList = some (["text", "line", "hard", "cat", "nest", "align", "group"] : List Str)
  k_ROW_LENGTHS_text : ∃ t, PySem.W.nsIn K W.ROW_LENGTHS "text" = some (some (.int 2 t))
  k_ROW_LENGTHS_line : ∃ t, PySem.W.nsIn K W.ROW_LENGTHS "line" = some (some (.int 2 t))
  k_ROW_LENGTHS_hard : ∃ t, PySem.W.nsIn K W.ROW_LENGTHS "hard" = some (some (.int 1 t))
  k_ROW_LENGTHS_cat : ∃ t, PySem.W.nsIn K W.ROW_LENGTHS "cat" = some (some (.int 2 t))
  k_ROW_LENGTHS_nest : ∃ t, PySem.W.nsIn K W.ROW_LENGTHS "nest" = some (some (.int 3 t))
  k_ROW_LENGTHS_align : ∃ t, PySem.W.nsIn K W.ROW_LENGTHS "align" = some (some (.int 2 t))
  k_ROW_LENGTHS_group : ∃ t, PySem.W.nsIn K W.ROW_LENGTHS "group" = some (some (.int 2 t))
  c_LayoutError : mg "LayoutError" = some (.ref W.c_LayoutError)
  c_InvalidDoc : mg "InvalidDoc" = some (.ref W.c_InvalidDoc)
  c_InvalidBound : mg "InvalidBound" = some (.ref W.c_InvalidBound)
  c_InvalidText : mg "InvalidText" = some (.ref W.c_InvalidText)
  c_InvalidValue : mg "InvalidValue" = some (.ref W.c_InvalidValue)
  c_InvalidCall : mg "InvalidCall" = some (.ref W.c_InvalidCall)
  c_LimitExceeded : mg "LimitExceeded" = some (.ref W.c_LimitExceeded)
  c_Doc : mg "Doc" = some (.ref W.c_Doc)
  cl_Doc : Cls K W.c_Doc
  i_Doc : ClsIsi K W.c_Doc
  ne_Doc : ClsNe K W.c_Doc
  na_Doc__rows : NoAttr K W.c_Doc "_rows"
  na_Doc_facts : NoAttr K W.c_Doc "facts"
  na_Doc_group_facts : NoAttr K W.c_Doc "group_facts"
  f_Doc___init__ : MethDef K W.c_Doc "__init__" "Doc.__init__" s_Doc___init__ ["self", "rows"]
  f_Doc___eq__ : MethDef K W.c_Doc "__eq__" "Doc.__eq__" s_Doc___eq__ ["self", "other"]
  f_Doc_row_list : MethDef K W.c_Doc "row_list" "Doc.row_list" s_Doc_row_list ["self"]
  mk_Doc : PySem.W.makesIn K W.c_Doc = true ∧ PySem.W.keepIn K (.ref W.c_Doc) = true
  e_InvalidText : L2.ErrDef K mg "InvalidText" "InvalidText.__init__" W.c_InvalidText s_InvalidText___init__ ["self", "line", "sign"]
  x_InvalidText : L2.ExcC K W.c_InvalidText
  na_InvalidText_line : PySem.W.findIn K (.ref W.c_InvalidText) "line" = some none
  na_InvalidText_sign : PySem.W.findIn K (.ref W.c_InvalidText) "sign" = some none
  exm_InvalidText : PySem.W.exmOne K (.ref W.c_InvalidText) (.ref W.c_LayoutError) = some true
  kt_InvalidText_InvalidDoc : PySem.W.kitOne K (.ref W.c_InvalidText) (.ref W.c_InvalidDoc) = some false
  kt_InvalidText_InvalidBound : PySem.W.kitOne K (.ref W.c_InvalidText) (.ref W.c_InvalidBound) = some false
  kt_InvalidText_InvalidText : PySem.W.kitOne K (.ref W.c_InvalidText) (.ref W.c_InvalidText) = some true
  kt_InvalidText_InvalidValue : PySem.W.kitOne K (.ref W.c_InvalidText) (.ref W.c_InvalidValue) = some false
  kt_InvalidText_InvalidCall : PySem.W.kitOne K (.ref W.c_InvalidText) (.ref W.c_InvalidCall) = some false
  kt_InvalidText_LimitExceeded : PySem.W.kitOne K (.ref W.c_InvalidText) (.ref W.c_LimitExceeded) = some false
  kt_InvalidText_Arith : PySem.W.kitOne K (.ref W.c_InvalidText) (.type "ArithmeticError") = some true
  sup : L2.SupC K W.c_LayoutError (.type "type")
  kx_str_Doc : PySem.W.kitOne K (.type "str") (.ref W.c_Doc) = some false
  kx_dict_Doc : PySem.W.kitOne K (.type "dict") (.ref W.c_Doc) = some false
  kx_Doc_str : PySem.W.kitOne K (.ref W.c_Doc) (.type "str") = some false
  f__shown : TopDef K mg "_shown" s__shown ["field"]
  f_is_integer : TopDef K mg "is_integer" s_is_integer ["value"]
  f_is_between : TopDef K mg "is_between" s_is_between ["value", "least", "most"]
  f_copied_row : TopDef K mg "copied_row" s_copied_row ["row"]
  f_is_row : TopDef K mg "is_row" s_is_row ["row", "k"]
  f__checked_rows : TopDef K mg "_checked_rows" s__checked_rows ["rows"]
  f__is_signs : TopDef K mg "_is_signs" s__is_signs ["value", "most"]
  f__is_parts : TopDef K mg "_is_parts" s__is_parts ["value", "k"]
  f_check_doc : TopDef K mg "check_doc" s_check_doc ["doc"]
  f_doc_text : TopDef K mg "doc_text" s_doc_text ["doc"]
  f_read_doc : TopDef K mg "read_doc" s_read_doc ["text"]
  f__row_line : TopDef K mg "_row_line" s__row_line ["row"]
  f__read_row : TopDef K mg "_read_row" s__read_row ["line", "k"]
  f__read_kind : TopDef K mg "_read_kind" s__read_kind ["kind", "line", "k"]
  f__common_signs : TopDef K mg "_common_signs" s__common_signs ["word", "line"]
  f__read_string : TopDef K mg "_read_string" s__read_string ["kind", "line", "most"]
  f__read_cat : TopDef K mg "_read_cat" s__read_cat ["line", "k"]
  f__read_numbers : TopDef K mg "_read_numbers" s__read_numbers ["kind", "line", "ends"]
  f__read_number : TopDef K mg "_read_number" s__read_number ["line", "sign", "end"]
  f__law_cell_at : TopDef K mg "_law_cell_at" s__law_cell_at ["_law_script", "_law_k"]
  f__law_source_of : TopDef K mg "_law_source_of" s__law_source_of ["_law_cell"]
  f__law_next : TopDef K mg "_law_next" s__law_next ["_law_source", "_law_many"]
  f__law_one : TopDef K mg "_law_one" s__law_one ["_law_source", "_law_some"]
  f__law_signs : TopDef K mg "_law_signs" s__law_signs ["_law_source", "_law_most"]
  f__law_row : TopDef K mg "_law_row" s__law_row ["_law_source", "_law_number"]
  f__law_rows : TopDef K mg "_law_rows" s__law_rows ["_law_source", "_law_many"]
  f__law_said : TopDef K mg "_law_said" s__law_said ["_law_ask"]
  f__law_is_number : TopDef K mg "_law_is_number" s__law_is_number ["_law_word", "_law_high"]
  f__law_is_line : TopDef K mg "_law_is_line" s__law_is_line ["_law_line", "_law_number"]
  f__law_can_begin : TopDef K mg "_law_can_begin" s__law_can_begin ["_law_line", "_law_number"]
  f__law_wrong : TopDef K mg "_law_wrong" s__law_wrong ["_law_text"]
  f__law_bent : TopDef K mg "_law_bent" s__law_bent ["_law_source", "_law_text"]
  f__law_deep_right : TopDef K mg "_law_deep_right" s__law_deep_right ["_law_is_list"]
  f_law : TopDef K mg "law" s_law ["_law_script"]
  w__law_deep_right : L2.LawDef K mg "_law_deep_right" s__law_deep_right ["_law_is_list"] W.tc__law_deep_right W.tp__law_deep_right
local macro_rules | `(tactic| walk_at "rdc") => `(tactic| first | assumption | rfl | decide | omega | exact Or.inr ⟨by decide, by decide⟩ | exact ⟨by decide, by decide⟩ | exact ⟨by decide, by decide, by decide⟩ | (show (0 : Int) < _; omega) | (show (0 : Int) < _ ∧ _ < (1073741824 : Int); omega) | (show (-(2 ^ 64) < _ ∧ _ < 2 ^ 64) ∨ (-(2 ^ 64) < _ ∧ _ < 2 ^ 64); omega) | (show (-(2 ^ 64) < _ ∧ _ < 2 ^ 64) ∨ (-(2 ^ 64) < _ ∧ _ < 2 ^ 64); right; split <;> decide) | exact Nat.le_of_ble_eq_true rfl)
local macro_rules | `(tactic| walk_at "rd1") => `(tactic| first | refine ⟨_, rfl, ?_⟩ | refine And.intro (by walk_at "rdc") ?_ | refine ⟨_, _, rfl, rfl, ?_⟩ | refine Or.inl ⟨_, rfl, ?_⟩ | refine Or.inr ⟨_, rfl, ?_⟩ | refine ⟨_, _, _, _, rfl, rfl, sqlO (by first | assumption | exact upd_same), rfl, ?_⟩ | refine ⟨_, _, _, _, rfl, rfl, (by first | assumption | exact upd_same), rfl, ?_⟩)
local macro_rules | `(tactic| walk_at "rd") => `(tactic| repeat (walk_at "rd1"))

/-! ### the source of what is drawn -/
structure Src (U H : Hp) (s : Addr) : Prop where
  v : Same U H
  o : U s = none
  h : ∃ a b c : Int, H s = some (.lst [.int a, .int b, .int c])
abbrev G1 (s : Addr) : Addr → Prop := fun b => b = s
theorem Src.put {U H : Hp} {s : Addr} (S : Src U H s) (a b c : Int) : Gr (G1 s) U H U (upd H s (.lst [.int a, .int b, .int c])) ∧ Src U (upd H s (.lst [.int a, .int b, .int c])) s :=
  have g := (Gr.refl (S := G1 s) S.v).mut (o := .lst [.int a, .int b, .int c]) (.inl rfl) S.o
  ⟨g, g.s, S.o, a, b, c, upd_same⟩
theorem Src.new {U H : Hp} {s p : Addr} {o : HO} (S : Src U H s) (h : H p = none) : Gr (G1 s) U H (upd U p o) (upd H p o) ∧ Src (upd U p o) (upd H p o) s := by
  obtain ⟨a, b, c, e⟩ := S.h
  have g := (Gr.refl (S := G1 s) S.v).new (o := o) h
  have hne : s ≠ p := ne_of_none e h
  exact ⟨g, g.s, by rw [upd_ne hne]; exact S.o, a, b, c, by rw [upd_ne hne]; exact e⟩
theorem Src.mut {U H : Hp} {s p : Addr} {o : HO} (S : Src U H s) (hne : p ≠ s) (h : U p = none) : Src U (upd H p o) s := by
  obtain ⟨a, b, c, e⟩ := S.h
  refine ⟨fun b u q => ?_, S.o, a, b, c, by rw [upd_ne (Ne.symm hne)]; exact e⟩
  have hb : b ≠ p := fun z => by
    rw [z, h] at q
    cases q
  rw [upd_ne hb]
  exact S.v b u q
theorem Src.newH {U H : Hp} {s p : Addr} {o : HO} (S : Src U H s) (h : H p = none) : Gr (G1 s) U H U (upd H p o) ∧ Src U (upd H p o) s := by
  obtain ⟨a, b, c, e⟩ := S.h
  have g := (Gr.refl (S := G1 s) S.v).newH (o := o) h
  have hne : s ≠ p := ne_of_none e h
  exact ⟨g, g.s, S.o, a, b, c, by rw [upd_ne hne]; exact e⟩
section
variable {P : Program} {w : World} {K : PySem.W.Frag} {mg : Str → Option Value} {base : Heap} {W : Wd}
theorem sc__law_next : FnScope ["_law_source", "_law_many", "_law_found", "_law_prime", "_law_number"] ["_law_source", "_law_many"] (defScope s__law_next) := ⟨rfl, rfl, rfl, by decide +kernel, rfl, by decide +kernel, by decide +kernel⟩
def sp_next : Sp := fun vs H Q _ => ∃ (s : Addr) (U : Hp) (m : Int), vs = [.ref s, .int m] ∧ Src U H s ∧ 0 < m ∧ m < 1073741824 ∧
  ∀ (r : Int) (H' : Hp), Gr (G1 s) U H U H' → Src U H' s → 0 ≤ r → r < m → Q (.int r) H'
theorem d__law_next (T : Txt w K mg W) : DefOk P w K mg base "_law_next" s__law_next ["_law_source", "_law_many"] 1 sp_next := by
  refine T.f__law_next.ok sc__law_next (fun vs H Q E h => ?_) (fun f cdv A outer s H vs Q E hr h => ?_)
  · obtain ⟨s, U, m, rfl, _⟩ := h
    rfl
  · obtain ⟨s, U, m, rfl, S, h2, h3, k⟩ := h
    obtain ⟨a, b, c, h1⟩ := S.h
    refine ⟨_, (pss_cons (ps_if (pt_cmpR op_gt (pe_ix ix_list (pv 0) pe_int (fun _ _ => rfl)) pe_int (nomark _)) (pss_cons (ps_set (i := 2) sc__law_next.nd rfl (Or.inl rfl) (pe_op op_mod (pe_callTy (T := "int") call_int1 (by rfl) T.n_int (by decide +kernel) (pa_cons (pe_ix ix_list (pv 0) pe_int (fun _ _ => rfl)) pa_nil)) (pv 1)))
      (pss_cons (ps_asg (pe_op op_fdiv (pe_ix ix_list (pv 0) pe_int (fun _ _ => rfl)) (pv 1)) (pg_sub (pv 0) pe_int set_list))
      (pss_one (ps_ret (pv 2))))) pss_nil)
      (pss_cons (ps_asg (pe_op op_add (pe_ix ix_list (pv 0) pe_int (fun _ _ => rfl)) pe_int) (pg_sub (pv 0) pe_int set_list))
      (pss_cons (ps_set (i := 3) sc__law_next.nd rfl (Or.inl rfl) pe_int)
      (pss_cons (ps_set (i := 4) sc__law_next.nd rfl (Or.inl rfl) (pe_op op_mod (pe_callTy (T := "int") call_int1 (by rfl) T.n_int (by decide +kernel) (pa_cons (pe_op op_add (pe_op op_add (pe_ix ix_list (pv 0) pe_int (fun _ _ => rfl)) (pe_op op_mul pe_int (pe_ix ix_list (pv 0) pe_int (fun _ _ => rfl)))) pe_int) pa_nil)) (pv 3)))
      (pss_cons (ps_set (i := 4) sc__law_next.nd rfl (Or.inl rfl) (pe_op op_mod (pe_callTy (T := "int") call_int1 (by rfl) T.n_int (by decide +kernel) (pa_cons (pe_op op_mul (pv 4) pe_int) pa_nil)) (pv 3)))
      (pss_cons (ps_set (i := 4) sc__law_next.nd rfl (Or.inl rfl) (pe_op op_mod (pe_callTy (T := "int") call_int1 (by rfl) T.n_int (by decide +kernel) (pa_cons (pe_op op_mul (pv 4) (pe_op op_add (pe_op op_fdiv (pv 4) pe_int) pe_int)) pa_nil)) (pv 3)))
      (pss_cons (ps_set (i := 4) sc__law_next.nd rfl (Or.inl rfl) (pe_op op_mod (pe_callTy (T := "int") call_int1 (by rfl) T.n_int (by decide +kernel) (pa_cons (pe_op op_mul (pv 4) (pe_op op_add (pe_op op_fdiv (pv 4) pe_int) pe_int)) pa_nil)) pe_int))
      (pss_one (ps_ret (pe_op op_mod (pe_callTy (T := "int") call_int1 (by rfl) T.n_int (by decide +kernel) (pa_cons (pe_op op_fdiv (pv 4) pe_int) pa_nil)) (pv 1))))))))))), ?_⟩
    walk_at "rd"
    refine ite2 (fun hc => ?_) (fun hc => ?_)
    · walk_at "rd"
      exact k _ _ (S.put _ _ _).1 (S.put _ _ _).2 (Int.emod_nonneg _ (by omega)) (Int.emod_lt_of_pos _ h2)
    · walk_at "rd"
      exact k _ _ (S.put _ _ _).1 (S.put _ _ _).2 (Int.emod_nonneg _ (by omega)) (Int.emod_lt_of_pos _ h2)
theorem sc__law_cell_at : FnScope ["_law_script", "_law_k"] ["_law_script", "_law_k"] (defScope s__law_cell_at) := ⟨rfl, rfl, rfl, by decide +kernel, rfl, by decide +kernel, by decide +kernel⟩
def sp_cell (K : PySem.W.Frag) : Sp := fun vs H Q _ => ∃ (a : Addr) (ns : List Int) (i : Int), vs = [.ref a, .int i] ∧ SqL K H a (ns.map V.int) ∧ 0 ≤ i ∧ ∀ r : Int, Q (.int r) H
theorem d__law_cell_at (T : Txt w K mg W) : DefOk P w K mg base "_law_cell_at" s__law_cell_at ["_law_script", "_law_k"] 1 (sp_cell K) := by
  refine T.f__law_cell_at.ok sc__law_cell_at (fun vs H Q E h => ?_) (fun f cdv A outer s H vs Q E hr h => ?_)
  · obtain ⟨a, ns, i, rfl, _⟩ := h
    rfl
  · obtain ⟨a, ns, i, rfl, h1, h2, k⟩ := h
    refine ⟨_, (pss_cons (ps_if (pt_cmpR op_lt (pv 1) (pe_callB (id := "len") call_len (by rfl) T.n_len (by decide +kernel) (pa_cons (pv 0) pa_nil)) (nomark _)) (pss_one (ps_ret (pe_ix ix_list (pv 0) (pv 1) (fun _ _ => rfl)))) pss_nil)
      (pss_one (ps_ret pe_int))), ?_⟩
    refine ⟨_, rfl, _, rfl, _, _, rfl, .inl ⟨_, h1, rfl⟩, ?_⟩
    walk_at "rd"
    refine ite2 (fun hc => ?_) (fun hc => ?_)
    · have hc := of_decide_eq_true hc
      rw [List.length_map] at hc
      obtain ⟨j, rfl⟩ : ∃ j : Nat, i = (j : Int) := ⟨i.toNat, by omega⟩
      have hj : j < ns.length := by omega
      refine ⟨_, rfl, _, rfl, _, _, _, _, rfl, rfl, h1, atI_nat (v := V.int ns[j]) (by rw [List.getElem?_map, List.getElem?_eq_getElem hj] <;> rfl), ?_⟩
      exact k _
    · exact k _
theorem sc__law_source_of : FnScope ["_law_cell"] ["_law_cell"] (defScope s__law_source_of) := ⟨rfl, rfl, rfl, by decide +kernel, rfl, by decide +kernel, by decide +kernel⟩
def sp_src : Sp := fun vs H Q _ => ∃ i : Int, vs = [.int i] ∧ ∀ (p : Addr) (a b c : Int), H p = none → Q (.ref p) (upd H p (.lst [.int a, .int b, .int c]))
theorem d__law_source_of (T : Txt w K mg W) : DefOk P w K mg base "_law_source_of" s__law_source_of ["_law_cell"] 1 sp_src := by
  refine T.f__law_source_of.ok sc__law_source_of (fun vs H Q E h => ?_) (fun f cdv A outer s H vs Q E hr h => ?_)
  · obtain ⟨i, rfl, _⟩ := h
    rfl
  · obtain ⟨i, rfl, k⟩ := h
    refine ⟨_, (pss_cons (ps_set (i := 0) sc__law_source_of.nd rfl (Or.inl rfl) (pe_ifExp (pt_cmpR op_ge (pv 0) pe_int (nomark _)) (pv 0) (pe_op op_sub (pe_op op_sub pe_int (pe_op op_mul pe_int (pv 0))) pe_int)))
      (pss_one (ps_ret (pe_lst (pa_cons (pe_op op_mul (pv 0) (pe_callTy (T := "int") call_int1 (by rfl) T.n_int (by decide +kernel) (pa_cons (pe_cmpR op_ge (pv 0) (pe_op op_pow pe_int pe_int) (nomark _)) pa_nil))) (pa_cons (pe_op op_mod (pe_callTy (T := "int") call_int1 (by rfl) T.n_int (by decide +kernel) (pa_cons (pv 0) pa_nil)) pe_int) (pa_cons pe_int pa_nil))))))), ?_⟩
    walk_at "rd"
    refine ite2 (fun hc => ?_) (fun hc => ?_)
    · walk_at "rd"
      exact fun p hp => k _ _ _ _ hp
    · walk_at "rd"
      exact fun p hp => k _ _ _ _ hp
theorem sc__law_one : FnScope ["_law_source", "_law_some"] ["_law_source", "_law_some"] (defScope s__law_one) := ⟨rfl, rfl, rfl, by decide +kernel, rfl, by decide +kernel, by decide +kernel⟩
def sp_one (K : PySem.W.Frag) : Sp := fun vs H Q _ => ∃ (s l : Addr) (U : Hp) (xs : List V), vs = [.ref s, .ref l] ∧ Src U H s ∧ SqL K U l xs ∧ 0 < xs.length ∧ xs.length < 1000000 ∧
  ∀ (x : V) (H' : Hp), Gr (G1 s) U H U H' → Src U H' s → x ∈ xs → Q x H'
theorem d__law_one (T : Txt w K mg W) : DefOk P w K mg base "_law_one" s__law_one ["_law_source", "_law_some"] 2 (sp_one K) := by
  refine T.f__law_one.ok sc__law_one (fun vs H Q E h => ?_) (fun f cdv A outer s H vs Q E hr h => ?_)
  · obtain ⟨s, l, U, xs, rfl, _⟩ := h
    rfl
  · obtain ⟨s, l, U, xs, rfl, S, h1, h2, h3, k⟩ := h
    refine ⟨_, (pss_one (ps_ret (pe_ix ix_list (pv 1) (pe_callD (d__law_next T) (hr.mono (by decide)) (pa_cons (pv 0) (pa_cons (pe_callB (id := "len") call_len (by rfl) T.n_len (by decide +kernel) (pa_cons (pv 1) pa_nil)) pa_nil))) (fun _ _ => rfl)))), ?_⟩
    refine ⟨_, rfl, _, rfl, _, rfl, _, _, rfl, .inl ⟨_, sqlS S.v h1, rfl⟩, s, U, _, rfl, S, by omega, by omega, fun r H' g S' l0 l1 => ?_⟩
    obtain ⟨j, rfl⟩ : ∃ j : Nat, r = (j : Int) := ⟨r.toNat, by omega⟩
    have hj : j < xs.length := by omega
    exact ⟨_, _, _, _, rfl, rfl, sqlS S'.v h1, atI_nat (List.getElem?_eq_getElem hj), k _ _ g S' (List.getElem_mem hj)⟩
theorem sc__law_signs : FnScope ["_law_source", "_law_most", "_law_turn"] ["_law_source", "_law_most"] (defScope s__law_signs) := ⟨rfl, rfl, rfl, by decide +kernel, rfl, by decide +kernel, by decide +kernel⟩
theorem joinNil_mem : ∀ {ps : List (List Nat)} {c : Nat}, c ∈ joinL [] ps → ∃ p ∈ ps, c ∈ p
  | [], c, h => by cases h
  | [p], c, h => ⟨p, List.mem_singleton.mpr rfl, h⟩
  | p :: q :: r, c, h => by
    rcases List.mem_append.mp (show c ∈ p ++ ([] ++ joinL [] (q :: r)) from h) with h | h
    · exact ⟨p, List.mem_cons_self, h⟩
    · obtain ⟨p', h1, h2⟩ := joinNil_mem (ps := q :: r) (c := c) (by simpa using h)
      exact ⟨p', List.mem_cons_of_mem _ h1, h2⟩
theorem joinNil_len : ∀ {ps : List (List Nat)}, (∀ p ∈ ps, p.length = 1) → (joinL [] ps).length = ps.length
  | [], _ => rfl
  | [p], h => h p (List.mem_singleton.mpr rfl)
  | p :: q :: r, h => by
    show (p ++ ([] ++ joinL [] (q :: r))).length = _
    rw [List.length_append, List.length_append, joinNil_len (ps := q :: r) fun x hx => h x (List.mem_cons_of_mem _ hx), h p List.mem_cons_self]
    simp
    omega
theorem abxy_ok : ∀ c ∈ ("abxy (){}~" : Str).cps.toList, 32 ≤ c ∧ c ≤ 126 := by decide +kernel
theorem join_single {zs : List Str} {n : Nat} (hl : zs.length ≤ n) (hz : ∀ z ∈ zs, ∃ c, z = ⟨#[c]⟩ ∧ 32 ≤ c ∧ c ≤ 126) : GoodS n (Txt.join "" zs) := by
  have e : (Txt.join "" zs).cps.toList = joinL [] (zs.map tl) := by
    rw [join_eq]
    exact tl_join "" zs
  refine ⟨?_, fun c hc => ?_⟩
  · rw [← Array.length_toList, e, joinNil_len, List.length_map]
    · exact hl
    · intro p hp
      obtain ⟨z, h1, rfl⟩ := List.mem_map.mp hp
      obtain ⟨c, rfl, _⟩ := hz z h1
      rfl
  · rw [e] at hc
    obtain ⟨p, hp, h2⟩ := joinNil_mem hc
    obtain ⟨z, h1, rfl⟩ := List.mem_map.mp hp
    obtain ⟨d, rfl, h3⟩ := hz z h1
    have : c = d := by simpa [tl] using h2
    subst this
    exact h3
def sp_signs : Sp := fun vs H Q _ => ∃ (s : Addr) (U : Hp) (m : Nat), vs = [.ref s, .int m] ∧ Src U H s ∧ m ≤ 1000 ∧
  ∀ (z : Str) (U' H' : Hp), Gr (G1 s) U H U' H' → Src U' H' s → GoodS m z → Q (.str z) H'
theorem d__law_signs (T : Txt w K mg W) : DefOk P w K mg base "_law_signs" s__law_signs ["_law_source", "_law_most"] 3 sp_signs := by
  refine T.f__law_signs.ok sc__law_signs (fun vs H Q E h => ?_) (fun f cdv A outer s H vs Q E hr h => ?_)
  · obtain ⟨s, U, m, rfl, _⟩ := h
    rfl
  · obtain ⟨s, U, m, rfl, S, h1, k⟩ := h
    refine ⟨_, (pss_one (ps_ret (pe_join pe_str (pe_lc (own := [("_law_turn", 2)]) (g := (gName 2)) (tt := tYes) rfl sc__law_signs.nd (pi_range1 (by rfl) T.n_range (pa_cons (pe_callD (d__law_next T) (hr.mono (by decide)) (pa_cons (pv 0) (pa_cons (pe_op op_add (pv 1) pe_int) pa_nil))) pa_nil)) (blkOk_by (own := [("_law_turn", 2)]) (N := ["_law_source", "_law_most", "_law_turn"]) (sc := defScope s__law_signs) (by decide +kernel)) (fun _ _ _ _ _ => (pg_name (i := 2) sc__law_signs.nd rfl (Or.inl rfl))) (fun _ _ _ _ _ => pts_nil) (fun _ _ _ _ _ => (pe_callD (d__law_one T) (hr.mono (by decide)) (pa_cons (pv 0) (pa_cons (pe_callTy (T := "list") (call_list_text rfl) (by rfl) T.n_list (by decide +kernel) (pa_cons pe_str pa_nil)) pa_nil)))))))), ?_⟩
    refine ⟨⟨_, rfl⟩, ?_⟩
    refine ⟨_, rfl, _, rfl, _, _, rfl, rfl, s, U, _, rfl, S, by omega, by omega, fun r H1 g1 S1 l0 l1 => ?_⟩
    refine ⟨_, rfl, by omega, by omega, fun D hD => ?_⟩
    refine lc_range (lo := 0) (n := r.toNat) (fun i H' => ∃ (U' : Hp) (zs : List Str), Gr (G1 s) U H U' H' ∧ Src U' H' s ∧ U' D = none ∧ H D = none ∧ H' D = some (.lst (zs.map V.str)) ∧ zs.length = i ∧ ∀ z ∈ zs, ∃ c, z = ⟨#[c]⟩ ∧ 32 ≤ c ∧ c ≤ 126) ?_ ?_ ?_
    · exact ⟨U, [], g1.trans (S1.newH hD).1, (S1.newH hD).2, vfree S1.v hD, g1.free hD, upd_same, rfl, fun z hz => by cases hz⟩
    · rintro i H' hi ⟨U', zs, g, S', v0, d0, hd, hl, hz⟩
      refine ⟨rfl, ?_⟩
      refine ⟨_, rfl, _, rfl, by decide +kernel, fun l hl0 => ?_⟩
      have hlD : D ≠ l := ne_of_none hd hl0
      refine ⟨s, l, _, _, rfl, (S'.new hl0).2, sqlO upd_same, by decide +kernel, by decide +kernel, fun x H2 g2 S2 hx => ?_⟩
      obtain ⟨c, hc, rfl⟩ := List.mem_map.mp hx
      have hDs : D ≠ s := fun e => by
        obtain ⟨_, _, _, q⟩ := S.h
        rw [e, q] at d0
        cases d0
      have hd2 : H2 D = some (.lst (zs.map V.str)) := g2.k D _ hDs (by rw [upd_ne hlD]; exact hd)
      have v2 : (upd U' l (.lst (("abxy (){}~" : Str).cps.toList.map fun c => V.str ⟨#[c]⟩))) D = none := by rw [upd_ne hlD]; exact v0
      refine ⟨_, hd2, by rw [List.length_map, hl]; exact small1000 (by omega), _, zs ++ [⟨#[c]⟩], ((g.trans (S'.new hl0).1).trans g2).mut (.inr d0) v2, ?_, v2, d0, ?_, by rw [List.length_append, hl]; rfl, fun z hz' => ?_⟩
      · exact S2.mut hDs v2
      · rw [upd_same, List.map_append]
        rfl
      · rcases List.mem_append.mp hz' with h | h
        · exact hz z h
        · rw [List.mem_singleton.mp h]
          exact ⟨c, rfl, abxy_ok c hc⟩
    · rintro H' ⟨U', zs, g, S', v0, d0, hd, hl, hz⟩
      have hs : ∀ z ∈ zs, z.length = 1 := fun z h => by obtain ⟨c, rfl, _⟩ := hz z h; rfl
      refine ⟨_, _, zs, rfl, rfl, .inl (sqlO hd), ?_, k _ _ _ g S' (join_single (by omega) hz)⟩
      have : (zs.map (·.length)).sum = zs.length := by
        clear hz hd hl
        induction zs with
        | nil => rfl
        | cons z zs ih =>
          rw [List.map_cons, List.sum_cons, hs z List.mem_cons_self, ih fun z h => hs z (List.mem_cons_of_mem _ h), List.length_cons]
          omega
      show _ + zs.length * 0 ≤ _
      omega
/-! ### rows -/
theorem dp_tup {K : PySem.W.Frag} {H : Hp} {p : Addr} {vs : List V} {ds : List PyData} (h : H p = some (.tup vs)) (hd : DpAll K H vs ds) : Dp K H (.ref p) (.tuple ds) := .tup (sqtO h) hd
theorem dp_lst {K : PySem.W.Frag} {H : Hp} {p : Addr} {vs : List V} {ds : List PyData} (h : H p = some (.lst vs)) (hd : DpAll K H vs ds) : Dp K H (.ref p) (.list ds) := .lst (sqlO h) hd
theorem sc__law_row : FnScope ["_law_source", "_law_number", "_law_way", "_law_part", "_law_many", "_law_k"] ["_law_source", "_law_number"] (defScope s__law_row) := ⟨rfl, rfl, rfl, by decide +kernel, rfl, by decide +kernel, by decide +kernel⟩
def sp_row (K : PySem.W.Frag) : Sp := fun vs H Q _ => ∃ (s : Addr) (U : Hp) (n : Nat), vs = [.ref s, .int n] ∧ Src U H s ∧ n ≤ 1000 ∧
  ∀ (v : V) (r : Row) (U' H' : Hp), Gr (G1 s) U H U' H' → Src U' H' s → r.ok n → Dp K U' v r.data → Q v H'
theorem d__law_row (T : Txt w K mg W) : DefOk P w K mg base "_law_row" s__law_row ["_law_source", "_law_number"] 4 (sp_row K) := by
  refine T.f__law_row.ok sc__law_row (fun vs H Q E h => ?_) (fun f cdv A outer s H vs Q E hr h => ?_)
  · obtain ⟨s, U, m, rfl, _⟩ := h
    rfl
  · obtain ⟨s, U, m, rfl, S, h1, k⟩ := h
    refine ⟨_, (Evl.pss_cut (ps_set (i := 2) sc__law_row.nd rfl (Or.inl rfl) (pe_ifExp (pt_cmpR op_gt (pv 1) pe_int (nomark _)) (pe_callD (d__law_next T) (hr.mono (by decide)) (pa_cons (pv 0) (pa_cons pe_int pa_nil))) (pe_callD (d__law_next T) (hr.mono (by decide)) (pa_cons (pv 0) (pa_cons pe_int pa_nil)))))
      (pss_cons (ps_if (pt_cmpR op_lt (pv 2) pe_int (nomark _)) (pss_one (ps_ret (pe_tup (pa_cons pe_str (pa_cons (pe_callD (d__law_signs T) (hr.mono (by decide)) (pa_cons (pv 0) (pa_cons (pe_callD (d__law_one T) (hr.mono (by decide)) (pa_cons (pv 0) (pa_cons (pe_lst (pa_cons pe_int (pa_cons pe_int (pa_cons pe_int pa_nil)))) pa_nil))) pa_nil))) pa_nil))))) pss_nil)
      (pss_cons (ps_if (pt_cmpR op_lt (pv 2) pe_int (nomark _)) (pss_one (ps_ret (pe_ix ix_list (pe_lst (pa_cons (pe_tup (pa_cons pe_str (pa_cons (pe_callD (d__law_signs T) (hr.mono (by decide)) (pa_cons (pv 0) (pa_cons pe_int pa_nil))) pa_nil))) (pa_cons (pe_tup (pa_cons pe_str (pa_cons pe_str pa_nil))) (pa_cons (pe_tup (pa_cons pe_str pa_nil)) pa_nil)))) (pe_callD (d__law_next T) (hr.mono (by decide)) (pa_cons (pv 0) (pa_cons pe_int pa_nil))) (fun _ _ => rfl)))) pss_nil)
      (pss_cons (ps_set (i := 3) sc__law_row.nd rfl (Or.inl rfl) (pe_callB (id := "max") (call_max2 rfl) (by rfl) T.n_max (by decide +kernel) (pa_cons (pe_callD (d__law_next T) (hr.mono (by decide)) (pa_cons (pv 0) (pa_cons (pv 1) pa_nil))) (pa_cons (pe_callD (d__law_next T) (hr.mono (by decide)) (pa_cons (pv 0) (pa_cons (pv 1) pa_nil))) pa_nil))))
      (pss_cons (ps_if (pt_cmpR op_lt (pv 2) pe_int (nomark _)) (pss_cons (ps_set (i := 4) sc__law_row.nd rfl (Or.inl rfl) (pe_callD (d__law_one T) (hr.mono (by decide)) (pa_cons (pv 0) (pa_cons (pe_lst (pa_cons pe_int (pa_cons pe_int (pa_cons pe_int (pa_cons pe_int (pa_cons pe_int (pa_cons pe_int pa_nil))))))) pa_nil))))
      (pss_one (ps_ret (pe_tup (pa_cons pe_str (pa_cons (pe_lc (own := [("_law_k", 5)]) (g := (gName 5)) (tt := tYes) rfl sc__law_row.nd (pi_range1 (by rfl) T.n_range (pa_cons (pv 4) pa_nil)) (blkOk_by (own := [("_law_k", 5)]) (N := ["_law_source", "_law_number", "_law_way", "_law_part", "_law_many", "_law_k"]) (sc := defScope s__law_row) (by decide +kernel)) (fun _ _ _ _ _ => (pg_name (i := 5) sc__law_row.nd rfl (Or.inl rfl))) (fun _ _ _ _ _ => pts_nil) (fun _ _ _ _ _ => (pe_callB (id := "max") (call_max2 rfl) (by rfl) T.n_max (by decide +kernel) (pa_cons (pe_callD (d__law_next T) (hr.mono (by decide)) (pa_cons (pv 0) (pa_cons (pv 1) pa_nil))) (pa_cons (pe_callD (d__law_next T) (hr.mono (by decide)) (pa_cons (pv 0) (pa_cons (pv 1) pa_nil))) pa_nil))))) pa_nil)))))) pss_nil)
      (pss_cons (ps_if (pt_cmpR op_lt (pv 2) pe_int (nomark _)) (pss_one (ps_ret (pe_tup (pa_cons pe_str (pa_cons (pe_callD (d__law_next T) (hr.mono (by decide)) (pa_cons (pv 0) (pa_cons pe_int pa_nil))) (pa_cons (pv 3) pa_nil)))))) pss_nil)
      (pss_one (ps_ret (pe_ifExp (pt_cmpR op_eq (pv 2) pe_int (nomark _)) (pe_tup (pa_cons pe_str (pa_cons (pv 3) pa_nil))) (pe_tup (pa_cons pe_str (pa_cons (pv 3) pa_nil)))))))))))), ?_⟩
    refine ⟨fun σ' H' => ∃ way : Int, σ' = [some (.ref s), some (.int m), some (.int way), none, none, none] ∧ Gr (G1 s) U H U H' ∧ Src U H' s ∧ 0 ≤ way ∧ (m = 0 → way < 5), ?_, ?_⟩
    · walk_at "rd"
      refine ite2 (fun hc => ?_) (fun hc => ?_)
      · have hc := of_decide_eq_true hc
        refine ⟨_, rfl, s, U, _, rfl, S, by omega, by omega, fun r H1 g1 S1 l0 l1 => ⟨r, rfl, g1, S1, l0, by omega⟩⟩
      · refine ⟨_, rfl, s, U, _, rfl, S, by omega, by omega, fun r H1 g1 S1 l0 l1 => ⟨r, rfl, g1, S1, l0, by omega⟩⟩
    · rintro σ' H1 ⟨way, rfl, g1, S1, l0, l1⟩
      walk_at "rd"
      refine ite2 (fun hc => ?_) (fun hc => ?_)
      · -- a text
        refine ⟨_, rfl, _, rfl, by decide +kernel, fun l hl => ?_⟩
        refine ⟨s, l, _, _, rfl, (S1.new hl).2, sqlO upd_same, by decide, by decide, fun x H2 g2 S2 hx => ?_⟩
        obtain ⟨mm, rfl, hm⟩ : ∃ mm : Nat, x = .int mm ∧ mm ≤ 20 := by
          simp only [List.mem_cons, List.not_mem_nil, or_false] at hx
          rcases hx with rfl | rfl | rfl
          · exact ⟨2, rfl, by omega⟩
          · exact ⟨5, rfl, by omega⟩
          · exact ⟨20, rfl, by omega⟩
        refine ⟨s, _, mm, rfl, S2, by omega, fun z U3 H3 g3 S3 hz => ?_⟩
        refine ⟨Nat.le_of_ble_eq_true rfl, fun p hp => ?_⟩
        exact k _ (.text z) _ _ (((g1.trans (S1.new hl).1).trans g2).trans (g3.trans (S3.new hp).1)) (S3.new hp).2 (hz.mono hm) (dp_tup upd_same (.cons (.str _) (.cons (.str _) .nil)))
      walk_at "rd"
      refine ite2 (fun hc2 => ?_) (fun hc2 => ?_)
      · -- a line
        refine ⟨_, rfl, s, _, 3, rfl, S1, by omega, fun z U2 H2 g2 S2 hz => ?_⟩
        refine ⟨Nat.le_of_ble_eq_true rfl, fun p hp => ⟨Nat.le_of_ble_eq_true rfl, fun q hq => ⟨Nat.le_of_ble_eq_true rfl, fun u hu => ⟨Nat.le_of_ble_eq_true rfl, fun l hl => ?_⟩⟩⟩⟩
        have Sp := S2.new (o := .tup [.str "line", .str z]) hp
        have Sq := Sp.2.new (o := .tup [.str "line", .str " "]) hq
        have Su := Sq.2.new (o := .tup [.str "hard"]) hu
        have Sl := Su.2.new (o := .lst [.ref p, .ref q, .ref u]) hl
        have npq : p ≠ q := ne_of_none upd_same hq
        have npu : p ≠ u := ne_of_none (o := .tup [.str "line", .str z]) (by rw [upd_ne npq]; exact upd_same) hu
        have nqu : q ≠ u := ne_of_none upd_same hu
        have npl : p ≠ l := ne_of_none (o := .tup [.str "line", .str z]) (by rw [upd_ne npu, upd_ne npq]; exact upd_same) hl
        have nql : q ≠ l := ne_of_none (o := .tup [.str "line", .str " "]) (by rw [upd_ne nqu]; exact upd_same) hl
        have nul : u ≠ l := ne_of_none upd_same hl
        refine ⟨_, rfl, s, _, _, rfl, Sl.2, by omega, by omega, fun r H3 g3 S3 r0 r1 => ?_⟩
        have g := (((g1.trans g2).trans ((Sp.1.trans Sq.1).trans (Su.1.trans Sl.1))).trans g3)
        have e : r = 0 ∨ r = 1 ∨ r = 2 := by omega
        rcases e with rfl | rfl | rfl
        · refine ⟨_, _, _, _, rfl, rfl, sqlS S3.v (sqlO upd_same), rfl, ?_⟩
          exact k _ (.line z) _ _ g S3 hz (dp_tup (by rw [upd_ne npl, upd_ne npu, upd_ne npq]; exact upd_same) (.cons (.str _) (.cons (.str _) .nil)))
        · refine ⟨_, _, _, _, rfl, rfl, sqlS S3.v (sqlO upd_same), rfl, ?_⟩
          exact k _ (.line " ") _ _ g S3 (by exact ⟨by decide +kernel, by decide +kernel⟩) (dp_tup (by rw [upd_ne nql, upd_ne nqu]; exact upd_same) (.cons (.str _) (.cons (.str _) .nil)))
        · refine ⟨_, _, _, _, rfl, rfl, sqlS S3.v (sqlO upd_same), rfl, ?_⟩
          exact k _ .hard _ _ g S3 True.intro (dp_tup (by rw [upd_ne nul]; exact upd_same) (.cons (.str _) .nil))
      -- a part
      have hc2 : ¬ way < 5 := fun z => hc2 (decide_eq_true z)
      have hm : 0 < m := by omega
      have two : ∀ (r t : Int), 0 ≤ r → r < (m : Int) → 0 ≤ t → t < (m : Int) → 0 ≤ (if t > r then t else r) ∧ (if t > r then t else r) < (m : Int) := fun r t _ _ _ _ => by split <;> omega
      refine ⟨_, rfl, _, rfl, s, U, _, rfl, S1, by omega, by omega, fun r H2 g2 S2 r0 r1 => ⟨_, rfl, _, rfl, s, U, _, rfl, S2, by omega, by omega, fun t H3 g3 S3 t0 t1 => ?_⟩⟩
      obtain ⟨j0, j1⟩ := two r t r0 r1 t0 t1
      refine ⟨_, _, rfl, ?_⟩
      generalize (if t > r then t else r) = j at j0 j1 ⊢
      have g3 := (g1.trans g2).trans g3
      walk_at "rd"
      refine ite2 (fun hc => ?_) (fun hc => ?_)
      · -- a cat
        refine ⟨_, rfl, Nat.le_of_ble_eq_true rfl, fun l hl => ?_⟩
        refine ⟨s, l, _, _, rfl, (S3.new hl).2, sqlO upd_same, by decide, by decide, fun x H4 g4 S4 hx => ?_⟩
        obtain ⟨mm, rfl, hmm⟩ : ∃ mm : Nat, x = .int mm ∧ mm ≤ 8 := by
          simp only [List.mem_cons, List.not_mem_nil, or_false] at hx
          rcases hx with rfl | rfl | rfl | rfl | rfl | rfl
          · exact ⟨0, rfl, by omega⟩
          · exact ⟨1, rfl, by omega⟩
          · exact ⟨2, rfl, by omega⟩
          · exact ⟨3, rfl, by omega⟩
          · exact ⟨4, rfl, by omega⟩
          · exact ⟨8, rfl, by omega⟩
        have g5 := (g3.trans (S3.new hl).1).trans g4
        refine ⟨_, rfl, _, rfl, by omega, by omega, fun D hD => ?_⟩
        refine lc_range (lo := 0) (n := (mm : Int).toNat) (fun i H' => ∃ (js : List Int), Gr (G1 s) U H (upd U l (.lst [.int 0, .int 1, .int 2, .int 3, .int 4, .int 8])) H' ∧ Src (upd U l (.lst [.int 0, .int 1, .int 2, .int 3, .int 4, .int 8])) H' s ∧ H D = none ∧ H' D = some (.lst (js.map V.int)) ∧ js.length = i ∧ ∀ j ∈ js, 0 ≤ j ∧ j < (m : Int)) ?_ ?_ ?_
        · exact ⟨[], g5.trans (S4.newH hD).1, (S4.newH hD).2, g5.free hD, upd_same, rfl, fun z hz => by cases hz⟩
        · rintro i H' hi ⟨js, g, S', d0, hd, hlen, hj⟩
          have v0 := vfree S4.v hD
          refine ⟨rfl, ?_⟩
          refine ⟨_, rfl, _, rfl, s, _, _, rfl, S', by omega, by omega, fun r H6 g6 S6 r0 r1 => ⟨_, rfl, _, rfl, s, _, _, rfl, S6, by omega, by omega, fun t H7 g7 S7 t0 t1 => ?_⟩⟩
          refine ⟨_, _, rfl, ?_⟩
          have q := two r t r0 r1 t0 t1
          have hDs : D ≠ s := fun e => by
            obtain ⟨_, _, _, q⟩ := S.h
            rw [e, q] at d0
            cases d0
          have hd7 : H7 D = some (.lst (js.map V.int)) := g7.k D _ hDs (g6.k D _ hDs hd)
          refine ⟨_, hd7, by rw [List.length_map, hlen]; exact small1000 (by omega), js ++ [if t > r then t else r], ((g.trans g6).trans g7).mut (.inr d0) v0, S7.mut hDs v0, d0, by rw [upd_same, List.map_append]; rfl, by rw [List.length_append, hlen]; rfl, fun z hz => ?_⟩
          rcases List.mem_append.mp hz with h | h
          · exact hj z h
          · rw [List.mem_singleton.mp h]
            exact q
        · rintro H' ⟨js, g, S', d0, hd, hlen, hj⟩
          have v0 := vfree S4.v hD
          have gt := g.tell d0 hd v0
          have hsD : s ≠ D := fun e => by
            obtain ⟨_, _, _, q⟩ := S.h
            rw [← e, q] at d0
            cases d0
          have St : Src (upd (upd U l (.lst [.int 0, .int 1, .int 2, .int 3, .int 4, .int 8])) D (.lst (js.map V.int))) H' s := ⟨gt.s, by rw [upd_ne hsD]; exact S'.o, S'.h⟩
          refine ⟨Nat.le_of_ble_eq_true rfl, fun p hp => ?_⟩
          have hDp : D ≠ p := ne_of_none hd hp
          exact k _ (.cat js) _ _ (gt.trans (St.new hp).1) (St.new hp).2 ⟨by omega, hj⟩ (dp_tup upd_same (.cons (.str _) (.cons (dp_lst (by rw [upd_ne hDp]; exact upd_same) (dps_ints js)) .nil)))
      walk_at "rd"
      refine ite2 (fun hc => ?_) (fun hc => ?_)
      · -- a nest
        refine ⟨_, rfl, s, U, _, rfl, S3, by omega, by omega, fun r H4 g4 S4 r0 r1 => ?_⟩
        refine ⟨_, rfl, Nat.le_of_ble_eq_true rfl, fun p hp => ?_⟩
        exact k _ (.nest r j) _ _ ((g3.trans g4).trans (S4.new hp).1) (S4.new hp).2 ⟨r0, by omega, j0, j1⟩ (dp_tup upd_same (.cons (.str _) (.cons (.int _) (.cons (.int _) .nil))))
      walk_at "rd"
      refine ite2 (fun hc => ?_) (fun hc => ?_)
      · refine ⟨_, rfl, Nat.le_of_ble_eq_true rfl, fun p hp => ?_⟩
        exact k _ (.align j) _ _ (g3.trans (S3.new hp).1) (S3.new hp).2 ⟨j0, j1⟩ (dp_tup upd_same (.cons (.str _) (.cons (.int _) .nil)))
      · refine ⟨_, rfl, Nat.le_of_ble_eq_true rfl, fun p hp => ?_⟩
        exact k _ (.group j) _ _ (g3.trans (S3.new hp).1) (S3.new hp).2 ⟨j0, j1⟩ (dp_tup upd_same (.cons (.str _) (.cons (.int _) .nil)))
theorem sc__law_rows : FnScope ["_law_source", "_law_many", "_law_found", "_law_number"] ["_law_source", "_law_many"] (defScope s__law_rows) := ⟨rfl, rfl, rfl, by decide +kernel, rfl, by decide +kernel, by decide +kernel⟩
def sp_rows (K : PySem.W.Frag) : Sp := fun vs H Q _ => ∃ (s : Addr) (U : Hp) (m : Nat), vs = [.ref s, .int m] ∧ Src U H s ∧ 0 < m ∧ m ≤ 1000 ∧
  ∀ (p : Addr) (vs : List V) (rs : List Row) (U' H' : Hp), Gr (G1 s) U H U' H' → Src U' H' s → H p = none → U' p = some (.lst vs) → DpAll K U' vs (rs.map Row.data) → OkRows rs → 0 < rs.length → rs.length ≤ m → Q (.ref p) H'
theorem d__law_rows (T : Txt w K mg W) : DefOk P w K mg base "_law_rows" s__law_rows ["_law_source", "_law_many"] 5 (sp_rows K) := by
  refine T.f__law_rows.ok sc__law_rows (fun vs H Q E h => ?_) (fun f cdv A outer s H vs Q E hr h => ?_)
  · obtain ⟨s, U, m, rfl, _⟩ := h
    rfl
  · obtain ⟨s, U, m, rfl, S, m0, m1, k⟩ := h
    refine ⟨_, (pss_cons (ps_set (i := 2) sc__law_rows.nd rfl (Or.inl rfl) (pe_lst pa_nil))
      (pss_cons (ps_for PassesOwn.never rfl (pi_range1 (by rfl) T.n_range (pa_cons (pe_op op_add pe_int (pe_callD (d__law_next T) (hr.mono (by decide)) (pa_cons (pv 0) (pa_cons (pv 1) pa_nil)))) pa_nil)) (pg_name (i := 3) sc__law_rows.nd rfl (Or.inl rfl))
      (pss_one (ps_expr (pe_bm PySem.F.plainAttrs_list PySem.F.slot_list_append PySem.F.type_list_append mt_append (pv 2) (pa_cons (pe_callD (d__law_row T) (hr.mono (by decide)) (pa_cons (pv 0) (pa_cons (pv 3) pa_nil))) pa_nil)))))
      (pss_one (ps_ret (pv 2))))), ?_⟩
    refine ⟨Nat.le_of_ble_eq_true rfl, fun p hp => ?_⟩
    have p0 := vfree S.v hp
    have hps : p ≠ s := fun e => by
      obtain ⟨_, _, _, q⟩ := S.h
      rw [e, q] at hp
      cases hp
    refine ⟨_, rfl, _, rfl, s, U, _, rfl, (S.newH hp).2, by omega, by omega, fun r H1 g0 S1 r0 r1 => ?_⟩
    have g1 := (S.newH (o := .lst []) hp).1.trans g0
    refine ⟨_, _, rfl, rfl, _, rfl, by omega, by omega, ?_⟩
    refine for_range (lo := 0) (n := (1 + r).toNat) (fun i σ H' => ∃ (v : Option V) (U' : Hp) (vs : List V) (rs : List Row), σ = [some (.ref s), some (.int m), some (.ref p), v] ∧ Gr (G1 s) U H U' H' ∧ Src U' H' s ∧ U' p = none ∧ H' p = some (.lst vs) ∧ DpAll K U' vs (rs.map Row.data) ∧ OkRows rs ∧ rs.length = i) ?_ ?_ ?_
    · exact ⟨none, U, [], [], rfl, g1, S1, p0, g0.k p _ hps upd_same, .nil, fun i r e => by simp at e, rfl⟩
    · rintro i σ H' hi ⟨v, U', vs, rs, rfl, g, S', pu, hpv, hd, hok, hl⟩
      refine ⟨_, rfl, .inl ⟨rfl, _, sqlO hpv⟩, ?_⟩
      refine ⟨_, rfl, _, rfl, s, U', i, by rw [Int.zero_add]; rfl, S', by omega, fun v2 r2 U2 H2 g2 S2 hr2 hd2 => ?_⟩
      have hp2 := g2.k p _ hps hpv
      have pu2 := g2.out (some_ne hpv) pu
      have hlen := dps_length hd
      refine ⟨_, _, _, rfl, rfl, hp2, by rw [hlen, List.length_map, hl]; exact small1000 (by omega), ?_⟩
      refine ⟨_, U2, vs ++ [v2], rs ++ [r2], rfl, (g.trans g2).mut (.inr hp) pu2, S2.mut hps pu2, pu2, upd_same, ?_, hok.snoc (by rw [hl]; exact hr2), by rw [List.length_append, hl]; rfl⟩
      rw [List.map_append]
      exact dps_append (dpsS g2.v hd) (.cons hd2 .nil)
    · rintro σ H' ⟨v, U', vs, rs, rfl, g, S', pu, hpv, hd, hok, hl⟩
      have gt := g.tell hp hpv pu
      have hsp : s ≠ p := Ne.symm hps
      exact ⟨_, rfl, k p vs rs _ _ gt ⟨gt.s, by rw [upd_ne hsp]; exact S'.o, S'.h⟩ hp upd_same (dpsS (fun b o e => by rw [upd_ne (ne_of_none e pu)]; exact e) hd) hok (by omega) (by omega)⟩
end
end Lw

namespace Lw
open PySem PySem.Spec PyProof.Rows L2 VW TL
local macro_rules | `(tactic| walk_at "rdc") => `(tactic| first | assumption | rfl | decide | omega | exact Or.inr ⟨by decide, by decide⟩ | exact ⟨by decide, by decide⟩ | exact ⟨by decide, by decide, by decide⟩ | (show (0 : Int) < _; omega) | (show (0 : Int) < _ ∧ _ < (1073741824 : Int); omega) | (show (-(2 ^ 64) < _ ∧ _ < 2 ^ 64) ∨ (-(2 ^ 64) < _ ∧ _ < 2 ^ 64); omega) | (show (-(2 ^ 64) < _ ∧ _ < 2 ^ 64) ∨ (-(2 ^ 64) < _ ∧ _ < 2 ^ 64); right; split <;> decide) | exact Nat.le_of_ble_eq_true rfl)
local macro_rules | `(tactic| walk_at "rd1") => `(tactic| first | refine ⟨_, rfl, ?_⟩ | refine And.intro (by walk_at "rdc") ?_ | refine ⟨_, _, rfl, rfl, ?_⟩ | refine Or.inl ⟨_, rfl, ?_⟩ | refine Or.inr ⟨_, rfl, ?_⟩ | refine ⟨_, _, _, _, rfl, rfl, sqlO (by first | assumption | exact upd_same), rfl, ?_⟩ | refine ⟨_, _, _, _, rfl, rfl, (by first | assumption | exact upd_same), rfl, ?_⟩)
local macro_rules | `(tactic| walk_at "rd") => `(tactic| repeat (walk_at "rd1"))

section
variable {P : Program} {w : World} {K : PySem.W.Frag} {mg : Str → Option Value} {base : Heap} {W : Wd}
/-! ### what is a row: for rows alone -/
theorem ty_of {K : PySem.W.Frag} {H : Hp} {v : V} {d : PyData} : Dp K H v d → ∃ t, TyX K H v (.type t) ∧ t = (match d with | .none => "NoneType" | .bool _ => "bool" | .int _ => "int" | .str _ => "str" | .list _ => "list" | .tuple _ => "tuple" | .dict _ => "dict") := by
  intro h
  cases h with
  | non => exact ⟨_, .base .non, rfl⟩
  | bl b => exact ⟨_, .base (.bl b), rfl⟩
  | int i => exact ⟨_, .base (.int i), rfl⟩
  | str x => exact ⟨_, .base (.str x), rfl⟩
  | lst hs _ =>
    rcases hs with (h | ⟨o, h⟩) | ⟨o, its, n, h1, h2, _⟩
    · exact ⟨_, .base (.lst h), rfl⟩
    · exact ⟨_, .base (.frz h), rfl⟩
    · exact ⟨_, .kList h1 h2, rfl⟩
  | tup hs _ =>
    rcases hs with (h | ⟨o, h⟩) | ⟨o, its, n, h1, h2, _⟩
    · exact ⟨_, .base (.tup h), rfl⟩
    · exact ⟨_, .fTuple h, rfl⟩
    · exact ⟨_, .kTuple h1 h2, rfl⟩
theorem sc_is_integer : FnScope ["value"] ["value"] (defScope s_is_integer) := ⟨rfl, rfl, rfl, by decide +kernel, rfl, by decide +kernel, by decide +kernel⟩
def sp_isint (K : PySem.W.Frag) : Sp := fun vs H Q _ => ∃ (i : Int), vs = [.int i] ∧ Q (.bl true) H
theorem d_is_integer (T : Txt w K mg W) : DefOk P w K mg base "is_integer" s_is_integer ["value"] 1 (sp_isint K) := by
  refine T.f_is_integer.ok sc_is_integer (fun vs H Q E h => ?_) (fun f cdv A outer s H vs Q E hr h => ?_)
  · obtain ⟨i, rfl, _⟩ := h
    rfl
  · obtain ⟨i, rfl, k⟩ := h
    refine ⟨_, (pss_one (ps_ret (pe_and (pe_callB (id := "isinstance") call_isi (by rfl) T.n_isinstance (by decide +kernel) (pa_cons (pv 0) (pa_cons (pe_bltn (v := .ty "int") (by rfl) T.n_int (by decide +kernel) rfl) pa_nil))) (pe_one (pe_not (pe_callB (id := "isinstance") call_isi (by rfl) T.n_isinstance (by decide +kernel) (pa_cons (pv 0) (pa_cons (pe_bltn (v := .ty "bool") (by rfl) T.n_bool (by decide +kernel) rfl) pa_nil)))))))), ?_⟩
    refine ⟨_, rfl, ⟨_, _, _, _, true, rfl, .ty "int", .base (.int i), kit_ty (by decide +kernel), ?_⟩⟩
    refine ⟨_, rfl, iteT ?_⟩
    refine ⟨_, rfl, ⟨_, _, _, _, false, rfl, .ty "bool", .base (.int i), kit_ty (by decide +kernel), ?_⟩⟩
    exact ⟨_, rfl, k⟩
theorem sc_is_between : FnScope ["value", "least", "most"] ["value", "least", "most"] (defScope s_is_between) := ⟨rfl, rfl, rfl, by decide +kernel, rfl, by decide +kernel, by decide +kernel⟩
def sp_between (K : PySem.W.Frag) : Sp := fun vs H Q _ => ∃ (i a e : Int), vs = [.int i, .int a, .int e] ∧ a ≤ i ∧ i ≤ e ∧ Q (.bl true) H
theorem d_is_between (T : Txt w K mg W) : DefOk P w K mg base "is_between" s_is_between ["value", "least", "most"] 2 (sp_between K) := by
  refine T.f_is_between.ok sc_is_between (fun vs H Q E h => ?_) (fun f cdv A outer s H vs Q E hr h => ?_)
  · obtain ⟨i, a, e, rfl, _⟩ := h
    rfl
  · obtain ⟨i, a, e, rfl, h1, h2, k⟩ := h
    refine ⟨_, (pss_one (ps_ret (pe_and (pe_callD (d_is_integer T) (hr.mono (by decide)) (pa_cons (pv 0) pa_nil)) (pe_one (pe_chain op_le op_le (pv 1) (pv 0) (pv 2)))))), ?_⟩
    refine ⟨_, rfl, i, rfl, _, rfl, iteT ?_⟩
    walk_at "rd"
    rw [decide_eq_true h1]
    refine iteT ?_
    walk_at "rd"
    show Q (.bl (decide (i ≤ e))) H
    rw [decide_eq_true h2]
    exact k
theorem ifF {c : Bool} {A B : Prop} (hc : c = false) (h : B) : if c = true then A else B := by
  rw [hc]
  exact iteF h
theorem ifT {c : Bool} {A B : Prop} (hc : c = true) (h : A) : if c = true then A else B := by
  rw [hc]
  exact iteT h
theorem tyT {K : PySem.W.Frag} {H : Hp} {a : Addr} {vs : List V} (hs : SqT K H a vs) : TyX K H (.ref a) (.type "tuple") := by
  rcases hs with (h | ⟨o, h⟩) | ⟨o, its, n, h1, h2, _⟩
  · exact .base (.tup h)
  · exact .fTuple h
  · exact .kTuple h1 h2
theorem tyL {K : PySem.W.Frag} {H : Hp} {a : Addr} {vs : List V} (hs : SqL K H a vs) : TyX K H (.ref a) (.type "list") := by
  rcases hs with (h | ⟨o, h⟩) | ⟨o, its, n, h1, h2, _⟩
  · exact .base (.lst h)
  · exact .base (.frz h)
  · exact .kList h1 h2
theorem sc__is_signs : FnScope ["value", "most"] ["value", "most"] (defScope s__is_signs) := ⟨rfl, rfl, rfl, by decide +kernel, rfl, by decide +kernel, by decide +kernel⟩
theorem asc_of {n : Nat} {z : Str} (h : GoodS n z) : Txt.isascii z = true ∧ Txt.isprintable z = true := by
  have q : (List.range 128).all (fun c => decide (32 ≤ c ∧ c ≤ 126) == Unicode.isPrintable c) = true := by decide +kernel
  constructor
  · unfold Txt.isascii
    rw [Array.all_eq_true]
    intro i hi
    have := h.2 z.cps[i] (Array.mem_toList_iff.mpr (Array.getElem_mem hi))
    exact decide_eq_true (by omega)
  · unfold Txt.isprintable
    rw [Array.all_eq_true]
    intro i hi
    have h3 := h.2 z.cps[i] (Array.mem_toList_iff.mpr (Array.getElem_mem hi))
    have := List.all_eq_true.mp q z.cps[i] (List.mem_range.mpr (by omega))
    rw [beq_iff_eq] at this
    rw [← this]
    exact decide_eq_true h3
def sp_issigns (K : PySem.W.Frag) : Sp := fun vs H Q _ => ∃ (z : Str) (m : Nat), vs = [.str z, .int m] ∧ (GoodS m z ∧ m ≤ 1000) ∧ ∀ H', Same H H' → Q (.bl true) H'
theorem d__is_signs (T : Txt w K mg W) : DefOk P w K mg base "_is_signs" s__is_signs ["value", "most"] 1 (sp_issigns K) := by
  refine T.f__is_signs.ok sc__is_signs (fun vs H Q E h => ?_) (fun f cdv A outer s H vs Q E hr h => ?_)
  · obtain ⟨z, m, rfl, _⟩ := h
    rfl
  · obtain ⟨z, m, rfl, ⟨hz, hm⟩, k⟩ := h
    have hzl : z.length ≤ m := hz.1
    refine ⟨_, (pss_one (ps_ret (pe_and (pe_callB (id := "isinstance") call_isi (by rfl) T.n_isinstance (by decide +kernel) (pa_cons (pv 0) (pa_cons (pe_bltn (v := .ty "str") (by rfl) T.n_str (by decide +kernel) rfl) pa_nil))) (pe_and (pe_cmpR op_le (pe_callB (id := "len") call_len (by rfl) T.n_len (by decide +kernel) (pa_cons (pv 0) pa_nil)) (pv 1) (nomark _)) (pe_and (pe_bm0 PySem.F.plainAttrs_str PySem.F.slot_str_isascii PySem.F.type_str_isascii mt_isascii (pv 0)) (pe_one (pe_bm0 PySem.F.plainAttrs_str PySem.F.slot_str_isprintable PySem.F.type_str_isprintable mt_isprintable (pv 0)))))))), ?_⟩
    obtain ⟨ha, hp⟩ := asc_of hz
    refine ⟨_, rfl, _, _, _, _, true, rfl, .ty "str", .base (.str _), kit_ty (by decide +kernel), _, rfl, iteT ?_⟩
    refine ⟨_, rfl, _, z.length, rfl, ⟨Nat.le_trans hzl (Nat.le_of_lt (small1000 hm)), rfl⟩, ?_⟩
    refine ⟨_, rfl, _, _, rfl, rfl, _, rfl, ifT (decide_eq_true (by omega)) ?_⟩
    refine ⟨_, rfl, rfl, z, rfl, rfl, trivial, _, rfl, ifT ha ?_⟩
    refine ⟨_, rfl, rfl, z, rfl, rfl, trivial, ?_⟩
    rw [hp]
    exact k H (Same.refl _)
theorem sc__is_parts : FnScope ["value", "k", "part"] ["value", "k"] (defScope s__is_parts) := ⟨rfl, rfl, rfl, by decide +kernel, rfl, by decide +kernel, by decide +kernel⟩
def sp_isparts (K : PySem.W.Frag) : Sp := fun vs H Q _ => ∃ (l : Addr) (ns : List Int) (e : Nat), vs = [.ref l, .int e] ∧ SqL K H l (ns.map V.int) ∧ ns.length ≤ 8 ∧ (∀ j ∈ ns, 0 ≤ j ∧ j < (e : Int)) ∧ ∀ H', Same H H' → Q (.bl true) H'
theorem d__is_parts (T : Txt w K mg W) : DefOk P w K mg base "_is_parts" s__is_parts ["value", "k"] 1 (sp_isparts K) := by
  refine T.f__is_parts.ok sc__is_parts (fun vs H Q E h => ?_) (fun f cdv A outer s H vs Q E hr h => ?_)
  · obtain ⟨l, ns, e, rfl, _⟩ := h
    rfl
  · obtain ⟨l, ns, e, rfl, hl, h8, hj, k⟩ := h
    refine ⟨_, (pss_cons (ps_if (PW.pt (pw_or (pt_not (pt_val (pe_callB (id := "isinstance") call_isi (by rfl) T.n_isinstance (by decide +kernel) (pa_cons (pv 0) (pa_cons (pe_bltn (v := .ty "list") (by rfl) T.n_list (by decide +kernel) rfl) pa_nil))))) (pw_or1 (pt_cmpR op_gt (pe_callB (id := "len") call_len (by rfl) T.n_len (by decide +kernel) (pa_cons (pv 0) pa_nil)) (pe_globI T.g_MOST_PARTS) (nomark _))))) (pss_one (ps_ret pe_bl)) pss_nil)
      (pss_cons (ps_for PassesOwn.never rfl (pi_list (pv 0)) (pg_name (i := 2) sc__is_parts.nd rfl (Or.inl rfl))
      (pss_one (ps_if (PW.pt (pw_or (pt_not (pt_val (pe_callB (id := "isinstance") call_isi (by rfl) T.n_isinstance (by decide +kernel) (pa_cons (pv 2) (pa_cons (pe_bltn (v := .ty "int") (by rfl) T.n_int (by decide +kernel) rfl) pa_nil))))) (pw_or (pt_val (pe_callB (id := "isinstance") call_isi (by rfl) T.n_isinstance (by decide +kernel) (pa_cons (pv 2) (pa_cons (pe_bltn (v := .ty "bool") (by rfl) T.n_bool (by decide +kernel) rfl) pa_nil)))) (pw_or1 (pt_not (pt_chain op_le op_lt pe_int (pv 2) (pv 1))))))) (pss_one (ps_ret pe_bl)) pss_nil)))
      (pss_one (ps_ret pe_bl)))), ?_⟩
    refine ⟨_, rfl, _, _, _, _, true, rfl, .ty "list", tyL hl, kit_ty (by decide +kernel), true, rfl, iteF ?_⟩
    refine ⟨_, rfl, _, _, rfl, .inl ⟨_, hl, rfl⟩, _, _, rfl, rfl, _, rfl, ifF (decide_eq_false (by rw [List.length_map]; omega)) ?_⟩
    refine ⟨_, rfl, l, rfl, ⟨_, hl⟩, ?_⟩
    refine for_list (xs := ns.map V.int) (fun i σ H' => Same H H' ∧ ∃ v, σ = [some (.ref l), some (.int e), v]) ⟨Same.refl _, _, rfl⟩ (fun i σ H' _ z => sqlS z.1 hl) ?_ ?_
    · rintro i x σ H2 hx ⟨sm, v, rfl⟩
      rw [List.getElem?_map] at hx
      obtain ⟨j, hj1, rfl⟩ := Option.map_eq_some_iff.mp hx
      obtain ⟨j0, j1⟩ := hj j (List.mem_of_getElem? hj1)
      refine ⟨_, rfl, _, _, _, _, true, rfl, .ty "int", .base (.int _), kit_ty (by decide +kernel), true, rfl, iteF ?_⟩
      refine ⟨_, rfl, _, _, _, _, false, rfl, .ty "bool", .base (.int _), kit_ty (by decide +kernel), false, rfl, iteF ?_⟩
      refine ⟨_, rfl, _, _, rfl, rfl, _, rfl, ifT (decide_eq_true j0) ?_⟩
      refine ⟨_, rfl, _, _, rfl, rfl, _, rfl, ifF (by rw [decide_eq_true j1]; rfl) ?_⟩
      exact ⟨sm, _, rfl⟩
    · rintro σ H2 ⟨sm, v, rfl⟩
      exact k H2 sm
theorem sc_is_row : FnScope ["row", "k", "kind"] ["row", "k"] (defScope s_is_row) := ⟨rfl, rfl, rfl, by decide +kernel, rfl, by decide +kernel, by decide +kernel⟩
def sp_isrow (K : PySem.W.Frag) : Sp := fun vs H Q _ => ∃ (v : V) (r : Row) (n : Nat), vs = [v, .int n] ∧ Dp K H v r.data ∧ r.ok n ∧ ∀ H', Same H H' → Q (.bl true) H'
theorem d_is_row (T : Txt w K mg W) : DefOk P w K mg base "is_row" s_is_row ["row", "k"] 3 (sp_isrow K) := by
  refine T.f_is_row.ok sc_is_row (fun vs H Q E h => ?_) (fun f cdv A outer s H vs Q E hr h => ?_)
  · obtain ⟨v, r, n, rfl, _⟩ := h
    rfl
  · obtain ⟨v, r, nn, rfl, hd, hok, k⟩ := h
    refine ⟨_, (pss_cons (ps_if (PW.pt (pw_or (pt_not (pt_val (pe_callB (id := "isinstance") call_isi (by rfl) T.n_isinstance (by decide +kernel) (pa_cons (pv 0) (pa_cons (pe_bltn (v := .ty "tuple") (by rfl) T.n_tuple (by decide +kernel) rfl) pa_nil))))) (pw_or (pt_cmpR op_eq (pe_callB (id := "len") call_len (by rfl) T.n_len (by decide +kernel) (pa_cons (pv 0) pa_nil)) pe_int (nomark _)) (pw_or1 (pt_not (pt_val (pe_callB (id := "isinstance") call_isi (by rfl) T.n_isinstance (by decide +kernel) (pa_cons (pe_ix ix_tup (pv 0) pe_int (fun _ _ => rfl)) (pa_cons (pe_bltn (v := .ty "str") (by rfl) T.n_str (by decide +kernel) rfl) pa_nil))))))))) (pss_one (ps_ret pe_bl)) pss_nil)
      (pss_cons (ps_set (i := 2) sc_is_row.nd rfl (Or.inl rfl) (pe_ix ix_tup (pv 0) pe_int (fun _ _ => rfl)))
      (pss_cons (ps_if (pt_cmpR op_eq (pv 2) pe_str (nomark _)) (pss_one (ps_ret (pe_and (pe_cmpR op_eq (pe_callB (id := "len") call_len (by rfl) T.n_len (by decide +kernel) (pa_cons (pv 0) pa_nil)) pe_int (nomark _)) (pe_one (pe_callD (d__is_parts T) (hr.mono (by decide)) (pa_cons (pe_ix ix_tup (pv 0) pe_int (fun _ _ => rfl)) (pa_cons (pv 1) pa_nil))))))) pss_nil)
      (pss_cons (ps_if (pt_cmpR op_ne (pe_dgetK (pe_glob (v := .ref W.ROW_LENGTHS) (by rfl) T.g_ROW_LENGTHS rfl) (pv 2) ⟨rfl, rfl, rfl, rfl⟩) (pe_callB (id := "len") call_len (by rfl) T.n_len (by decide +kernel) (pa_cons (pv 0) pa_nil)) (nomark _)) (pss_one (ps_ret pe_bl)) pss_nil)
      (pss_cons (ps_if (pt_cmpR op_eq (pv 2) pe_str (nomark _)) (pss_one (ps_ret (pe_callD (d__is_signs T) (hr.mono (by decide)) (pa_cons (pe_ix ix_tup (pv 0) pe_int (fun _ _ => rfl)) (pa_cons (pe_globI T.g_MOST_TEXT_SIGNS) pa_nil))))) pss_nil)
      (pss_cons (ps_if (pt_cmpR op_eq (pv 2) pe_str (nomark _)) (pss_one (ps_ret (pe_callD (d__is_signs T) (hr.mono (by decide)) (pa_cons (pe_ix ix_tup (pv 0) pe_int (fun _ _ => rfl)) (pa_cons (pe_globI T.g_MOST_LINE_SIGNS) pa_nil))))) pss_nil)
      (pss_cons (ps_if (pt_cmpR op_eq (pv 2) pe_str (nomark _)) (pss_one (ps_ret pe_bl)) pss_nil)
      (pss_cons (ps_if (pt_cmpR op_eq (pv 2) pe_str (nomark _)) (pss_one (ps_ret (pe_and (pe_callD (d_is_between T) (hr.mono (by decide)) (pa_cons (pe_ix ix_tup (pv 0) pe_int (fun _ _ => rfl)) (pa_cons pe_int (pa_cons (pe_globI T.g_MOST_NEST) pa_nil)))) (pe_one (pe_callD (d_is_between T) (hr.mono (by decide)) (pa_cons (pe_ix ix_tup (pv 0) pe_int (fun _ _ => rfl)) (pa_cons pe_int (pa_cons (pe_op op_sub (pv 1) pe_int) pa_nil)))))))) pss_nil)
      (pss_one (ps_ret (pe_callD (d_is_between T) (hr.mono (by decide)) (pa_cons (pe_ix ix_tup (pv 0) pe_int (fun _ _ => rfl)) (pa_cons pe_int (pa_cons (pe_op op_sub (pv 1) pe_int) pa_nil)))))))))))))), ?_⟩
    cases r with
    | text z =>
      cases hd with
      | tup ht hs =>
      cases hs with | cons a1 hs =>
      cases a1
      cases hs with | cons a2 hs =>
      cases a2
      cases hs
      -- text
      obtain ⟨es, n, kl, kk, ko⟩ := T.k_ROW_LENGTHS
      obtain ⟨t, hk⟩ := T.k_ROW_LENGTHS_text
      refine ⟨_, rfl, _, _, _, _, true, rfl, .ty "tuple", tyT ht, kit_ty (by decide +kernel), true, rfl, iteF ?_⟩
      refine ⟨_, rfl, _, 2, rfl, .inr ⟨_, ht, rfl⟩, rfl, _, rfl, ifF (by decide +kernel) ?_⟩
      refine ⟨_, rfl, _, _, _, _, rfl, rfl, ht, rfl, _, _, _, _, true, rfl, .ty "str", .base (.str _), kit_ty (by decide +kernel), true, rfl, iteF ?_⟩
      refine ⟨_, rfl, _, _, _, _, rfl, rfl, ht, rfl, ?_⟩
      refine ⟨_, rfl, rfl, _, rfl, ifF (by decide +kernel) ?_⟩
      refine ⟨W.ROW_LENGTHS, es, n, rfl, kl, kk, ko, _, rfl, "text", _, .int 2, rfl, hk, ⟨t, rfl⟩, ?_⟩
      refine ⟨_, rfl, _, 2, rfl, .inr ⟨_, ht, rfl⟩, rfl, _, rfl, ifF (by decide +kernel) ?_⟩
      refine ⟨_, rfl, rfl, _, rfl, ifT (by decide +kernel) ?_⟩
      refine ⟨_, rfl, _, _, _, _, rfl, rfl, ht, rfl, ?_⟩
      exact ⟨_, 20, rfl, ⟨hok, by omega⟩, fun H' e => k H' e⟩
    | line z =>
      cases hd with
      | tup ht hs =>
      cases hs with | cons a1 hs =>
      cases a1
      cases hs with | cons a2 hs =>
      cases a2
      cases hs
      -- line
      obtain ⟨es, n, kl, kk, ko⟩ := T.k_ROW_LENGTHS
      obtain ⟨t, hk⟩ := T.k_ROW_LENGTHS_line
      refine ⟨_, rfl, _, _, _, _, true, rfl, .ty "tuple", tyT ht, kit_ty (by decide +kernel), true, rfl, iteF ?_⟩
      refine ⟨_, rfl, _, 2, rfl, .inr ⟨_, ht, rfl⟩, rfl, _, rfl, ifF (by decide +kernel) ?_⟩
      refine ⟨_, rfl, _, _, _, _, rfl, rfl, ht, rfl, _, _, _, _, true, rfl, .ty "str", .base (.str _), kit_ty (by decide +kernel), true, rfl, iteF ?_⟩
      refine ⟨_, rfl, _, _, _, _, rfl, rfl, ht, rfl, ?_⟩
      refine ⟨_, rfl, rfl, _, rfl, ifF (by decide +kernel) ?_⟩
      refine ⟨W.ROW_LENGTHS, es, n, rfl, kl, kk, ko, _, rfl, "line", _, .int 2, rfl, hk, ⟨t, rfl⟩, ?_⟩
      refine ⟨_, rfl, _, 2, rfl, .inr ⟨_, ht, rfl⟩, rfl, _, rfl, ifF (by decide +kernel) ?_⟩
      refine ⟨_, rfl, rfl, _, rfl, ifF (by decide +kernel) ?_⟩
      refine ⟨_, rfl, rfl, _, rfl, ifT (by decide +kernel) ?_⟩
      refine ⟨_, rfl, _, _, _, _, rfl, rfl, ht, rfl, ?_⟩
      exact ⟨_, 3, rfl, ⟨hok, by omega⟩, fun H' e => k H' e⟩
    | hard =>
      cases hd with
      | tup ht hs =>
      cases hs with | cons a1 hs =>
      cases a1
      cases hs
      -- hard
      obtain ⟨es, n, kl, kk, ko⟩ := T.k_ROW_LENGTHS
      obtain ⟨t, hk⟩ := T.k_ROW_LENGTHS_hard
      refine ⟨_, rfl, _, _, _, _, true, rfl, .ty "tuple", tyT ht, kit_ty (by decide +kernel), true, rfl, iteF ?_⟩
      refine ⟨_, rfl, _, 1, rfl, .inr ⟨_, ht, rfl⟩, rfl, _, rfl, ifF (by decide +kernel) ?_⟩
      refine ⟨_, rfl, _, _, _, _, rfl, rfl, ht, rfl, _, _, _, _, true, rfl, .ty "str", .base (.str _), kit_ty (by decide +kernel), true, rfl, iteF ?_⟩
      refine ⟨_, rfl, _, _, _, _, rfl, rfl, ht, rfl, ?_⟩
      refine ⟨_, rfl, rfl, _, rfl, ifF (by decide +kernel) ?_⟩
      refine ⟨W.ROW_LENGTHS, es, n, rfl, kl, kk, ko, _, rfl, "hard", _, .int 1, rfl, hk, ⟨t, rfl⟩, ?_⟩
      refine ⟨_, rfl, _, 1, rfl, .inr ⟨_, ht, rfl⟩, rfl, _, rfl, ifF (by decide +kernel) ?_⟩
      refine ⟨_, rfl, rfl, _, rfl, ifF (by decide +kernel) ?_⟩
      refine ⟨_, rfl, rfl, _, rfl, ifF (by decide +kernel) ?_⟩
      refine ⟨_, rfl, rfl, _, rfl, ifT (by decide +kernel) ?_⟩
      exact k _ (Same.refl _)
    | cat ps =>
      cases hd with
      | tup ht hs =>
      cases hs with | cons a1 hs =>
      cases a1
      cases hs with | cons a2 hs =>
      cases hs
      cases a2 with | lst hl ha =>
      rw [dps_of_ints ha] at hl
      -- cat
      obtain ⟨es, n, kl, kk, ko⟩ := T.k_ROW_LENGTHS
      obtain ⟨t, hk⟩ := T.k_ROW_LENGTHS_cat
      refine ⟨_, rfl, _, _, _, _, true, rfl, .ty "tuple", tyT ht, kit_ty (by decide +kernel), true, rfl, iteF ?_⟩
      refine ⟨_, rfl, _, 2, rfl, .inr ⟨_, ht, rfl⟩, rfl, _, rfl, ifF (by decide +kernel) ?_⟩
      refine ⟨_, rfl, _, _, _, _, rfl, rfl, ht, rfl, _, _, _, _, true, rfl, .ty "str", .base (.str _), kit_ty (by decide +kernel), true, rfl, iteF ?_⟩
      refine ⟨_, rfl, _, _, _, _, rfl, rfl, ht, rfl, ?_⟩
      refine ⟨_, rfl, rfl, _, rfl, ifT (by decide +kernel) ?_⟩
      refine ⟨_, rfl, _, 2, rfl, .inr ⟨_, ht, rfl⟩, rfl, _, rfl, ifT (by decide +kernel) ?_⟩
      refine ⟨_, rfl, _, _, _, _, rfl, rfl, ht, rfl, ?_⟩
      exact ⟨_, rfl, _, ps, _, rfl, hl, hok.1, hok.2, fun H' e => k H' e⟩
    | nest m j =>
      cases hd with
      | tup ht hs =>
      cases hs with | cons a1 hs =>
      cases a1
      cases hs with | cons a2 hs =>
      cases a2
      cases hs with | cons a3 hs =>
      cases a3
      cases hs
      -- nest
      obtain ⟨es, n, kl, kk, ko⟩ := T.k_ROW_LENGTHS
      obtain ⟨t, hk⟩ := T.k_ROW_LENGTHS_nest
      refine ⟨_, rfl, _, _, _, _, true, rfl, .ty "tuple", tyT ht, kit_ty (by decide +kernel), true, rfl, iteF ?_⟩
      refine ⟨_, rfl, _, 3, rfl, .inr ⟨_, ht, rfl⟩, rfl, _, rfl, ifF (by decide +kernel) ?_⟩
      refine ⟨_, rfl, _, _, _, _, rfl, rfl, ht, rfl, _, _, _, _, true, rfl, .ty "str", .base (.str _), kit_ty (by decide +kernel), true, rfl, iteF ?_⟩
      refine ⟨_, rfl, _, _, _, _, rfl, rfl, ht, rfl, ?_⟩
      refine ⟨_, rfl, rfl, _, rfl, ifF (by decide +kernel) ?_⟩
      refine ⟨W.ROW_LENGTHS, es, n, rfl, kl, kk, ko, _, rfl, "nest", _, .int 3, rfl, hk, ⟨t, rfl⟩, ?_⟩
      refine ⟨_, rfl, _, 3, rfl, .inr ⟨_, ht, rfl⟩, rfl, _, rfl, ifF (by decide +kernel) ?_⟩
      refine ⟨_, rfl, rfl, _, rfl, ifF (by decide +kernel) ?_⟩
      refine ⟨_, rfl, rfl, _, rfl, ifF (by decide +kernel) ?_⟩
      refine ⟨_, rfl, rfl, _, rfl, ifF (by decide +kernel) ?_⟩
      refine ⟨_, rfl, rfl, _, rfl, ifT (by decide +kernel) ?_⟩
      refine ⟨_, rfl, _, _, _, _, rfl, rfl, ht, rfl, ?_⟩
      refine ⟨_, _, _, rfl, hok.1, hok.2.1, _, rfl, iteT ?_⟩
      refine ⟨_, rfl, _, _, _, _, rfl, rfl, ht, rfl, ?_⟩
      exact ⟨_, rfl, _, _, rfl, rfl, _, _, _, rfl, hok.2.2.1, by have := hok.2.2.2; omega, k _ (Same.refl _)⟩
    | align j =>
      cases hd with
      | tup ht hs =>
      cases hs with | cons a1 hs =>
      cases a1
      cases hs with | cons a2 hs =>
      cases a2
      cases hs
      -- align
      obtain ⟨es, n, kl, kk, ko⟩ := T.k_ROW_LENGTHS
      obtain ⟨t, hk⟩ := T.k_ROW_LENGTHS_align
      refine ⟨_, rfl, _, _, _, _, true, rfl, .ty "tuple", tyT ht, kit_ty (by decide +kernel), true, rfl, iteF ?_⟩
      refine ⟨_, rfl, _, 2, rfl, .inr ⟨_, ht, rfl⟩, rfl, _, rfl, ifF (by decide +kernel) ?_⟩
      refine ⟨_, rfl, _, _, _, _, rfl, rfl, ht, rfl, _, _, _, _, true, rfl, .ty "str", .base (.str _), kit_ty (by decide +kernel), true, rfl, iteF ?_⟩
      refine ⟨_, rfl, _, _, _, _, rfl, rfl, ht, rfl, ?_⟩
      refine ⟨_, rfl, rfl, _, rfl, ifF (by decide +kernel) ?_⟩
      refine ⟨W.ROW_LENGTHS, es, n, rfl, kl, kk, ko, _, rfl, "align", _, .int 2, rfl, hk, ⟨t, rfl⟩, ?_⟩
      refine ⟨_, rfl, _, 2, rfl, .inr ⟨_, ht, rfl⟩, rfl, _, rfl, ifF (by decide +kernel) ?_⟩
      refine ⟨_, rfl, rfl, _, rfl, ifF (by decide +kernel) ?_⟩
      refine ⟨_, rfl, rfl, _, rfl, ifF (by decide +kernel) ?_⟩
      refine ⟨_, rfl, rfl, _, rfl, ifF (by decide +kernel) ?_⟩
      refine ⟨_, rfl, rfl, _, rfl, ifF (by decide +kernel) ?_⟩
      refine ⟨_, rfl, _, _, _, _, rfl, rfl, ht, rfl, ?_⟩
      exact ⟨_, rfl, _, _, rfl, rfl, _, _, _, rfl, hok.1, by have := hok.2; omega, k _ (Same.refl _)⟩
    | group j =>
      cases hd with
      | tup ht hs =>
      cases hs with | cons a1 hs =>
      cases a1
      cases hs with | cons a2 hs =>
      cases a2
      cases hs
      -- group
      obtain ⟨es, n, kl, kk, ko⟩ := T.k_ROW_LENGTHS
      obtain ⟨t, hk⟩ := T.k_ROW_LENGTHS_group
      refine ⟨_, rfl, _, _, _, _, true, rfl, .ty "tuple", tyT ht, kit_ty (by decide +kernel), true, rfl, iteF ?_⟩
      refine ⟨_, rfl, _, 2, rfl, .inr ⟨_, ht, rfl⟩, rfl, _, rfl, ifF (by decide +kernel) ?_⟩
      refine ⟨_, rfl, _, _, _, _, rfl, rfl, ht, rfl, _, _, _, _, true, rfl, .ty "str", .base (.str _), kit_ty (by decide +kernel), true, rfl, iteF ?_⟩
      refine ⟨_, rfl, _, _, _, _, rfl, rfl, ht, rfl, ?_⟩
      refine ⟨_, rfl, rfl, _, rfl, ifF (by decide +kernel) ?_⟩
      refine ⟨W.ROW_LENGTHS, es, n, rfl, kl, kk, ko, _, rfl, "group", _, .int 2, rfl, hk, ⟨t, rfl⟩, ?_⟩
      refine ⟨_, rfl, _, 2, rfl, .inr ⟨_, ht, rfl⟩, rfl, _, rfl, ifF (by decide +kernel) ?_⟩
      refine ⟨_, rfl, rfl, _, rfl, ifF (by decide +kernel) ?_⟩
      refine ⟨_, rfl, rfl, _, rfl, ifF (by decide +kernel) ?_⟩
      refine ⟨_, rfl, rfl, _, rfl, ifF (by decide +kernel) ?_⟩
      refine ⟨_, rfl, rfl, _, rfl, ifF (by decide +kernel) ?_⟩
      refine ⟨_, rfl, _, _, _, _, rfl, rfl, ht, rfl, ?_⟩
      exact ⟨_, rfl, _, _, rfl, rfl, _, _, _, rfl, hok.1, by have := hok.2; omega, k _ (Same.refl _)⟩
end
end Lw

namespace Lw
open PySem PySem.Spec PyProof.Rows L2 VW TL
local macro_rules | `(tactic| walk_at "rdc") => `(tactic| first | assumption | rfl | decide | omega | exact Or.inr ⟨by decide, by decide⟩ | exact ⟨by decide, by decide⟩ | exact ⟨by decide, by decide, by decide⟩ | (show (0 : Int) < _; omega) | (show (0 : Int) < _ ∧ _ < (1073741824 : Int); omega) | (show (-(2 ^ 64) < _ ∧ _ < 2 ^ 64) ∨ (-(2 ^ 64) < _ ∧ _ < 2 ^ 64); omega) | (show (-(2 ^ 64) < _ ∧ _ < 2 ^ 64) ∨ (-(2 ^ 64) < _ ∧ _ < 2 ^ 64); right; split <;> decide) | exact Nat.le_of_ble_eq_true rfl)
local macro_rules | `(tactic| walk_at "rd1") => `(tactic| first | refine ⟨_, rfl, ?_⟩ | refine And.intro (by walk_at "rdc") ?_ | refine ⟨_, _, rfl, rfl, ?_⟩ | refine Or.inl ⟨_, rfl, ?_⟩ | refine Or.inr ⟨_, rfl, ?_⟩ | refine ⟨_, _, _, _, rfl, rfl, sqlO (by first | assumption | exact upd_same), rfl, ?_⟩ | refine ⟨_, _, _, _, rfl, rfl, (by first | assumption | exact upd_same), rfl, ?_⟩)
local macro_rules | `(tactic| walk_at "rd") => `(tactic| repeat (walk_at "rd1"))

section
variable {P : Program} {w : World} {K : PySem.W.Frag} {mg : Str → Option Value} {base : Heap} {W : Wd}
/-- a row that is read: its tuple in the view, the list of a cat in the heap -/
def RowIn (K : PySem.W.Frag) (U H : Hp) (v : V) : Row → Prop
  | .cat ps => ∃ a l, v = .ref a ∧ SqT K U a [.str "cat", .ref l] ∧ SqL K H l (ps.map V.int)
  | r => Dp K U v r.data
/-- a copied row: the new list of a cat stands outside of the view -/
def RowNew (K : PySem.W.Frag) (U H H' : Hp) (v : V) : Row → Prop
  | .cat ps => ∃ q l, v = .ref q ∧ U q = some (.tup [.str "cat", .ref l]) ∧ U l = none ∧ H l = none ∧ H' l = some (.lst (ps.map V.int))
  | r => Dp K U v r.data
theorem RowIn.of {U H : Hp} {v : V} {r : Row} (s : Same U H) (h : Dp K U v r.data) : RowIn K U H v r := by
  cases r with
  | cat ps =>
    cases h with
    | tup ht hs =>
      cases hs with | cons a1 hs =>
      cases a1
      cases hs with | cons a2 hs =>
      cases hs
      cases a2 with | lst hl ha =>
      rw [dps_of_ints ha] at hl
      exact ⟨_, _, rfl, ht, sqlS s hl⟩
  | _ => exact h
theorem RowIn.dp {U H : Hp} {v : V} {r : Row} (s : Same U H) (h : RowIn K U H v r) : Dp K H v r.data := by
  cases r with
  | cat ps =>
    obtain ⟨a, l, rfl, h1, h2⟩ := h
    exact .tup (sqtS s h1) (.cons (.str _) (.cons (.lst h2 (dps_ints ps)) .nil))
  | _ => exact dpS s h
theorem RowIn.mono {U H U' H' : Hp} {v : V} {r : Row} (s : Same U U') (s2 : Same H H') (h : RowIn K U H v r) : RowIn K U' H' v r := by
  cases r with
  | cat ps =>
    obtain ⟨a, l, rfl, h1, h2⟩ := h
    exact ⟨a, l, rfl, sqtS s h1, sqlS s2 h2⟩
  | _ => exact dpS s h
/-- the copy is told of -/
theorem RowNew.tell {S : Addr → Prop} {U0 H0 U H H' : Hp} {v : V} {r : Row} (g : Gr S U0 H0 U H') (h : RowNew K U H H' v r) (h0 : ∀ b, H b = none → H0 b = none) :
    ∃ U', Gr S U0 H0 U' H' ∧ Same U U' ∧ Dp K U' v r.data ∧ ∀ b, H b ≠ none → U' b = U b := by
  cases r with
  | cat ps =>
    obtain ⟨q, l, rfl, h1, h2, h3, h4⟩ := h
    have g' := g.tell (h0 l h3) h4 h2
    have nq : q ≠ l := ne_of_none h1 h2
    refine ⟨_, g', fun b o e => by rw [upd_ne (ne_of_none e h2)]; exact e, dp_tup (by rw [upd_ne nq]; exact h1) (.cons (.str _) (.cons (dp_lst upd_same (dps_ints ps)) .nil)), fun b hb => ?_⟩
    have : b ≠ l := fun e => hb (by rw [e]; exact h3)
    rw [upd_ne this]
  | _ => exact ⟨U, g, Same.refl _, h, fun _ _ => rfl⟩
theorem sc_copied_row : FnScope ["row"] ["row"] (defScope s_copied_row) := ⟨rfl, rfl, rfl, by decide +kernel, rfl, by decide +kernel, by decide +kernel⟩
def sp_copied (K : PySem.W.Frag) : Sp := fun vs H Q _ => ∃ (v : V) (r : Row) (U : Hp), vs = [v] ∧ Same U H ∧ RowIn K U H v r ∧ ∀ (v' : V) (U' H' : Hp), Gr S0 U H U' H' → RowNew K U' H H' v' r → Q v' H'
theorem d_copied_row (T : Txt w K mg W) : DefOk P w K mg base "copied_row" s_copied_row ["row"] 1 (sp_copied K) := by
  refine T.f_copied_row.ok sc_copied_row (fun vs H Q E h => ?_) (fun f cdv A outer s H vs Q E hr h => ?_)
  · obtain ⟨v, r, U, rfl, _⟩ := h
    rfl
  · obtain ⟨v, r, U, rfl, s1, hd, k⟩ := h
    refine ⟨_, (pss_cons (ps_if (pt_cmpR op_eq (pe_ix ix_tup (pv 0) pe_int (fun _ _ => rfl)) pe_str (nomark _)) (pss_one (ps_ret (pe_tup (pa_cons pe_str (pa_cons (pe_callTy (T := "list") call_list_of (by rfl) T.n_list (by decide +kernel) (pa_cons (pe_ix ix_tup (pv 0) pe_int (fun _ _ => rfl)) pa_nil)) pa_nil))))) pss_nil)
      (pss_one (ps_ret (pv 0)))), ?_⟩
    have plain : ∀ (kd : Str) (ds : List PyData), r.data = .tuple (.str kd :: ds) → decide (V.str kd = V.str "cat") = false → ∃ a xs, v = .ref a ∧ SqT K H a (.str kd :: xs) := fun kd ds e _ => by
      have q := hd.dp s1
      rw [e] at q
      cases q with
      | tup ht hs =>
        cases hs with | cons a1 hs =>
        cases a1
        exact ⟨_, _, rfl, ht⟩
    cases r with
    | cat ps =>
      obtain ⟨a, l, rfl, h1, h2⟩ := hd
      refine ⟨_, rfl, _, _, _, _, rfl, rfl, sqtS s1 h1, rfl, rfl, _, rfl, ifT (by decide +kernel) ?_⟩
      refine ⟨_, rfl, _, _, _, _, rfl, rfl, sqtS s1 h1, rfl, _, _, rfl, .inl h2, fun l' hl' => ?_⟩
      refine ⟨Nat.le_of_ble_eq_true rfl, fun q hq => ?_⟩
      have g1 := (Gr.refl (S := S0) s1).newH (o := .lst (ps.map V.int)) hl'
      have g2 := g1.new (o := .tup [.str "cat", .ref l']) hq
      have nlq : l' ≠ q := ne_of_none upd_same hq
      exact k _ _ _ g2 ⟨q, l', rfl, upd_same, by rw [upd_ne nlq]; exact vfree s1 hl', hl', by rw [upd_ne nlq]; exact upd_same⟩
    | _ =>
      obtain ⟨a, xs, rfl, ht⟩ := plain _ _ rfl (by decide +kernel)
      refine ⟨_, rfl, _, _, _, _, rfl, rfl, ht, at_of (j := 0) rfl rfl, ?_⟩
      refine ⟨rfl, _, rfl, ifF (by decide +kernel) ?_⟩
      exact ⟨_, rfl, k _ _ _ (Gr.refl s1) hd⟩
def RowsIn (K : PySem.W.Frag) (U H : Hp) (vs : List V) (rs : List Row) : Prop := vs.length = rs.length ∧ ∀ (i : Nat) (v : V) (r : Row), vs[i]? = some v → rs[i]? = some r → RowIn K U H v r
theorem RowsIn.dp {U H : Hp} {vs : List V} {rs : List Row} (s : Same U H) (h : RowsIn K U H vs rs) : DpAll K H vs (rs.map Row.data) := by
  induction vs generalizing rs with
  | nil =>
    cases rs with
    | nil => exact .nil
    | cons r rs => cases h.1
  | cons v vs ih =>
    cases rs with
    | nil => cases h.1
    | cons r rs => exact .cons ((h.2 0 v r rfl rfl).dp s) (ih ⟨by have := h.1; simpa using this, fun i a b e1 e2 => h.2 (i + 1) a b e1 e2⟩)
theorem RowsIn.of {U H : Hp} {vs : List V} {rs : List Row} (s : Same U H) (h : DpAll K U vs (rs.map Row.data)) : RowsIn K U H vs rs := by
  refine ⟨by rw [dps_length h, List.length_map], fun i v r e1 e2 => ?_⟩
  obtain ⟨d, h1, h2⟩ := dps_get h e1
  rw [List.getElem?_map, e2] at h1
  cases h1
  exact .of s h2
theorem RowsIn.mono {U H U' H' : Hp} {vs : List V} {rs : List Row} (s : Same U U') (s2 : Same H H') (h : RowsIn K U H vs rs) : RowsIn K U' H' vs rs := ⟨h.1, fun i v r e1 e2 => (h.2 i v r e1 e2).mono s s2⟩
theorem sc__checked_rows : FnScope ["rows", "checked", "k", "row"] ["rows"] (defScope s__checked_rows) := ⟨rfl, rfl, rfl, by decide +kernel, rfl, by decide +kernel, by decide +kernel⟩
def sp_checked (K : PySem.W.Frag) : Sp := fun vs H Q _ => ∃ (a : Addr) (xs : List V) (rs : List Row) (U : Hp), vs = [.ref a] ∧ Same U H ∧ SqL K H a xs ∧ RowsIn K U H xs rs ∧ OkRows rs ∧ 0 < rs.length ∧ rs.length ≤ 200 ∧
  ∀ (D : Addr) (ws : List V) (U' H' : Hp), Gr S0 U H U' H' → H D = none → U' D = some (.lst ws) → DpAll K U' ws (rs.map Row.data) → Q (.ref D) H'
theorem d__checked_rows (T : Txt w K mg W) : DefOk P w K mg base "_checked_rows" s__checked_rows ["rows"] 4 (sp_checked K) := by
  refine T.f__checked_rows.ok sc__checked_rows (fun vs H Q E h => ?_) (fun f cdv A outer s H vs Q E hr h => ?_)
  · obtain ⟨a, xs, rs, U, rfl, _⟩ := h
    rfl
  · obtain ⟨a, xs, rs, U, rfl, s1, hl, hin, hok, h0, h200, k⟩ := h
    have hlen : xs.length = rs.length := hin.1
    refine ⟨_, (pss_cons (ps_if (PW.pt (pw_or (pt_not (pt_val (pe_callB (id := "isinstance") call_isi (by rfl) T.n_isinstance (by decide +kernel) (pa_cons (pv 0) (pa_cons (pe_bltn (v := .ty "list") (by rfl) T.n_list (by decide +kernel) rfl) pa_nil))))) (pw_or1 (pt_not (pt_chain op_le op_le pe_int (pe_callB (id := "len") call_len (by rfl) T.n_len (by decide +kernel) (pa_cons (pv 0) pa_nil)) (pe_globI T.g_MOST_ROWS)))))) (pss_one ps_never) pss_nil)
      (pss_cons (ps_set (i := 1) sc__checked_rows.nd rfl (Or.inl rfl) (pe_lst pa_nil))
      (pss_cons (ps_for PassesOwn.never rfl (pi_enum (by rfl) T.n_enumerate (pa_cons (pv 0) pa_nil)) (pg_tup rfl (pgs_cons (pg_name (i := 2) sc__checked_rows.nd rfl (Or.inl rfl)) (pgs_cons (pg_name (i := 3) sc__checked_rows.nd rfl (Or.inl rfl)) pgs_nil)))
      (pss_cons (ps_if (pt_not (pt_val (pe_callD (d_is_row T) (hr.mono (by decide)) (pa_cons (pv 3) (pa_cons (pv 2) pa_nil))))) (pss_one ps_never) pss_nil)
      (pss_one (ps_expr (pe_bm PySem.F.plainAttrs_list PySem.F.slot_list_append PySem.F.type_list_append mt_append (pv 1) (pa_cons (pe_callD (d_copied_row T) (hr.mono (by decide)) (pa_cons (pv 3) pa_nil)) pa_nil))))))
      (pss_one (ps_ret (pv 1)))))), ?_⟩
    refine ⟨_, rfl, _, _, _, _, true, rfl, .ty "list", tyL hl, kit_ty (by decide +kernel), true, rfl, iteF ?_⟩
    refine ⟨_, rfl, _, _, rfl, .inl ⟨_, hl, rfl⟩, ?_⟩
    refine ⟨_, _, rfl, rfl, _, rfl, ifT (decide_eq_true (by omega)) ?_⟩
    refine ⟨_, _, rfl, rfl, _, rfl, ifF (by rw [decide_eq_true (show (xs.length : Int) ≤ 200 by omega)]; rfl) ?_⟩
    refine ⟨Nat.le_of_ble_eq_true rfl, fun D hD => ?_⟩
    have smD : Same H (upd H D (.lst [])) := fun b o e => by rw [upd_ne (ne_of_none e hD)]; exact e
    refine ⟨_, rfl, _, _, rfl, sqlS smD hl, ?_⟩
    refine for_it walk_enum (fun i σ H' => ∃ (v1 v2 : Option V) (U' : Hp) (ws : List V), σ = [some (.ref a), some (.ref D), v1, v2] ∧ Gr S0 U H U' H' ∧ U' D = none ∧ H' D = some (.lst ws) ∧ DpAll K U' ws ((rs.take i).map Row.data)) ⟨none, none, U, [], rfl, (Gr.refl s1).newH hD, vfree s1 hD, upd_same, .nil⟩ (fun i σ H' _ ⟨_, _, _, _, _, g, _⟩ => sqlS g.same hl) ?_ ?_
    · rintro i x σ H1 H2 hi ⟨v1, v2, U', ws, rfl, g, v0, hd, hdp⟩ ⟨t, y1, y2, rfl, ht, rfl, e1, e2⟩
      cases e1
      have hi : i < rs.length := by rw [← hlen]; exact (List.getElem?_eq_some_iff.mp e2).1
      have hr2 : rs[i]? = some rs[i] := List.getElem?_eq_getElem hi
      have hrow := hin.2 i y2 _ e2 hr2
      have nDt : D ≠ t := ne_of_none hd ht
      have g1 : Gr S0 U H U' (upd H1 t (.tup [.int (i : Nat), y2])) := g.newH ht
      refine ⟨t, _, rfl, sqtO upd_same, rfl, _, _, rfl, _, _, rfl, rfl, ?_⟩
      refine ⟨_, rfl, _, rfl, _, rs[i], i, rfl, (hrow.mono (Same.refl _) g1.same).dp (s1.trans g1.same), hok i _ hr2, fun H3 sm3 => ?_⟩
      have g2 : Gr S0 U H U' H3 := g1.grow sm3
      have hd2 : H3 D = some (.lst ws) := sm3 _ _ (by rw [upd_ne nDt]; exact hd)
      refine ⟨true, rfl, iteF ?_⟩
      refine ⟨_, rfl, .inl ⟨rfl, _, sqlO hd2⟩, ?_⟩
      refine ⟨_, rfl, y2, rs[i], U', rfl, g2.s, hrow.mono g2.v g2.same, fun v' U4 H4 g4 hnew => ?_⟩
      obtain ⟨U5, g5, s5, dp5, keep⟩ := hnew.tell (g2.trans g4) fun b e => g2.free e
      have hd4 : H4 D = some (.lst ws) := g4.same _ _ hd2
      have u5D : U5 D = none := (keep D (some_ne hd2)).trans (g4.out (some_ne hd2) v0)
      refine ⟨_, _, _, rfl, rfl, hd4, ?_, ?_⟩
      · rw [dps_length hdp, List.length_map, List.length_take]
        exact small1000 (by omega)
      · refine ⟨_, _, U5, ws ++ [v'], rfl, g5.mut (.inr hD) u5D, u5D, upd_same, ?_⟩
        rw [List.take_succ, hr2, List.map_append]
        exact dps_append (dpsS (g4.v.trans s5) hdp) (.cons dp5 .nil)
    · rintro σ H2 ⟨v1, v2, U', ws, rfl, g, v0, hd, hdp⟩
      rw [hlen, List.take_length] at hdp
      exact ⟨_, rfl, k D ws _ _ (g.tell hD hd v0) hD upd_same (dpsS (fun b o e => by rw [upd_ne (ne_of_none e v0)]; exact e) hdp)⟩
end
end Lw

namespace Lw
open PySem PySem.Spec PyProof.Rows L2 VW TL
local macro_rules | `(tactic| walk_at "rdc") => `(tactic| first | assumption | rfl | decide | omega | exact Or.inr ⟨by decide, by decide⟩ | exact ⟨by decide, by decide⟩ | exact ⟨by decide, by decide, by decide⟩ | (show (0 : Int) < _; omega) | (show (0 : Int) < _ ∧ _ < (1073741824 : Int); omega) | (show (-(2 ^ 64) < _ ∧ _ < 2 ^ 64) ∨ (-(2 ^ 64) < _ ∧ _ < 2 ^ 64); omega) | (show (-(2 ^ 64) < _ ∧ _ < 2 ^ 64) ∨ (-(2 ^ 64) < _ ∧ _ < 2 ^ 64); right; split <;> decide) | exact Nat.le_of_ble_eq_true rfl)
local macro_rules | `(tactic| walk_at "rd1") => `(tactic| first | refine ⟨_, rfl, ?_⟩ | refine And.intro (by walk_at "rdc") ?_ | refine ⟨_, _, rfl, rfl, ?_⟩ | refine Or.inl ⟨_, rfl, ?_⟩ | refine Or.inr ⟨_, rfl, ?_⟩ | refine ⟨_, _, _, _, rfl, rfl, sqlO (by first | assumption | exact upd_same), rfl, ?_⟩ | refine ⟨_, _, _, _, rfl, rfl, (by first | assumption | exact upd_same), rfl, ?_⟩)
local macro_rules | `(tactic| walk_at "rd") => `(tactic| repeat (walk_at "rd1"))

section
variable {P : Program} {w : World} {K : PySem.W.Frag} {mg : Str → Option Value} {base : Heap} {W : Wd}
abbrev docF (l : Addr) : List (Str × V) := [("_rows", .ref l), ("facts", .non), ("group_facts", .non)]
theorem lk_rows (l : Addr) : List.lookup ("_rows" : Str) (docF l) = some (.ref l) := by simp [List.lookup]
theorem lk_no {m : Str} (l : Addr) (h : ¬ m = "_rows") (h2 : ¬ m = "facts") (h3 : ¬ m = "group_facts") : List.lookup m (docF l) = none := by
  have q : (m == ("_rows" : Str)) = false := by simpa using h
  have q2 : (m == ("facts" : Str)) = false := by simpa using h2
  have q3 : (m == ("group_facts" : Str)) = false := by simpa using h3
  simp [List.lookup, q, q2, q3]
/-- a document in the view -/
def DocAt (K : PySem.W.Frag) (C : Addr) (U : Hp) (x : Addr) (rs : List Row) : Prop := ∃ (dx l : Addr) (ws : List V), U x = some (.ins C dx (docF l)) ∧ U l = some (.lst ws) ∧ DpAll K U ws (rs.map Row.data)
theorem DocAt.mono {C : Addr} {U U' : Hp} {x : Addr} {rs : List Row} (s : Same U U') (h : DocAt K C U x rs) : DocAt K C U' x rs := by
  obtain ⟨dx, l, ws, h1, h2, h3⟩ := h
  exact ⟨dx, l, ws, s _ _ h1, s _ _ h2, dpsS s h3⟩
theorem sc_Doc___init__ : FnScope ["self", "rows"] ["self", "rows"] (defScope s_Doc___init__) := ⟨rfl, rfl, rfl, by decide +kernel, rfl, by decide +kernel, by decide +kernel⟩
def sp_init (K : PySem.W.Frag) (C : Addr) : Sp := fun vs H Q _ => ∃ (x dx a : Addr) (xs : List V) (rs : List Row) (U : Hp), vs = [.ref x, .ref a] ∧ H x = some (.ins C dx []) ∧ Same U H ∧ U x = none ∧ SqL K H a xs ∧ RowsIn K U H xs rs ∧ OkRows rs ∧ 0 < rs.length ∧ rs.length ≤ 200 ∧
  ∀ (l : Addr) (ws : List V) (U' H' : Hp), Gr (fun b => b = x) U H U' H' → U' x = none → U' l = some (.lst ws) → DpAll K U' ws (rs.map Row.data) → H' x = some (.ins C dx (docF l)) → Q .non H'
theorem d_Doc___init__ (T : Txt w K mg W) : MethOk P w K mg base W.c_Doc "__init__" "Doc.__init__" s_Doc___init__ ["self", "rows"] 5 (sp_init K W.c_Doc) := by
  refine T.f_Doc___init__.ok sc_Doc___init__ (fun vs H Q E h => ?_) (fun f cdv A outer s H vs Q E hr h => ?_)
  · obtain ⟨x, dx, a, xs, rs, U, rfl, _⟩ := h
    rfl
  · obtain ⟨x, dx, a, xs, rs, U, rfl, hx, s1, ux, ha, hin, hok, h0, h200, k⟩ := h
    refine ⟨_, (pss_cons (ps_fld (pv 0) (pe_callD (d__checked_rows T) (hr.mono (by decide)) (pa_cons (pv 1) pa_nil)) rfl)
      (pss_cons (ps_fld (pv 0) pe_non rfl)
      (pss_one (ps_fld (pv 0) pe_non rfl)))), ?_⟩
    refine ⟨_, rfl, a, xs, rs, U, rfl, s1, ha, hin, hok, h0, h200, fun D ws U' H1 g hD hl hdp => ?_⟩
    have hx1 := g.same _ _ hx
    have ux1 : U' x = none := g.out (some_ne hx) ux
    refine ⟨_, rfl, x, W.c_Doc, dx, [], rfl, hx1, T.cl_Doc, T.na_Doc__rows, by decide, ?_⟩
    have g5 := (g.of0 (S := fun b => b = x)).mut (o := .ins W.c_Doc dx [("_rows", .ref D)]) (.inl rfl) ux1
    refine ⟨_, rfl, x, W.c_Doc, dx, _, rfl, upd_same, T.cl_Doc, T.na_Doc_facts, Nat.lt_of_lt_of_le (Nat.lt_succ_self 1) (by decide), ?_⟩
    have g6 := g5.mut (o := .ins W.c_Doc dx [("_rows", .ref D), ("facts", .non)]) (.inl rfl) ux1
    refine ⟨_, rfl, x, W.c_Doc, dx, _, rfl, upd_same, T.cl_Doc, T.na_Doc_group_facts, Nat.lt_of_lt_of_le (Nat.lt_succ_self 2) (by decide), ?_⟩
    exact k D ws _ _ (g6.mut (.inl rfl) ux1) ux1 hl hdp upd_same
end
end Lw

namespace Lw
open PySem PySem.Spec PyProof.Rows L2 VW TL
local macro_rules | `(tactic| walk_at "rdc") => `(tactic| first | assumption | rfl | decide | omega | exact Or.inr ⟨by decide, by decide⟩ | exact ⟨by decide, by decide⟩ | exact ⟨by decide, by decide, by decide⟩ | (show (0 : Int) < _; omega) | (show (0 : Int) < _ ∧ _ < (1073741824 : Int); omega) | (show (-(2 ^ 64) < _ ∧ _ < 2 ^ 64) ∨ (-(2 ^ 64) < _ ∧ _ < 2 ^ 64); omega) | (show (-(2 ^ 64) < _ ∧ _ < 2 ^ 64) ∨ (-(2 ^ 64) < _ ∧ _ < 2 ^ 64); right; split <;> decide) | exact Nat.le_of_ble_eq_true rfl)
local macro_rules | `(tactic| walk_at "rd1") => `(tactic| first | refine ⟨_, rfl, ?_⟩ | refine And.intro (by walk_at "rdc") ?_ | refine ⟨_, _, rfl, rfl, ?_⟩ | refine Or.inl ⟨_, rfl, ?_⟩ | refine Or.inr ⟨_, rfl, ?_⟩ | refine ⟨_, _, _, _, rfl, rfl, sqlO (by first | assumption | exact upd_same), rfl, ?_⟩ | refine ⟨_, _, _, _, rfl, rfl, (by first | assumption | exact upd_same), rfl, ?_⟩)
local macro_rules | `(tactic| walk_at "rd") => `(tactic| repeat (walk_at "rd1"))

section
variable {P : Program} {w : World} {K : PySem.W.Frag} {mg : Str → Option Value} {base : Heap} {W : Wd}
theorem RowNew.mono {U H H' U2 H2 : Hp} {v : V} {r : Row} (h : RowNew K U H H' v r) (g : Gr S0 U H' U2 H2) : RowNew K U2 H H2 v r := by
  cases r with
  | cat ps =>
    obtain ⟨q, l, rfl, h1, h2, h3, h4⟩ := h
    exact ⟨q, l, rfl, g.v _ _ h1, g.out (some_ne h4) h2, h3, g.same _ _ h4⟩
  | _ => exact dpS g.v h
def RowsNew (K : PySem.W.Frag) (U H H' : Hp) (vs : List V) (rs : List Row) : Prop := vs.length = rs.length ∧ ∀ (i : Nat) (v : V) (r : Row), vs[i]? = some v → rs[i]? = some r → RowNew K U H H' v r
theorem RowNew.put {U H H' : Hp} {v : V} {r : Row} {D : Addr} {o : HO} (h : RowNew K U H H' v r) (hD : H D ≠ none) : RowNew K U H (upd H' D o) v r := by
  cases r with
  | cat ps =>
    obtain ⟨q, l, rfl, h1, h2, h3, h4⟩ := h
    have hne : l ≠ D := fun e => hD (by rw [← e]; exact h3)
    exact ⟨q, l, rfl, h1, h2, h3, by rw [upd_ne hne]; exact h4⟩
  | _ => exact h
theorem RowNew.lower {U H Hd H' : Hp} {v : V} {r : Row} (h : RowNew K U Hd H' v r) (hb : ∀ b, Hd b = none → H b = none) : RowNew K U H H' v r := by
  cases r with
  | cat ps =>
    obtain ⟨q, l, rfl, h1, h2, h3, h4⟩ := h
    exact ⟨q, l, rfl, h1, h2, hb l h3, h4⟩
  | _ => exact h
theorem upd_none {H : Hp} {D b : Addr} {o : HO} (h : upd H D o b = none) : H b = none := by
  by_cases e : b = D
  · rw [e, upd_same] at h
    cases h
  · rw [upd_ne e] at h
    exact h
theorem sc_Doc_row_list : FnScope ["self", "row"] ["self"] (defScope s_Doc_row_list) := ⟨rfl, rfl, rfl, by decide +kernel, rfl, by decide +kernel, by decide +kernel⟩
def sp_rowlist (K : PySem.W.Frag) (C : Addr) : Sp := fun vs H Q _ => ∃ (x : Addr) (rs : List Row) (U : Hp), vs = [.ref x] ∧ Same U H ∧ DocAt K C U x rs ∧ rs.length ≤ 200 ∧
  ∀ (p : Addr) (ws : List V) (U' H' Hb : Hp), Gr S0 U H U' H' → H p = none → U' p = none → H' p = some (.lst ws) → (∀ b, Hb b = none → H b = none) → Hb p ≠ none → RowsNew K U' Hb H' ws rs → Q (.ref p) H'
theorem d_Doc_row_list (T : Txt w K mg W) : MethOk P w K mg base W.c_Doc "row_list" "Doc.row_list" s_Doc_row_list ["self"] 2 (sp_rowlist K W.c_Doc) := by
  refine T.f_Doc_row_list.ok sc_Doc_row_list (fun vs H Q E h => ?_) (fun f cdv A outer s H vs Q E hr h => ?_)
  · obtain ⟨x, rs, U, rfl, _⟩ := h
    rfl
  · obtain ⟨x, rs, U, rfl, s1, ⟨dx, l, ws, hx, hl, hd⟩, h200, k⟩ := h
    have hlen : ws.length = rs.length := by rw [dps_length hd, List.length_map]
    refine ⟨_, (pss_one (ps_ret (pe_lc (own := [("row", 1)]) (g := (gName 1)) (tt := tYes) rfl sc_Doc_row_list.nd (pi_list (pe_fld (pv 0) rfl)) (blkOk_by (own := [("row", 1)]) (N := ["self", "row"]) (sc := defScope s_Doc_row_list) (by decide +kernel)) (fun _ _ _ _ _ => (pg_name (i := 1) sc_Doc_row_list.nd rfl (Or.inl rfl))) (fun _ _ _ _ _ => pts_nil) (fun _ _ _ _ _ => (pe_callD (d_copied_row T) (hr.mono (by decide)) (pa_cons (pv 1) pa_nil)))))), ?_⟩
    refine ⟨_, rfl, x, W.c_Doc, dx, _, _, rfl, s1 _ _ hx, T.cl_Doc, T.na_Doc__rows, lk_rows _, l, rfl, ⟨_, sqlO (s1 _ _ hl)⟩, fun D hD => ?_⟩
    have hDn : (upd H D (.lst [])) D ≠ none := some_ne upd_same
    refine lc_list (xs := ws) (fun i H' => ∃ (U' : Hp) (vs : List V), Gr (fun b => b = D) U (upd H D (.lst [])) U' H' ∧ U' D = none ∧ H' D = some (.lst vs) ∧ RowsNew K U' (upd H D (.lst [])) H' vs (rs.take i)) ?_ (fun i H' _ ⟨U', vs, g, _⟩ => sqlO (g.s _ _ (g.v _ _ hl))) ?_ ?_
    · exact ⟨U, [], Gr.refl ((Gr.refl (S := S0) s1).newH hD).s, vfree s1 hD, upd_same, rfl, fun i v r e => by simp at e⟩
    · rintro i v H2 hv ⟨U', vs, g, v0, hdD, hn⟩
      have hi : i < rs.length := by rw [← hlen]; exact (List.getElem?_eq_some_iff.mp hv).1
      have hr2 : rs[i]? = some rs[i] := List.getElem?_eq_getElem hi
      obtain ⟨d, e1, e2⟩ := dps_get hd hv
      rw [List.getElem?_map, hr2] at e1
      cases e1
      refine ⟨rfl, ?_⟩
      refine ⟨_, rfl, v, rs[i], U', rfl, g.s, .of g.s (dpS g.v e2), fun v' U3 H3 g3 hnew => ?_⟩
      have hd3 : H3 D = some (.lst vs) := g3.same _ _ hdD
      have u3D : U3 D = none := g3.out (some_ne hdD) v0
      have vl : vs.length = i := by rw [hn.1, List.length_take]; omega
      refine ⟨vs, hd3, by rw [vl]; exact small1000 (by omega), U3, vs ++ [v'], (g.trans g3.of0).mut (.inl rfl) u3D, u3D, upd_same, ?_, fun j z r e1 e2 => ?_⟩
      · rw [List.length_append, List.length_take, vl, List.length_singleton]
        omega
      · by_cases hj : j < i
        · rw [List.getElem?_append_left (by omega)] at e1
          rw [List.getElem?_take_of_lt (by omega)] at e2
          exact RowNew.put (RowNew.mono (hn.2 j z r e1 (by rw [List.getElem?_take_of_lt hj]; exact e2)) g3) hDn
        · have ej : j = i := by
            have := (List.getElem?_eq_some_iff.mp e1).1
            rw [List.length_append, List.length_singleton, vl] at this
            omega
          subst ej
          rw [List.getElem?_append_right (by omega), vl, Nat.sub_self] at e1
          rw [List.getElem?_take_of_lt (by omega), hr2] at e2
          cases e1
          cases e2
          exact RowNew.put (RowNew.lower hnew fun b hb => g.free hb) hDn
    · rintro H2 ⟨U', vs, g, v0, hdD, hn⟩
      rw [hlen, List.take_length] at hn
      exact k D vs U' H2 _ (g.under hD) hD v0 hdD (fun b hb => upd_none hb) hDn hn
end
end Lw

namespace Lw
open PySem PySem.Spec PyProof.Rows L2 VW TL
local macro_rules | `(tactic| walk_at "rdc") => `(tactic| first | assumption | rfl | decide | omega | exact Or.inr ⟨by decide, by decide⟩ | exact ⟨by decide, by decide⟩ | exact ⟨by decide, by decide, by decide⟩ | (show (0 : Int) < _; omega) | (show (0 : Int) < _ ∧ _ < (1073741824 : Int); omega) | (show (-(2 ^ 64) < _ ∧ _ < 2 ^ 64) ∨ (-(2 ^ 64) < _ ∧ _ < 2 ^ 64); omega) | (show (-(2 ^ 64) < _ ∧ _ < 2 ^ 64) ∨ (-(2 ^ 64) < _ ∧ _ < 2 ^ 64); right; split <;> decide) | exact Nat.le_of_ble_eq_true rfl)
local macro_rules | `(tactic| walk_at "rd1") => `(tactic| first | refine ⟨_, rfl, ?_⟩ | refine And.intro (by walk_at "rdc") ?_ | refine ⟨_, _, rfl, rfl, ?_⟩ | refine Or.inl ⟨_, rfl, ?_⟩ | refine Or.inr ⟨_, rfl, ?_⟩ | refine ⟨_, _, _, _, rfl, rfl, sqlO (by first | assumption | exact upd_same), rfl, ?_⟩ | refine ⟨_, _, _, _, rfl, rfl, (by first | assumption | exact upd_same), rfl, ?_⟩)
local macro_rules | `(tactic| walk_at "rd") => `(tactic| repeat (walk_at "rd1"))

section
variable {P : Program} {w : World} {K : PySem.W.Frag} {mg : Str → Option Value} {base : Heap} {W : Wd}
/-! ### rows as data -/
abbrev dat (rs : List Row) : PyData := .list (rs.map Row.data)
theorem strOk_good {n : Nat} {z : Str} (h : GoodS n z) : PyData.strOk z = true := by
  unfold PyData.strOk
  rw [Array.all_eq_true]
  intro i hi
  have := h.2 z.cps[i] (Array.mem_toList_iff.mpr (Array.getElem_mem hi))
  exact decide_eq_true (by omega)
theorem ints_lay (ns : List Int) : PyData.canLayAll0 (ns.map PyData.int) = true ∧ PyData.depthAll (ns.map PyData.int) = 0 := by
  induction ns with
  | nil => exact ⟨rfl, rfl⟩
  | cons n ns ih =>
    refine ⟨?_, ?_⟩
    · show (true && PyData.canLayAll0 (ns.map PyData.int)) = true
      rw [ih.1]
      rfl
    · show max 0 (PyData.depthAll (ns.map PyData.int)) = 0
      rw [ih.2]
      rfl
theorem row_lay {k : Nat} {r : Row} (h : r.ok k) : r.data.canLay0 = true ∧ r.data.depth ≤ 2 := by
  cases r with
  | text z =>
    refine ⟨?_, by show max 0 (max 0 0) + 1 ≤ 2; decide⟩
    show (PyData.strOk _ && (PyData.strOk z && true)) = true
    rw [strOk_good h]
    decide +kernel
  | line z =>
    refine ⟨?_, by show max 0 (max 0 0) + 1 ≤ 2; decide⟩
    show (PyData.strOk _ && (PyData.strOk z && true)) = true
    rw [strOk_good h]
    decide +kernel
  | hard => exact ⟨by decide +kernel, by show max 0 0 + 1 ≤ 2; decide⟩
  | cat ps =>
    refine ⟨?_, ?_⟩
    · show (PyData.strOk _ && (PyData.canLayAll0 (ps.map PyData.int) && true)) = true
      rw [(ints_lay ps).1]
      decide +kernel
    · show max 0 (max (PyData.depthAll (ps.map PyData.int) + 1) 0) + 1 ≤ 2
      rw [(ints_lay ps).2]
      decide
  | nest n j => exact ⟨by show (PyData.strOk _ && (true && (true && true))) = true; decide +kernel, by show max 0 (max 0 (max 0 0)) + 1 ≤ 2; decide⟩
  | align j => exact ⟨by show (PyData.strOk _ && (true && true)) = true; decide +kernel, by show max 0 (max 0 0) + 1 ≤ 2; decide⟩
  | group j => exact ⟨by show (PyData.strOk _ && (true && true)) = true; decide +kernel, by show max 0 (max 0 0) + 1 ≤ 2; decide⟩
theorem rows_lay {rs : List Row} (h : ∀ r ∈ rs, ∃ k, r.ok k) : PyData.canLayAll0 (rs.map Row.data) = true ∧ PyData.depthAll (rs.map Row.data) ≤ 2 := by
  induction rs with
  | nil => exact ⟨rfl, Nat.zero_le _⟩
  | cons r rs ih =>
    obtain ⟨k, hk⟩ := h r List.mem_cons_self
    have q := ih fun r h' => h r (List.mem_cons_of_mem _ h')
    obtain ⟨a, b⟩ := row_lay hk
    refine ⟨?_, ?_⟩
    · show (r.data.canLay0 && PyData.canLayAll0 (rs.map Row.data)) = true
      rw [a, q.1]
      rfl
    · show max r.data.depth (PyData.depthAll (rs.map Row.data)) ≤ 2
      omega
theorem OkRows.mem {rs : List Row} (h : OkRows rs) : ∀ r ∈ rs, ∃ k, r.ok k := fun r hr => by
  obtain ⟨i, hi⟩ := List.mem_iff_getElem?.mp hr
  exact ⟨i, h i r hi⟩
theorem shaped_rows {rs : List Row} (h : OkRows rs) : SeqAt.shaped (dat rs) = true := by
  obtain ⟨a, b⟩ := rows_lay h.mem
  unfold SeqAt.shaped
  rw [Bool.and_eq_true]
  refine ⟨a, decide_eq_true ?_⟩
  show PyData.depthAll (rs.map Row.data) + 1 ≤ 64
  omega
theorem eqv_rows {rs : List Row} (h : OkRows rs) : PyData.eqv (dat rs) (dat rs) = true := SeqAt.eqv_refl _ (rows_lay h.mem).1
theorem eqvAll_len : ∀ {xs ys : List PyData}, xs.length ≠ ys.length → PyData.eqvAll xs ys = false
  | [], [], h => absurd rfl h
  | [], _ :: _, _ => by simp [PyData.eqvAll]
  | _ :: _, [], _ => by simp [PyData.eqvAll]
  | x :: xs, y :: ys, h => by
    simp only [PyData.eqvAll]
    rw [eqvAll_len (xs := xs) (ys := ys) (by simpa using h), Bool.and_false]
theorem eqv_len {rs qs : List Row} (h : rs.length ≠ qs.length) : PyData.eqv (dat rs) (dat qs) = false := by
  show PyData.eqv (.list _) (.list _) = false
  simp only [PyData.eqv]
  exact eqvAll_len (by rw [List.length_map, List.length_map]; exact h)
/-! ### == -/
def sp_eq (K : PySem.W.Frag) (C : Addr) : Sp := fun vs H Q _ => ∃ (x : Addr) (y : V) (rs : List Row) (U : Hp), vs = [.ref x, y] ∧ Same U H ∧ DocAt K C U x rs ∧ OkRows rs ∧
  ((∃ y' qs, y = .ref y' ∧ DocAt K C U y' qs ∧ OkRows qs ∧ Q (.bl (PyData.eqv (dat rs) (dat qs))) H) ∨ (((∃ i, y = .int i) ∨ y = .non ∨ ∃ a xs, y = .ref a ∧ SqL K H a xs) ∧ Q (.bl false) H))
theorem sc_Doc___eq__ : FnScope ["self", "other"] ["self", "other"] (defScope s_Doc___eq__) := ⟨rfl, rfl, rfl, by decide +kernel, rfl, by decide +kernel, by decide +kernel⟩
theorem d_Doc___eq__ (T : Txt w K mg W) : MethOk P w K mg base W.c_Doc "__eq__" "Doc.__eq__" s_Doc___eq__ ["self", "other"] 1 (sp_eq K W.c_Doc) := by
  refine T.f_Doc___eq__.ok sc_Doc___eq__ (fun vs H Q E h => ?_) (fun f cdv A outer s H vs Q E hr h => ?_)
  · obtain ⟨x, y, rs, U, rfl, _⟩ := h
    rfl
  · obtain ⟨x, y, rs, U, rfl, s1, ⟨dx, l, ws, hx, hl, hd⟩, hok, k⟩ := h
    refine ⟨_, (pss_one (ps_ret (pe_and (pe_callB (id := "isinstance") call_isi (by rfl) T.n_isinstance (by decide +kernel) (pa_cons (pv 1) (pa_cons (pe_glob (v := .ref W.c_Doc) (by rfl) T.c_Doc rfl) pa_nil))) (pe_one (pe_cmpR (op_eqD hr.units) (pe_fld (pv 0) rfl) (pe_fld (pv 1) rfl) (nomark _)))))), ?_⟩
    rcases k with ⟨y', qs, rfl, ⟨dy, m, us, hy, hm, he⟩, hok', k⟩ | ⟨k1, k⟩
    · refine ⟨_, rfl, _, _, _, _, true, rfl, .own W.c_Doc, .base (.ins (s1 _ _ hy) T.cl_Doc T.i_Doc.ha T.i_Doc.hn T.i_Doc.htk T.i_Doc.hm), T.i_Doc.self_, ?_⟩
      refine ⟨true, rfl, iteT ?_⟩
      refine ⟨_, rfl, x, W.c_Doc, dx, _, _, rfl, s1 _ _ hx, T.cl_Doc, T.na_Doc__rows, lk_rows _, _, rfl, y', W.c_Doc, dy, _, _, rfl, s1 _ _ hy, T.cl_Doc, T.na_Doc__rows, lk_rows _, ?_⟩
      exact ⟨dat rs, dat qs, dp_lst (s1 _ _ hl) (dpsS s1 hd), dp_lst (s1 _ _ hm) (dpsS s1 he), shaped_rows hok, shaped_rows hok', k⟩
    · have fin : ∀ (y : V) (t : String), TyX K H y (.type t) → PySem.W.kitOne K (.type t) (.ref W.c_Doc) = some false → y = y → True := fun _ _ _ _ _ => True.intro
      rcases k1 with ⟨i, rfl⟩ | rfl | ⟨a, xs, rfl, ha⟩
      · exact ⟨_, rfl, _, _, _, _, false, rfl, .own W.c_Doc, .base (.int i), T.i_Doc.int_, false, rfl, iteF k⟩
      · exact ⟨_, rfl, _, _, _, _, false, rfl, .own W.c_Doc, .base .non, T.i_Doc.non_, false, rfl, iteF k⟩
      · exact ⟨_, rfl, _, _, _, _, false, rfl, .own W.c_Doc, tyL ha, T.i_Doc.lst_, false, rfl, iteF k⟩
/-! ### a document is made -/
theorem Gr.made {S : Addr → Prop} {U H U' H' : Hp} {x dx C : Addr} {fs : List (Str × V)} (s1 : Same U H) (hx : H x = none) (hd : H dx = none) (hne : dx ≠ x) (g : Gr (fun b => b = x) U (upd (upd H dx (.own x)) x (.ins C dx [])) U' H') (ux : U' x = none)
    (e : H' x = some (.ins C dx fs)) : Gr S U H (upd U' x (.ins C dx fs)) H' := by
  refine ⟨fun b o q => ?_, fun b o q => ?_, fun b o _ q => ?_, fun b q => ?_⟩
  · rw [upd_ne (ne_of_none (s1 b o q) hx)]
    exact g.v b o q
  · by_cases hb : b = x
    · rw [hb, upd_same] at q
      rw [hb, e]
      exact q
    · rw [upd_ne hb] at q
      exact g.s b o q
  · have h1 := ne_of_none q hx
    have h2 := ne_of_none q hd
    exact g.k b o h1 (by rw [upd_ne h1, upd_ne h2]; exact q)
  · have h1 : b ≠ x := fun z => q (by rw [z]; exact hx)
    have h2 : b ≠ dx := fun z => q (by rw [z]; exact hd)
    have := g.n b (by rw [upd_ne h1, upd_ne h2]; exact q)
    exact ⟨this.1, by rw [upd_ne h1]; exact this.2⟩
/-- what Doc(rows) asks and tells -/
theorem made_doc {C x dx : Addr} {H U : Hp} {a : Addr} {xs : List V} {rs : List Row} {Q : VK} {E : XK} (hx : H x = none) (hd : H dx = none) (hne : dx ≠ x) (s1 : Same U H) (ha : SqL K H a xs) (hin : RowsIn K U H xs rs) (hok : OkRows rs) (h0 : 0 < rs.length) (h200 : rs.length ≤ 200)
    (k : ∀ (U' H' : Hp), Gr S0 U H U' H' → DocAt K C U' x rs → Q .non H') : sp_init K C [.ref x, .ref a] (upd (upd H dx (.own x)) x (.ins C dx [])) Q E := by
  have sm : Same H (upd (upd H dx (.own x)) x (.ins C dx [])) := fun b o e => by
    rw [upd_ne (ne_of_none e hx), upd_ne (ne_of_none e hd)]
    exact e
  refine ⟨x, dx, a, xs, rs, U, rfl, upd_same, s1.trans sm, vfree s1 hx, sqlS sm ha, hin.mono (Same.refl _) sm, hok, h0, h200, fun l ws U' H' g ux hl hdp e => ?_⟩
  have g' := Gr.made (S := S0) s1 hx hd hne g ux e
  have nlx : l ≠ x := fun z => by
    rw [z, ux] at hl
    cases hl
  refine k _ H' g' ⟨dx, l, ws, upd_same, by rw [upd_ne nlx]; exact hl, dpsS (fun b o e => ?_) hdp⟩
  have hb : b ≠ x := fun z => by
    rw [z, ux] at e
    cases e
  rw [upd_ne hb]
  exact e
section
variable {X : Cx}
theorem mk_Doc {W : Wd} {e : Expr} {t : TA} {p pos : Pos} (T : Txt X.w X.K X.mg W) (hr : Room 6 X.A) (ha : PA X [e] t) (hg : Gl X "Doc" := by rfl)
    (he : starEach [e] X.env = (false, eval e X.env) :: starEach [] X.env := by rfl) (hpl : (backTo pos (starEach [] X.env)).any (·.1) = false := by rfl) :
    PE X (.Call (.Name "Doc" p) [e] [] pos) (tMake W.c_Doc (sp_init X.K W.c_Doc) [] E0 t) :=
  pe_makeD (d_Doc___init__ T) T.mk_Doc T.c_Doc hr ha hg (by decide) he hpl
theorem mk_DocK {K : PySem.W.Frag} {W : Wd} {e : Expr} {t : TA} {p pos : Pos} (T : Txt X.w K X.mg W) (hr : Room 6 X.A) (ha : PA X [e] t) (hK : X.K = K := by rfl) (hg : Gl X "Doc" := by rfl)
    (he : starEach [e] X.env = (false, eval e X.env) :: starEach [] X.env := by rfl) (hpl : (backTo pos (starEach [] X.env)).any (·.1) = false := by rfl) :
    PE X (.Call (.Name "Doc" p) [e] [] pos) (tMake W.c_Doc (sp_init K W.c_Doc) [] E0 t) := by
  subst hK
  exact mk_Doc T hr ha hg he hpl
theorem mk_Doc_kw {W : Wd} {e : Expr} {tk : TA} {p pos q : Pos} (T : Txt X.w X.K X.mg W) (hr : Room 6 X.A) (ha : PK X [⟨some "rows", e, q⟩] tk) (hg : Gl X "Doc" := by rfl)
    (hall : (backToKw pos (keywordEach [⟨some "rows", e, q⟩] X.env)).all (·.1.isSome) = true := by rfl) (hks : (backToKw pos (keywordEach [⟨some "rows", e, q⟩] X.env)).filterMap (·.1) = (["rows"] : List Str) := by rfl)
    (hpl : ((backTo pos (starEach [] X.env)).any (·.1) || (backToKw pos (keywordEach [⟨some "rows", e, q⟩] X.env)).any (·.1.isNone)) = false := by rfl) :
    PE X (.Call (.Name "Doc" p) [] [⟨some "rows", e, q⟩] pos) (tMakeK W.c_Doc 0 1 (sp_init X.K W.c_Doc) (fun vs zs => vs ++ zs) E0 tNil tk) :=
  pe_makeD_kw (ks := ["rows"]) (d_Doc___init__ T) T.mk_Doc T.c_Doc hr (fun _ _ _ _ _ _ us ws h1 h2 => match us, ws, h1, h2 with | [_], [_], _, _ => rfl) ha hg hall hks (by decide) hpl
theorem call_Doc_row_list {W : Wd} {o : Expr} {ta : TE} {apos pos : Pos} {pl : Sem Bool} (T : Txt X.w X.K X.mg W) (hr : Room 2 X.A) (he : PE X o ta)
    (ht : eval (.Call (.Attribute o "row_list" apos) [] [] pos) X.env = (do
      let ov ← eval o X.env
      standAt apos.atName
      let (f, first) ← holding [ov] (getMethod ov "row_list" pl)
      callWith pos f first (backTo pos (starEach [] X.env)) (backToKw pos (keywordEach [] X.env))) := by rfl) :
    PE X (.Call (.Attribute o "row_list" apos) [] [] pos) (tMeth W.c_Doc "row_list" (sp_rowlist X.K W.c_Doc) [] E0 ta tNil) :=
  pe_methD0 (d_Doc_row_list T) T.cl_Doc hr he ht
end
end
end Lw

namespace Lw
open PySem PySem.Spec PyProof.Rows L2 VW TL
local macro_rules | `(tactic| walk_at "rdc") => `(tactic| first | assumption | rfl | decide | omega | exact Or.inr ⟨by decide, by decide⟩ | exact ⟨by decide, by decide⟩ | exact ⟨by decide, by decide, by decide⟩ | (show (0 : Int) < _; omega) | (show (0 : Int) < _ ∧ _ < (1073741824 : Int); omega) | (show (-(2 ^ 64) < _ ∧ _ < 2 ^ 64) ∨ (-(2 ^ 64) < _ ∧ _ < 2 ^ 64); omega) | (show (-(2 ^ 64) < _ ∧ _ < 2 ^ 64) ∨ (-(2 ^ 64) < _ ∧ _ < 2 ^ 64); right; split <;> decide) | exact Nat.le_of_ble_eq_true rfl)
local macro_rules | `(tactic| walk_at "rd1") => `(tactic| first | refine ⟨_, rfl, ?_⟩ | refine And.intro (by walk_at "rdc") ?_ | refine ⟨_, _, rfl, rfl, ?_⟩ | refine Or.inl ⟨_, rfl, ?_⟩ | refine Or.inr ⟨_, rfl, ?_⟩ | refine ⟨_, _, _, _, rfl, rfl, sqlO (by first | assumption | exact upd_same), rfl, ?_⟩ | refine ⟨_, _, _, _, rfl, rfl, (by first | assumption | exact upd_same), rfl, ?_⟩)
local macro_rules | `(tactic| walk_at "rd") => `(tactic| repeat (walk_at "rd1"))

section
variable {P : Program} {w : World} {K : PySem.W.Frag} {mg : Str → Option Value} {base : Heap} {W : Wd}
theorem sc__common_signs : FnScope ["word", "line", "many"] ["word", "line"] (defScope s__common_signs) := ⟨rfl, rfl, rfl, by decide +kernel, rfl, by decide +kernel, by decide +kernel⟩
def sp_comm : Sp := fun vs H Q _ => ∃ (w l : Str), vs = [.str w, .str l] ∧ w.length ≤ sizeLine ∧ l.length ≤ sizeLine ∧ Q (.int (comm (cl w) (cl l))) H
theorem d__common_signs (T : Txt w K mg W) : DefOk P w K mg base "_common_signs" s__common_signs ["word", "line"] 1 sp_comm := by
  refine T.f__common_signs.ok sc__common_signs (fun vs H Q E h => ?_) (fun f cdv A outer s H vs Q E hr h => ?_)
  · obtain ⟨w, l, rfl, _⟩ := h
    rfl
  · obtain ⟨w, l, rfl, hw, hl, k⟩ := h
    refine ⟨_, (pss_cons (ps_set (i := 2) sc__common_signs.nd rfl (Or.inl rfl) pe_int)
      (pss_cons (ps_while PassesOwn.never (PW.pt (pw_and (pt_cmpR op_lt (pv 2) (pe_callB (id := "len") call_len (by rfl) T.n_len (by decide +kernel) (pa_cons (pv 0) pa_nil)) (nomark _)) (pw_and1 (pt_cmpR op_eq (pe_slice sl_str (pv 1) (po_some (pv 2)) (po_some (pe_op op_add (pv 2) pe_int))) (pe_ix ix_str (pv 0) (pv 2) (fun _ _ => rfl)) (nomark _))))) (pss_one (ps_aug (i := 2) sc__common_signs.nd rfl (Or.inl rfl) pe_int ip_add)))
      (pss_one (ps_ret (pv 2))))), ?_⟩
    refine ⟨fun n σ H' => ∃ m : Nat, σ = [some (.str w), some (.str l), some (.int m)] ∧ H' = H ∧ m ≤ w.length ∧ n = w.length - m ∧ comm ((cl w).drop m) ((cl l).drop m) + m = comm (cl w) (cl l), ⟨_, 0, rfl, rfl, Nat.zero_le _, rfl, by simp⟩, ?_⟩
    rintro n σ H' ⟨m, rfl, rfl, hm, rfl, e⟩
    have out : (cl w)[m]? = none ∨ (cl w)[m]? ≠ (cl l)[m]? → Q (.int m) H' := fun h => by
      rw [comm_stop h, Nat.zero_add] at e
      rw [e]
      exact k
    refine ⟨_, rfl, _, rfl, _, _, rfl, ⟨hw, rfl⟩, _, _, rfl, rfl, _, rfl, ?_⟩
    refine ite2 (fun h1 => ?_) (fun h1 => ?_)
    · have h1 : m < w.length := by have := of_decide_eq_true h1; omega
      obtain ⟨c, c1, c2⟩ := at_sign h1
      refine ⟨_, rfl, _, rfl, _, rfl, _, rfl, _, _, rfl, rfl, _, rfl, l, rfl, hl, ?_⟩
      refine ⟨_, rfl, _, rfl, _, _, c, rfl, rfl, hw, c2, ?_⟩
      refine ⟨rfl, _, rfl, ?_⟩
      rw [cut_eq]
      refine ite2 (fun h2 => ?_) (fun h2 => ?_)
      · have h2 := of_decide_eq_true h2
        refine ⟨fun σ' H2 => σ' = [some (.str w), some (.str l), some (.int ((m : Int) + 1))] ∧ H2 = H', fun σ' H2 ⟨e1, e2⟩ => ⟨w.length - (m + 1), by omega, m + 1, e1, e2, h1, rfl, ?_⟩, ?_⟩
        · rw [comm_go c1 h2] at e
          omega
        · exact ⟨_, rfl, _, _, rfl, rfl, rfl, rfl⟩
      · exact ⟨_, rfl, out (.inr fun z => h2 (decide_eq_true (z.symm.trans c1)))⟩
    · exact ⟨_, rfl, out (.inl (List.getElem?_eq_none_iff.mpr (by rw [cl_len]; exact Nat.le_of_not_lt fun z => h1 (decide_eq_true (Int.ofNat_lt.mpr z)))))⟩
theorem sc__read_number : FnScope ["line", "sign", "end", "number", "longer"] ["line", "sign", "end"] (defScope s__read_number) := ⟨rfl, rfl, rfl, by decide +kernel, rfl, by decide +kernel, by decide +kernel⟩
/-- a number, or None, and how far it was read: a new pair -/
def sp_rdnum : Sp := fun vs H Q _ => ∃ (l : Str) (s e : Nat), vs = [.str l, .int s, .int e] ∧ l.length ≤ sizeLine ∧ e ≤ 1000 ∧
  ∀ p, H p = none → Q (.ref p) (upd H p (.tup [optI (rdNum (cl l) s e).1, .int (rdNum (cl l) s e).2]))
theorem d__read_number (T : Txt w K mg W) : DefOk P w K mg base "_read_number" s__read_number ["line", "sign", "end"] 1 sp_rdnum := by
  refine T.f__read_number.ok sc__read_number (fun vs H Q E h => ?_) (fun f cdv A outer s H vs Q E hr h => ?_)
  · obtain ⟨l, s, e, rfl, _⟩ := h
    rfl
  · obtain ⟨l, s, e, rfl, hl, he, k⟩ := h
    refine ⟨_, (pss_cons (ps_if (PW.pt (pw_or (pt_cmpR op_eq (pv 2) pe_int (nomark _)) (pw_or1 (pt_cmpR op_ne (pe_slice sl_str (pv 0) (po_some (pv 1)) (po_some (pe_op op_add (pv 1) pe_int))) pe_str (nomark _))))) (pss_one (ps_ret (pe_tup (pa_cons pe_non (pa_cons (pv 1) pa_nil))))) pss_nil)
      (pss_cons (ps_aug (i := 1) sc__read_number.nd rfl (Or.inl rfl) pe_int ip_add)
      (pss_cons (ps_set (i := 3) sc__read_number.nd rfl (Or.inl rfl) pe_non)
      (pss_cons (ps_while PassesOwn.never (PW.pt (pw_and (pt_cmpR op_lt (pv 1) (pe_callB (id := "len") call_len (by rfl) T.n_len (by decide +kernel) (pa_cons (pv 0) pa_nil)) (nomark _)) (pw_and1 (pt_chain op_le_str op_le_str pe_str (pe_ix ix_str (pv 0) (pv 1) (fun _ _ => rfl)) pe_str)))) (Evl.pss_cut (ps_set (i := 4) sc__read_number.nd rfl (Or.inl rfl) (pe_op op_add (pe_op op_mul (pe_orT (pv 3) (pe_one pe_int)) pe_int) (pe_callTy (T := "int") call_int_str (by rfl) T.n_int (by decide +kernel) (pa_cons (pe_ix ix_str (pv 0) (pv 1) (fun _ _ => rfl)) pa_nil))))
      (pss_cons (ps_if (PW.pt (pw_or (pt_cmpR op_eq (pv 3) pe_int (nomark _)) (pw_or1 (pt_cmpR op_ge (pv 4) (pv 2) (nomark _))))) (pss_one ps_break) pss_nil)
      (pss_cons (ps_set (i := 3) sc__read_number.nd rfl (Or.inl rfl) (pv 4))
      (pss_one (ps_aug (i := 1) sc__read_number.nd rfl (Or.inl rfl) pe_int ip_add))))))
      (pss_one (ps_ret (pe_tup (pa_cons (pv 3) (pa_cons (pv 1) pa_nil))))))))), ?_⟩
    refine ⟨_, rfl, rfl, _, rfl, ?_⟩
    refine ite2 (fun h0 => ?_) (fun h0 => ?_)
    · have h0 : e = 0 := by have := V.int.inj (of_decide_eq_true h0); omega
      refine iteT ⟨_, rfl, Nat.le_of_ble_eq_true rfl, fun p hp => ?_⟩
      have := k p hp
      unfold rdNum at this
      rw [if_pos (.inl h0)] at this
      exact this
    · have h0 : e ≠ 0 := fun z => h0 (decide_eq_true (by rw [z]; rfl))
      refine ⟨_, rfl, _, rfl, _, rfl, _, rfl, _, _, rfl, rfl, _, rfl, l, rfl, hl, rfl, _, rfl, ?_⟩
      rw [show (V.str " " : V) = V.str ⟨#[32]⟩ from rfl, cut_eq]
      refine ite2 (fun h1 => ?_) (fun h1 => ?_)
      · have h1 : (cl l)[s]? ≠ some 32 := fun z => by rw [decide_eq_true z] at h1; cases h1
        refine ⟨_, rfl, Nat.le_of_ble_eq_true rfl, fun p hp => ?_⟩
        have := k p hp
        unfold rdNum at this
        rw [if_pos (.inr h1)] at this
        exact this
      · have h1 : (cl l)[s]? = some 32 := Classical.byContradiction fun z => h1 (by rw [decide_eq_false z]; rfl)
        have kk : ∀ p, H p = none → Q (.ref p) (upd H p (.tup [optI (digs e ((cl l).drop (s + 1)) none (s + 1)).1, .int (digs e ((cl l).drop (s + 1)) none (s + 1)).2])) := by
          intro p hp
          have := k p hp
          unfold rdNum at this
          rw [if_neg (by rintro (h | h) <;> contradiction)] at this
          exact this
        refine ⟨_, rfl, _, _, rfl, rfl, ?_⟩
        refine ⟨fun n σ H' => ∃ (m : Nat) (o : Option Nat) (v4 : Option V), σ = [some (.str l), some (.int m), some (.int e), some (optI o), v4] ∧ H' = H ∧ (∀ a, o = some a → a < e) ∧ n = l.length - m ∧ digs e ((cl l).drop m) o m = digs e ((cl l).drop (s + 1)) none (s + 1), ⟨_, s + 1, none, none, rfl, rfl, (fun a h => nomatch h), rfl, rfl⟩, ?_⟩
        rintro n σ H' ⟨m, o, v4, rfl, rfl, ho, rfl, ed⟩
        have out : digs e ((cl l).drop m) o m = (o, m) → ∀ p, H' p = none → Q (.ref p) (upd H' p (.tup [optI o, .int m])) := fun h p hp => by
          have := kk p hp
          rw [← ed, h] at this
          exact this
        refine ⟨_, rfl, _, rfl, _, _, rfl, ⟨hl, rfl⟩, _, _, rfl, rfl, _, rfl, ?_⟩
        refine ite2 (fun h2 => ?_) (fun h2 => ?_)
        · have h2 : m < l.length := by have := of_decide_eq_true h2; omega
          obtain ⟨c, c1, c2⟩ := at_sign h2
          refine ⟨_, rfl, _, rfl, _, _, c, rfl, rfl, hl, c2, _, _, rfl, rfl, _, rfl, ?_⟩
          rw [from0]
          have stop : (¬ (48 ≤ c ∧ c ≤ 57) ∨ o = some 0 ∨ e ≤ o.getD 0 * 10 + (c - 48)) → ∀ p, H' p = none → Q (.ref p) (upd H' p (.tup [optI o, .int m])) := fun z => out (digs_out c1 z)
          refine ite2 (fun h3 => ?_) (fun h3 => ?_)
          · refine ⟨_, _, rfl, rfl, _, rfl, ?_⟩
            rw [to9]
            refine ite2 (fun h4 => ?_) (fun h4 => ?_)
            · have hc : 48 ≤ c ∧ c ≤ 57 := ⟨of_decide_eq_true h3, of_decide_eq_true h4⟩
              refine ⟨fun σ' H2 => σ' = [some (.str l), some (.int ((m : Int) + 1)), some (.int e), some (optI (some (o.getD 0 * 10 + (c - 48)))), some (optI (some (o.getD 0 * 10 + (c - 48))))] ∧ H2 = H' ∧ o ≠ some 0 ∧ o.getD 0 * 10 + (c - 48) < e, ?_, ?_⟩
              · rintro σ' H2 ⟨rfl, rfl, e0, e1⟩
                exact ⟨l.length - (m + 1), by omega, m + 1, some (o.getD 0 * 10 + (c - 48)), _, rfl, rfl, fun a q => by cases q; exact e1, rfl, by rw [← digs_in c1 hc e0 e1]; exact ed⟩
              · refine ⟨fun σ' H2 => σ' = [some (.str l), some (.int m), some (.int e), some (optI o), some (.int ((o.getD 0 * 10 + (c - 48) : Nat) : Int))] ∧ H2 = H', ?_, ?_⟩
                · have fin : ∀ (o : Option Nat) (i : Int), i = ((o.getD 0 : Nat) : Int) → [some (V.str l), some (V.int m), some (V.int e), some (optI o), some (V.int (i * 10 + ((c - 48 : Nat) : Int)))] = [some (.str l), some (.int m), some (.int e), some (optI o), some (.int ((o.getD 0 * 10 + (c - 48) : Nat) : Int))] := fun o i q => by rw [show i * 10 + ((c - 48 : Nat) : Int) = ((o.getD 0 * 10 + (c - 48) : Nat) : Int) by omega]
                  cases o with
                  | none =>
                    refine ⟨_, rfl, _, rfl, iteF ?_⟩
                    refine ⟨_, _, rfl, rfl, .inr ⟨by decide, by decide⟩, ?_⟩
                    refine ⟨_, rfl, _, rfl, _, _, c, rfl, rfl, hl, c2, ⟨#[c]⟩, _, rfl, digit_text c hc, by show 1 ≤ 640; decide, _, _, rfl, rfl, ?_⟩
                    exact ⟨fin none 0 rfl, rfl⟩
                  | some n =>
                    refine ⟨_, rfl, _, rfl, ?_⟩
                    refine ite2 (fun z => ?_) (fun z => ?_)
                    · refine ⟨_, _, rfl, rfl, .inr ⟨by decide, by decide⟩, ?_⟩
                      refine ⟨_, rfl, _, rfl, _, _, c, rfl, rfl, hl, c2, ⟨#[c]⟩, _, rfl, digit_text c hc, by show 1 ≤ 640; decide, _, _, rfl, rfl, ?_⟩
                      exact ⟨fin (some n) n rfl, rfl⟩
                    · refine ⟨_, _, rfl, rfl, .inr ⟨by decide, by decide⟩, ?_⟩
                      refine ⟨_, rfl, _, rfl, _, _, c, rfl, rfl, hl, c2, ⟨#[c]⟩, _, rfl, digit_text c hc, by show 1 ≤ 640; decide, _, _, rfl, rfl, ?_⟩
                      exact ⟨fin (some n) 0 (show (0 : Int) = (n : Int) from Eq.symm (by simpa using z)), rfl⟩
                rintro σ' H2 ⟨rfl, rfl⟩
                refine ⟨_, rfl, scal_opt o 0, _, rfl, ?_⟩
                refine ite2 (fun h5 => ?_) (fun h5 => ?_)
                · have h5 : o = some 0 := by
                    have q := of_decide_eq_true h5
                    cases o with
                    | none => cases q
                    | some n => rw [show n = 0 by have := V.int.inj q; omega]
                  exact iteT ⟨_, rfl, _, rfl, Nat.le_of_ble_eq_true rfl, stop (.inr (.inl h5))⟩
                · have h5 : o ≠ some 0 := fun z => h5 (decide_eq_true (by rw [z]; rfl))
                  refine ⟨_, rfl, _, rfl, _, _, rfl, rfl, _, rfl, ?_⟩
                  refine ite2 (fun h6 => ?_) (fun h6 => ?_)
                  · exact ⟨_, rfl, _, rfl, Nat.le_of_ble_eq_true rfl, stop (.inr (.inr (by have := of_decide_eq_true h6; omega)))⟩
                  · have h6 : o.getD 0 * 10 + (c - 48) < e := Nat.lt_of_not_le fun z => h6 (decide_eq_true (Int.ofNat_le.mpr z))
                    exact ⟨_, rfl, _, rfl, _, _, rfl, rfl, rfl, rfl, h5, h6⟩
            · exact ⟨_, rfl, _, rfl, Nat.le_of_ble_eq_true rfl, stop (.inl fun z => h4 (decide_eq_true z.2))⟩
          · exact ⟨_, rfl, _, rfl, _, rfl, Nat.le_of_ble_eq_true rfl, stop (.inl fun z => h3 (decide_eq_true z.1))⟩
        · exact ⟨_, rfl, _, rfl, Nat.le_of_ble_eq_true rfl, out (by
            rw [drop_end (List.getElem?_eq_none_iff.mpr (by rw [cl_len]; exact Nat.le_of_not_lt fun z => h2 (decide_eq_true (Int.ofNat_lt.mpr z))))]
            rfl)⟩
/-- a row, or None, and how far the line was read: a new pair -/
def Told (K : PySem.W.Frag) (U H : Hp) (Q : VK) (res : Option Row × Nat) : Prop := ∀ (p : Addr) (v : V) (U' H' : Hp), Gr S0 U H U' H' → U' p = some (.tup [v, .int res.2]) → RowV K U' v res.1 → Q (.ref p) H'
theorem Told.no {U H : Hp} {Q : VK} {res : Option Row × Nat} {s : Nat} (sm : Same U H) (h : Told K U H Q res) (e : res = (none, s)) {p : Addr} (hp : H p = none) : Q (.ref p) (upd H p (.tup [.non, .int s])) := by
  subst e
  exact h p _ _ _ ((Gr.refl sm).new hp) upd_same rfl
theorem sc__read_string : FnScope ["kind", "line", "most", "begin", "end"] ["kind", "line", "most"] (defScope s__read_string) := ⟨rfl, rfl, rfl, by decide +kernel, rfl, by decide +kernel, by decide +kernel⟩
def sp_rdstr (K : PySem.W.Frag) : Sp := fun vs H Q _ => ∃ (kd l : Str) (most : Nat) (U : Hp) (mk : List Nat → Row), vs = [.str kd, .str l, .int most] ∧ (∀ z, (mk z).data = .tuple [.str kd, .str (strOf z)]) ∧ kd.length ≤ sizeLine ∧ Same U H ∧ l.length ≤ sizeLine ∧
  Told K U H Q (match rdStr kd.length (cl l) most with | (none, s) => (none, s) | (some z, s) => (some (mk z), s))
theorem d__read_string (T : Txt w K mg W) : DefOk P w K mg base "_read_string" s__read_string ["kind", "line", "most"] 1 (sp_rdstr K) := by
  refine T.f__read_string.ok sc__read_string (fun vs H Q E h => ?_) (fun f cdv A outer s H vs Q E hr h => ?_)
  · obtain ⟨kd, l, most, U, mk, rfl, _⟩ := h
    rfl
  · obtain ⟨kd, l, most, U, mk, rfl, hmk, hkd, sm, hl, k⟩ := h
    refine ⟨_, (pss_cons (ps_set (i := 3) sc__read_string.nd rfl (Or.inl rfl) (pe_op op_add (pe_callB (id := "len") call_len (by rfl) T.n_len (by decide +kernel) (pa_cons (pv 0) pa_nil)) pe_int))
      (pss_cons (ps_if (pt_cmpR op_ne (pe_slice sl_str (pv 1) (po_some (pe_op op_sub (pv 3) pe_int)) (po_some (pv 3))) pe_str (nomark _)) (pss_one (ps_ret (pe_tup (pa_cons pe_non (pa_cons (pe_op op_sub (pv 3) pe_int) pa_nil))))) pss_nil)
      (pss_cons (ps_set (i := 4) sc__read_string.nd rfl (Or.inl rfl) (pv 3))
      (Evl.pss_cut (ps_while PassesOwn.never (PW.pt (pw_and (pt_cmpR op_lt (pv 4) (pe_callB (id := "len") call_len (by rfl) T.n_len (by decide +kernel) (pa_cons (pv 1) pa_nil)) (nomark _)) (pw_and (pt_cmpR op_lt (pe_op op_sub (pv 4) (pv 3)) (pv 2) (nomark _)) (pw_and1 (pt_chain op_le_str op_le_str pe_str (pe_ix ix_str (pv 1) (pv 4) (fun _ _ => rfl)) pe_str))))) (pss_one (ps_aug (i := 4) sc__read_string.nd rfl (Or.inl rfl) pe_int ip_add)))
      (pss_cons (ps_if (pt_cmpR op_lt (pv 4) (pe_callB (id := "len") call_len (by rfl) T.n_len (by decide +kernel) (pa_cons (pv 1) pa_nil)) (nomark _)) (pss_one (ps_ret (pe_tup (pa_cons pe_non (pa_cons (pv 4) pa_nil))))) pss_nil)
      (pss_one (ps_ret (pe_tup (pa_cons (pe_tup (pa_cons (pv 0) (pa_cons (pe_slice sl_str (pv 1) (po_some (pv 3)) po_none) pa_nil))) (pa_cons (pv 4) pa_nil)))))))))), ?_⟩
    generalize hb : kd.length = b at k
    refine ⟨_, rfl, _, _, rfl, ⟨hkd, rfl⟩, _, _, rfl, rfl, ?_⟩
    rw [hb]
    have e1 : ((b : Int) + 1 - 1) = (b : Int) := by omega
    refine ⟨_, rfl, _, rfl, _, _, rfl, rfl, _, rfl, _, rfl, _, rfl, l, rfl, hl, rfl, _, rfl, ?_⟩
    rw [e1, show (V.str " " : V) = V.str ⟨#[32]⟩ from rfl, cut_eq]
    refine ite2 (fun h1 => ?_) (fun h1 => ?_)
    · have h1 : (cl l)[b]? ≠ some 32 := fun z => by rw [decide_eq_true z] at h1; cases h1
      refine ⟨_, rfl, _, _, rfl, rfl, Nat.le_of_ble_eq_true rfl, fun p hp => ?_⟩
      have q := k.no sm (by unfold rdStr; rw [if_pos h1]) hp
      rw [show (V.int (b : Int) : V) = V.int ((b : Int) + 1 - 1) by rw [e1]] at q
      exact q
    · have h1 : (cl l)[b]? = some 32 := Classical.byContradiction fun z => h1 (by rw [decide_eq_false z]; rfl)
      have e2 : rdStr b (cl l) most = if b + 1 + run most ((cl l).drop (b + 1)) < (cl l).length then (none, b + 1 + run most ((cl l).drop (b + 1))) else (some ((cl l).drop (b + 1)), b + 1 + run most ((cl l).drop (b + 1))) := by
        unfold rdStr
        rw [if_neg (fun z => z h1)]
      refine ⟨_, rfl, ?_⟩
      refine ⟨fun σ' H2 => σ' = [some (.str kd), some (.str l), some (.int most), some (.int ((b : Int) + 1)), some (.int ((b + 1 + run most ((cl l).drop (b + 1)) : Nat) : Int))] ∧ H2 = H, ?_, ?_⟩
      · refine ⟨fun n σ H' => ∃ m : Nat, σ = [some (.str kd), some (.str l), some (.int most), some (.int ((b : Int) + 1)), some (.int m)] ∧ H' = H ∧ b + 1 ≤ m ∧ m ≤ b + 1 + most ∧ n = most + b + 1 - m ∧ run (most + b + 1 - m) ((cl l).drop m) + m = b + 1 + run most ((cl l).drop (b + 1)), ⟨_, b + 1, rfl, rfl, Nat.le_refl _, by omega, rfl, by rw [show most + b + 1 - (b + 1) = most by omega]; omega⟩, ?_⟩
        rintro n σ H' ⟨m, rfl, rfl, m1, m2, rfl, er⟩
        have out : run (most + b + 1 - m) ((cl l).drop m) = 0 → [some (V.str kd), some (.str l), some (.int most), some (.int ((b : Int) + 1)), some (.int (m : Int))] = [some (.str kd), some (.str l), some (.int most), some (.int ((b : Int) + 1)), some (.int ((b + 1 + run most ((cl l).drop (b + 1)) : Nat) : Int))] ∧ H' = H' := fun z => by
          rw [show m = b + 1 + run most ((cl l).drop (b + 1)) by omega]
          exact ⟨rfl, rfl⟩
        refine ⟨_, rfl, _, rfl, _, _, rfl, ⟨hl, rfl⟩, _, _, rfl, rfl, _, rfl, ?_⟩
        refine ite2 (fun h2 => ?_) (fun h2 => ?_)
        · have h2 : m < l.length := by have := of_decide_eq_true h2; omega
          obtain ⟨c, c1, c2⟩ := at_sign h2
          refine ⟨_, rfl, _, rfl, _, _, rfl, rfl, _, rfl, _, _, rfl, rfl, _, rfl, ?_⟩
          refine ite2 (fun h3 => ?_) (fun h3 => ?_)
          · have h3 : m < most + b + 1 := by have := of_decide_eq_true h3; omega
            refine ⟨_, rfl, _, rfl, _, _, c, rfl, rfl, hl, c2, _, _, rfl, rfl, _, rfl, ?_⟩
            rw [show (!decide (({ cps := #[c] } : Str).cps.toList < ({ cps := #[32] } : Str).cps.toList)) = decide (32 ≤ c) from not_lt1 c 32]
            refine ite2 (fun h4 => ?_) (fun h4 => ?_)
            · refine ⟨_, _, rfl, rfl, _, rfl, ?_⟩
              rw [toT]
              refine ite2 (fun h5 => ?_) (fun h5 => ?_)
              · refine ⟨fun σ' H2 => σ' = [some (.str kd), some (.str l), some (.int most), some (.int ((b : Int) + 1)), some (.int ((m : Int) + 1))] ∧ H2 = H', ?_, ?_⟩
                · rintro σ' H2 ⟨rfl, rfl⟩
                  refine ⟨most + b + 1 - (m + 1), by omega, m + 1, rfl, rfl, by omega, by omega, rfl, ?_⟩
                  rw [show most + b + 1 - m = most + b + 1 - (m + 1) + 1 by omega, run_go c1 (decide_eq_true ⟨of_decide_eq_true h4, of_decide_eq_true h5⟩)] at er
                  omega
                · exact ⟨_, rfl, _, _, rfl, rfl, rfl, rfl⟩
              · exact out (run_stop (.inr (.inr ⟨c, c1, decide_eq_false fun z => h5 (decide_eq_true z.2)⟩)))
            · exact ⟨_, rfl, out (run_stop (.inr (.inr ⟨c, c1, decide_eq_false fun z => h4 (decide_eq_true z.1)⟩)))⟩
          · exact out (run_stop (.inl (by have := Int.not_lt.mp fun z => h3 (decide_eq_true z); omega)))
        · exact out (run_stop (.inr (.inl (List.getElem?_eq_none_iff.mpr (by rw [cl_len]; exact Nat.le_of_not_lt fun z => h2 (decide_eq_true (Int.ofNat_lt.mpr z)))))))
      · rintro σ' H2 ⟨rfl, rfl⟩
        rw [e2] at k
        generalize b + 1 + run most ((cl l).drop (b + 1)) = m at k
        refine ⟨_, rfl, _, rfl, _, _, rfl, ⟨hl, rfl⟩, _, _, rfl, rfl, _, rfl, ?_⟩
        refine ite2 (fun h2 => ?_) (fun h2 => ?_)
        · have h2 : m < (cl l).length := by have := of_decide_eq_true h2; rw [cl_len]; omega
          exact ⟨_, rfl, Nat.le_of_ble_eq_true rfl, fun p hp => k.no sm (by rw [if_pos h2]) hp⟩
        · have h2 : ¬ m < (cl l).length := fun z => h2 (decide_eq_true (by rw [cl_len] at z; omega))
          rw [if_neg h2] at k
          refine ⟨_, rfl, _, rfl, _, rfl, _, rfl, l, rfl, hl, Nat.le_of_ble_eq_true rfl, fun p1 hp1 => ⟨_, rfl, Nat.le_of_ble_eq_true rfl, fun p hp => ?_⟩⟩
          have g1 := (Gr.refl (S := S0) sm).new (o := .tup [.str kd, .str (cutS l (some ((b : Int) + 1)) none)]) hp1
          refine k p (.ref p1) _ _ (g1.new hp) upd_same ?_
          have ne : p1 ≠ p := ne_of_none upd_same hp
          show Dp K _ _ (mk _).data
          rw [hmk, ← cut_from, strOf_cl]
          exact dp_tup (by rw [upd_ne ne]; exact upd_same) (.cons (.str _) (.cons (.str _) .nil))
end
end Lw

namespace Lw
open PySem PySem.Spec PyProof.Rows L2 VW TL
local macro_rules | `(tactic| walk_at "rdc") => `(tactic| first | assumption | rfl | decide | omega | exact Or.inr ⟨by decide, by decide⟩ | exact ⟨by decide, by decide⟩ | exact ⟨by decide, by decide, by decide⟩ | (show (0 : Int) < _; omega) | (show (0 : Int) < _ ∧ _ < (1073741824 : Int); omega) | (show (-(2 ^ 64) < _ ∧ _ < 2 ^ 64) ∨ (-(2 ^ 64) < _ ∧ _ < 2 ^ 64); omega) | (show (-(2 ^ 64) < _ ∧ _ < 2 ^ 64) ∨ (-(2 ^ 64) < _ ∧ _ < 2 ^ 64); right; split <;> decide) | exact Nat.le_of_ble_eq_true rfl)
local macro_rules | `(tactic| walk_at "rd1") => `(tactic| first | refine ⟨_, rfl, ?_⟩ | refine And.intro (by walk_at "rdc") ?_ | refine ⟨_, _, rfl, rfl, ?_⟩ | refine Or.inl ⟨_, rfl, ?_⟩ | refine Or.inr ⟨_, rfl, ?_⟩ | refine ⟨_, _, _, _, rfl, rfl, sqlO (by first | assumption | exact upd_same), rfl, ?_⟩ | refine ⟨_, _, _, _, rfl, rfl, (by first | assumption | exact upd_same), rfl, ?_⟩)
local macro_rules | `(tactic| walk_at "rd") => `(tactic| repeat (walk_at "rd1"))

section
variable {P : Program} {w : World} {K : PySem.W.Frag} {mg : Str → Option Value} {base : Heap} {W : Wd}
theorem ints_snoc (ps : List Nat) (p : Nat) : (ps.map fun n : Nat => V.int n) ++ [V.int p] = (ps ++ [p]).map fun n : Nat => V.int n := by rw [List.map_append]; rfl
theorem dps_nats {K : PySem.W.Frag} {H : Hp} (ns : List Nat) : DpAll K H (ns.map fun n : Nat => V.int n) ((ns.map Int.ofNat).map PyData.int) := by
  induction ns with
  | nil => exact .nil
  | cons n ns ih => exact .cons (.int _) ih
theorem rdParts_stop {l : List Nat} {k m s : Nat} {ps : List Nat} (h : l.length ≤ s ∨ m = 0) : rdParts l k m s ps = if s < l.length then (none, s) else (some ps, s) := by
  cases m with
  | zero => rfl
  | succ m =>
    unfold rdParts
    rw [if_neg (by omega), if_neg (by omega)]
theorem sc__read_cat : FnScope ["line", "k", "parts", "sign", "part"] ["line", "k"] (defScope s__read_cat) := ⟨rfl, rfl, rfl, by decide +kernel, rfl, by decide +kernel, by decide +kernel⟩
def sp_rdcat (K : PySem.W.Frag) : Sp := fun vs H Q _ => ∃ (l : Str) (k : Nat) (U : Hp), vs = [.str l, .int k] ∧ Same U H ∧ l.length ≤ sizeLine ∧ k ≤ 1000 ∧
  Told K U H Q (match rdParts (cl l) k 8 3 [] with | (none, s) => (none, s) | (some ps, s) => (some (.cat (ps.map Int.ofNat)), s))
theorem d__read_cat (T : Txt w K mg W) : DefOk P w K mg base "_read_cat" s__read_cat ["line", "k"] 2 (sp_rdcat K) := by
  refine T.f__read_cat.ok sc__read_cat (fun vs H Q E h => ?_) (fun f cdv A outer s H vs Q E hr h => ?_)
  · obtain ⟨l, k, U, rfl, _⟩ := h
    rfl
  · obtain ⟨l, kk, U, rfl, sm, hl, hk, k⟩ := h
    refine ⟨_, (pss_cons (ps_set (i := 2) sc__read_cat.nd rfl (Or.inl rfl) (pe_lst pa_nil))
      (pss_cons (ps_set (i := 3) sc__read_cat.nd rfl (Or.inl rfl) (pe_callB (id := "len") call_len (by rfl) T.n_len (by decide +kernel) (pa_cons pe_str pa_nil)))
      (Evl.pss_cut (ps_while PassesOwn.never (PW.pt (pw_and (pt_cmpR op_lt (pv 3) (pe_callB (id := "len") call_len (by rfl) T.n_len (by decide +kernel) (pa_cons (pv 0) pa_nil)) (nomark _)) (pw_and1 (pt_cmpR op_lt (pe_callB (id := "len") call_len (by rfl) T.n_len (by decide +kernel) (pa_cons (pv 2) pa_nil)) (pe_globI T.g_MOST_PARTS) (nomark _))))) (pss_cons (ps_asg (pe_callD (d__read_number T) (hr.mono (by decide)) (pa_cons (pv 0) (pa_cons (pv 3) (pa_cons (pv 1) pa_nil)))) (pg_tup rfl (pgs_cons (pg_name (i := 4) sc__read_cat.nd rfl (Or.inl rfl)) (pgs_cons (pg_name (i := 3) sc__read_cat.nd rfl (Or.inl rfl)) pgs_nil))))
      (pss_cons (ps_if (pt_cmpR op_isN (pv 4) pe_non (nomark _)) (pss_one (ps_ret (pe_tup (pa_cons pe_non (pa_cons (pv 3) pa_nil))))) pss_nil)
      (pss_one (ps_expr (pe_bm PySem.F.plainAttrs_list PySem.F.slot_list_append PySem.F.type_list_append mt_append (pv 2) (pa_cons (pv 4) pa_nil)))))))
      (pss_cons (ps_if (pt_cmpR op_lt (pv 3) (pe_callB (id := "len") call_len (by rfl) T.n_len (by decide +kernel) (pa_cons (pv 0) pa_nil)) (nomark _)) (pss_one (ps_ret (pe_tup (pa_cons pe_non (pa_cons (pv 3) pa_nil))))) pss_nil)
      (pss_one (ps_ret (pe_tup (pa_cons (pe_tup (pa_cons pe_str (pa_cons (pv 2) pa_nil))) (pa_cons (pv 3) pa_nil))))))))), ?_⟩
    refine ⟨Nat.le_of_ble_eq_true rfl, fun D hD => ?_⟩
    refine ⟨_, 3, rfl, ⟨by decide +kernel, rfl⟩, ?_⟩
    have v0 := vfree sm hD
    refine ⟨fun σ' H2 => ∃ (t : Nat) (ps : List Nat) (U' : Hp) (v4 : Option V), σ' = [some (.str l), some (.int kk), some (.ref D), some (.int t), v4] ∧ Gr S0 U H U' H2 ∧ U' D = none ∧ H2 D = some (.lst (ps.map fun n : Nat => V.int n)) ∧ rdParts (cl l) kk 8 3 [] = if t < (cl l).length then (none, t) else (some ps, t), ?_, ?_⟩
    · refine ⟨fun n σ H' => ∃ (t : Nat) (ps : List Nat) (U' : Hp) (v4 : Option V), σ = [some (.str l), some (.int kk), some (.ref D), some (.int t), v4] ∧ Gr S0 U H U' H' ∧ U' D = none ∧ H' D = some (.lst (ps.map fun n : Nat => V.int n)) ∧ ps.length ≤ 8 ∧ n = 8 - ps.length ∧ rdParts (cl l) kk 8 3 [] = rdParts (cl l) kk (8 - ps.length) t ps,
        ⟨_, 3, [], U, none, rfl, (Gr.refl sm).newH hD, v0, upd_same, Nat.zero_le _, rfl, rfl⟩, ?_⟩
      rintro n σ H' ⟨t, ps, U', v4, rfl, g, vD, hd, h8, rfl, er⟩
      refine ⟨_, rfl, _, rfl, _, _, rfl, ⟨hl, rfl⟩, _, _, rfl, rfl, _, rfl, ?_⟩
      refine ite2 (fun h2 => ?_) (fun h2 => ?_)
      · have h2 : t < (cl l).length := by have := of_decide_eq_true h2; rw [cl_len]; omega
        refine ⟨_, rfl, _, _, rfl, .inl ⟨_, sqlO hd, rfl⟩, _, _, rfl, rfl, _, rfl, ?_⟩
        refine ite2 (fun h3 => ?_) (fun h3 => ?_)
        · have h3 : ps.length < 8 := by have := of_decide_eq_true h3; rw [List.length_map] at this; omega
          have e8 : 8 - ps.length = (8 - (ps.length + 1)) + 1 := by omega
          refine ⟨fun σ' H2 => ∃ (t' p : Nat), rdNum (cl l) t kk = (some p, t') ∧ ∃ (U2 : Hp), σ' = [some (.str l), some (.int kk), some (.ref D), some (.int t'), some (.int p)] ∧ Gr S0 U H U2 H2 ∧ U2 D = none ∧ H2 D = some (.lst ((ps ++ [p]).map fun n : Nat => V.int n)), ?_, ?_⟩
          · rintro σ' H2 ⟨t', p, ep, U2, rfl, g2, v2, hd2⟩
            refine ⟨8 - (ps ++ [p]).length, by rw [List.length_append, List.length_singleton]; omega, t', ps ++ [p], U2, _, rfl, g2, v2, hd2, by rw [List.length_append, List.length_singleton]; omega, rfl, ?_⟩
            rw [er, e8, List.length_append, List.length_singleton]
            conv => lhs; unfold rdParts
            rw [if_pos h2, ep]
          · refine ⟨_, rfl, _, rfl, _, rfl, l, t, kk, rfl, hl, hk, fun p hp => ?_⟩
            refine ⟨p, _, rfl, sqtO upd_same, rfl, _, _, rfl, _, _, rfl, rfl, ?_⟩
            have nD : D ≠ p := ne_of_none hd hp
            refine ⟨_, rfl, rfl, _, rfl, ?_⟩
            cases ep : rdNum (cl l) t kk with
            | mk o t' =>
            cases o with
            | none =>
              refine iteT ⟨_, rfl, Nat.le_of_ble_eq_true rfl, fun q hq => ?_⟩
              have g2 := (g.newH (o := .tup [optI none, .int t']) hp)
              refine k q .non _ _ (g2.new hq) ?_ ?_
              · rw [er, e8]
                unfold rdParts
                rw [if_pos h2, ep]
                exact upd_same
              · rw [er, e8]
                unfold rdParts
                rw [if_pos h2, ep]
                rfl
            | some n =>
              refine iteF ⟨_, rfl, .inl ⟨rfl, _, sqlO (by rw [upd_ne nD]; exact hd)⟩, _, rfl, _, _, _, rfl, rfl, by rw [upd_ne nD]; exact hd, by rw [List.length_map]; exact small1000 (by omega), ?_⟩
              refine ⟨t', n, rfl, U', rfl, (g.newH hp).mut (.inr hD) vD, vD, ?_⟩
              rw [upd_same]
              exact congrArg (fun z => some (HO.lst z)) (ints_snoc ps n)
        · have h3 : ¬ ps.length < 8 := fun z => h3 (decide_eq_true (by rw [List.length_map]; omega))
          exact ⟨t, ps, U', v4, rfl, g, vD, hd, by rw [er]; exact rdParts_stop (.inr (by omega))⟩
      · have h2 : ¬ t < (cl l).length := fun z => h2 (decide_eq_true (by rw [cl_len] at z; omega))
        exact ⟨t, ps, U', v4, rfl, g, vD, hd, by rw [er]; exact rdParts_stop (.inl (by omega))⟩
    · rintro σ' H2 ⟨t, ps, U', v4, rfl, g, vD, hd, er⟩
      refine ⟨_, rfl, _, rfl, _, _, rfl, ⟨hl, rfl⟩, _, _, rfl, rfl, _, rfl, ?_⟩
      refine ite2 (fun h2 => ?_) (fun h2 => ?_)
      · have h2 : t < (cl l).length := by have := of_decide_eq_true h2; rw [cl_len]; omega
        rw [if_pos h2] at er
        rw [er] at k
        exact ⟨_, rfl, Nat.le_of_ble_eq_true rfl, fun p hp => k p .non _ _ (g.new hp) upd_same rfl⟩
      · have h2 : ¬ t < (cl l).length := fun z => h2 (decide_eq_true (by rw [cl_len] at z; omega))
        rw [if_neg h2] at er
        rw [er] at k
        refine ⟨_, rfl, Nat.le_of_ble_eq_true rfl, fun p1 hp1 => ⟨_, rfl, Nat.le_of_ble_eq_true rfl, fun p hp => ?_⟩⟩
        have g1 := (g.tell hD hd vD).new (o := .tup [.str "cat", .ref D]) hp1
        have n1 : p1 ≠ p := ne_of_none upd_same hp
        have nD1 : D ≠ p1 := ne_of_none hd hp1
        have nD : D ≠ p := ne_of_none (show (upd H2 p1 (.tup [.str "cat", .ref D])) D = some _ by rw [upd_ne nD1]; exact hd) hp
        refine k p (.ref p1) _ _ (g1.new hp) upd_same ?_
        exact dp_tup (by rw [upd_ne n1]; exact upd_same) (.cons (.str _) (.cons (dp_lst (by rw [upd_ne nD, upd_ne nD1]; exact upd_same) (dps_nats ps)) .nil))
theorem sc__read_numbers : FnScope ["kind", "line", "ends", "fields", "sign", "end", "number"] ["kind", "line", "ends"] (defScope s__read_numbers) := ⟨rfl, rfl, rfl, by decide +kernel, rfl, by decide +kernel, by decide +kernel⟩
def sp_rdnums (K : PySem.W.Frag) : Sp := fun vs H Q _ => ∃ (kd l : Str) (a : Addr) (es : List Nat) (U : Hp) (mk : List Nat → Row), vs = [.str kd, .str l, .ref a] ∧ (∀ fs : List Nat, fs.length = es.length → (mk fs).data = .tuple (.str kd :: (fs.map Int.ofNat).map PyData.int)) ∧ kd.length ≤ sizeLine ∧ Same U H ∧ l.length ≤ sizeLine ∧
  SqL K H a (es.map fun n : Nat => V.int n) ∧ es.length ≤ 8 ∧ (∀ e ∈ es, e ≤ 1000) ∧
  Told K U H Q (match rdNums (cl l) es kd.length [] with | (none, s) => (none, s) | (some fs, s) => (some (mk fs), s))
theorem rdNums_len {l : List Nat} : ∀ {es : List Nat} {s : Nat} {fs gs : List Nat} {t : Nat}, rdNums l es s fs = (some gs, t) → gs.length = fs.length + es.length
  | [], s, fs, gs, t, h => by
    unfold rdNums at h
    split at h <;> cases h
    rfl
  | e :: es, s, fs, gs, t, h => by
    unfold rdNums at h
    split at h
    · cases h
    · have := rdNums_len h
      rw [List.length_append, List.length_singleton] at this
      rw [List.length_cons]
      omega
theorem d__read_numbers (T : Txt w K mg W) : DefOk P w K mg base "_read_numbers" s__read_numbers ["kind", "line", "ends"] 2 (sp_rdnums K) := by
  refine T.f__read_numbers.ok sc__read_numbers (fun vs H Q E h => ?_) (fun f cdv A outer s H vs Q E hr h => ?_)
  · obtain ⟨kd, l, a, es, U, mk, rfl, _⟩ := h
    rfl
  · obtain ⟨kd, l, a, es, U, mk, rfl, hmk, hkd, sm, hl, ha, h8, hes, k⟩ := h
    refine ⟨_, (pss_cons (ps_set (i := 3) sc__read_numbers.nd rfl (Or.inl rfl) (pe_lst (pa_cons (pv 0) pa_nil)))
      (pss_cons (ps_set (i := 4) sc__read_numbers.nd rfl (Or.inl rfl) (pe_callB (id := "len") call_len (by rfl) T.n_len (by decide +kernel) (pa_cons (pv 0) pa_nil)))
      (Evl.pss_cut (ps_for PassesOwn.never rfl (pi_list (pv 2)) (pg_name (i := 5) sc__read_numbers.nd rfl (Or.inl rfl))
      (pss_cons (ps_asg (pe_callD (d__read_number T) (hr.mono (by decide)) (pa_cons (pv 1) (pa_cons (pv 4) (pa_cons (pv 5) pa_nil)))) (pg_tup rfl (pgs_cons (pg_name (i := 6) sc__read_numbers.nd rfl (Or.inl rfl)) (pgs_cons (pg_name (i := 4) sc__read_numbers.nd rfl (Or.inl rfl)) pgs_nil))))
      (pss_cons (ps_if (pt_cmpR op_isN (pv 6) pe_non (nomark _)) (pss_one (ps_ret (pe_tup (pa_cons pe_non (pa_cons (pv 4) pa_nil))))) pss_nil)
      (pss_one (ps_expr (pe_bm PySem.F.plainAttrs_list PySem.F.slot_list_append PySem.F.type_list_append mt_append (pv 3) (pa_cons (pv 6) pa_nil)))))))
      (pss_cons (ps_if (pt_cmpR op_lt (pv 4) (pe_callB (id := "len") call_len (by rfl) T.n_len (by decide +kernel) (pa_cons (pv 1) pa_nil)) (nomark _)) (pss_one (ps_ret (pe_tup (pa_cons pe_non (pa_cons (pv 4) pa_nil))))) pss_nil)
      (pss_one (ps_ret (pe_tup (pa_cons (pe_callTy (T := "tuple") call_tuple_of (by rfl) T.n_tuple (by decide +kernel) (pa_cons (pv 3) pa_nil)) (pa_cons (pv 4) pa_nil))))))))), ?_⟩
    refine ⟨_, rfl, Nat.le_of_ble_eq_true rfl, fun D hD => ?_⟩
    refine ⟨_, rfl, _, kd.length, rfl, ⟨hkd, rfl⟩, ?_⟩
    have v0 := vfree sm hD
    have smD : Same H (upd H D (.lst [.str kd])) := fun b o e => by rw [upd_ne (ne_of_none e hD)]; exact e
    refine ⟨fun σ' H2 => ∃ (t : Nat) (fs : List Nat) (U' : Hp) (v5 v6 : Option V), σ' = [some (.str kd), some (.str l), some (.ref a), some (.ref D), some (.int t), v5, v6] ∧ Gr S0 U H U' H2 ∧ U' D = none ∧ H2 D = some (.lst (.str kd :: fs.map fun n : Nat => V.int n)) ∧ rdNums (cl l) es kd.length [] = rdNums (cl l) [] t fs ∧ fs.length = es.length, ?_, ?_⟩
    · refine ⟨_, rfl, a, rfl, ⟨_, sqlS smD ha⟩, ?_⟩
      refine for_list (xs := es.map fun n : Nat => V.int n) (fun i σ' H2 => ∃ (t : Nat) (fs : List Nat) (U' : Hp) (v5 v6 : Option V), σ' = [some (.str kd), some (.str l), some (.ref a), some (.ref D), some (.int t), v5, v6] ∧ Gr S0 U H U' H2 ∧ Same H H2 ∧ U' D = none ∧ H2 D = some (.lst (.str kd :: fs.map fun n : Nat => V.int n)) ∧ rdNums (cl l) es kd.length [] = rdNums (cl l) (es.drop i) t fs ∧ fs.length = i) ?_ ?_ ?_ ?_
      · exact ⟨kd.length, [], U, none, none, rfl, (Gr.refl sm).newH hD, smD, v0, upd_same, rfl, rfl⟩
      · rintro i σ' H2 hi ⟨t, fs, U', v5, v6, rfl, g, s2, _⟩
        exact sqlS s2 ha
      · rintro i x σ' H2 hx ⟨t, fs, U', v5, v6, rfl, g, s2, vD, hd, er, hf⟩
        rw [List.getElem?_map] at hx
        obtain ⟨e, he, rfl⟩ : ∃ e, es[i]? = some e ∧ x = V.int e := by
          cases e2 : es[i]? with
          | none => rw [e2] at hx; cases hx
          | some j => rw [e2] at hx; exact ⟨j, rfl, (Option.some.inj hx).symm⟩
        have hi : i < es.length := (List.getElem?_eq_some_iff.mp he).1
        rw [drop_step he] at er
        refine ⟨_, rfl, _, rfl, _, rfl, l, t, e, rfl, hl, hes e (List.mem_of_getElem? he), fun p hp => ?_⟩
        refine ⟨p, _, rfl, sqtO upd_same, rfl, _, _, rfl, _, _, rfl, rfl, ?_⟩
        have nD : D ≠ p := ne_of_none hd hp
        refine ⟨_, rfl, rfl, _, rfl, ?_⟩
        cases ep : rdNum (cl l) t e with
        | mk o t' =>
        cases o with
        | none =>
          have e9 : rdNums (cl l) es kd.length [] = (none, t') := by
            rw [er]
            unfold rdNums
            rw [ep]
          rw [e9] at k
          refine iteT ⟨_, rfl, Nat.le_of_ble_eq_true rfl, fun q hq => ?_⟩
          exact k q .non _ _ ((g.newH (o := .tup [optI none, .int t']) hp).new hq) upd_same rfl
        | some n =>
          refine iteF ⟨_, rfl, .inl ⟨rfl, _, sqlO (by rw [upd_ne nD]; exact hd)⟩, _, rfl, _, _, _, rfl, rfl, by rw [upd_ne nD]; exact hd, by rw [List.length_cons, List.length_map]; exact small1000 (by omega), ?_⟩
          refine ⟨t', fs ++ [n], U', _, _, rfl, (g.newH hp).mut (.inr hD) vD, fun b o q => ?_, vD, ?_, ?_, by rw [List.length_append, hf]; rfl⟩
          · rw [upd_ne (ne_of_none q hD), upd_ne (ne_of_none (s2 b o q) hp)]
            exact s2 b o q
          · rw [upd_same]
            exact congrArg (fun z => some (HO.lst (.str kd :: z))) (ints_snoc fs n)
          · rw [er]
            conv => lhs; unfold rdNums
            rw [ep]
      · rintro σ' H2 ⟨t, fs, U', v5, v6, rfl, g, s2, vD, hd, er, hf⟩
        rw [List.length_map] at hf er
        rw [List.drop_length] at er
        exact ⟨t, fs, U', v5, v6, rfl, g, vD, hd, er, hf⟩
    · rintro σ' H2 ⟨t, fs, U', v5, v6, rfl, g, vD, hd, er, hf⟩
      have er : rdNums (cl l) es kd.length [] = if t < (cl l).length then (none, t) else (some fs, t) := er
      refine ⟨_, rfl, _, rfl, _, _, rfl, ⟨hl, rfl⟩, _, _, rfl, rfl, _, rfl, ?_⟩
      refine ite2 (fun h2 => ?_) (fun h2 => ?_)
      · have h2 : t < (cl l).length := by have := of_decide_eq_true h2; rw [cl_len]; omega
        rw [if_pos h2] at er
        rw [er] at k
        exact ⟨_, rfl, Nat.le_of_ble_eq_true rfl, fun p hp => k p .non _ _ (g.new hp) upd_same rfl⟩
      · have h2 : ¬ t < (cl l).length := fun z => h2 (decide_eq_true (by rw [cl_len] at z; omega))
        rw [if_neg h2] at er
        rw [er] at k
        refine ⟨_, rfl, D, _, rfl, .inl ⟨sqlO hd, fun p1 hp1 => ⟨_, rfl, Nat.le_of_ble_eq_true rfl, fun p hp => ?_⟩⟩⟩
        have g1 := g.new (o := .tup (.str kd :: fs.map fun n : Nat => V.int n)) hp1
        have n1 : p1 ≠ p := ne_of_none upd_same hp
        refine k p (.ref p1) _ _ (g1.new hp) upd_same ?_
        show Dp K _ _ (mk fs).data
        rw [hmk fs hf]
        exact dp_tup (by rw [upd_ne n1]; exact upd_same) (.cons (.str _) (dps_nats fs))
end
end Lw

namespace Lw
open PySem PySem.Spec PyProof.Rows L2 VW TL
local macro_rules | `(tactic| walk_at "rdc") => `(tactic| first | assumption | rfl | decide | omega | exact Or.inr ⟨by decide, by decide⟩ | exact ⟨by decide, by decide⟩ | exact ⟨by decide, by decide, by decide⟩ | (show (0 : Int) < _; omega) | (show (0 : Int) < _ ∧ _ < (1073741824 : Int); omega) | (show (-(2 ^ 64) < _ ∧ _ < 2 ^ 64) ∨ (-(2 ^ 64) < _ ∧ _ < 2 ^ 64); omega) | (show (-(2 ^ 64) < _ ∧ _ < 2 ^ 64) ∨ (-(2 ^ 64) < _ ∧ _ < 2 ^ 64); right; split <;> decide) | exact Nat.le_of_ble_eq_true rfl)
local macro_rules | `(tactic| walk_at "rd1") => `(tactic| first | refine ⟨_, rfl, ?_⟩ | refine And.intro (by walk_at "rdc") ?_ | refine ⟨_, _, rfl, rfl, ?_⟩ | refine Or.inl ⟨_, rfl, ?_⟩ | refine Or.inr ⟨_, rfl, ?_⟩ | refine ⟨_, _, _, _, rfl, rfl, sqlO (by first | assumption | exact upd_same), rfl, ?_⟩ | refine ⟨_, _, _, _, rfl, rfl, (by first | assumption | exact upd_same), rfl, ?_⟩)
local macro_rules | `(tactic| walk_at "rd") => `(tactic| repeat (walk_at "rd1"))

section
variable {P : Program} {w : World} {K : PySem.W.Frag} {mg : Str → Option Value} {base : Heap} {W : Wd}
theorem kind_eq (q q' : Kind) : decide (V.str q.str = V.str q'.str) = decide (q = q') := by
  cases q <;> cases q' <;> decide +kernel
theorem kind_needs (q : Kind) : inV (.str q.str) [.str "nest", .str "align", .str "group"] = q.needs := by
  cases q <;> decide +kernel
theorem kind_len (q : Kind) : q.str.length ≤ 5 ∧ q.cps.length = q.str.length := by cases q <;> decide +kernel
theorem data_ints1 {kd : Str} {mk : Nat → Row} (h : ∀ n : Nat, (mk n).data = .tuple [.str kd, .int n]) (fs : List Nat) (hf : fs.length = 1) : (match fs with | [j] => mk j | _ => .hard).data = .tuple (.str kd :: (fs.map Int.ofNat).map PyData.int) := by
  match fs, hf with
  | [j], _ => exact h j
theorem data_ints2 (fs : List Nat) (hf : fs.length = 2) : (match fs with | [n, j] => Row.nest n j | _ => .hard).data = .tuple (.str "nest" :: (fs.map Int.ofNat).map PyData.int) := by
  match fs, hf with
  | [n, j], _ => rfl
def rdKind2 (q : Kind) (l : List Nat) (k : Nat) : Option Row × Nat := match q with
  | .text => match rdStr 4 l 20 with | (none, s) => (none, s) | (some z, s) => (some (.text (strOf z)), s)
  | .line => match rdStr 4 l 3 with | (none, s) => (none, s) | (some z, s) => (some (.line (strOf z)), s)
  | .cat => match rdParts l k 8 3 [] with | (none, s) => (none, s) | (some ps, s) => (some (.cat (ps.map Int.ofNat)), s)
  | .nest => match rdNums l [9, k] 4 [] with | (none, s) => (none, s) | (some fs, s) => (some (match fs with | [n, j] => Row.nest n j | _ => .hard), s)
  | .hard => match rdNums l [] 4 [] with | (none, s) => (none, s) | (some fs, s) => (some .hard, s)
  | .align => match rdNums l [k] 5 [] with | (none, s) => (none, s) | (some fs, s) => (some (match fs with | [j] => Row.align j | _ => .hard), s)
  | .group => match rdNums l [k] 5 [] with | (none, s) => (none, s) | (some fs, s) => (some (match fs with | [j] => Row.group j | _ => .hard), s)
theorem rdKind_go {q : Kind} {l : List Nat} {k : Nat} (h0 : ¬ (k = 0 ∧ q.needs = true)) (h1 : ¬ comm q.cps l < q.cps.length) : rdKind q l k = rdKind2 q l k := by
  unfold rdKind rdKind2
  rw [if_neg h0, if_neg h1]
  have two : ∀ {es : List Nat} {s t : Nat} {fs : List Nat}, rdNums l es s [] = (some fs, t) → fs.length = es.length := fun h => by
    have := rdNums_len h
    simpa using this
  cases q with
  | text => rfl
  | line => rfl
  | cat => rfl
  | hard =>
    dsimp only
    cases e : rdNums l [] 4 [] with
    | mk o t => cases o <;> rfl
  | nest =>
    dsimp only
    cases e : rdNums l [9, k] 4 [] with
    | mk o t =>
      cases o with
      | none => rfl
      | some fs =>
        have := two e
        match fs, this with
        | [n, j], _ => rfl
  | align =>
    dsimp only
    cases e : rdNums l [k] 5 [] with
    | mk o t =>
      cases o with
      | none => rfl
      | some fs =>
        have := two e
        match fs, this with
        | [j], _ => rfl
  | group =>
    dsimp only
    cases e : rdNums l [k] 5 [] with
    | mk o t =>
      cases o with
      | none => rfl
      | some fs =>
        have := two e
        match fs, this with
        | [j], _ => rfl
theorem sc__read_kind : FnScope ["kind", "line", "k", "begun"] ["kind", "line", "k"] (defScope s__read_kind) := ⟨rfl, rfl, rfl, by decide +kernel, rfl, by decide +kernel, by decide +kernel⟩
def sp_rdkind (K : PySem.W.Frag) : Sp := fun vs H Q _ => ∃ (q : Kind) (l : Str) (k : Nat) (U : Hp), vs = [.str q.str, .str l, .int k] ∧ Same U H ∧ l.length ≤ sizeLine ∧ k ≤ 1000 ∧ Told K U H Q (rdKind q (cl l) k)
theorem d__read_kind (T : Txt w K mg W) : DefOk P w K mg base "_read_kind" s__read_kind ["kind", "line", "k"] 3 (sp_rdkind K) := by
  refine T.f__read_kind.ok sc__read_kind (fun vs H Q E h => ?_) (fun f cdv A outer s H vs Q E hr h => ?_)
  · obtain ⟨q, l, k, U, rfl, _⟩ := h
    rfl
  · obtain ⟨q, l, kk, U, rfl, sm, hl, hk, k⟩ := h
    obtain ⟨q5, ql⟩ := kind_len q
    have qs : q.str.length ≤ sizeLine := Nat.le_trans q5 (Nat.le_of_ble_eq_true rfl)
    refine ⟨_, (Evl.pss_cut (ps_if (PW.pt (pw_and (pt_cmpR op_eq (pv 2) pe_int (nomark _)) (pw_and1 (pt_cmpR op_in_seq (pv 0) (pe_tup (pa_cons pe_str (pa_cons pe_str (pa_cons pe_str pa_nil)))) (by rfl))))) (pss_one (ps_ret (pe_tup (pa_cons pe_non (pa_cons pe_int pa_nil))))) pss_nil)
      (pss_cons (ps_set (i := 3) sc__read_kind.nd rfl (Or.inl rfl) (pe_callD (d__common_signs T) (hr.mono (by decide)) (pa_cons (pv 0) (pa_cons (pv 1) pa_nil))))
      (pss_cons (ps_if (pt_cmpR op_lt (pv 3) (pe_callB (id := "len") call_len (by rfl) T.n_len (by decide +kernel) (pa_cons (pv 0) pa_nil)) (nomark _)) (pss_one (ps_ret (pe_tup (pa_cons pe_non (pa_cons (pv 3) pa_nil))))) pss_nil)
      (pss_cons (ps_if (pt_cmpR op_eq (pv 0) pe_str (nomark _)) (pss_one (ps_ret (pe_callD (d__read_string T) (hr.mono (by decide)) (pa_cons (pv 0) (pa_cons (pv 1) (pa_cons (pe_globI T.g_MOST_TEXT_SIGNS) pa_nil)))))) pss_nil)
      (pss_cons (ps_if (pt_cmpR op_eq (pv 0) pe_str (nomark _)) (pss_one (ps_ret (pe_callD (d__read_string T) (hr.mono (by decide)) (pa_cons (pv 0) (pa_cons (pv 1) (pa_cons (pe_globI T.g_MOST_LINE_SIGNS) pa_nil)))))) pss_nil)
      (pss_cons (ps_if (pt_cmpR op_eq (pv 0) pe_str (nomark _)) (pss_one (ps_ret (pe_callD (d__read_cat T) (hr.mono (by decide)) (pa_cons (pv 1) (pa_cons (pv 2) pa_nil))))) pss_nil)
      (pss_cons (ps_if (pt_cmpR op_eq (pv 0) pe_str (nomark _)) (pss_one (ps_ret (pe_callD (d__read_numbers T) (hr.mono (by decide)) (pa_cons (pv 0) (pa_cons (pv 1) (pa_cons (pe_lst (pa_cons (pe_op op_add (pe_globI T.g_MOST_NEST) pe_int) (pa_cons (pv 2) pa_nil))) pa_nil)))))) pss_nil)
      (pss_cons (ps_if (pt_cmpR op_eq (pv 0) pe_str (nomark _)) (pss_one (ps_ret (pe_callD (d__read_numbers T) (hr.mono (by decide)) (pa_cons (pv 0) (pa_cons (pv 1) (pa_cons (pe_lst pa_nil) pa_nil)))))) pss_nil)
      (pss_one (ps_ret (pe_callD (d__read_numbers T) (hr.mono (by decide)) (pa_cons (pv 0) (pa_cons (pv 1) (pa_cons (pe_lst (pa_cons (pv 2) pa_nil)) pa_nil)))))))))))))), ?_⟩
    refine ⟨fun σ' H2 => σ' = [some (.str q.str), some (.str l), some (.int kk), none] ∧ Gr S0 U H U H2 ∧ ¬ (kk = 0 ∧ q.needs = true), ?_, ?_⟩
    · refine ⟨_, rfl, rfl, _, rfl, ?_⟩
      refine ite2 (fun h0 => ?_) (fun h0 => ?_)
      · have h0 : kk = 0 := by have := V.int.inj (of_decide_eq_true h0); omega
        refine ⟨_, rfl, Nat.le_of_ble_eq_true rfl, fun p hp => ⟨p, _, rfl, .inr (sqtO upd_same), rfl, by decide +kernel, _, rfl, ?_⟩⟩
        have g := (Gr.refl (S := S0) sm).newH (o := .tup [.str "nest", .str "align", .str "group"]) hp
        show (if (inV (.str q.str) [.str "nest", .str "align", .str "group"]) = true then _ else _)
        rw [kind_needs]
        refine ite2 (fun h1 => ?_) (fun h1 => ?_)
        · refine ⟨Nat.le_of_ble_eq_true rfl, fun r hr => ?_⟩
          refine k r .non _ _ (g.new hr) ?_ ?_
          · rw [show rdKind q (cl l) kk = (none, 0) by unfold rdKind; rw [if_pos ⟨h0, h1⟩]]
            exact upd_same
          · rw [show rdKind q (cl l) kk = (none, 0) by unfold rdKind; rw [if_pos ⟨h0, h1⟩]]
            rfl
        · exact ⟨rfl, g, fun z => h1 z.2⟩
      · exact ⟨rfl, Gr.refl sm, fun z => h0 (decide_eq_true (by rw [z.1]; rfl))⟩
    · rintro σ' H2 ⟨rfl, g, h0⟩
      have tl : ∀ {res : Option Row × Nat}, rdKind q (cl l) kk = res → ∀ {U' H' : Hp}, Gr S0 U H U' H' → Told K U' H' Q res := fun e _ _ g1 p v U2 H3 g2 h1 h2 => k p v U2 H3 (g1.trans g2) (by rw [e]; exact h1) (by rw [e]; exact h2)
      refine ⟨_, rfl, _, rfl, q.str, l, rfl, qs, hl, ?_⟩
      refine ⟨_, rfl, _, rfl, _, q.str.length, rfl, ⟨qs, rfl⟩, _, _, rfl, rfl, _, rfl, ?_⟩
      refine ite2 (fun h1 => ?_) (fun h1 => ?_)
      · have h1 : comm q.cps (cl l) < q.cps.length := by have := of_decide_eq_true h1; rw [ql]; exact Int.ofNat_lt.mp this
        refine ⟨_, rfl, Nat.le_of_ble_eq_true rfl, fun r hr => ?_⟩
        exact (tl (res := (none, comm q.cps (cl l))) (by unfold rdKind; rw [if_neg h0, if_pos h1]) g) r .non _ _ ((Gr.refl g.s).new hr) upd_same rfl
      · have h1 : ¬ comm q.cps (cl l) < q.cps.length := fun z => h1 (decide_eq_true (Int.ofNat_lt.mpr (by rw [← ql]; exact z)))
        have tl : ∀ {res : Option Row × Nat}, rdKind2 q (cl l) kk = res → ∀ {U' H' : Hp}, Gr S0 U H U' H' → Told K U' H' Q res := fun e _ _ g => tl ((rdKind_go h0 h1).trans e) g
        have s2 := g.s
        have tk := kind_eq q .text
        have lk := kind_eq q .line
        have ck := kind_eq q .cat
        have nk := kind_eq q .nest
        have hk' := kind_eq q .hard
        refine ⟨_, rfl, rfl, _, rfl, ?_⟩
        cases q with
        | text =>
          refine ifT tk ⟨_, rfl, _, rfl, "text", l, 20, U, fun z => .text (strOf z), rfl, fun z => rfl, qs, s2, hl, ?_⟩
          exact tl rfl g
        | line =>
          refine ifF tk ⟨_, rfl, rfl, _, rfl, ifT lk ⟨_, rfl, _, rfl, "line", l, 3, U, fun z => .line (strOf z), rfl, fun z => rfl, qs, s2, hl, ?_⟩⟩
          exact tl rfl g
        | cat =>
          refine ifF tk ⟨_, rfl, rfl, _, rfl, ifF lk ⟨_, rfl, rfl, _, rfl, ifT ck ⟨_, rfl, _, rfl, l, kk, U, rfl, s2, hl, hk, ?_⟩⟩⟩
          exact tl rfl g
        | nest =>
          refine ifF tk ⟨_, rfl, rfl, _, rfl, ifF lk ⟨_, rfl, rfl, _, rfl, ifF ck ⟨_, rfl, rfl, _, rfl, ifT nk ?_⟩⟩⟩
          refine ⟨_, rfl, _, rfl, _, _, rfl, rfl, _, rfl, Nat.le_of_ble_eq_true rfl, fun a ha => ?_⟩
          exact ⟨"nest", l, a, [9, kk], U, fun fs => match fs with | [n, j] => Row.nest n j | _ => .hard, rfl, fun fs hf => data_ints2 fs hf, qs, (g.newH ha).s, hl, sqlO upd_same, Nat.le_of_ble_eq_true rfl, by simpa using hk, tl rfl (g.newH ha)⟩
        | hard =>
          refine ifF tk ⟨_, rfl, rfl, _, rfl, ifF lk ⟨_, rfl, rfl, _, rfl, ifF ck ⟨_, rfl, rfl, _, rfl, ifF nk ⟨_, rfl, rfl, _, rfl, ifT hk' ?_⟩⟩⟩⟩
          refine ⟨_, rfl, _, rfl, Nat.le_of_ble_eq_true rfl, fun a ha => ?_⟩
          exact ⟨"hard", l, a, [], U, fun _ => .hard, rfl, fun fs hf => by rw [List.length_eq_zero_iff.mp hf]; rfl, qs, (g.newH ha).s, hl, sqlO upd_same, by decide, (by simp), tl rfl (g.newH ha)⟩
        | align =>
          refine ifF tk ⟨_, rfl, rfl, _, rfl, ifF lk ⟨_, rfl, rfl, _, rfl, ifF ck ⟨_, rfl, rfl, _, rfl, ifF nk ⟨_, rfl, rfl, _, rfl, ifF hk' ?_⟩⟩⟩⟩
          refine ⟨_, rfl, _, rfl, _, rfl, Nat.le_of_ble_eq_true rfl, fun a ha => ?_⟩
          exact ⟨"align", l, a, [kk], U, fun fs => match fs with | [j] => Row.align j | _ => .hard, rfl, fun fs hf => data_ints1 (fun n => rfl) fs hf, qs, (g.newH ha).s, hl, sqlO upd_same, Nat.le_of_ble_eq_true rfl, by simpa using hk, tl rfl (g.newH ha)⟩
        | group =>
          refine ifF tk ⟨_, rfl, rfl, _, rfl, ifF lk ⟨_, rfl, rfl, _, rfl, ifF ck ⟨_, rfl, rfl, _, rfl, ifF nk ⟨_, rfl, rfl, _, rfl, ifF hk' ?_⟩⟩⟩⟩
          refine ⟨_, rfl, _, rfl, _, rfl, Nat.le_of_ble_eq_true rfl, fun a ha => ?_⟩
          exact ⟨"group", l, a, [kk], U, fun fs => match fs with | [j] => Row.group j | _ => .hard, rfl, fun fs hf => data_ints1 (fun n => rfl) fs hf, qs, (g.newH ha).s, hl, sqlO upd_same, Nat.le_of_ble_eq_true rfl, by simpa using hk, tl rfl (g.newH ha)⟩
theorem sc__read_row : FnScope ["line", "k", "most", "kind", "row", "sign"] ["line", "k"] (defScope s__read_row) := ⟨rfl, rfl, rfl, by decide +kernel, rfl, by decide +kernel, by decide +kernel⟩
def kindStrs : List Str := kinds.map Kind.str
def sp_rdrow (K : PySem.W.Frag) : Sp := fun vs H Q _ => ∃ (l : Str) (k : Nat) (U : Hp), vs = [.str l, .int k] ∧ Same U H ∧ l.length ≤ sizeLine ∧ k ≤ 1000 ∧ Told K U H Q (rdRow (cl l) k kinds 0)
theorem rdRow_none {l : List Nat} {k : Nat} {q : Kind} {qs : List Kind} {m s : Nat} (h : rdKind q l k = (none, s)) : rdRow l k (q :: qs) m = rdRow l k qs (max m s) := by
  conv => lhs; unfold rdRow
  rw [h]
theorem rdRow_some {l : List Nat} {k : Nat} {q : Kind} {qs : List Kind} {m s : Nat} {r : Row} (h : rdKind q l k = (some r, s)) : rdRow l k (q :: qs) m = (some r, s) := by
  unfold rdRow
  rw [h]
theorem d__read_row (T : Txt w K mg W) : DefOk P w K mg base "_read_row" s__read_row ["line", "k"] 4 (sp_rdrow K) := by
  refine T.f__read_row.ok sc__read_row (fun vs H Q E h => ?_) (fun f cdv A outer s H vs Q E hr h => ?_)
  · obtain ⟨l, k, U, rfl, _⟩ := h
    rfl
  · obtain ⟨l, kk, U, rfl, sm, hl, hk, k⟩ := h
    refine ⟨_, (pss_cons (ps_set (i := 2) sc__read_row.nd rfl (Or.inl rfl) pe_int)
      (pss_cons (ps_for PassesOwn.never rfl (pi_wk (pe_glob (v := .ref W.ROW_LENGTHS) (by rfl) T.g_ROW_LENGTHS rfl)) (pg_name (i := 3) sc__read_row.nd rfl (Or.inl rfl))
      (pss_cons (ps_asg (pe_callD (d__read_kind T) (hr.mono (by decide)) (pa_cons (pv 3) (pa_cons (pv 0) (pa_cons (pv 1) pa_nil)))) (pg_tup rfl (pgs_cons (pg_name (i := 4) sc__read_row.nd rfl (Or.inl rfl)) (pgs_cons (pg_name (i := 5) sc__read_row.nd rfl (Or.inl rfl)) pgs_nil))))
      (pss_cons (ps_if (pt_cmpR op_notN (pv 4) pe_non (nomark _)) (pss_one (ps_ret (pe_tup (pa_cons (pv 4) (pa_cons (pv 5) pa_nil))))) pss_nil)
      (pss_one (ps_set (i := 2) sc__read_row.nd rfl (Or.inl rfl) (pe_callB (id := "max") (call_max2 rfl) (by rfl) T.n_max (by decide +kernel) (pa_cons (pv 2) (pa_cons (pv 5) pa_nil))))))))
      (pss_one (ps_ret (pe_tup (pa_cons pe_non (pa_cons (pv 2) pa_nil))))))), ?_⟩
    obtain ⟨es, n, kl, ko, kt⟩ := T.kt_ROW_LENGTHS
    refine ⟨W.ROW_LENGTHS, es, n, kindStrs, rfl, kl, ko, kt, ?_⟩
    refine for_it walk_wk (fun i σ' H2 => ∃ (m : Nat) (v3 v4 v5 : Option V), σ' = [some (.str l), some (.int kk), some (.int m), v3, v4, v5] ∧ Gr S0 U H U H2 ∧ rdRow (cl l) kk kinds 0 = rdRow (cl l) kk (kinds.drop i) m) ⟨0, none, none, none, rfl, Gr.refl sm, rfl⟩ (fun _ _ _ _ _ => True.intro) ?_ ?_
    · rintro i x σ' H2 H3 hi ⟨m, v3, v4, v5, rfl, g, er⟩ ⟨rfl, z, hz, rfl⟩
      obtain ⟨q, hq, rfl⟩ : ∃ q, kinds[i]? = some q ∧ z = q.str := by
        rw [show kindStrs = kinds.map Kind.str from rfl, List.getElem?_map] at hz
        cases e2 : kinds[i]? with
        | none => rw [e2] at hz; cases hz
        | some j => rw [e2] at hz; exact ⟨j, rfl, (Option.some.inj hz).symm⟩
      rw [drop_step hq] at er
      refine ⟨_, rfl, _, rfl, _, rfl, q, l, kk, U, rfl, g.s, hl, hk, fun p v U' H4 g2 hp hv => ?_⟩
      refine ⟨p, _, rfl, sqtO (g2.s _ _ hp), rfl, _, _, rfl, _, _, rfl, rfl, ?_⟩
      cases ep : rdKind q (cl l) kk with
      | mk o t =>
      rw [ep] at hv hp
      cases o with
      | none =>
        obtain rfl : v = .non := hv
        refine ⟨_, rfl, rfl, _, rfl, iteF ?_⟩
        refine ⟨_, rfl, _, rfl, _, _, rfl, ?_⟩
        refine ⟨max m t, some (.str q.str), some .non, some (.int t), ?_, (g.trans g2).back, er.trans (rdRow_none ep)⟩
        have e9 : (if (t : Int) > m then (t : Int) else (m : Int)) = ((max m t : Nat) : Int) := by split <;> omega
        exact congrArg (fun i : Int => [some (V.str l), some (V.int kk), some (V.int i), some (V.str q.str), some V.non, some (V.int t)]) e9
      | some r =>
        refine ⟨_, rfl, rfl, _, rfl, ?_⟩
        obtain ⟨a, xs, rfl, _⟩ : ∃ a xs, v = .ref a ∧ SqT K U' a xs := by
          have hv : Dp K U' v r.data := hv
          cases r <;> (cases hv with | tup ht hs => exact ⟨_, _, rfl, ht⟩)
        refine iteT ⟨_, rfl, _, rfl, Nat.le_of_ble_eq_true rfl, fun p2 hp2 => ?_⟩
        have g3 := (g.trans g2).new (o := .tup [.ref a, .int t]) hp2
        rw [rdRow_some ep] at er
        refine k p2 (.ref a) _ _ g3 (by rw [er]; exact upd_same) ?_
        rw [er]
        exact dpS (fun b o e => by rw [upd_ne (ne_of_none (g2.s b o e) hp2)]; exact e) hv
    · rintro σ' H2 ⟨m, v3, v4, v5, rfl, g, er⟩
      rw [show kinds.drop kindStrs.length = [] from rfl] at er
      refine ⟨_, rfl, Nat.le_of_ble_eq_true rfl, fun p hp => k p .non _ _ (g.new hp) (by rw [er]; exact upd_same) (by rw [er]; rfl)⟩
end
end Lw

namespace Lw
open PySem PySem.Spec PyProof.Rows L2 VW TL
local macro_rules | `(tactic| walk_at "rdc") => `(tactic| first | assumption | rfl | decide | omega | exact Or.inr ⟨by decide, by decide⟩ | exact ⟨by decide, by decide⟩ | exact ⟨by decide, by decide, by decide⟩ | (show (0 : Int) < _; omega) | (show (0 : Int) < _ ∧ _ < (1073741824 : Int); omega) | (show (-(2 ^ 64) < _ ∧ _ < 2 ^ 64) ∨ (-(2 ^ 64) < _ ∧ _ < 2 ^ 64); omega) | (show (-(2 ^ 64) < _ ∧ _ < 2 ^ 64) ∨ (-(2 ^ 64) < _ ∧ _ < 2 ^ 64); right; split <;> decide) | exact Nat.le_of_ble_eq_true rfl)
local macro_rules | `(tactic| walk_at "rd1") => `(tactic| first | refine ⟨_, rfl, ?_⟩ | refine And.intro (by walk_at "rdc") ?_ | refine ⟨_, _, rfl, rfl, ?_⟩ | refine Or.inl ⟨_, rfl, ?_⟩ | refine Or.inr ⟨_, rfl, ?_⟩ | refine ⟨_, _, _, _, rfl, rfl, sqlO (by first | assumption | exact upd_same), rfl, ?_⟩ | refine ⟨_, _, _, _, rfl, rfl, (by first | assumption | exact upd_same), rfl, ?_⟩)
local macro_rules | `(tactic| walk_at "rd") => `(tactic| repeat (walk_at "rd1"))

section
variable {P : Program} {w : World} {K : PySem.W.Frag} {mg : Str → Option Value} {base : Heap} {W : Wd}
theorem shows_int {n : Nat} (h : n < 1000) : Shows (.int n) := .inr ⟨n, rfl, by omega, by rw [← cl_len, dg_text n h]; exact Nat.le_trans (dg_len n) (by decide)⟩
theorem shows_m1 : Shows (.int (-1)) := .inr ⟨-1, rfl, by decide, by decide +kernel⟩
theorem shows_str {z : Str} (h : z.length ≤ 1000) : Shows (.str z) := .inl ⟨z, rfl, h⟩
theorem sc__shown : FnScope ["field"] ["field"] (defScope s__shown) := ⟨rfl, rfl, rfl, by decide +kernel, rfl, by decide +kernel, by decide +kernel⟩
def sp_shown : Sp := fun vs H Q _ => ∃ v, vs = [v] ∧ Shows v ∧ ∀ (z : Str) (H' : Hp), Same H H' → z.length ≤ 1000 → Q (.str z) H'
theorem d__shown (T : Txt w K mg W) : DefOk P w K mg base "_shown" s__shown ["field"] 1 sp_shown := by
  refine T.f__shown.ok sc__shown (fun vs H Q E h => ?_) (fun f cdv A outer s H vs Q E hr h => ?_)
  · obtain ⟨v, rfl, _⟩ := h
    rfl
  · obtain ⟨v, rfl, hv, k⟩ := h
    refine ⟨_, (pss_cons (ps_if (pt_val (pe_callB (id := "isinstance") call_isiT (by rfl) T.n_isinstance (by decide +kernel) (pa_cons (pv 0) (pa_cons (pe_tup (pa_cons (pe_bltn (v := .ty "int") (by rfl) T.n_int (by decide +kernel) rfl) (pa_cons (pe_bltn (v := .ty "str") (by rfl) T.n_str (by decide +kernel) rfl) pa_nil))) pa_nil)))) (pss_one (ps_ret (pe_callTy (T := "str") call_str_is (by rfl) T.n_str (by decide +kernel) (pa_cons (pv 0) pa_nil)))) pss_nil)
      (pss_one (ps_ret pe_str))), ?_⟩
    rcases hv with ⟨z, rfl, hz⟩ | ⟨i, rfl, hi, hz⟩
    · refine ⟨_, rfl, Nat.le_of_ble_eq_true rfl, fun t ht => ⟨_, t, _, _, [.type "int", .type "str"], true, rfl, upd_same, .cons (.ty "int") (.cons (.ty "str") .nil), .base (.str z), kany_no (kit_ty (by decide +kernel)) (kany_yes (kit_ty (by decide +kernel))), true, rfl, iteT ?_⟩⟩
      exact ⟨_, rfl, .inr ⟨z, rfl, k z _ (same_new ht) hz⟩⟩
    · refine ⟨_, rfl, Nat.le_of_ble_eq_true rfl, fun t ht => ⟨_, t, _, _, [.type "int", .type "str"], true, rfl, upd_same, .cons (.ty "int") (.cons (.ty "str") .nil), .base (.int i), kany_yes (kit_ty (by decide +kernel)), true, rfl, iteT ?_⟩⟩
      exact ⟨_, rfl, .inl ⟨i, rfl, small_log hi, k _ _ (same_new ht) hz⟩⟩
theorem len_app (a b : Str) : (a ++ b).length = a.length + b.length := by
  rw [← cl_len, ← cl_len, ← cl_len]
  show (tl (a ++ b)).length = _
  rw [tl_append, List.length_append]
theorem fits {a b : Nat} (h : a ≤ 10000) (h2 : b ≤ 10000) : a + b ≤ sizeLine := Nat.le_trans (Nat.add_le_add h h2) (Nat.le_of_ble_eq_true rfl)
theorem shows_nat {n : Nat} (h : n < 4000) : Shows (.int n) := by
  have q : (List.range 4000).all (fun n : Nat => decide ((toString (n : Int) : Str).length ≤ 1000)) = true := by decide +kernel
  exact .inr ⟨n, rfl, by omega, of_decide_eq_true (List.all_eq_true.mp q n (List.mem_range.mpr h))⟩
theorem sc_InvalidText___init__ : FnScope ["self", "line", "sign"] ["self", "line", "sign"] (defScope s_InvalidText___init__) := ⟨rfl, rfl, rfl, by decide +kernel, rfl, by decide +kernel, by decide +kernel⟩
theorem er_InvalidText (T : Txt w K mg W) : ErrOk P w K mg base "InvalidText" W.c_InvalidText ["self", "line", "sign"] 2 (spErr2 W.c_InvalidText "line" "sign" Shows) := by
  refine T.e_InvalidText.ok sc_InvalidText___init__ (fun vs H Q E h => ?_) (fun f cdv A outer s H vs Q E hr h => ?_)
  · obtain ⟨e, u, v, rfl, _⟩ := h
    rfl
  · obtain ⟨e, u, v, rfl, he, hu, hv, k⟩ := h
    refine ⟨_, (pss_cons (ps_expr (pe_supinit T.sup T.c_LayoutError (pa_cons (pv 0) (pa_cons (pe_joined (.cons pe_str (.cons (pe_fmt (pe_callD (d__shown T) (hr.mono (by decide)) (pa_cons (pv 1) pa_nil))) (.cons pe_str (.cons (pe_fmt (pe_callD (d__shown T) (hr.mono (by decide)) (pa_cons (pv 2) pa_nil))) PJ.nil))))) pa_nil))))
      (pss_cons (ps_field (pv 0) (pv 1))
      (pss_one (ps_field (pv 0) (pv 2))))), ?_⟩
    refine ⟨_, rfl, _, rfl, by decide +kernel, _, rfl, u, rfl, hu, fun z H1 s1 hz => .inl ⟨z, rfl, Nat.le_trans hz (Nat.le_of_ble_eq_true rfl), _, rfl, ?_, _, rfl, ?_, _, rfl, v, rfl, hv, fun y H2 s2 hy => .inl ⟨y, rfl, Nat.le_trans hy (Nat.le_of_ble_eq_true rfl), _, rfl, ?_, ?_⟩⟩⟩
    · rw [len_app]
      exact fits (by decide +kernel) (by omega)
    · rw [len_app, len_app]
      exact fits (Nat.le_trans (Nat.add_le_add (by decide +kernel : _ ≤ 1000) hz) (by decide)) (by decide +kernel)
    · rw [len_app, len_app, len_app]
      exact fits (Nat.le_trans (Nat.add_le_add (Nat.add_le_add (by decide +kernel : _ ≤ 1000) hz) (by decide +kernel : _ ≤ 1000)) (by decide)) (by omega)
    · have s12 := s1.trans s2
      refine ⟨e, W.c_InvalidText, _, rfl, Nat.le_of_ble_eq_true rfl, T.e_InvalidText.ae, s12 _ _ he, ?_⟩
      refine ⟨_, rfl, _, rfl, e, W.c_InvalidText, rfl, T.e_InvalidText.ae, T.na_InvalidText_line, .inl ⟨s12 _ _ he, fun d hd ne => ?_⟩⟩
      refine ⟨_, rfl, _, rfl, e, W.c_InvalidText, rfl, T.e_InvalidText.ae, T.na_InvalidText_sign, .inr ⟨d, _, upd_same, by rw [upd_ne ne]; exact upd_same, Nat.le_of_ble_eq_true rfl, ?_⟩⟩
      have q := k H2 d s12 hd ne
      have e9 : upd (upd (upd H2 d (exd d [("line", u)])) e (exo e W.c_InvalidText (some d))) d (exd d [("sign", v), ("line", u)]) = upd (upd H2 d (exd d [("sign", v), ("line", u)])) e (exo e W.c_InvalidText (some d)) := by
        funext b
        by_cases h1 : b = d
        · rw [h1, upd_same, upd_ne ne, upd_same]
        · rw [upd_ne h1]
          by_cases h2 : b = e
          · rw [h2, upd_same, upd_same]
          · rw [upd_ne h2, upd_ne h1, upd_ne h2, upd_ne h1]
      rw [← e9] at q
      exact q
end
end Lw

namespace Lw
open PySem PySem.Spec PyProof.Rows L2 VW TL
local macro_rules | `(tactic| walk_at "rdc") => `(tactic| first | assumption | rfl | decide | omega | exact Or.inr ⟨by decide, by decide⟩ | exact ⟨by decide, by decide⟩ | exact ⟨by decide, by decide, by decide⟩ | (show (0 : Int) < _; omega) | (show (0 : Int) < _ ∧ _ < (1073741824 : Int); omega) | (show (-(2 ^ 64) < _ ∧ _ < 2 ^ 64) ∨ (-(2 ^ 64) < _ ∧ _ < 2 ^ 64); omega) | (show (-(2 ^ 64) < _ ∧ _ < 2 ^ 64) ∨ (-(2 ^ 64) < _ ∧ _ < 2 ^ 64); right; split <;> decide) | exact Nat.le_of_ble_eq_true rfl)
local macro_rules | `(tactic| walk_at "rd1") => `(tactic| first | refine ⟨_, rfl, ?_⟩ | refine And.intro (by walk_at "rdc") ?_ | refine ⟨_, _, rfl, rfl, ?_⟩ | refine Or.inl ⟨_, rfl, ?_⟩ | refine Or.inr ⟨_, rfl, ?_⟩ | refine ⟨_, _, _, _, rfl, rfl, sqlO (by first | assumption | exact upd_same), rfl, ?_⟩ | refine ⟨_, _, _, _, rfl, rfl, (by first | assumption | exact upd_same), rfl, ?_⟩)
local macro_rules | `(tactic| walk_at "rd") => `(tactic| repeat (walk_at "rd1"))

section
variable {P : Program} {w : World} {K : PySem.W.Frag} {mg : Str → Option Value} {base : Heap} {W : Wd}
theorem sc_read_doc : FnScope ["text", "rows", "k", "line", "row", "sign"] ["text"] (defScope s_read_doc) := ⟨rfl, rfl, rfl, by decide +kernel, rfl, by decide +kernel, by decide +kernel⟩
/-- InvalidText(l, s) is raised -/
def RaisesText (C : Addr) (H : Hp) (E : XK) (l s : Int) : Prop := ∀ (d : Addr) (H' : Hp), Same H H' → H d = none → H' d = some (.xd [("sign", .int s), ("line", .int l)]) → E (.ref C) (some d) H'
def sp_readdoc (K : PySem.W.Frag) (W : Wd) : Sp := fun vs H Q E => ∃ (U : Hp), Same U H ∧ ((∃ (z : Str), vs = [.str z] ∧ z.length + 2 ≤ sizeLine ∧ (∀ y ∈ Txt.split z "\n", y.length < 4000) ∧
    match rdDoc ((Txt.split z "\n").map cl) [] with
    | .ok qs => 0 < qs.length ∧ ∀ (x : Addr) (U' H' : Hp), Gr S0 U H U' H' → DocAt K W.c_Doc U' x qs → Q (.ref x) H'
    | .error (l, s) => RaisesText W.c_InvalidText H E l s) ∨
  (∃ (v : V) (t : Value), vs = [v] ∧ TyX K H v t ∧ PySem.W.kitOne K t (.type "str") = some false ∧ RaisesText W.c_InvalidText H E (-1) (-1)))
theorem digs_far {e : Nat} : ∀ {l : List Nat} {n : Option Nat} {s : Nat}, (digs e l n s).2 ≤ s + l.length
  | [], n, s => Nat.le_refl _
  | c :: r, n, s => by
    unfold digs
    rw [List.length_cons]
    split
    · split
      · show s ≤ _
        omega
      · have := digs_far (e := e) (l := r) (n := some (n.getD 0 * 10 + (c - 48))) (s := s + 1)
        omega
    · show s ≤ _
      omega
theorem rdNum_far {l : List Nat} {s e : Nat} : (rdNum l s e).2 ≤ max s l.length := by
  unfold rdNum
  split
  · show s ≤ _
    omega
  · rename_i h
    have hs : l[s]? = some 32 := Classical.byContradiction fun z => h (.inr z)
    have hl := (List.getElem?_eq_some_iff.mp hs).1
    have := digs_far (e := e) (l := l.drop (s + 1)) (n := none) (s := s + 1)
    rw [List.length_drop] at this
    omega
theorem rdParts_far {l : List Nat} {k : Nat} : ∀ {m s : Nat} {ps : List Nat}, (rdParts l k m s ps).2 ≤ max s l.length
  | 0, s, ps => by
    unfold rdParts
    split <;> (show s ≤ _; omega)
  | m + 1, s, ps => by
    unfold rdParts
    split
    · have h1 := rdNum_far (l := l) (s := s) (e := k)
      split
      · rename_i t e
        rw [e] at h1
        exact h1
      · rename_i p t e
        rw [e] at h1
        have h1 : t ≤ max s l.length := h1
        have := rdParts_far (l := l) (k := k) (m := m) (s := t) (ps := ps ++ [p])
        omega
    · show s ≤ _
      omega
theorem rdNums_far {l : List Nat} : ∀ {es : List Nat} {s : Nat} {fs : List Nat}, (rdNums l es s fs).2 ≤ max s l.length
  | [], s, fs => by
    unfold rdNums
    split <;> (show s ≤ _; omega)
  | e :: es, s, fs => by
    unfold rdNums
    have h1 := rdNum_far (l := l) (s := s) (e := e)
    split
    · rename_i t q
      rw [q] at h1
      exact h1
    · rename_i n t q
      rw [q] at h1
      have h1 : t ≤ max s l.length := h1
      have := rdNums_far (l := l) (es := es) (s := t) (fs := fs ++ [n])
      omega
theorem rdStr_far {k m : Nat} {l : List Nat} : (rdStr k l m).2 ≤ max (k + 1) l.length := by
  unfold rdStr
  have := run_le m (l.drop (k + 1))
  rw [List.length_drop] at this
  split
  · show k ≤ _
    omega
  split <;> (show k + 1 + _ ≤ _; omega)
theorem comm_far : ∀ (a b : List Nat), comm a b ≤ a.length
  | [], b => by cases b <;> exact Nat.zero_le _
  | x :: a, [] => Nat.zero_le _
  | x :: a, y :: b => by
    unfold comm
    have := comm_far a b
    split
    · rw [List.length_cons]
      omega
    · exact Nat.zero_le _
theorem rdKind_far {q : Kind} {l : List Nat} {k : Nat} : (rdKind q l k).2 ≤ max 6 l.length := by
  have hq := (kind_len q).1
  have hc := comm_far q.cps l
  rw [(kind_len q).2] at hc
  by_cases h0 : k = 0 ∧ q.needs = true
  · unfold rdKind
    rw [if_pos h0]
    exact Nat.zero_le _
  by_cases h1 : comm q.cps l < q.cps.length
  · unfold rdKind
    rw [if_neg h0, if_pos h1]
    show comm q.cps l ≤ _
    omega
  rw [rdKind_go h0 h1]
  cases q with
  | text =>
    have := rdStr_far (k := 4) (m := 20) (l := l)
    show (match rdStr 4 l 20 with | (none, s) => (none, s) | (some z, s) => (some (Row.text (strOf z)), s)).2 ≤ _
    split <;> (rename_i e; rw [e] at this; have this : _ ≤ max 5 l.length := this; show _ ≤ max 6 l.length; omega)
  | line =>
    have := rdStr_far (k := 4) (m := 3) (l := l)
    show (match rdStr 4 l 3 with | (none, s) => (none, s) | (some z, s) => (some (Row.line (strOf z)), s)).2 ≤ _
    split <;> (rename_i e; rw [e] at this; have this : _ ≤ max 5 l.length := this; show _ ≤ max 6 l.length; omega)
  | cat =>
    have := rdParts_far (l := l) (k := k) (m := 8) (s := 3) (ps := [])
    show (match rdParts l k 8 3 [] with | (none, s) => (none, s) | (some ps, s) => (some (Row.cat (ps.map Int.ofNat)), s)).2 ≤ _
    split <;> (rename_i e; rw [e] at this; have this : _ ≤ max 3 l.length := this; show _ ≤ max 6 l.length; omega)
  | nest =>
    have := rdNums_far (l := l) (es := [9, k]) (s := 4) (fs := [])
    show (match rdNums l [9, k] 4 [] with | (none, s) => (none, s) | (some fs, s) => (some (match fs with | [n, j] => Row.nest n j | _ => .hard), s)).2 ≤ _
    split <;> (rename_i e; rw [e] at this; have this : _ ≤ max 4 l.length := this; show _ ≤ max 6 l.length; omega)
  | hard =>
    have := rdNums_far (l := l) (es := []) (s := 4) (fs := [])
    show (match rdNums l [] 4 [] with | (none, s) => (none, s) | (some fs, s) => (some Row.hard, s)).2 ≤ _
    split <;> (rename_i e; rw [e] at this; have this : _ ≤ max 4 l.length := this; show _ ≤ max 6 l.length; omega)
  | align =>
    have := rdNums_far (l := l) (es := [k]) (s := 5) (fs := [])
    show (match rdNums l [k] 5 [] with | (none, s) => (none, s) | (some fs, s) => (some (match fs with | [j] => Row.align j | _ => .hard), s)).2 ≤ _
    split <;> (rename_i e; rw [e] at this; have this : _ ≤ max 5 l.length := this; show _ ≤ max 6 l.length; omega)
  | group =>
    have := rdNums_far (l := l) (es := [k]) (s := 5) (fs := [])
    show (match rdNums l [k] 5 [] with | (none, s) => (none, s) | (some fs, s) => (some (match fs with | [j] => Row.group j | _ => .hard), s)).2 ≤ _
    split <;> (rename_i e; rw [e] at this; have this : _ ≤ max 5 l.length := this; show _ ≤ max 6 l.length; omega)
theorem rdRow_far {l : List Nat} {k : Nat} : ∀ {qs : List Kind} {m : Nat}, (rdRow l k qs m).2 ≤ max m (max 6 l.length)
  | [], m => by show m ≤ _; omega
  | q :: qs, m => by
    have h1 := rdKind_far (q := q) (l := l) (k := k)
    unfold rdRow
    split
    · rename_i r s e
      rw [e] at h1
      have h1 : s ≤ max 6 l.length := h1
      show s ≤ _
      omega
    · rename_i s e
      rw [e] at h1
      have h1 : s ≤ max 6 l.length := h1
      have := rdRow_far (l := l) (k := k) (qs := qs) (m := max m s)
      omega
theorem rdDoc_cons {l : List Nat} {ls : List (List Nat)} {rs qs : List Row} (h : rdDoc (l :: ls) rs = .ok qs) : rs.length ≠ 200 ∧ ∃ r s, rdRow l rs.length kinds 0 = (some r, s) ∧ rdDoc ls (rs ++ [r]) = .ok qs := by
  unfold rdDoc at h
  split at h
  · cases h
  split at h
  · cases h
  · rename_i h0 o r s e
    exact ⟨h0, r, s, e, h⟩
theorem rdDoc_go {l : List Nat} {ls : List (List Nat)} {rs : List Row} : rdDoc (l :: ls) rs = if rs.length = 200 then .error (200, 0) else match rdRow l rs.length kinds 0 with | (none, s) => .error (rs.length, s) | (some r, _) => rdDoc ls (rs ++ [r]) := rfl
theorem d_read_doc (T : Txt w K mg W) : DefOkX P w K mg base "read_doc" s_read_doc ["text"] 8 (sp_readdoc K W) := by
  refine T.f_read_doc.okX sc_read_doc (fun vs H Q E h => ?_) (fun f cdv A outer s H vs Q E hr h => ?_)
  · obtain ⟨U, sm, ⟨z, rfl, _⟩ | ⟨v, t, rfl, _⟩⟩ := h <;> rfl
  · obtain ⟨U, sm, ⟨z, rfl, hz, hy, hq⟩ | ⟨v, t, rfl, ht, hk, k⟩⟩ := h
    · refine ⟨_, (pss_cons (ps_if (pt_not (pt_val (pe_callB (id := "isinstance") call_isi (by rfl) T.n_isinstance (by decide +kernel) (pa_cons (pv 0) (pa_cons (pe_bltn (v := .ty "str") (by rfl) T.n_str (by decide +kernel) rfl) pa_nil))))) (pss_one (ps_raise rfl (takes_of rfl rfl rfl rfl) (pmk_err (er_InvalidText T) (hr.mono (by decide)) (pa_cons (pe_un un_neg pe_int) (pa_cons (pe_un un_neg pe_int) pa_nil))))) pss_nil)
      (pss_cons (ps_set (i := 1) sc_read_doc.nd rfl (Or.inl rfl) (pe_lst pa_nil))
      (pss_cons (ps_for (passes_of rfl) rfl (pi_enum (by rfl) T.n_enumerate (pa_cons (pe_split (pv 0) pe_str) pa_nil)) (pg_tup rfl (pgs_cons (pg_name (i := 2) sc_read_doc.nd rfl (Or.inl rfl)) (pgs_cons (pg_name (i := 3) sc_read_doc.nd rfl (Or.inl rfl)) pgs_nil)))
      (pss_cons (ps_if (pt_cmpR op_eq (pv 2) (pe_globI T.g_MOST_ROWS) (nomark _)) (pss_one (ps_raise rfl (takes_of rfl rfl rfl rfl) (pmk_err (er_InvalidText T) (hr.mono (by decide)) (pa_cons (pv 2) (pa_cons pe_int pa_nil))))) pss_nil)
      (pss_cons (ps_asg (pe_callD (d__read_row T) (hr.mono (by decide)) (pa_cons (pv 3) (pa_cons (pv 2) pa_nil))) (pg_tup rfl (pgs_cons (pg_name (i := 4) sc_read_doc.nd rfl (Or.inl rfl)) (pgs_cons (pg_name (i := 5) sc_read_doc.nd rfl (Or.inl rfl)) pgs_nil))))
      (pss_cons (ps_if (pt_cmpR op_isN (pv 4) pe_non (nomark _)) (pss_one (ps_raise rfl (takes_of rfl rfl rfl rfl) (pmk_err (er_InvalidText T) (hr.mono (by decide)) (pa_cons (pv 2) (pa_cons (pv 5) pa_nil))))) pss_nil)
      (pss_one (ps_expr (pe_bm PySem.F.plainAttrs_list PySem.F.slot_list_append PySem.F.type_list_append mt_append (pv 1) (pa_cons (pv 4) pa_nil))))))))
      (pss_one (ps_ret (mk_Doc T (hr.mono (by decide)) (pa_cons (pv 1) pa_nil))))))), ?_⟩
      refine ⟨_, rfl, _, _, _, _, true, rfl, .ty "str", .base (.str _), kit_ty (by decide +kernel), true, rfl, iteF ?_⟩
      refine ⟨Nat.le_of_ble_eq_true rfl, fun D hD => ?_⟩
      refine ⟨_, rfl, ⟨_, rfl⟩, z, "\n", rfl, rfl, rfl, hz, fun L hL => ?_⟩
      generalize hys : Txt.split z "\n" = ys at hy hq
      have g0 := ((Gr.refl (S := S0) sm).newH (o := .lst []) hD).new (o := .lst (ys.map V.str)) hL
      have nDL : D ≠ L := ne_of_none upd_same hL
      have U1D : (upd U L (.lst (ys.map V.str))) D = none := by rw [upd_ne nDL]; exact vfree sm hD
      have fin : ∀ {l sg : Nat}, rdDoc (ys.map cl) [] = .error (l, sg) → ∀ (d : Addr) (H' : Hp), Same H H' → H d = none → H' d = some (.xd [("sign", .int sg), ("line", .int l)]) → E (.ref W.c_InvalidText) (some d) H' := fun e => by
        rw [e] at hq
        exact hq
      refine ⟨_, _, rfl, sqlO upd_same, ?_⟩
      refine for_it walk_enum (fun i σ' H2 => ∃ (U' : Hp) (vs : List V) (rs : List Row) (v2 v3 v4 v5 : Option V), σ' = [some (.str z), some (.ref D), v2, v3, v4, v5] ∧ Gr S0 U H U' H2 ∧ Same (upd U L (.lst (ys.map V.str))) U' ∧ U' D = none ∧ H2 D = some (.lst vs) ∧ DpAll K U' vs (rs.map Row.data) ∧ rs.length = i ∧ i ≤ 200 ∧ OkRows rs ∧ rdDoc (ys.map cl) [] = rdDoc ((ys.map cl).drop i) rs)
        ⟨_, [], [], none, none, none, none, rfl, g0, Same.refl _, U1D, by rw [upd_ne nDL]; exact upd_same, .nil, rfl, Nat.zero_le _, (fun i r e => by simp at e), rfl⟩ (fun i σ' H2 _ ⟨U', vs, rs, v2, v3, v4, v5, _, g, s1, _⟩ => sqlO (g.s _ _ (s1 _ _ upd_same))) ?_ ?_
      · rintro i x σ' H2 H3 hi ⟨U', vs, rs, v2, v3, v4, v5, rfl, g, s1, vD, hd, hdp, hl, h200, hok, er⟩ ⟨t, y1, y2, rfl, ht, rfl, e1, e2⟩
        rw [List.length_map] at hi
        cases e1
        have e2 : (ys.map V.str)[i]? = some y2 := e2
        rw [List.getElem?_map] at e2
        obtain ⟨y, he, rfl⟩ : ∃ y, ys[i]? = some y ∧ y2 = V.str y := by
          cases e3 : ys[i]? with
          | none => rw [e3] at e2; cases e2
          | some j => rw [e3] at e2; exact ⟨j, rfl, (Option.some.inj e2).symm⟩
        have hyi : (ys.map cl)[i]? = some (cl y) := by rw [List.getElem?_map, he]; rfl
        have yl := hy y (List.mem_of_getElem? he)
        rw [drop_step hyi, rdDoc_go, hl] at er
        have g1 := g.newH (o := .tup [.int (i : Nat), .str y]) ht
        have nDt : D ≠ t := ne_of_none hd ht
        refine ⟨t, _, rfl, sqtO upd_same, rfl, _, _, rfl, _, _, rfl, rfl, ?_⟩
        refine ⟨_, rfl, rfl, _, rfl, ?_⟩
        refine ite2 (fun hc => ?_) (fun hc => ?_)
        · have hc : i = 200 := by have := V.int.inj (of_decide_eq_true hc); omega
          rw [if_pos hc] at er
          refine ⟨_, rfl, Nat.le_of_ble_eq_true rfl, fun e he => raise2 he (shows_int (by omega)) (shows_int (n := 0) (by decide)) fun d H' sd hd0 hx => ?_⟩
          subst hc
          exact fin er d H' (g1.same.trans sd) (g1.free hd0) hx
        · have hc : i ≠ 200 := fun q => hc (decide_eq_true (by rw [q]; rfl))
          rw [if_neg hc] at er
          refine ⟨_, rfl, _, rfl, y, i, U', rfl, g1.s, Nat.le_trans (Nat.le_of_lt yl) (Nat.le_of_ble_eq_true rfl), by omega, fun p v U2 H4 g2 hp hv => ?_⟩
          have far := rdRow_far (l := cl y) (k := i) (qs := kinds) (m := 0)
          cases ep : rdRow (cl y) i kinds 0 with
          | mk o sg =>
          rw [ep] at hv hp er far
          have far : sg ≤ max 0 (max 6 (cl y).length) := far
          rw [cl_len] at far
          refine ⟨p, _, rfl, sqtO (g2.s _ _ hp), rfl, _, _, rfl, _, _, rfl, rfl, ?_⟩
          cases o with
          | none =>
            obtain rfl : v = .non := hv
            refine ⟨_, rfl, rfl, _, rfl, iteT ?_⟩
            refine ⟨_, rfl, _, rfl, Nat.le_of_ble_eq_true rfl, fun e he => raise2 he (shows_int (by omega)) (shows_nat (by omega)) fun d H' sd hd0 hx => ?_⟩
            exact fin er d H' ((g1.trans g2).same.trans sd) ((g1.trans g2).free hd0) hx
          | some r =>
            have hv : Dp K U2 v r.data := hv
            obtain ⟨a, xs, rfl, _⟩ : ∃ a xs, v = .ref a ∧ SqT K U2 a xs := by
              cases r <;> (cases hv with | tup hq hs => exact ⟨_, _, rfl, hq⟩)
            have hd4 : H4 D = some (.lst vs) := g2.same _ _ (by rw [upd_ne nDt]; exact hd)
            have v2D : U2 D = none := g2.out (some_ne (show (upd H2 t _) D = some (.lst vs) by rw [upd_ne nDt]; exact hd)) vD
            have hlen := dps_length hdp
            rw [List.length_map] at hlen
            refine ⟨_, rfl, rfl, _, rfl, iteF ?_⟩
            refine ⟨_, rfl, .inl ⟨rfl, _, sqlO hd4⟩, _, rfl, _, _, _, rfl, rfl, hd4, by rw [hlen]; exact small1000 (by omega), ?_⟩
            refine ⟨U2, vs ++ [.ref a], rs ++ [r], some (.int (i : Nat)), some (.str y), some (.ref a), some (.int sg), rfl, (g1.trans g2).mut (.inr hD) v2D, s1.trans g2.v, v2D, upd_same, ?_, by rw [List.length_append, hl]; rfl, by omega, hok.snoc (by rw [hl]; exact rdRow_ok ep), er⟩
            rw [List.map_append]
            exact dps_append (dpsS g2.v hdp) (.cons hv .nil)
      · rintro σ' H2 ⟨U', vs, rs, v2, v3, v4, v5, rfl, g, s1, vD, hd, hdp, hl, h200, hok, er⟩
        rw [List.length_map] at er hl h200
        rw [List.drop_of_length_le (by rw [List.length_map]; exact Nat.le_refl _)] at er
        have er : rdDoc (ys.map cl) [] = .ok rs := er
        rw [er] at hq
        obtain ⟨h0, k⟩ := hq
        refine ⟨_, rfl, fun x dx hx hdx ne => made_doc hx hdx ne g.s (sqlO hd) (.of g.s hdp) hok h0 (by omega) fun U3 H3 g3 dc => ?_⟩
        exact ⟨rfl, k x U3 H3 (g.trans g3) dc⟩
    · refine ⟨_, (pss_cons (ps_if (pt_not (pt_val (pe_callB (id := "isinstance") call_isi (by rfl) T.n_isinstance (by decide +kernel) (pa_cons (pv 0) (pa_cons (pe_bltn (v := .ty "str") (by rfl) T.n_str (by decide +kernel) rfl) pa_nil))))) (pss_one (ps_raise rfl (takes_of rfl rfl rfl rfl) (pmk_err (er_InvalidText T) (hr.mono (by decide)) (pa_cons (pe_un un_neg pe_int) (pa_cons (pe_un un_neg pe_int) pa_nil))))) pss_nil)
      (pss_cons (ps_set (i := 1) sc_read_doc.nd rfl (Or.inl rfl) (pe_lst pa_nil))
      (pss_cons (ps_for (passes_of rfl) rfl (pi_enum (by rfl) T.n_enumerate (pa_cons (pe_split (pv 0) pe_str) pa_nil)) (pg_tup rfl (pgs_cons (pg_name (i := 2) sc_read_doc.nd rfl (Or.inl rfl)) (pgs_cons (pg_name (i := 3) sc_read_doc.nd rfl (Or.inl rfl)) pgs_nil)))
      (pss_cons (ps_if (pt_cmpR op_eq (pv 2) (pe_globI T.g_MOST_ROWS) (nomark _)) (pss_one (ps_raise rfl (takes_of rfl rfl rfl rfl) (pmk_err (er_InvalidText T) (hr.mono (by decide)) (pa_cons (pv 2) (pa_cons pe_int pa_nil))))) pss_nil)
      (pss_cons (ps_asg (pe_callD (d__read_row T) (hr.mono (by decide)) (pa_cons (pv 3) (pa_cons (pv 2) pa_nil))) (pg_tup rfl (pgs_cons (pg_name (i := 4) sc_read_doc.nd rfl (Or.inl rfl)) (pgs_cons (pg_name (i := 5) sc_read_doc.nd rfl (Or.inl rfl)) pgs_nil))))
      (pss_cons (ps_if (pt_cmpR op_isN (pv 4) pe_non (nomark _)) (pss_one (ps_raise rfl (takes_of rfl rfl rfl rfl) (pmk_err (er_InvalidText T) (hr.mono (by decide)) (pa_cons (pv 2) (pa_cons (pv 5) pa_nil))))) pss_nil)
      (pss_one (ps_expr (pe_bm PySem.F.plainAttrs_list PySem.F.slot_list_append PySem.F.type_list_append mt_append (pv 1) (pa_cons (pv 4) pa_nil))))))))
      (pss_one (ps_ret (mk_Doc T (hr.mono (by decide)) (pa_cons (pv 1) pa_nil))))))), ?_⟩
      refine ⟨_, rfl, _, _, _, _, false, rfl, .ty "str", ht, hk, false, rfl, iteT ?_⟩
      exact ⟨_, rfl, _, rfl, Nat.le_of_ble_eq_true rfl, fun e he => raise2 he shows_m1 shows_m1 fun d H' sd hd0 hx => k d H' sd hd0 hx⟩
end
end Lw

namespace Lw
open PySem PySem.Spec PyProof.Rows L2 VW TL
local macro_rules | `(tactic| walk_at "rdc") => `(tactic| first | assumption | rfl | decide | omega | exact Or.inr ⟨by decide, by decide⟩ | exact ⟨by decide, by decide⟩ | exact ⟨by decide, by decide, by decide⟩ | (show (0 : Int) < _; omega) | (show (0 : Int) < _ ∧ _ < (1073741824 : Int); omega) | (show (-(2 ^ 64) < _ ∧ _ < 2 ^ 64) ∨ (-(2 ^ 64) < _ ∧ _ < 2 ^ 64); omega) | (show (-(2 ^ 64) < _ ∧ _ < 2 ^ 64) ∨ (-(2 ^ 64) < _ ∧ _ < 2 ^ 64); right; split <;> decide) | exact Nat.le_of_ble_eq_true rfl)
local macro_rules | `(tactic| walk_at "rd1") => `(tactic| first | refine ⟨_, rfl, ?_⟩ | refine And.intro (by walk_at "rdc") ?_ | refine ⟨_, _, rfl, rfl, ?_⟩ | refine Or.inl ⟨_, rfl, ?_⟩ | refine Or.inr ⟨_, rfl, ?_⟩ | refine ⟨_, _, _, _, rfl, rfl, sqlO (by first | assumption | exact upd_same), rfl, ?_⟩ | refine ⟨_, _, _, _, rfl, rfl, (by first | assumption | exact upd_same), rfl, ?_⟩)
local macro_rules | `(tactic| walk_at "rd") => `(tactic| repeat (walk_at "rd1"))

section
variable {P : Program} {w : World} {K : PySem.W.Frag} {mg : Str → Option Value} {base : Heap} {W : Wd}
/-- the fields of a row behind its kind -/
def Row.fields : Row → List PyData
  | .text z => [.str z]
  | .line z => [.str z]
  | .hard => []
  | .cat ps => [.list (ps.map .int)]
  | .nest n j => [.int n, .int j]
  | .align j => [.int j]
  | .group j => [.int j]
theorem Row.data_fields (r : Row) : r.data = .tuple (.str r.kind :: r.fields) := by cases r <;> rfl
/-- the words of a field -/
def fwords : PyData → List (List Nat)
  | .str z => [cl z]
  | .int i => [dg i.toNat]
  | .list ds => ds.map fun d => match d with | .int i => dg i.toNat | _ => []
  | _ => []
theorem Row.words_fields (r : Row) : r.words = r.fields.flatMap fwords := by
  cases r with
  | cat ps => simp [Row.words, Row.fields, fwords, List.map_map, Function.comp_def]
  | _ => simp [Row.words, Row.fields, fwords]
theorem kind_q (r : Row) : cl r.kind = r.q.cps := by cases r <;> rfl
def FieldOk : PyData → Prop
  | .str z => z.length ≤ 20
  | .int i => 0 ≤ i ∧ i < 1000
  | .list ds => ∃ ns : List Int, ds = ns.map .int ∧ ns.length ≤ 8 ∧ ∀ n ∈ ns, 0 ≤ n ∧ n < 1000
  | _ => False
theorem Row.fields_ok {r : Row} {k : Nat} (h : r.ok k) (hk : k ≤ 1000) : r.fields.length ≤ 2 ∧ ∀ d ∈ r.fields, FieldOk d := by
  cases r with
  | text z => exact ⟨by show 1 ≤ 2; decide, fun d hd => by rw [List.mem_singleton.mp hd]; exact h.1⟩
  | line z => exact ⟨by show 1 ≤ 2; decide, fun d hd => by rw [List.mem_singleton.mp hd]; exact Nat.le_trans h.1 (by decide)⟩
  | hard => exact ⟨by show 0 ≤ 2; decide, fun d hd => by cases hd⟩
  | cat ps => exact ⟨by show 1 ≤ 2; decide, fun d hd => by
      rw [List.mem_singleton.mp hd]
      exact ⟨ps, rfl, h.1, fun n hn => by have := h.2 n hn; omega⟩⟩
  | nest n j =>
    obtain ⟨n0, n8, j0, jk⟩ := h
    refine ⟨by show 2 ≤ 2; decide, fun d hd => ?_⟩
    simp [Row.fields] at hd
    rcases hd with rfl | rfl
    · exact ⟨n0, by omega⟩
    · exact ⟨j0, by omega⟩
  | align j =>
    have h : 0 ≤ j ∧ j < k := h
    exact ⟨by show 1 ≤ 2; decide, fun d hd => by rw [List.mem_singleton.mp hd]; exact ⟨h.1, by omega⟩⟩
  | group j =>
    have h : 0 ≤ j ∧ j < k := h
    exact ⟨by show 1 ≤ 2; decide, fun d hd => by rw [List.mem_singleton.mp hd]; exact ⟨h.1, by omega⟩⟩
theorem str_dg {i : Int} (h : 0 ≤ i ∧ i < 1000) : cl (toString i : Str) = dg i.toNat := by
  have := dg_text i.toNat (by omega)
  rw [show ((i.toNat : Nat) : Int) = i by omega] at this
  exact this
theorem row_at {K : PySem.W.Frag} {H : Hp} {v : V} {r : Row} (h : Dp K H v r.data) : ∃ a xs, v = .ref a ∧ SqT K H a (.str r.kind :: xs) ∧ DpAll K H xs r.fields := by
  rw [Row.data_fields] at h
  cases h with
  | tup ht hs =>
    cases hs with | cons a1 hs =>
    cases a1
    exact ⟨_, _, rfl, ht, hs⟩
theorem same_new {H : Hp} {p : Addr} {o : HO} (h : H p = none) : Same H (upd H p o) := fun b u e => by rw [upd_ne (ne_of_none e h)]; exact e
/-- [str(x) for x in ints] -/
theorem strs_len (ws : List Str) (h : ∀ z ∈ ws, z.length ≤ 20) (hl : ws.length ≤ 20) : (ws.map (·.length)).sum ≤ 400 := by
  have := lines_len ws h
  have : ws.length * 20 ≤ 20 * 20 := Nat.mul_le_mul_right 20 hl
  omega
theorem sc__row_line : FnScope ["row", "words", "field", "part"] ["row"] (defScope s__row_line) := ⟨rfl, rfl, rfl, by decide +kernel, rfl, by decide +kernel, by decide +kernel⟩
def sp_rowline (K : PySem.W.Frag) : Sp := fun vs H Q _ => ∃ (v : V) (r : Row) (k : Nat), vs = [v] ∧ Dp K H v r.data ∧ r.ok k ∧ k ≤ 1000 ∧ ∀ (z : Str) (H' : Hp), Same H H' → cl z = r.codes → Q (.str z) H'
theorem d__row_line (T : Txt w K mg W) : DefOk P w K mg base "_row_line" s__row_line ["row"] 1 (sp_rowline K) := by
  refine T.f__row_line.ok sc__row_line (fun vs H Q E h => ?_) (fun f cdv A outer s H vs Q E hr h => ?_)
  · obtain ⟨v, r, k, rfl, _⟩ := h
    rfl
  · obtain ⟨v, r, kk, rfl, hd, hok, hk, k⟩ := h
    obtain ⟨a, xs, rfl, ht, hxs⟩ := row_at hd
    obtain ⟨fl, fo⟩ := Row.fields_ok hok hk
    have xl := dps_length hxs
    refine ⟨_, (pss_cons (ps_set (i := 1) sc__row_line.nd rfl (Or.inl rfl) (pe_lst (pa_cons (pe_ix ix_tup (pv 0) pe_int (fun _ _ => rfl)) pa_nil)))
      (pss_cons (ps_for PassesOwn.never rfl (pi_tup (pe_slice sl_tup (pv 0) (po_some pe_int) po_none)) (pg_name (i := 2) sc__row_line.nd rfl (Or.inl rfl))
      (pss_one (ps_if (pt_val (pe_callB (id := "isinstance") call_isi (by rfl) T.n_isinstance (by decide +kernel) (pa_cons (pv 2) (pa_cons (pe_bltn (v := .ty "list") (by rfl) T.n_list (by decide +kernel) rfl) pa_nil)))) (pss_one (ps_expr (pe_bm PySem.F.plainAttrs_list PySem.F.slot_list_extend PySem.F.type_list_extend mt_extend (pv 1) (pa_cons (pe_lc (own := [("part", 3)]) (g := (gName 3)) (tt := tYes) rfl sc__row_line.nd (pi_list (pv 2)) (blkOk_by (own := [("part", 3)]) (N := ["row", "words", "field", "part"]) (sc := defScope s__row_line) (by decide +kernel)) (fun _ _ _ _ _ => (pg_name (i := 3) sc__row_line.nd rfl (Or.inl rfl))) (fun _ _ _ _ _ => pts_nil) (fun _ _ _ _ _ => (pe_callTy (T := "str") call_str_int (by rfl) T.n_str (by decide +kernel) (pa_cons (pv 3) pa_nil)))) pa_nil)))) (pss_one (ps_expr (pe_bm PySem.F.plainAttrs_list PySem.F.slot_list_append PySem.F.type_list_append mt_append (pv 1) (pa_cons (pe_callTy (T := "str") call_str_is (by rfl) T.n_str (by decide +kernel) (pa_cons (pv 2) pa_nil)) pa_nil)))))))
      (pss_one (ps_ret (pe_join pe_str (pv 1)))))), ?_⟩
    refine ⟨_, rfl, _, _, _, _, rfl, rfl, ht, at_of (j := 0) rfl rfl, Nat.le_of_ble_eq_true rfl, fun D hD => ?_⟩
    refine ⟨_, rfl, _, rfl, a, _, rfl, sqtS (same_new hD) ht, by rw [show (1 : Int) = ((1 : Nat) : Int) from rfl, HT.sIx_nat]; simp, fun t ht' => ?_⟩
    have nDt : D ≠ t := ne_of_none upd_same ht'
    have ecut : cutV (V.str r.kind :: xs) (some (1 : Int)) none = xs := by
      unfold cutV
      rw [show (1 : Int) = ((1 : Nat) : Int) from rfl, HT.sIx_nat, HT.sIx_none]
      simp
    rw [ecut]
    have kshort : r.kind.length ≤ 20 := by rw [← cl_len, kind_q]; exact Nat.le_trans (kind_short r.q).1 (by decide)
    refine ⟨_, rfl, ⟨_, sqtO upd_same⟩, ?_⟩
    refine for_it (walk_tup (xs := xs)) (fun i σ' H2 => ∃ (ws : List Str) (v2 : Option V), σ' = [some (.ref a), some (.ref D), v2, none] ∧ Same H H2 ∧ H2 t = some (.tup xs) ∧ H2 D = some (.lst (ws.map V.str)) ∧ ws.map cl = r.q.cps :: (r.fields.take i).flatMap fwords ∧ (∀ z ∈ ws, z.length ≤ 20) ∧ ws.length ≤ 1 + i * 8)
      ⟨[r.kind], none, rfl, (same_new hD).trans (same_new ht'), upd_same, by rw [upd_ne nDt]; exact upd_same, by rw [List.map_cons, kind_q]; rfl, fun z hz => by rw [List.mem_singleton.mp hz]; exact kshort, by simp⟩ (fun i σ' H2 _ ⟨ws, v2, _, _, h1, _⟩ => sqtO h1) ?_ ?_
    · rintro i x σ' H2 H3 hi ⟨ws, v2, rfl, sm, hT, hDv, ew, hw, hwl⟩ ⟨rfl, hx⟩
      obtain ⟨d, hd1, hd2⟩ := dps_get hxs hx
      have hd3 := dpS sm hd2
      have fok := fo d (List.mem_of_getElem? hd1)
      have i2 : i < 2 := by rw [xl] at hi; omega
      have grow : ∀ (us : List Str), us.map cl = fwords d → (∀ z ∈ us, z.length ≤ 20) → us.length ≤ 8 → (ws ++ us).map cl = r.q.cps :: (r.fields.take (i + 1)).flatMap fwords ∧ (∀ z ∈ ws ++ us, z.length ≤ 20) ∧ (ws ++ us).length ≤ 1 + (i + 1) * 8 := fun us h1 h2 h3 => by
        refine ⟨?_, fun z hz => (List.mem_append.mp hz).elim (hw z) (h2 z), by rw [List.length_append]; omega⟩
        rw [List.map_append, ew, h1, List.take_succ, hd1, List.flatMap_append]
        simp
      have one : ∀ (u : Str), cl u = (match d with | .str z => cl z | .int i => dg i.toNat | _ => []) → fwords d = [cl u] → u.length ≤ 20 → ∀ H4, Same H H4 → H4 t = some (.tup xs) → H4 D = some (.lst (ws.map V.str)) →
          ∃ (ws' : List Str) (v2 : Option V), [some (V.ref a), some (V.ref D), some x, none] = [some (.ref a), some (.ref D), v2, none] ∧ Same H (upd H4 D (.lst (ws.map V.str ++ [V.str u]))) ∧ (upd H4 D (.lst (ws.map V.str ++ [V.str u]))) t = some (.tup xs) ∧ (upd H4 D (.lst (ws.map V.str ++ [V.str u]))) D = some (.lst (ws'.map V.str)) ∧ ws'.map cl = r.q.cps :: (r.fields.take (i + 1)).flatMap fwords ∧ (∀ z ∈ ws', z.length ≤ 20) ∧ ws'.length ≤ 1 + (i + 1) * 8 := fun u _ e1 e2 H4 s4 t4 d4 => by
        obtain ⟨g1, g2, g3⟩ := grow [u] e1.symm (fun z hz => by rw [List.mem_singleton.mp hz]; exact e2) (by simp)
        refine ⟨ws ++ [u], some x, rfl, fun b o e => ?_, by rw [upd_ne (Ne.symm nDt)]; exact t4, by rw [upd_same, List.map_append]; rfl, g1, g2, g3⟩
        rw [upd_ne (ne_of_none e hD)]
        exact s4 b o e
      have room : (ws.map V.str).length < sizeLine := by rw [List.length_map]; exact small1000 (by omega)
      cases hd3 with
      | non => exact fok.elim
      | bl b => exact fok.elim
      | tup _ _ => exact fok.elim
      | str z =>
        refine ⟨_, rfl, _, _, _, _, false, rfl, .ty "list", .base (.str _), kit_ty (by decide +kernel), false, rfl, iteF ?_⟩
        refine ⟨_, rfl, .inl ⟨rfl, _, sqlO hDv⟩, _, rfl, .inr ⟨z, rfl, _, _, _, rfl, rfl, hDv, room, one z rfl rfl fok H3 sm hT hDv⟩⟩
      | int j =>
        refine ⟨_, rfl, _, _, _, _, false, rfl, .ty "list", .base (.int _), kit_ty (by decide +kernel), false, rfl, iteF ?_⟩
        have fok : 0 ≤ j ∧ j < 1000 := fok
        refine ⟨_, rfl, .inl ⟨rfl, _, sqlO hDv⟩, _, rfl, .inl ⟨j, rfl, small_log (by omega), _, _, _, rfl, rfl, hDv, room, ?_⟩⟩
        exact one (toString j) (str_dg fok) (by show [dg j.toNat] = _; rw [str_dg fok]) (by rw [← cl_len, str_dg fok]; exact Nat.le_trans (dg_len _) (by decide)) H3 sm hT hDv
      | @lst l vs ds hl hvs =>
        obtain ⟨ns, rfl, n8, hn⟩ := fok
        have evs := dps_of_ints hvs
        subst evs
        refine ⟨_, rfl, _, _, _, _, true, rfl, .ty "list", tyL hl, kit_ty (by decide +kernel), true, rfl, iteT ?_⟩
        refine ⟨_, rfl, .inl ⟨rfl, _, sqlO hDv⟩, _, rfl, l, rfl, ⟨_, hl⟩, fun D2 hD2 => ?_⟩
        have nDD : D ≠ D2 := ne_of_none hDv hD2
        have nTD : t ≠ D2 := ne_of_none hT hD2
        refine lc_list (xs := ns.map V.int) (fun j H5 => Same H3 H5 ∧ H5 D2 = some (.lst ((ns.take j).map fun n => V.str (toString n)))) ⟨same_new hD2, upd_same⟩ (fun j H5 _ p => sqlS p.1 hl) ?_ ?_
        · rintro j y H5 hy ⟨s5, d5⟩
          rw [List.getElem?_map] at hy
          obtain ⟨n, hn1, rfl⟩ : ∃ n, ns[j]? = some n ∧ y = V.int n := by
            cases e2 : ns[j]? with
            | none => rw [e2] at hy; cases hy
            | some q => rw [e2] at hy; exact ⟨q, rfl, (Option.some.inj hy).symm⟩
          have hnn := hn n (List.mem_of_getElem? hn1)
          have hj : j < ns.length := (List.getElem?_eq_some_iff.mp hn1).1
          refine ⟨rfl, _, rfl, n, rfl, small_log (by omega), _, d5, by rw [List.length_map, List.length_take]; exact small1000 (by omega), fun b o e => ?_, ?_⟩
          · rw [upd_ne (ne_of_none e hD2)]
            exact s5 b o e
          · rw [upd_same, List.take_succ, hn1, List.map_append]
            rfl
        · rintro H5 ⟨s5, d5⟩
          rw [List.length_map, List.take_length] at d5
          have es : (ns.map fun n => V.str (toString n)) = (ns.map fun n => (toString n : Str)).map V.str := by rw [List.map_map]; rfl
          rw [es] at d5
          obtain ⟨g1, g2, g3⟩ := grow (ns.map fun n => (toString n : Str)) (by
            show _ = (ns.map PyData.int).map _
            rw [List.map_map, List.map_map]
            refine List.map_congr_left fun n hn' => ?_
            exact str_dg (hn n hn')) (fun z hz => by
            obtain ⟨n, hn', rfl⟩ := List.mem_map.mp hz
            rw [← cl_len, str_dg (hn n hn')]
            exact Nat.le_trans (dg_len _) (by decide)) (by rw [List.length_map]; exact n8)
          refine ⟨D, D2, _, _, rfl, rfl, s5 _ _ hDv, d5, by rw [List.length_map, List.length_map, List.length_map]; exact Nat.le_of_lt (small1000 (by omega)), ?_⟩
          refine ⟨_, some (.ref l), rfl, fun b o e => ?_, by rw [upd_ne (Ne.symm nDt)]; exact s5 _ _ hT, by rw [upd_same, ← List.map_append], g1, g2, g3⟩
          rw [upd_ne (ne_of_none e hD)]
          exact s5 _ _ (sm b o e)
    · rintro σ' H2 ⟨ws, v2, rfl, sm, hT, hDv, ew, hw, hwl⟩
      rw [xl, List.take_length] at ew
      rw [xl] at hwl
      have hs := strs_len ws hw (by omega)
      refine ⟨⟨_, rfl⟩, _, rfl, " ", D, ws, rfl, rfl, .inl (sqlO hDv), ?_, k _ _ sm ?_⟩
      · have : (" " : Str).length = 1 := rfl
        show _ + ws.length * 1 ≤ _
        omega
      · rw [join_eq]
        show tl (Str.join " " ws) = _
        rw [tl_join, show tl (" " : Str) = [32] from rfl, show ws.map tl = ws.map cl from rfl, ew, join_tail, ← Row.words_fields]
        rfl
end
end Lw

namespace Lw
open PySem PySem.Spec PyProof.Rows L2 VW TL
local macro_rules | `(tactic| walk_at "rdc") => `(tactic| first | assumption | rfl | decide | omega | exact Or.inr ⟨by decide, by decide⟩ | exact ⟨by decide, by decide⟩ | exact ⟨by decide, by decide, by decide⟩ | (show (0 : Int) < _; omega) | (show (0 : Int) < _ ∧ _ < (1073741824 : Int); omega) | (show (-(2 ^ 64) < _ ∧ _ < 2 ^ 64) ∨ (-(2 ^ 64) < _ ∧ _ < 2 ^ 64); omega) | (show (-(2 ^ 64) < _ ∧ _ < 2 ^ 64) ∨ (-(2 ^ 64) < _ ∧ _ < 2 ^ 64); right; split <;> decide) | exact Nat.le_of_ble_eq_true rfl)
local macro_rules | `(tactic| walk_at "rd1") => `(tactic| first | refine ⟨_, rfl, ?_⟩ | refine And.intro (by walk_at "rdc") ?_ | refine ⟨_, _, rfl, rfl, ?_⟩ | refine Or.inl ⟨_, rfl, ?_⟩ | refine Or.inr ⟨_, rfl, ?_⟩ | refine ⟨_, _, _, _, rfl, rfl, sqlO (by first | assumption | exact upd_same), rfl, ?_⟩ | refine ⟨_, _, _, _, rfl, rfl, (by first | assumption | exact upd_same), rfl, ?_⟩)
local macro_rules | `(tactic| walk_at "rd") => `(tactic| repeat (walk_at "rd1"))

section
variable {P : Program} {w : World} {K : PySem.W.Frag} {mg : Str → Option Value} {base : Heap} {W : Wd}
theorem RowNew.rin {U Hn H : Hp} {v : V} {r : Row} (h : RowNew K U Hn H v r) : RowIn K U H v r := by
  cases r with
  | cat ps =>
    obtain ⟨q, l, rfl, h1, h2, h3, h4⟩ := h
    exact ⟨q, l, rfl, sqtO h1, sqlO h4⟩
  | _ => exact h
theorem RowsNew.rin {U Hn H : Hp} {vs : List V} {rs : List Row} (h : RowsNew K U Hn H vs rs) : RowsIn K U H vs rs := ⟨h.1, fun i v r e1 e2 => (h.2 i v r e1 e2).rin⟩
theorem sc_check_doc : FnScope ["doc"] ["doc"] (defScope s_check_doc) := ⟨rfl, rfl, rfl, by decide +kernel, rfl, by decide +kernel, by decide +kernel⟩
def sp_checkdoc (K : PySem.W.Frag) (C : Addr) : Sp := fun vs H Q _ => ∃ (x : Addr) (rs : List Row) (U : Hp), vs = [.ref x] ∧ Same U H ∧ DocAt K C U x rs ∧ Q .non H
theorem d_check_doc (T : Txt w K mg W) : DefOk P w K mg base "check_doc" s_check_doc ["doc"] 1 (sp_checkdoc K W.c_Doc) := by
  refine T.f_check_doc.ok sc_check_doc (fun vs H Q E h => ?_) (fun f cdv A outer s H vs Q E hr h => ?_)
  · obtain ⟨x, rs, U, rfl, _⟩ := h
    rfl
  · obtain ⟨x, rs, U, rfl, sm, ⟨dx, l, ws, hx, _, _⟩, k⟩ := h
    refine ⟨_, (pss_one (ps_if (pt_not (pt_val (pe_callB (id := "isinstance") call_isi (by rfl) T.n_isinstance (by decide +kernel) (pa_cons (pv 0) (pa_cons (pe_glob (v := .ref W.c_Doc) (by rfl) T.c_Doc rfl) pa_nil))))) (pss_one ps_never) pss_nil)), ?_⟩
    refine ⟨_, rfl, _, _, _, _, true, rfl, .own W.c_Doc, .base (.ins (sm _ _ hx) T.cl_Doc T.i_Doc.ha T.i_Doc.hn T.i_Doc.htk T.i_Doc.hm), T.i_Doc.self_, true, rfl, iteF ?_⟩
    exact k
theorem sc_doc_text : FnScope ["doc", "row"] ["doc"] (defScope s_doc_text) := ⟨rfl, rfl, rfl, by decide +kernel, rfl, by decide +kernel, by decide +kernel⟩
def docL (rs : List Row) : List Nat := joinL [10] (rs.map Row.codes)
def sp_doctext (K : PySem.W.Frag) (C : Addr) : Sp := fun vs H Q _ => ∃ (x : Addr) (rs : List Row) (U : Hp), vs = [.ref x] ∧ Same U H ∧ DocAt K C U x rs ∧ OkRows rs ∧ rs.length ≤ 200 ∧ ∀ (z : Str) (H' : Hp), Same H H' → cl z = docL rs → Q (.str z) H'
/-- texts of lines, joined -/
theorem join_lines {zs : List Str} {ls : List (List Nat)} (e : zs.map cl = ls) : cl (Txt.join "\n" zs) = joinL [10] ls := by
  rw [join_eq]
  show tl (Str.join "\n" zs) = _
  rw [tl_join, show tl ("\n" : Str) = [10] from rfl, show zs.map tl = zs.map cl from rfl, e]
theorem join_fits {zs : List Str} (h : ∀ z ∈ zs, z.length ≤ 64) (hl : zs.length ≤ 200) : (zs.map (·.length)).sum + zs.length * ("\n" : Str).length ≤ 16777216 := by
  have := lines_len zs h
  have h2 : zs.length * 64 ≤ 200 * 64 := Nat.mul_le_mul_right 64 hl
  have : ("\n" : Str).length = 1 := rfl
  rw [this]
  omega
theorem map_take_snoc {α β : Type} {f : α → β} {l : List α} {i : Nat} {a : α} (h : l[i]? = some a) : (l.take (i + 1)).map f = (l.take i).map f ++ [f a] := by
  rw [List.take_succ, h, List.map_append]
  rfl
theorem d_doc_text (T : Txt w K mg W) : DefOk P w K mg base "doc_text" s_doc_text ["doc"] 3 (sp_doctext K W.c_Doc) := by
  refine T.f_doc_text.ok sc_doc_text (fun vs H Q E h => ?_) (fun f cdv A outer s H vs Q E hr h => ?_)
  · obtain ⟨x, rs, U, rfl, _⟩ := h
    rfl
  · obtain ⟨x, rs, U, rfl, sm, dc, hok, h200, k⟩ := h
    refine ⟨_, (pss_cons (ps_expr (pe_callD (d_check_doc T) (hr.mono (by decide)) (pa_cons (pv 0) pa_nil)))
      (pss_one (ps_ret (pe_join pe_str (pe_lc (own := [("row", 1)]) (g := (gName 1)) (tt := tYes) rfl sc_doc_text.nd (pi_list (call_Doc_row_list T (hr.mono (by decide)) (pv 0))) (blkOk_by (own := [("row", 1)]) (N := ["doc", "row"]) (sc := defScope s_doc_text) (by decide +kernel)) (fun _ _ _ _ _ => (pg_name (i := 1) sc_doc_text.nd rfl (Or.inl rfl))) (fun _ _ _ _ _ => pts_nil) (fun _ _ _ _ _ => (pe_callD (d__row_line T) (hr.mono (by decide)) (pa_cons (pv 1) pa_nil)))))))), ?_⟩
    refine ⟨_, rfl, x, rs, U, rfl, sm, dc, ?_⟩
    obtain ⟨dx, ll, _, hx, _, _⟩ := id dc
    refine ⟨⟨_, rfl⟩, _, rfl, x, dx, _, rfl, sm _ _ hx, lk_no _ (by decide) (by decide) (by decide), x, rs, U, rfl, sm, dc, h200, fun p ws U' H1 Hb g hp up hw hb1 hb2 hn => ?_⟩
    have hn : RowsNew K U' Hb H1 ws rs := hn
    have hdp : DpAll K H1 ws (rs.map Row.data) := hn.rin.dp g.s
    refine ⟨p, rfl, ⟨_, sqlO hw⟩, fun D hD => ?_⟩
    refine lc_list (xs := ws) (fun i H2 => Same H1 H2 ∧ ∃ zs : List Str, H2 D = some (.lst (zs.map V.str)) ∧ zs.map cl = (rs.take i).map Row.codes) ⟨same_new hD, [], upd_same, rfl⟩ (fun i H2 _ p => sqlS p.1 (sqlO hw)) ?_ ?_
    · rintro i v H2 hv ⟨s2, zs, hd, ez⟩
      obtain ⟨d, e1, e2⟩ := dps_get hdp hv
      rw [List.getElem?_map] at e1
      obtain ⟨r, hr1, rfl⟩ : ∃ r, rs[i]? = some r ∧ d = r.data := by
        cases e3 : rs[i]? with
        | none => rw [e3] at e1; cases e1
        | some r => rw [e3] at e1; exact ⟨r, rfl, (Option.some.inj e1).symm⟩
      have hi : i < rs.length := (List.getElem?_eq_some_iff.mp hr1).1
      have zl : zs.length = i := by
        have := congrArg List.length ez
        rw [List.length_map, List.length_map, List.length_take] at this
        omega
      refine ⟨rfl, _, rfl, v, r, i, rfl, dpS s2 e2, hok i r hr1, by omega, fun z H3 s3 ez3 => ?_⟩
      refine ⟨_, s3 _ _ hd, by rw [List.length_map, zl]; exact small1000 (by omega), fun b o e => ?_, zs ++ [z], by rw [upd_same, List.map_append]; rfl, by rw [List.map_append, ez, map_take_snoc hr1]; rw [show [z].map cl = [cl z] from rfl, ez3]⟩
      rw [upd_ne (ne_of_none e hD)]
      exact s3 _ _ (s2 b o e)
    · rintro H2 ⟨s2, zs, hd, ez⟩
      have wl : ws.length = rs.length := by rw [dps_length hdp, List.length_map]
      rw [wl, List.take_length] at ez
      have zl : zs.length = rs.length := by
        have := congrArg List.length ez
        rw [List.length_map, List.length_map] at this
        exact this
      refine ⟨"\n", D, zs, rfl, rfl, .inl (sqlO hd), ?_, k _ _ (g.same.trans s2) (join_lines ez)⟩
      refine join_fits (fun z hz => ?_) (by omega)
      have hm : cl z ∈ rs.map Row.codes := by rw [← ez]; exact List.mem_map_of_mem hz
      obtain ⟨r, hr1, er⟩ := List.mem_map.mp hm
      obtain ⟨kk, hkk⟩ := hok.mem r hr1
      rw [← cl_len, ← er]
      exact codes_len hkk
end
end Lw

namespace Lw
open PySem PySem.Spec PyProof.Rows L2 VW TL LamX
local macro_rules | `(tactic| walk_at "rdc") => `(tactic| first | assumption | rfl | decide | omega | exact Or.inr ⟨by decide, by decide⟩ | exact ⟨by decide, by decide⟩ | exact ⟨by decide, by decide, by decide⟩ | (show (0 : Int) < _; omega) | (show (0 : Int) < _ ∧ _ < (1073741824 : Int); omega) | (show (-(2 ^ 64) < _ ∧ _ < 2 ^ 64) ∨ (-(2 ^ 64) < _ ∧ _ < 2 ^ 64); omega) | (show (-(2 ^ 64) < _ ∧ _ < 2 ^ 64) ∨ (-(2 ^ 64) < _ ∧ _ < 2 ^ 64); right; split <;> decide) | exact Nat.le_of_ble_eq_true rfl)
local macro_rules | `(tactic| walk_at "rd1") => `(tactic| first | refine ⟨_, rfl, ?_⟩ | refine And.intro (by walk_at "rdc") ?_ | refine ⟨_, _, rfl, rfl, ?_⟩ | refine Or.inl ⟨_, rfl, ?_⟩ | refine Or.inr ⟨_, rfl, ?_⟩ | refine ⟨_, _, _, _, rfl, rfl, sqlO (by first | assumption | exact upd_same), rfl, ?_⟩ | refine ⟨_, _, _, _, rfl, rfl, (by first | assumption | exact upd_same), rfl, ?_⟩)
local macro_rules | `(tactic| walk_at "rd") => `(tactic| repeat (walk_at "rd1"))

section
variable {P : Program} {w : World} {K : PySem.W.Frag} {mg : Str → Option Value} {base : Heap} {W : Wd}
/-- what the law's handler makes of an error -/
def SaidE (W : Wd) (Q : VK) : XK := fun cls d H =>
  (∃ (dd : Addr) (l s : V), cls = .ref W.c_InvalidText ∧ d = some dd ∧ H dd = some (.xd [("sign", s), ("line", l)]) ∧ ∀ (p : Addr) (H' : Hp), Same H H' → H p = none → H' p = some (.tup [.str "text", l, s]) → Q (.ref p) H')
def TTsaid (W : Wd) : (XK → Hp → VK → Prop) → Hp → VK → Prop := fun tl H Q => tl (SaidE W Q) H fun _ H' => Q (.str "told") H'
theorem sc__law_said : FnScope ["_law_ask", "e", "_law_marks"] ["_law_ask"] (defScope s__law_said) := ⟨rfl, rfl, rfl, by decide +kernel, rfl, by decide +kernel, by decide +kernel⟩
theorem said_asks {X : Cx} (T : Txt X.w X.K X.mg W) : Asks X "_law_said" "_law_ask" s__law_said (TTsaid W) := by
  obtain ⟨g, fd, hm, F, hb⟩ := T.f__law_said.ex
  have kp := F.kp
  obtain ⟨oc, od, kV, doc, pm, an, cdv, ct, osl, rfl, lk, hcd⟩ := F.ex
  have hkV : kV = .none ∨ True := .inr True.intro
  refine ⟨g, oc, kV, doc, pm, cdv, ct, od, an, osl, ["_law_ask", "e", "_law_marks"], hm, kp, lk, hcd, hb, sc__law_said, rfl, fun q f c' s H Q tl act hc h => ?_⟩
  refine ⟨_, pss_cons (ps_try_as (X := (cxOf C8.CX0 X.prog X.w X.K X.mg X.base ["_law_ask", "e", "_law_marks"] "_law_said" (defScope s__law_said) g cdv X.A X.stack s H C8.E0).nox) (i := 1) (c := .ref W.c_LayoutError) (tb := fun Wx D σ H => ∃ Ech : XK, (∀ cls d (σ' : L2.St) H', Ech cls d H' → σ'.length = 3 → Wx cls d σ' H') ∧ σ[0]? = some (some (.ref f)) ∧ H c' = some (CodeO c' q) ∧ tl Ech H fun _ H' => D.nx σ H')
      rfl rfl sc__law_said.nd rfl rfl ⟨rfl, by decide, .inl T.c_LayoutError⟩ L2.takes0 (fun Wx pn xe tk _ => ?_) (fun a oe cls d pn hz hf => (pss_cons (ps_set (i := 2) sc__law_said.nd rfl (Or.inl rfl) (pe_lst (pa_cons (pe_callB (id := "isinstance") (call_isF hz hf) (by rfl) T.n_isinstance (by decide +kernel) (pa_cons (pv 1) (pa_cons (pe_glob (v := .ref W.c_InvalidDoc) (by rfl) T.c_InvalidDoc rfl) pa_nil))) (pa_cons (pe_callB (id := "isinstance") (call_isF hz hf) (by rfl) T.n_isinstance (by decide +kernel) (pa_cons (pv 1) (pa_cons (pe_glob (v := .ref W.c_InvalidBound) (by rfl) T.c_InvalidBound rfl) pa_nil))) (pa_cons (pe_callB (id := "isinstance") (call_isF hz hf) (by rfl) T.n_isinstance (by decide +kernel) (pa_cons (pv 1) (pa_cons (pe_glob (v := .ref W.c_InvalidText) (by rfl) T.c_InvalidText rfl) pa_nil))) pa_nil)))))
      (pss_cons (ps_set (i := 2) sc__law_said.nd rfl (Or.inl rfl) (pe_op op_cat (pv 2) (pe_lst (pa_cons (pe_callB (id := "isinstance") (call_isF hz hf) (by rfl) T.n_isinstance (by decide +kernel) (pa_cons (pv 1) (pa_cons (pe_glob (v := .ref W.c_InvalidValue) (by rfl) T.c_InvalidValue rfl) pa_nil))) (pa_cons (pe_callB (id := "isinstance") (call_isF hz hf) (by rfl) T.n_isinstance (by decide +kernel) (pa_cons (pv 1) (pa_cons (pe_glob (v := .ref W.c_InvalidCall) (by rfl) T.c_InvalidCall rfl) pa_nil))) (pa_cons (pe_callB (id := "isinstance") (call_isF hz hf) (by rfl) T.n_isinstance (by decide +kernel) (pa_cons (pv 1) (pa_cons (pe_glob (v := .ref W.c_LimitExceeded) (by rfl) T.c_LimitExceeded rfl) pa_nil))) pa_nil))))))
      (pss_cons (ps_if (PW.pt (pw_or (pt_cmpR op_ne (pe_bmK (K := X.K) PySem.F.plainAttrs_list PySem.F.slot_list_count PySem.F.type_list_count (mt_countTK (K := X.K)) (pv 2) (pa_cons pe_bl pa_nil)) pe_int (nomark _)) (pw_or1 (pt_not (pt_val (pe_callB (id := "isinstance") (call_isF hz hf) (by rfl) T.n_isinstance (by decide +kernel) (pa_cons (pv 1) (pa_cons (pe_bltn (v := .ty "ArithmeticError") (by rfl) T.n_ArithmeticError (by decide +kernel) rfl) pa_nil)))))))) (pss_one (ps_ret pe_str)) pss_nil)
      (pss_cons (ps_if (PW.pt (pw_or (pt_val (pe_ix (ix_listK (K := X.K)) (pv 2) pe_int (fun _ _ => rfl))) (pw_or1 (pt_val (pe_ix (ix_listK (K := X.K)) (pv 2) pe_int (fun _ _ => rfl)))))) (pss_one ps_never) pss_nil)
      (pss_cons (ps_if (pt_val (pe_ix (ix_listK (K := X.K)) (pv 2) pe_int (fun _ _ => rfl))) (pss_one (ps_ret (pe_tup (pa_cons pe_str (pa_cons (pe_xf (xfc T.x_InvalidText) T.na_InvalidText_line hz hf (pv 1)) (pa_cons (pe_xf (xfc T.x_InvalidText) T.na_InvalidText_sign hz hf (pv 1)) pa_nil)))))) pss_nil)
      (pss_cons (ps_if (PW.pt (pw_or (pt_val (pe_ix (ix_listK (K := X.K)) (pv 2) pe_int (fun _ _ => rfl))) (pw_or1 (pt_val (pe_ix (ix_listK (K := X.K)) (pv 2) pe_int (fun _ _ => rfl)))))) (pss_one ps_never) pss_nil)
      (pss_one ps_never))))))))) (pss_one (ps_ret pe_str)), ?_⟩
  · refine ⟨fun pins s' σ H' D I h' => ?_⟩
    obtain ⟨Ech, hW, h1, h2, h3⟩ := h'
    exact (pss_one (ps_expr (act _ pn xe Ech _ _ tk.len hW))).run pins s' σ H' D I ⟨h1, h2, h3⟩
  · refine ⟨SaidE W Q, fun cls d σ' H' hs hl => ?_, rfl, hc, h⟩
    obtain ⟨x0, x1, x2, rfl⟩ : ∃ x0 x1 x2, σ' = [x0, x1, x2] := by
      match σ', hl with
      | [x0, x1, x2], _ => exact ⟨x0, x1, x2, rfl⟩
    rcases hs with ⟨dd, l, sg, rfl, rfl, hx, k⟩
    · refine ⟨true, T.exm_InvalidText, fun _ a ha => ?_, fun z => nomatch z⟩
      have e := T.x_InvalidText
      refine ⟨_, rfl, W.c_InvalidText, dd, _, _, _, _, rfl, rfl, e, hx, rfl, fun u r => r, T.kt_InvalidText_InvalidDoc, ⟨_, rfl, W.c_InvalidText, dd, _, _, _, _, rfl, rfl, e, hx, rfl, fun u r => r, T.kt_InvalidText_InvalidBound, ⟨_, rfl, W.c_InvalidText, dd, _, _, _, _, rfl, rfl, e, hx, rfl, fun u r => r, T.kt_InvalidText_InvalidText, Nat.le_of_ble_eq_true rfl, fun m1 hm1 => ?_⟩⟩⟩
      have hx1 := same_new (o := .lst [.bl false, .bl false, .bl true]) hm1 _ _ hx
      refine ⟨_, rfl, ⟨_, rfl, W.c_InvalidText, dd, _, _, _, _, rfl, rfl, e, hx1, rfl, fun u r => r, T.kt_InvalidText_InvalidValue, ⟨_, rfl, W.c_InvalidText, dd, _, _, _, _, rfl, rfl, e, hx1, rfl, fun u r => r, T.kt_InvalidText_InvalidCall, ⟨_, rfl, W.c_InvalidText, dd, _, _, _, _, rfl, rfl, e, hx1, rfl, fun u r => r, T.kt_InvalidText_LimitExceeded, Nat.le_of_ble_eq_true rfl, fun m2 hm2 => ?_⟩⟩⟩⟩
      have n12 : m1 ≠ m2 := ne_of_none upd_same hm2
      refine ⟨_, _, _, _, rfl, rfl, by rw [upd_ne n12]; exact upd_same, upd_same, Nat.le_of_ble_eq_true rfl, fun m3 hm3 => ?_⟩
      have sm := (same_new (o := .lst [.bl false, .bl false, .bl true]) hm1).trans ((same_new (o := .lst [.bl false, .bl false, .bl false]) hm2).trans (same_new (o := .lst [.bl false, .bl false, .bl true, .bl false, .bl false, .bl false]) hm3))
      have hx3 := sm _ _ hx
      refine ⟨_, rfl, .inl ⟨rfl, _, sqlO upd_same⟩, m3, [false, false, true, false, false, false], rfl, rfl, sqlO upd_same, rfl, _, rfl, iteF ?_⟩
      refine ⟨_, rfl, W.c_InvalidText, dd, _, _, _, _, rfl, rfl, e, hx3, rfl, fun u r => r, T.kt_InvalidText_Arith, true, rfl, iteF ?_⟩
      refine ⟨_, rfl, m3, _, _, _, rfl, rfl, sqlO upd_same, at_of (j := 0) rfl rfl, false, rfl, iteF ⟨_, rfl, m3, _, _, _, rfl, rfl, sqlO upd_same, at_of (j := 1) rfl rfl, false, rfl, iteF ?_⟩⟩
      refine ⟨_, rfl, m3, _, _, _, rfl, rfl, sqlO upd_same, at_of (j := 2) rfl rfl, true, rfl, iteT ?_⟩
      refine ⟨_, rfl, rfl, rfl, dd, _, _, rfl, hx3, rfl, _, rfl, rfl, rfl, dd, _, _, rfl, hx3, rfl, Nat.le_of_ble_eq_true rfl, fun p hp => ?_⟩
      exact k p _ (sm.trans (same_new hp)) (sm.free hp) upd_same
end
end Lw

namespace Lw
open PySem PySem.Spec PyProof.Rows L2 VW TL
local macro_rules | `(tactic| walk_at "rdc") => `(tactic| first | assumption | rfl | decide | omega | exact Or.inr ⟨by decide, by decide⟩ | exact ⟨by decide, by decide⟩ | exact ⟨by decide, by decide, by decide⟩ | (show (0 : Int) < _; omega) | (show (0 : Int) < _ ∧ _ < (1073741824 : Int); omega) | (show (-(2 ^ 64) < _ ∧ _ < 2 ^ 64) ∨ (-(2 ^ 64) < _ ∧ _ < 2 ^ 64); omega) | (show (-(2 ^ 64) < _ ∧ _ < 2 ^ 64) ∨ (-(2 ^ 64) < _ ∧ _ < 2 ^ 64); right; split <;> decide) | exact Nat.le_of_ble_eq_true rfl)
local macro_rules | `(tactic| walk_at "rd1") => `(tactic| first | refine ⟨_, rfl, ?_⟩ | refine And.intro (by walk_at "rdc") ?_ | refine ⟨_, _, rfl, rfl, ?_⟩ | refine Or.inl ⟨_, rfl, ?_⟩ | refine Or.inr ⟨_, rfl, ?_⟩ | refine ⟨_, _, _, _, rfl, rfl, sqlO (by first | assumption | exact upd_same), rfl, ?_⟩ | refine ⟨_, _, _, _, rfl, rfl, (by first | assumption | exact upd_same), rfl, ?_⟩)
local macro_rules | `(tactic| walk_at "rd") => `(tactic| repeat (walk_at "rd1"))

section
variable {P : Program} {w : World} {K : PySem.W.Frag} {mg : Str → Option Value} {base : Heap} {W : Wd}
theorem sc__law_is_number : FnScope ["_law_word", "_law_high", "_law_number"] ["_law_word", "_law_high"] (defScope s__law_is_number) := ⟨rfl, rfl, rfl, by decide +kernel, rfl, by decide +kernel, by decide +kernel⟩
def sp_isnum : Sp := fun vs H Q _ => ∃ (z : Str) (h : Int) (m : Nat), vs = [.str z, .int h] ∧ h + 1 = m ∧ m < 1000 ∧ ∀ H', Same H H' → Q (.bl (isNum (cl z) m)) H'
theorem d__law_is_number (T : Txt w K mg W) : DefOk P w K mg base "_law_is_number" s__law_is_number ["_law_word", "_law_high"] 1 sp_isnum := by
  refine T.f__law_is_number.ok sc__law_is_number (fun vs H Q E h => ?_) (fun f cdv A outer s H vs Q E hr h => ?_)
  · obtain ⟨z, h, m, rfl, _⟩ := h
    rfl
  · obtain ⟨z, h1, m, rfl, hm1, hm, k⟩ := h
    refine ⟨_, (pss_one (ps_ret (pe_cmpR op_in_seq (pv 0) (pe_lc (own := [("_law_number", 2)]) (g := (gName 2)) (tt := tYes) rfl sc__law_is_number.nd (pi_range1 (by rfl) T.n_range (pa_cons (pe_op op_add (pv 1) pe_int) pa_nil)) (blkOk_by (own := [("_law_number", 2)]) (N := ["_law_word", "_law_high", "_law_number"]) (sc := defScope s__law_is_number) (by decide +kernel)) (fun _ _ _ _ _ => (pg_name (i := 2) sc__law_is_number.nd rfl (Or.inl rfl))) (fun _ _ _ _ _ => pts_nil) (fun _ _ _ _ _ => (pe_callTy (T := "str") call_str_int (by rfl) T.n_str (by decide +kernel) (pa_cons (pv 2) pa_nil)))) (by rfl)))), ?_⟩
    refine ⟨_, rfl, _, rfl, _, _, rfl, rfl, _, rfl, by omega, by omega, fun D hD => ?_⟩
    rw [show (h1 + 1).toNat = m by omega]
    refine lc_range (lo := 0) (n := m) (fun i H' => Same H H' ∧ H' D = some (.lst (((List.range i).map fun n : Nat => V.str (toString (n : Int)))))) ⟨same_new hD, upd_same⟩ ?_ ?_
    · rintro i H2 hi ⟨sm, hd⟩
      refine ⟨rfl, ?_⟩
      refine ⟨_, rfl, _, rfl, small_log (by omega), _, hd, by rw [List.length_map, List.length_range]; exact small1000 (by omega), fun b o e => ?_, ?_⟩
      · rw [upd_ne (ne_of_none e hD)]
        exact sm b o e
      · rw [upd_same, List.range_succ, List.map_append, List.map_cons, List.map_nil, show (0 : Int) + (i : Int) = (i : Int) by omega]
    · rintro H2 ⟨sm, hd⟩
      refine ⟨D, _, rfl, .inl (sqlO hd), rfl, ?_, ?_⟩
      · rw [List.all_eq_true]
        intro x hx
        obtain ⟨n, _, rfl⟩ := List.mem_map.mp hx
        rfl
      · have e : inV (V.str z) ((List.range m).map fun n : Nat => V.str (toString (n : Int))) = isNum (cl z) m := by
          unfold inV isNum
          rw [List.any_map, Bool.eq_iff_iff, List.any_eq_true, List.any_eq_true]
          have one : ∀ n, n ∈ List.range m → (eqV (V.str (toString (n : Int))) (V.str z) = true ↔ decide (cl z = dg n) = true) := fun n hn => by
            have := List.mem_range.mp hn
            rw [decide_eq_true_iff, ← dg_text n (by omega)]
            show ((toString (n : Int) : Str) == z) = true ↔ _
            rw [beq_iff_eq]
            exact ⟨fun q => by rw [q], fun q => (cl_inj q).symm⟩
          exact ⟨fun ⟨n, h1, h2⟩ => ⟨n, h1, (one n h1).mp h2⟩, fun ⟨n, h1, h2⟩ => ⟨n, h1, (one n h1).mpr h2⟩⟩
        show Q (V.bl (inV (V.str z) _)) H2
        rw [e]
        exact k H2 sm
end
section
theorem sc__law_is_line : FnScope ["_law_line", "_law_number", "_law_most", "_law_words", "_law_parts", "_law_sign", "_law_part"] ["_law_line", "_law_number"] (defScope s__law_is_line) := ⟨rfl, rfl, rfl, by decide +kernel, rfl, by decide +kernel, by decide +kernel⟩
theorem cut_to (z : Str) (j : Nat) : cl (cutS z none (some (j : Int))) = (cl z).take j := by
  unfold cutS
  rw [HT.sIx_nat, HT.sIx_none]
  show ((cl z).drop 0).take (min j z.length - 0) = _
  rw [List.drop_zero, Nat.sub_zero]
  by_cases h : j ≤ z.length
  · rw [Nat.min_eq_left h]
  · rw [Nat.min_eq_right (by omega), List.take_of_length_le (by rw [cl_len]; exact Nat.le_refl _), List.take_of_length_le (by rw [cl_len]; omega)]
theorem str_beq (a b : Str) : (a == b) = decide (cl b = cl a) := by
  rw [Bool.eq_iff_iff, beq_iff_eq, decide_eq_true_iff]
  exact ⟨fun h => by rw [h], fun h => (cl_inj h).symm⟩
theorem str_dec (a b : Str) : decide (V.str a = V.str b) = decide (cl a = cl b) := by
  rw [Bool.eq_iff_iff, decide_eq_true_iff, decide_eq_true_iff]
  exact ⟨fun h => by rw [V.str.inj h], fun h => by rw [cl_inj h]⟩
theorem dps_strs {K : PySem.W.Frag} {H : Hp} : ∀ (zs : List Str), DpAll K H (zs.map V.str) (zs.map PyData.str)
  | [] => .nil
  | z :: zs => .cons (.str z) (dps_strs zs)
theorem strOk_ascii {z : Str} (h : ∀ c ∈ cl z, c < 128) : PyData.strOk z = true := by
  unfold PyData.strOk
  rw [Array.all_eq_true]
  intro i hi
  have := h z.cps[i] (Array.mem_toList_iff.mpr (Array.getElem_mem hi))
  exact decide_eq_true (by omega)
theorem strs_lay : ∀ {zs : List Str}, (∀ z ∈ zs, ∀ c ∈ cl z, c < 128) → PyData.canLayAll0 (zs.map PyData.str) = true ∧ PyData.depthAll (zs.map PyData.str) = 0
  | [], _ => ⟨rfl, rfl⟩
  | z :: zs, h => by
    obtain ⟨a, b⟩ := strs_lay (zs := zs) fun y hy => h y (List.mem_cons_of_mem _ hy)
    refine ⟨?_, ?_⟩
    · show (PyData.strOk z && PyData.canLayAll0 (zs.map PyData.str)) = true
      rw [a, strOk_ascii (h z List.mem_cons_self)]
      rfl
    · show max 0 (PyData.depthAll (zs.map PyData.str)) = 0
      rw [b]
      rfl
theorem strs_shaped {zs : List Str} (h : ∀ z ∈ zs, ∀ c ∈ cl z, c < 128) : SeqAt.shaped (.list (zs.map PyData.str)) = true := by
  obtain ⟨a, b⟩ := strs_lay h
  unfold SeqAt.shaped
  rw [Bool.and_eq_true]
  refine ⟨a, decide_eq_true ?_⟩
  show PyData.depthAll (zs.map PyData.str) + 1 ≤ 64
  omega
theorem strs_eqv (zs : List Str) : PyData.eqv (.list (zs.map PyData.str)) (.list []) = zs.isEmpty := by
  cases zs with
  | nil => rfl
  | cons z zs => simp [PyData.eqv, PyData.eqvAll]
def sp_isline (K : PySem.W.Frag) : Sp := fun vs H Q _ => ∃ (z : Str) (k : Nat), vs = [.str z, .int k] ∧ k < 1000 ∧ z.length ≤ 10000 ∧ (∀ c ∈ cl z, c < 128) ∧ ∀ H', Same H H' → Q (.bl (rdRow (cl z) k kinds 0).1.isSome) H'
theorem d__law_is_line {P : Program} {w : World} {K : PySem.W.Frag} {mg : Str → Option Value} {base : Heap} {W : Wd} (T : Txt w K mg W) : DefOk P w K mg base "_law_is_line" s__law_is_line ["_law_line", "_law_number"] 2 (sp_isline K) := by
  refine T.f__law_is_line.ok sc__law_is_line (fun vs H Q E h => ?_) (fun f cdv A outer s H vs Q E hr h => ?_)
  · obtain ⟨z, m, rfl, _⟩ := h
    rfl
  · obtain ⟨z, kk, rfl, hk9, hz, hc, k⟩ := h
    have hk : kk ≤ 1000 := Nat.le_of_lt hk9
    refine ⟨_, (pss_cons (ps_if (pt_cmpR op_in_seq (pe_slice sl_str (pv 0) po_none (po_some pe_int)) (pe_tup (pa_cons pe_str (pa_cons pe_str pa_nil))) (by rfl)) (Evl.pss_cut (ps_set (i := 2) sc__law_is_line.nd rfl (Or.inl rfl) (pe_ifExp (pt_cmpR op_eq (pe_slice sl_str (pv 0) po_none (po_some pe_int)) pe_str (nomark _)) pe_int pe_int))
      (pss_one (ps_ret (pe_and (pe_cmpR op_le (pe_callB (id := "len") call_len (by rfl) T.n_len (by decide +kernel) (pa_cons (pv 0) pa_nil)) (pe_op op_add pe_int (pv 2)) (nomark _)) (pe_one (pe_cmpR (op_eqD hr.units) (pe_lc (own := [("_law_sign", 5)]) (g := (gName 5)) rfl sc__law_is_line.nd (pi_str (pv 0)) (blkOk_by (own := [("_law_sign", 5)]) (N := ["_law_line", "_law_number", "_law_most", "_law_words", "_law_parts", "_law_sign", "_law_part"]) (sc := defScope s__law_is_line) (by decide +kernel)) (fun _ _ _ _ _ => (pg_name (i := 5) sc__law_is_line.nd rfl (Or.inl rfl))) (fun _ _ _ _ _ => (pts_one (pt_not (pt_chain op_le_str op_le_str pe_str (pv 5) pe_str)))) (fun _ _ _ _ _ => (pv 5))) (pe_lst pa_nil) (nomark _))))))) pss_nil)
      (pss_cons (ps_set (i := 3) sc__law_is_line.nd rfl (Or.inl rfl) (pe_split (pv 0) pe_str))
      (pss_cons (ps_set (i := 4) sc__law_is_line.nd rfl (Or.inl rfl) (pe_slice sl_list (pv 3) (po_some pe_int) po_none))
      (pss_cons (ps_if (pt_cmpR op_eq (pe_ix ix_list (pv 3) pe_int (fun _ _ => rfl)) pe_str (nomark _)) (pss_one (ps_ret (pe_cmpR (op_eqD hr.units) (pv 4) (pe_lst pa_nil) (nomark _)))) pss_nil)
      (Evl.pss_cut (ps_if (PW.pt (pw_and (pt_cmpR op_eq (pe_ix ix_list (pv 3) pe_int (fun _ _ => rfl)) pe_str (nomark _)) (pw_and1 (pt_cmpR op_eq (pe_callB (id := "len") call_len (by rfl) T.n_len (by decide +kernel) (pa_cons (pv 4) pa_nil)) pe_int (nomark _))))) (pss_one (ps_ret (pe_and (pe_callD (d__law_is_number T) (hr.mono (by decide)) (pa_cons (pe_ix ix_list (pv 4) pe_int (fun _ _ => rfl)) (pa_cons pe_int pa_nil))) (pe_one (pe_callD (d__law_is_number T) (hr.mono (by decide)) (pa_cons (pe_ix ix_list (pv 4) pe_int (fun _ _ => rfl)) (pa_cons (pe_op op_sub (pv 1) pe_int) pa_nil))))))) pss_nil)
      (Evl.pss_cut (ps_if (PW.pt (pw_or (PW.pt (pw_and (pt_cmpR op_in_seq (pe_ix ix_list (pv 3) pe_int (fun _ _ => rfl)) (pe_tup (pa_cons pe_str (pa_cons pe_str pa_nil))) (by rfl)) (pw_and1 (pt_cmpR op_ne (pe_callB (id := "len") call_len (by rfl) T.n_len (by decide +kernel) (pa_cons (pv 4) pa_nil)) pe_int (nomark _))))) (pw_or1 (pt_cmpR op_notIn_seq (pe_ix ix_list (pv 3) pe_int (fun _ _ => rfl)) (pe_tup (pa_cons pe_str (pa_cons pe_str (pa_cons pe_str pa_nil)))) (by rfl))))) (pss_one (ps_ret pe_bl)) pss_nil)
      (pss_one (ps_ret (pe_and (pe_cmpR op_le (pe_callB (id := "len") call_len (by rfl) T.n_len (by decide +kernel) (pa_cons (pv 4) pa_nil)) pe_int (nomark _)) (pe_one (pe_cmpR (op_eqD hr.units) (pe_lc (own := [("_law_part", 6)]) (g := (gName 6)) rfl sc__law_is_line.nd (pi_list (pv 4)) (blkOk_by (own := [("_law_part", 6)]) (N := ["_law_line", "_law_number", "_law_most", "_law_words", "_law_parts", "_law_sign", "_law_part"]) (sc := defScope s__law_is_line) (by decide +kernel)) (fun _ _ _ _ _ => (pg_name (i := 6) sc__law_is_line.nd rfl (Or.inl rfl))) (fun _ _ _ _ _ => (pts_one (pt_not (pt_val (pe_callD (d__law_is_number T) (hr.mono (by decide)) (pa_cons (pv 6) (pa_cons (pe_op op_sub (pv 1) pe_int) pa_nil))))))) (fun _ _ _ _ _ => (pv 6))) (pe_lst pa_nil) (nomark _)))))))))))), ?_⟩
    have k : ∀ H', Same H H' → Q (.bl (lineB (cl z) kk)) H' := k
    have sl : z.length ≤ sizeLine := Nat.le_trans hz (Nat.le_of_ble_eq_true rfl)
    refine ⟨_, rfl, _, rfl, z, rfl, sl, Nat.le_of_ble_eq_true rfl, fun t ht => ?_⟩
    refine ⟨t, _, rfl, .inr (sqtO upd_same), rfl, by decide +kernel, _, rfl, ?_⟩
    rw [show (if false = true then !inV (V.str (cutS z none (some (5 : Int)))) [.str "text ", .str "line "] else inV (V.str (cutS z none (some (5 : Int)))) [.str "text ", .str "line "]) = headed (cl z) from ?_]
    · have s0 : Same H (upd H t (.tup [.str "text ", .str "line "])) := same_new ht
      generalize upd H t (.tup [.str "text ", .str "line "]) = H0 at s0 ⊢
      refine ite2 (fun hh => ?_) (fun hh => ?_)
      · refine ⟨fun σ' H' => ∃ m : Nat, σ' = [some (.str z), some (.int kk), some (.int m), none, none, none, none] ∧ Same H H' ∧ m ≤ 20 ∧ (IsRow kk (cl z) ↔ (cl z).length ≤ 5 + m ∧ ∀ c ∈ cl z, good c = true), ?_, ?_⟩
        · have e1 := cut_to z 1
          refine ⟨_, rfl, _, rfl, z, rfl, sl, rfl, _, rfl, ?_⟩
          have hh : (decide ((cl z).take 5 = wText ++ [32]) || decide ((cl z).take 5 = wLine ++ [32])) = true := hh
          rw [Bool.or_eq_true, decide_eq_true_iff, decide_eq_true_iff] at hh
          rcases hh with h5 | h5
          · refine ifT ?_ ⟨20, rfl, s0, by omega, isRow_text h5⟩
            rw [str_dec, decide_eq_true_iff, show cl (cutS z none (some (1 : Int))) = (cl z).take 1 from e1, show (cl z).take 1 = ((cl z).take 5).take 1 by rw [List.take_take]; rfl, h5]
            rfl
          · refine ifF ?_ ⟨3, rfl, s0, by omega, isRow_line h5⟩
            rw [str_dec, decide_eq_false_iff_not, show cl (cutS z none (some (1 : Int))) = (cl z).take 1 from e1, show (cl z).take 1 = ((cl z).take 5).take 1 by rw [List.take_take]; rfl, h5]
            decide
        · rintro σ' H1 ⟨m, rfl, s1, hm, key⟩
          refine ⟨_, rfl, _, z.length, rfl, ⟨sl, rfl⟩, _, rfl, _, _, rfl, rfl, _, _, rfl, rfl, _, rfl, ?_⟩
          refine ite2 (fun h => ?_) (fun h => ?_)
          · have hl : (cl z).length ≤ 5 + m := by have := of_decide_eq_true h; rw [cl_len]; omega
            refine ⟨_, rfl, _, rfl, fun D hD => ?_⟩
            have hnD : ∀ (b : Addr) (o : HO), H b = some o → H D = none := fun b o e => by
              cases q : H D with
              | none => rfl
              | some u => have := s1 _ _ q; rw [hD] at this; cases this
            refine lc_it walk_str (fun i H' => Same H H' ∧ H' D = some (.lst ((((cl z).take i).filter fun c => !good c).map fun c => V.str ⟨#[c]⟩))) ⟨s1.trans (same_new hD), upd_same⟩ (fun _ _ _ _ => True.intro) ?_ ?_
            · rintro i x H2 H3 hi ⟨sm, hd⟩ ⟨rfl, c, hc, rfl⟩
              have hc' : (cl z)[i]? = some c := by rw [Array.getElem?_toList]; exact hc
              have hi' := (List.getElem?_eq_some_iff.mp hc').1
              have est : ((cl z).take (i + 1)).filter (fun c => !good c) = ((cl z).take i).filter (fun c => !good c) ++ (if good c then [] else [c]) := by
                rw [List.take_succ, hc', List.filter_append]
                cases hg : good c <;> simp [hg]
              have bad : good c = false → ∃ acc, H3 D = some (.lst acc) ∧ acc.length < sizeLine ∧ Same H (upd H3 D (.lst (acc ++ [V.str ⟨#[c]⟩]))) ∧ (upd H3 D (.lst (acc ++ [V.str ⟨#[c]⟩]))) D = some (.lst ((((cl z).take (i + 1)).filter fun c => !good c).map fun c => V.str ⟨#[c]⟩)) := fun hg => by
                refine ⟨_, hd, ?_, fun b o e => by rw [upd_ne (ne_of_none e (hnD b o e))]; exact sm b o e, ?_⟩
                · rw [List.length_map]
                  have := List.length_filter_le (fun c => !good c) ((cl z).take i)
                  rw [List.length_take] at this
                  exact small1000 (by omega)
                · rw [upd_same, est, hg, List.map_append]
                  rfl
              refine ⟨rfl, ?_⟩
              by_cases h1 : 32 ≤ c
              · refine ⟨_, rfl, _, _, rfl, rfl, _, rfl, ifT (by rw [fromB]; exact decide_eq_true h1) ?_⟩
                by_cases h2 : c ≤ 126
                · refine ⟨_, _, rfl, rfl, _, rfl, ifF (by rw [toT, decide_eq_true h2]; rfl) ⟨sm, ?_⟩⟩
                  rw [est, show good c = true from decide_eq_true ⟨h1, h2⟩]
                  rw [if_pos rfl, List.append_nil]
                  exact hd
                · refine ⟨_, _, rfl, rfl, _, rfl, ifT (by rw [toT, decide_eq_false h2]; rfl) ⟨_, rfl, bad (decide_eq_false fun q => h2 q.2)⟩⟩
              · refine ⟨_, rfl, _, _, rfl, rfl, _, rfl, ifF (by rw [fromB]; exact decide_eq_false h1) ?_⟩
                exact ⟨_, rfl, ifT rfl ⟨_, rfl, bad (decide_eq_false fun q => h1 q.1)⟩⟩
            · rintro H2 ⟨sm, hd⟩
              have ht : (cl z).take z.cps.size = cl z := List.take_of_length_le (by simp)
              rw [ht] at hd
              rw [show (((cl z).filter fun c => !good c).map fun c => V.str ⟨#[c]⟩) = (((cl z).filter fun c => !good c).map fun c => (⟨#[c]⟩ : Str)).map V.str by rw [List.map_map]; rfl] at hd
              refine ⟨Nat.le_of_ble_eq_true rfl, fun e he => ?_⟩
              have nDe : D ≠ e := ne_of_none hd he
              refine ⟨.list ((((cl z).filter fun c => !good c).map fun c => (⟨#[c]⟩ : Str)).map PyData.str), .list [], dp_lst (by rw [upd_ne nDe]; exact hd) (dps_strs _), dp_lst upd_same .nil, strs_shaped ?_, by decide +kernel, ?_⟩
              · intro y hy c hcy
                obtain ⟨d, hd2, rfl⟩ := List.mem_map.mp hy
                have hd3 := hc d (List.mem_filter.mp hd2).1
                rw [show cl ({ cps := #[d] } : Str) = [d] from rfl] at hcy
                rw [List.mem_singleton.mp hcy]
                exact hd3
              · rw [strs_eqv]
                have e9 : lineB (cl z) kk = (((cl z).filter fun c => !good c).map fun c => (⟨#[c]⟩ : Str)).isEmpty := by
                  refine lineB_eq hk ?_
                  rw [key, List.isEmpty_iff, List.map_eq_nil_iff, List.filter_eq_nil_iff]
                  exact ⟨fun q => ⟨hl, fun c hc => by have := q c hc; simpa using this⟩, fun q c hc => by rw [q.2 c hc]; decide⟩
                rw [← e9]
                exact k _ (sm.trans (same_new he))
          · have hl : ¬ (cl z).length ≤ 5 + m := fun q => h (decide_eq_true (by rw [cl_len] at q; omega))
            have := k H1 s1
            rw [lineB_eq (b := false) hk ⟨fun z => (nomatch z), fun q => absurd (key.mp q).1 hl⟩] at this
            exact this
      · have sl2 : z.length + 2 ≤ sizeLine := Nat.le_trans (Nat.add_le_add_right hz 2) (Nat.le_of_ble_eq_true rfl)
        refine ⟨_, rfl, ⟨_, rfl⟩, z, " ", rfl, rfl, rfl, sl2, fun L hL => ?_⟩
        have es : (Txt.split z " ").map cl = splitB 32 (cl z) := split_is rfl (by decide +kernel)
        have hlen : (Txt.split z " ").length ≤ 10001 := by
          have h1 := splitB_len (s := 32) (cl z)
          rw [← es, List.length_map, cl_len] at h1
          omega
        have hasc : ∀ y ∈ Txt.split z " ", ∀ c ∈ cl y, c < 128 := fun y hy c hcy => hc c (splitB_mem (by rw [← es]; exact List.mem_map.mpr ⟨y, hy, rfl⟩) hcy)
        generalize Txt.split z " " = ys at es hlen hasc ⊢
        obtain ⟨y0, yr, rfl⟩ : ∃ y0 yr, ys = y0 :: yr := by
          cases ys with
          | nil => exact absurd es.symm (splitB_ne _)
          | cons a b => exact ⟨a, b, rfl⟩
        have hh : headed (cl z) = false := by cases q : headed (cl z) with | false => rfl | true => exact absurd q hh
        have key := isRow_words hk hh es.symm
        have fin : ∀ (b : Bool) (H' : Hp), Same H H' → (b = true ↔ wordsRow kk (cl y0) (yr.map cl)) → Q (.bl b) H' := fun b H' s hb => by
          have := k H' s
          rw [lineB_eq (b := b) hk (hb.trans key.symm)] at this
          exact this
        have bL : (upd H0 L (.lst ((y0 :: yr).map V.str))) L = some (.lst ((y0 :: yr).map V.str)) := upd_same
        have sL0 := s0.trans (same_new (o := .lst ((y0 :: yr).map V.str)) hL)
        generalize upd H0 L (.lst ((y0 :: yr).map V.str)) = H1 at bL sL0 ⊢
        refine ⟨_, rfl, _, rfl, L, _, rfl, sqlO bL, fun P' hP => ?_⟩
        have nLP : L ≠ P' := ne_of_none bL hP
        have ecut : cutV ((y0 :: yr).map V.str) (some (1 : Int)) none = yr.map V.str := by
          unfold cutV
          rw [show (1 : Int) = ((1 : Nat) : Int) from rfl, HT.sIx_nat, HT.sIx_none]
          simp only [List.map_cons, List.length_cons, List.length_map]
          rw [Nat.min_eq_left (by omega), List.drop_succ_cons, List.drop_zero, List.take_of_length_le (by rw [List.length_map]; omega)]
        rw [ecut]
        have bL2 : (upd H1 P' (.lst (yr.map V.str))) L = some (.lst ((y0 :: yr).map V.str)) := by rw [upd_ne nLP]; exact bL
        have bP : (upd H1 P' (.lst (yr.map V.str))) P' = some (.lst (yr.map V.str)) := upd_same
        have s2 := sL0.trans (same_new (o := .lst (yr.map V.str)) hP)
        generalize upd H1 P' (.lst (yr.map V.str)) = H2 at bL2 bP s2 ⊢
        refine ⟨_, rfl, L, _, _, _, rfl, rfl, sqlO bL2, at_of (j := 0) rfl rfl, rfl, _, rfl, ?_⟩
        rw [str_dec]
        refine ite2 (fun hw => ?_) (fun hw => ?_)
        · have hw : cl y0 = wHard := of_decide_eq_true hw
          refine ⟨_, rfl, Nat.le_of_ble_eq_true rfl, fun e he => ?_⟩
          have nPe : P' ≠ e := ne_of_none bP he
          refine ⟨.list (yr.map PyData.str), .list [], dp_lst (by rw [upd_ne nPe]; exact bP) (dps_strs _), dp_lst upd_same .nil, strs_shaped fun y hy => hasc y (List.mem_cons_of_mem _ hy), by decide +kernel, ?_⟩
          rw [strs_eqv]
          refine fin _ _ (s2.trans (same_new he)) ?_
          rw [List.isEmpty_iff]
          constructor
          · rintro rfl
            exact .inl ⟨hw, rfl⟩
          · rintro (⟨_, h⟩ | ⟨h, _⟩ | ⟨h | h, _⟩ | ⟨h, _⟩)
            · exact List.map_eq_nil_iff.mp h
            all_goals exact absurd (hw.symm.trans h) (by decide)
        · have hw : cl y0 ≠ wHard := fun q => hw (decide_eq_true q)
          refine ⟨fun σ' H' => σ' = [some (.str z), some (.int kk), none, some (.ref L), some (.ref P'), none, none] ∧ Same H2 H' ∧ ¬ (cl y0 = wNest ∧ yr.length = 2), ?_, ?_⟩
          · refine ⟨_, rfl, L, _, _, _, rfl, rfl, sqlO bL2, at_of (j := 0) rfl rfl, rfl, _, rfl, ?_⟩
            rw [str_dec]
            refine ite2 (fun hn => ?_) (fun hn => ?_)
            · have hn : cl y0 = wNest := of_decide_eq_true hn
              refine ⟨_, rfl, _, _, rfl, .inl ⟨_, sqlO bP, rfl⟩, rfl, _, rfl, ?_⟩
              refine ite2 (fun h2 => ?_) (fun h2 => ?_)
              · have h2 : yr.length = 2 := by have := V.int.inj (of_decide_eq_true h2); rw [List.length_map] at this; omega
                obtain ⟨a, b, rfl⟩ : ∃ a b, yr = [a, b] := by
                  match yr, h2 with
                  | [a, b], _ => exact ⟨a, b, rfl⟩
                refine ⟨_, rfl, P', _, _, _, rfl, rfl, sqlO bP, at_of (j := 0) rfl rfl, a, 8, 9, rfl, rfl, by decide, fun Ha sa => ?_⟩
                have wr : wordsRow kk (cl y0) ([a, b].map cl) ↔ (isNum (cl a) 9 = true ∧ isNum (cl b) kk = true) := by
                  constructor
                  · rintro (⟨h, _⟩ | ⟨_, a', b', e, h1, h2⟩ | ⟨h | h, _⟩ | ⟨h, _⟩)
                    · exact absurd h hw
                    · obtain ⟨rfl, e2⟩ := List.cons.inj e
                      obtain ⟨rfl, _⟩ := List.cons.inj e2
                      exact ⟨h1, h2⟩
                    all_goals exact absurd (hn.symm.trans h) (by decide)
                  · exact fun h => .inr (.inl ⟨hn, _, _, rfl, h.1, h.2⟩)
                refine ⟨_, rfl, ?_⟩
                cases ea : isNum (cl a) 9 with
                | false =>
                  refine iteF (fin false _ (s2.trans sa) ?_)
                  rw [wr, ea]
                  exact ⟨fun q => (nomatch q), fun q => q.1⟩
                | true =>
                  refine iteT ⟨_, rfl, P', _, _, _, rfl, rfl, sqlO (sa _ _ bP), at_of (j := 1) rfl rfl, _, rfl, _, _, rfl, rfl, b, (kk : Int) - 1, kk, rfl, by omega, hk9, fun Hb sb => ?_⟩
                  refine fin _ _ (s2.trans (sa.trans sb)) ?_
                  rw [wr, ea]
                  exact ⟨fun q => ⟨rfl, q⟩, fun q => q.2⟩
              · exact ⟨rfl, Same.refl _, fun q => h2 (decide_eq_true (by rw [List.length_map, q.2]; rfl))⟩
            · exact iteF ⟨rfl, Same.refl _, fun q => hn (decide_eq_true q.1)⟩
          · rintro σ' H3 ⟨rfl, s3, hnest⟩
            have bL3 := s3 _ _ bL2
            have bP3 := s3 _ _ bP
            have s13 := s2.trans s3
            clear bL2 bP s2 s3 bL
            refine ⟨fun σ' H' => σ' = [some (.str z), some (.int kk), none, some (.ref L), some (.ref P'), none, none] ∧ Same H3 H' ∧ ((cl y0 = wAlign ∨ cl y0 = wGroup) ∧ yr.length = 1 ∨ cl y0 = wCat), ?_, ?_⟩
            · refine ⟨_, rfl, L, _, _, _, rfl, rfl, sqlO bL3, at_of (j := 0) rfl rfl, Nat.le_of_ble_eq_true rfl, fun t1 ht1 => ⟨t1, _, rfl, .inr (sqtO upd_same), rfl, by decide +kernel, _, rfl, ?_⟩⟩
              have st1 : Same H3 (upd H3 t1 (.tup [.str "align", .str "group"])) := same_new ht1
              generalize upd H3 t1 (.tup [.str "align", .str "group"]) = H5 at st1 ⊢
              have no : ∀ H', Same H3 H' → ¬ wordsRow kk (cl y0) (yr.map cl) → Q (.bl false) H' := fun H' s hn => fin false H' (s13.trans s) ⟨fun q => (nomatch q), fun q => absurd q hn⟩
              have rest : ∀ H' (R : Prop), Same H3 H' → (¬ (cl y0 = wAlign ∨ cl y0 = wGroup ∨ cl y0 = wCat) → R) → ((cl y0 = wAlign ∨ cl y0 = wGroup ∨ cl y0 = wCat) → True) → True := fun _ _ _ _ _ => True.intro
              rw [show (if false = true then !inV (V.str y0) [.str "align", .str "group"] else inV (V.str y0) [.str "align", .str "group"]) = (decide (cl y0 = wAlign) || decide (cl y0 = wGroup)) by
                show ((("align" : Str) == y0) || ((("group" : Str) == y0) || false)) = _
                rw [Bool.or_false, str_beq, str_beq]
                rfl]
              have e3 : (if true = true then !inV (V.str y0) [.str "align", .str "group", .str "cat"] else inV (V.str y0) [.str "align", .str "group", .str "cat"]) = !(decide (cl y0 = wAlign) || (decide (cl y0 = wGroup) || decide (cl y0 = wCat))) := by
                show (!((("align" : Str) == y0) || ((("group" : Str) == y0) || ((("cat" : Str) == y0) || false)))) = _
                rw [Bool.or_false, str_beq, str_beq, str_beq]
                rfl
              by_cases h1 : cl y0 = wAlign ∨ cl y0 = wGroup
              · refine ifT (by rcases h1 with h | h <;> (rw [decide_eq_true h]; simp)) ?_
                refine ⟨_, rfl, _, _, rfl, .inl ⟨_, sqlO (st1 _ _ bP3), rfl⟩, rfl, _, rfl, ?_⟩
                by_cases h2 : yr.length = 1
                · refine ifF (by rw [decide_eq_true (by rw [List.length_map, h2]; rfl)]; rfl) ?_
                  refine ⟨_, rfl, L, _, _, _, rfl, rfl, sqlO (st1 _ _ bL3), at_of (j := 0) rfl rfl, Nat.le_of_ble_eq_true rfl, fun t2 ht2 => ⟨t2, _, rfl, .inr (sqtO upd_same), rfl, by decide +kernel, _, rfl, ?_⟩⟩
                  rw [e3]
                  refine ifF (by rcases h1 with h | h <;> (rw [decide_eq_true h]; simp)) ?_
                  exact ⟨rfl, st1.trans (same_new ht2), .inl ⟨h1, h2⟩⟩
                · refine ifT (by rw [decide_eq_false (fun q => h2 (by have := V.int.inj q; rw [List.length_map] at this; omega))]; rfl) ?_
                  refine iteT (no _ st1 ?_)
                  rintro (⟨h, _⟩ | ⟨h, _⟩ | ⟨_, a, e, _⟩ | ⟨h, _⟩)
                  · exact hw h
                  · rcases h1 with q | q <;> exact absurd (q.symm.trans h) (by decide)
                  · exact h2 (by have := congrArg List.length e; rw [List.length_map] at this; exact this)
                  · rcases h1 with q | q <;> exact absurd (q.symm.trans h) (by decide)
              · refine ifF (by rw [decide_eq_false fun q => h1 (.inl q), decide_eq_false fun q => h1 (.inr q)]; rfl) ?_
                refine iteF ⟨_, rfl, L, _, _, _, rfl, rfl, sqlO (st1 _ _ bL3), at_of (j := 0) rfl rfl, Nat.le_of_ble_eq_true rfl, fun t2 ht2 => ⟨t2, _, rfl, .inr (sqtO upd_same), rfl, by decide +kernel, _, rfl, ?_⟩⟩
                rw [e3]
                by_cases h3 : cl y0 = wCat
                · refine ifF (by rw [decide_eq_true h3]; simp) ?_
                  exact ⟨rfl, st1.trans (same_new ht2), .inr h3⟩
                · refine ifT (by rw [decide_eq_false h3, decide_eq_false fun q => h1 (.inl q), decide_eq_false fun q => h1 (.inr q)]; rfl) ?_
                  refine no _ (st1.trans (same_new ht2)) ?_
                  rintro (⟨h, _⟩ | ⟨h, a, b, e, _⟩ | ⟨h, _⟩ | ⟨h, _⟩)
                  · exact hw h
                  · exact hnest ⟨h, by have := congrArg List.length e; rw [List.length_map] at this; exact this⟩
                  · exact h1 h
                  · exact h3 h
            · rintro σ' H4 ⟨rfl, s4, hk4⟩
              have bP4 := s4 _ _ bP3
              have s14 := s13.trans s4
              have wr : wordsRow kk (cl y0) (yr.map cl) ↔ ((yr.map cl).length ≤ 8 ∧ ∀ p ∈ yr.map cl, isNum p kk = true) := by
                constructor
                · rintro (⟨h, _⟩ | ⟨h, a, b, e, _⟩ | ⟨h, a, e, h2⟩ | ⟨h, h2⟩)
                  · exact absurd h hw
                  · exact absurd ⟨h, by have := congrArg List.length e; rw [List.length_map] at this; exact this⟩ hnest
                  · rw [e]
                    exact ⟨by show 1 ≤ 8; decide, fun p hp => by rw [List.mem_singleton.mp hp]; exact h2⟩
                  · exact h2
                · rintro ⟨h1, h2⟩
                  rcases hk4 with ⟨h3, h4⟩ | h3
                  · obtain ⟨a, rfl⟩ := List.length_eq_one_iff.mp h4
                    exact .inr (.inr (.inl ⟨h3, _, rfl, h2 _ List.mem_cons_self⟩))
                  · exact .inr (.inr (.inr ⟨h3, h1, h2⟩))
              refine ⟨_, rfl, _, _, rfl, .inl ⟨_, sqlO bP4, rfl⟩, _, _, rfl, rfl, _, rfl, ?_⟩
              refine ite2 (fun h8 => ?_) (fun h8 => ?_)
              · have h8 : yr.length ≤ 8 := by have := of_decide_eq_true h8; rw [List.length_map] at this; omega
                refine ⟨_, rfl, _, rfl, ⟨_, sqlO bP4⟩, fun D hD => ?_⟩
                refine lc_list (xs := yr.map V.str) (fun i H' => Same H4 H' ∧ H' D = some (.lst (((yr.take i).filter fun y => !isNum (cl y) kk).map V.str))) ⟨same_new hD, upd_same⟩ (fun i H' _ p => sqlO (p.1 _ _ bP4)) ?_ ?_
                · rintro i x H5 hx ⟨sm, hd⟩
                  rw [List.getElem?_map] at hx
                  obtain ⟨y, hy, rfl⟩ := Option.map_eq_some_iff.mp hx
                  have est : (yr.take (i + 1)).filter (fun y => !isNum (cl y) kk) = (yr.take i).filter (fun y => !isNum (cl y) kk) ++ (if isNum (cl y) kk then [] else [y]) := by
                    rw [List.take_succ, hy, List.filter_append]
                    cases hg : isNum (cl y) kk <;> simp [hg]
                  refine ⟨rfl, ?_⟩
                  refine ⟨_, rfl, _, rfl, _, _, rfl, rfl, y, (kk : Int) - 1, kk, rfl, by omega, hk9, fun H6 s6 => ⟨_, rfl, ?_⟩⟩
                  have hd6 := s6 _ _ hd
                  cases hg : isNum (cl y) kk with
                  | true =>
                    refine iteF ⟨sm.trans s6, ?_⟩
                    rw [est, hg, if_pos rfl, List.append_nil]
                    exact hd6
                  | false =>
                    refine iteT ⟨_, rfl, _, hd6, ?_, fun b o e => ?_, ?_⟩
                    · rw [List.length_map]
                      have := List.length_filter_le (fun y => !isNum (cl y) kk) (yr.take i)
                      rw [List.length_take] at this
                      exact small1000 (by omega)
                    · rw [upd_ne (ne_of_none e hD)]
                      exact s6 _ _ (sm b o e)
                    · rw [upd_same, est, hg, List.map_append]
                      rfl
                · rintro H5 ⟨sm, hd⟩
                  rw [List.length_map, List.take_length] at hd
                  refine ⟨Nat.le_of_ble_eq_true rfl, fun e he => ?_⟩
                  have nDe : D ≠ e := ne_of_none hd he
                  refine ⟨.list ((yr.filter fun y => !isNum (cl y) kk).map PyData.str), .list [], dp_lst (by rw [upd_ne nDe]; exact hd) (dps_strs _), dp_lst upd_same .nil, strs_shaped fun y hy => hasc y (List.mem_cons_of_mem _ (List.mem_filter.mp hy).1), by decide +kernel, ?_⟩
                  rw [strs_eqv]
                  refine fin _ _ (s14.trans (sm.trans (same_new he))) ?_
                  rw [wr, List.isEmpty_iff, List.filter_eq_nil_iff]
                  constructor
                  · intro q
                    refine ⟨by rw [List.length_map]; exact h8, fun p hp => ?_⟩
                    obtain ⟨y, hy, rfl⟩ := List.mem_map.mp hp
                    have := q y hy
                    simpa using this
                  · intro q y hy
                    rw [q.2 _ (List.mem_map.mpr ⟨y, hy, rfl⟩)]
                    decide
              · refine fin false _ s14 ⟨fun q => (nomatch q), fun q => absurd (wr.mp q).1 fun z => h8 (decide_eq_true ?_)⟩
                rw [List.length_map] at z ⊢
                omega
    · have e5 : cl (cutS z none (some (5 : Int))) = (cl z).take 5 := cut_to z 5
      show inV (V.str (cutS z none (some (5 : Int)))) [.str "text ", .str "line "] = _
      rw [show headed (cl z) = (decide ((cl z).take 5 = wText ++ [32]) || decide ((cl z).take 5 = wLine ++ [32])) from rfl, ← e5]
      show ((("text " : Str) == cutS z none (some (5 : Int))) || ((("line " : Str) == cutS z none (some (5 : Int))) || false)) = _
      rw [Bool.or_false, str_beq, str_beq]
      rfl
end
end Lw

namespace Lw
open PySem PySem.Spec PyProof.Rows L2 VW TL
local macro_rules | `(tactic| walk_at "rdc") => `(tactic| first | assumption | rfl | decide | omega | exact Or.inr ⟨by decide, by decide⟩ | exact ⟨by decide, by decide⟩ | exact ⟨by decide, by decide, by decide⟩ | (show (0 : Int) < _; omega) | (show (0 : Int) < _ ∧ _ < (1073741824 : Int); omega) | (show (-(2 ^ 64) < _ ∧ _ < 2 ^ 64) ∨ (-(2 ^ 64) < _ ∧ _ < 2 ^ 64); omega) | (show (-(2 ^ 64) < _ ∧ _ < 2 ^ 64) ∨ (-(2 ^ 64) < _ ∧ _ < 2 ^ 64); right; split <;> decide) | exact Nat.le_of_ble_eq_true rfl)
local macro_rules | `(tactic| walk_at "rd1") => `(tactic| first | refine ⟨_, rfl, ?_⟩ | refine And.intro (by walk_at "rdc") ?_ | refine ⟨_, _, rfl, rfl, ?_⟩ | refine Or.inl ⟨_, rfl, ?_⟩ | refine Or.inr ⟨_, rfl, ?_⟩ | refine ⟨_, _, _, _, rfl, rfl, sqlO (by first | assumption | exact upd_same), rfl, ?_⟩ | refine ⟨_, _, _, _, rfl, rfl, (by first | assumption | exact upd_same), rfl, ?_⟩)
local macro_rules | `(tactic| walk_at "rd") => `(tactic| repeat (walk_at "rd1"))

section
variable {P : Program} {w : World} {K : PySem.W.Frag} {mg : Str → Option Value} {base : Heap} {W : Wd}
theorem sc__law_can_begin : FnScope ["_law_line", "_law_number", "_law_tails", "_law_word", "_law_tail"] ["_law_line", "_law_number"] (defScope s__law_can_begin) := ⟨rfl, rfl, rfl, by decide +kernel, rfl, by decide +kernel, by decide +kernel⟩
def canB (l : List Nat) (k : Nat) : Bool := (tailsOf l).any fun t => lineB (l ++ t) k
def ts0 : List Str := ["", " ", "0", " 0", "0 0", " 0 0"]
def ts1 : List Str := ["", " ", " 0", " 0 0"]
theorem ts0_cl : ts0.map cl = tails0 := by decide +kernel
theorem ts1_cl : ts1.map cl = tails1 := by decide +kernel
abbrev vs0 : List V := [.str "", .str " ", .str "0", .str " 0", .str "0 0", .str " 0 0"]
abbrev vs1 : List V := [.str "", .str " ", .str " 0", .str " 0 0"]
abbrev vs7 : List V := [.str "text", .str "line", .str "hard", .str "cat", .str "nest", .str "align", .str "group"]
def kindStrs7 : List Str := ["text", "line", "hard", "cat", "nest", "align", "group"]
theorem kindStrs7_is : kindStrs7 = kinds.map Kind.str := rfl
def tailsK (l : List Nat) (q : Kind) : List (List Nat) := if q.cps.take l.length = l then tails1.map (q.cps.drop l.length ++ ·) else []
theorem tails_ascii {l : List Nat} : ∀ t, t ∈ tailsOf l → ∀ c ∈ t, c < 128 := by
  intro t ht c hc
  rcases List.mem_append.mp ht with h | h
  · have : ∀ t ∈ tails0, ∀ c ∈ t, c < 128 := by decide
    exact this t h c hc
  · obtain ⟨q, hq, h2⟩ := List.mem_flatMap.mp h
    split at h2
    · obtain ⟨x, hx, rfl⟩ := List.mem_map.mp h2
      rcases List.mem_append.mp hc with h3 | h3
      · have := (kind_short q).2 c (List.mem_of_mem_drop h3)
        omega
      · have : ∀ t ∈ tails1, ∀ c ∈ t, c < 128 := by decide
        exact this x hx c h3
    · simp at h2
def sp_canbegin (K : PySem.W.Frag) : Sp := fun vs H Q _ => ∃ (z : Str) (k : Nat), vs = [.str z, .int k] ∧ k < 1000 ∧ z.length ≤ 9000 ∧ (∀ c ∈ cl z, c < 128) ∧ ∀ H', Same H H' → Q (.bl (canB (cl z) k)) H'
theorem d__law_can_begin (T : Txt w K mg W) : DefOk P w K mg base "_law_can_begin" s__law_can_begin ["_law_line", "_law_number"] 3 (sp_canbegin K) := by
  refine T.f__law_can_begin.ok sc__law_can_begin (fun vs H Q E h => ?_) (fun f cdv A outer s H vs Q E hr h => ?_)
  · obtain ⟨z, m, rfl, _⟩ := h
    rfl
  · obtain ⟨z, kk, rfl, hk, hz, hc, k⟩ := h
    have sl : z.length ≤ sizeLine := Nat.le_trans hz (Nat.le_of_ble_eq_true rfl)
    refine ⟨_, (pss_cons (ps_set (i := 2) sc__law_can_begin.nd rfl (Or.inl rfl) (pe_lst (pa_cons pe_str (pa_cons pe_str (pa_cons pe_str (pa_cons pe_str (pa_cons pe_str (pa_cons pe_str pa_nil))))))))
      (pss_cons (ps_for PassesOwn.never rfl (pi_tup (pe_tup (pa_cons pe_str (pa_cons pe_str (pa_cons pe_str (pa_cons pe_str (pa_cons pe_str (pa_cons pe_str (pa_cons pe_str pa_nil))))))))) (pg_name (i := 3) sc__law_can_begin.nd rfl (Or.inr rfl))
      (pss_one (ps_if (pt_cmpR op_eq (pe_slice sl_str (pv 3) po_none (po_some (pe_callB (id := "len") call_len (by rfl) T.n_len (by decide +kernel) (pa_cons (pv 0) pa_nil)))) (pv 0) (nomark _)) (pss_one (ps_set (i := 2) sc__law_can_begin.nd rfl (Or.inl rfl) (pe_op op_cat (pv 2) (pe_lc (own := [("_law_tail", 4)]) (g := (gName 4)) (tt := tYes) rfl sc__law_can_begin.nd (pi_tup (pe_tup (pa_cons pe_str (pa_cons pe_str (pa_cons pe_str (pa_cons pe_str pa_nil)))))) (blkOk_by (own := [("_law_tail", 4)]) (N := ["_law_line", "_law_number", "_law_tails", "_law_word", "_law_tail"]) (sc := defScope s__law_can_begin) (by decide +kernel)) (fun _ _ _ _ _ => (pg_name (i := 4) sc__law_can_begin.nd rfl (Or.inl rfl))) (fun _ _ _ _ _ => pts_nil) (fun _ _ _ _ _ => (pe_op op_add_str (pe_slice sl_str (pv 3) (po_some (pe_callB (id := "len") (call_lenK (K := K)) (by rfl) T.n_len (by decide +kernel) (pa_cons (pv 0) pa_nil))) po_none) (pv 4))))))) pss_nil)))
      (pss_one (ps_ret (pe_cmpR (op_neD hr.units) (pe_lc (own := [("_law_tail", 4)]) (g := (gName 4)) rfl sc__law_can_begin.nd (pi_list (pv 2)) (blkOk_by (own := [("_law_tail", 4)]) (N := ["_law_line", "_law_number", "_law_tails", "_law_word", "_law_tail"]) (sc := defScope s__law_can_begin) (by decide +kernel)) (fun _ _ _ _ _ => (pg_name (i := 4) sc__law_can_begin.nd rfl (Or.inl rfl))) (fun _ _ _ _ _ => (pts_one (pt_val (pe_callD (d__law_is_line T) (hr.mono (by decide)) (pa_cons (pe_op op_add_str (pv 0) (pv 4)) (pa_cons (pv 1) pa_nil)))))) (fun _ _ _ _ _ => (pv 4))) (pe_lst pa_nil) (nomark _)))))), ?_⟩
    refine ⟨Nat.le_of_ble_eq_true rfl, fun L hL => ?_⟩
    refine ⟨Nat.le_of_ble_eq_true rfl, fun t ht => ?_⟩
    have b0 : (upd H L (.lst vs0)) L = some (.lst vs0) := upd_same
    have s0 : Same H (upd H L (.lst vs0)) := same_new hL
    have nLt : L ≠ t := ne_of_none b0 ht
    have bt : (upd (upd H L (.lst vs0)) t (.tup vs7)) t = some (.tup vs7) := upd_same
    have bL : (upd (upd H L (.lst vs0)) t (.tup vs7)) L = some (.lst vs0) := by rw [upd_ne nLt]; exact b0
    have s1 := s0.trans (same_new (o := .tup vs7) ht)
    refine ⟨t, rfl, ⟨_, sqtO bt⟩, ?_⟩
    generalize upd (upd H L (.lst vs0)) t (.tup vs7) = H1 at bt bL s1 ⊢
    have bt : H1 t = some (.tup (kindStrs7.map V.str)) := bt
    have bL : H1 L = some (.lst (ts0.map V.str)) := bL
    refine for_it (walk_tup (xs := kindStrs7.map V.str)) (fun i σ' H2 => ∃ (v3 : Option V) (L' : Addr) (ts : List Str), σ' = [some (.str z), some (.int kk), some (.ref L'), v3, none] ∧ Same H1 H2 ∧ H2 L' = some (.lst (ts.map V.str)) ∧ ts.map cl = tails0 ++ (kinds.take i).flatMap (tailsK (cl z)) ∧ (∀ y ∈ ts, y.length ≤ 20) ∧ ts.length ≤ 6 + 4 * i)
      ⟨none, L, ts0, rfl, Same.refl _, bL, by rw [ts0_cl]; simp, by decide +kernel, by decide⟩ (fun i σ' H2 _ ⟨v3, L', ts, _, s2, _⟩ => sqtO (s2 _ _ bt)) ?_ ?_
    · rintro i x σ' H2 H3 hi ⟨v3, L', ts, rfl, s2, hL', ets, hts, hlen⟩ ⟨rfl, hx⟩
      obtain ⟨q, hq, rfl⟩ : ∃ q, kinds[i]? = some q ∧ x = V.str q.str := by
        rw [List.getElem?_map, kindStrs7_is, List.getElem?_map] at hx
        cases e2 : kinds[i]? with
        | none => rw [e2] at hx; cases hx
        | some j => rw [e2] at hx; exact ⟨j, rfl, (Option.some.inj hx).symm⟩
      obtain ⟨q5, ql⟩ := kind_len q
      have qs : q.str.length ≤ sizeLine := Nat.le_trans q5 (Nat.le_of_ble_eq_true rfl)
      have i7 : i < 7 := (List.getElem?_eq_some_iff.mp hq).1
      have etk : (kinds.take (i + 1)).flatMap (tailsK (cl z)) = (kinds.take i).flatMap (tailsK (cl z)) ++ tailsK (cl z) q := by
        rw [List.take_succ, hq, List.flatMap_append]
        simp
      have ec : cl (cutS q.str none (some (z.length : Int))) = q.cps.take (cl z).length := by rw [cut_to, cl_len]; rfl
      refine ⟨_, rfl, _, rfl, _, z.length, rfl, ⟨sl, rfl⟩, _, rfl, q.str, rfl, qs, _, rfl, rfl, _, rfl, ?_⟩
      rw [str_dec, ec]
      refine ite2 (fun h => ?_) (fun h => ?_)
      · have h : q.cps.take (cl z).length = cl z := of_decide_eq_true h
        refine ⟨_, rfl, Nat.le_of_ble_eq_true rfl, fun t2 ht2 => ⟨t2, rfl, ⟨_, sqtO upd_same⟩, fun D hD => ?_⟩⟩
        have bt2 : (upd H3 t2 (.tup vs1)) t2 = some (.tup vs1) := upd_same
        have s3 : Same H3 (upd H3 t2 (.tup vs1)) := same_new ht2
        generalize upd H3 t2 (.tup vs1) = H4 at bt2 s3 hD ⊢
        have bt2 : H4 t2 = some (.tup (ts1.map V.str)) := bt2
        have ecf : cl (cutS q.str (some (z.length : Int)) none) = q.cps.drop (cl z).length := by rw [cut_from, cl_len]; rfl
        have lcf : (cutS q.str (some (z.length : Int)) none).length ≤ 5 := by
          rw [← cl_len, ecf, List.length_drop, ql]
          omega
        have hy1 : ∀ y ∈ ts1, y.length ≤ 4 := by decide +kernel
        refine lc_it (walk_tup (xs := ts1.map V.str)) (fun j H' => Same H4 H' ∧ H' D = some (.lst (((ts1.take j).map fun y => cutS q.str (some (z.length : Int)) none ++ y).map V.str))) ⟨same_new hD, upd_same⟩ (fun j H' _ p => sqtO (p.1 _ _ bt2)) ?_ ?_
        · rintro j x H5 H6 hj ⟨sm, hd⟩ ⟨rfl, hx⟩
          rw [List.getElem?_map] at hx
          obtain ⟨y, hy, rfl⟩ := Option.map_eq_some_iff.mp hx
          have yl := hy1 y (List.mem_of_getElem? hy)
          have hj4 : j < 4 := (List.getElem?_eq_some_iff.mp hy).1
          refine ⟨rfl, ?_⟩
          refine ⟨_, rfl, _, rfl, _, z.length, rfl, ⟨sl, rfl⟩, _, rfl, q.str, rfl, qs, _, rfl, _, _, rfl, rfl, Nat.le_trans (Nat.add_le_add lcf yl) (Nat.le_of_ble_eq_true rfl), _, hd, ?_, fun b o e => ?_, ?_⟩
          · rw [List.length_map, List.length_map, List.length_take]
            exact small1000 (by omega)
          · rw [upd_ne (ne_of_none e hD)]
            exact sm b o e
          · rw [upd_same, List.take_succ, hy, List.map_append, List.map_append]
            rfl
        · rintro H5 ⟨sm, hd⟩
          rw [show (ts1.map V.str).length = 4 from rfl, show ts1.take 4 = ts1 from rfl] at hd
          have s35 := s3.trans sm
          refine ⟨_, _, _, _, rfl, rfl, s35 _ _ hL', hd, ?_, fun m hm => ?_⟩
          · rw [List.length_map, List.length_map, List.length_map]
            exact Nat.le_trans (by show ts.length + 4 ≤ 40; omega) (Nat.le_of_ble_eq_true rfl)
          · refine ⟨_, m, ts ++ ts1.map fun y => cutS q.str (some (z.length : Int)) none ++ y, rfl, s2.trans (s35.trans (same_new hm)), ?_, ?_, fun y hy => ?_, ?_⟩
            · rw [upd_same, List.map_append]
            · rw [List.map_append, ets, etk, List.append_assoc]
              congr 1
              congr 1
              rw [show tailsK (cl z) q = tails1.map (q.cps.drop (cl z).length ++ ·) from if_pos h, ← ts1_cl, List.map_map, List.map_map]
              refine List.map_congr_left fun y _ => ?_
              show cl (cutS q.str (some (z.length : Int)) none ++ y) = _
              rw [show cl (cutS q.str (some (z.length : Int)) none ++ y) = cl (cutS q.str (some (z.length : Int)) none) ++ cl y from tl_append _ _, ecf]
              rfl
            · rcases List.mem_append.mp hy with hy | hy
              · exact hts y hy
              · obtain ⟨y', hy', rfl⟩ := List.mem_map.mp hy
                rw [len_app]
                have := hy1 y' hy'
                omega
            · rw [List.length_append, List.length_map]
              show ts.length + 4 ≤ _
              omega
      · refine ⟨_, L', ts, rfl, s2, hL', ?_, hts, by omega⟩
        rw [etk, ets, show tailsK (cl z) q = [] from if_neg fun e => h (decide_eq_true e), List.append_nil]
    · rintro σ' H2 ⟨v3, L', ts, rfl, s2, hL', ets, hts, hlen⟩
      have ets : ts.map cl = tailsOf (cl z) := ets
      have tasc : ∀ y ∈ ts, ∀ c ∈ cl y, c < 128 := fun y hy => tails_ascii _ (by rw [← ets]; exact List.mem_map.mpr ⟨y, hy, rfl⟩)
      refine ⟨_, rfl, L', rfl, ⟨_, sqlO hL'⟩, fun D hD => ?_⟩
      refine lc_list (xs := ts.map V.str) (fun i H' => Same H2 H' ∧ H' D = some (.lst (((ts.take i).filter fun y => lineB (cl z ++ cl y) kk).map V.str))) ⟨same_new hD, upd_same⟩ (fun i H' _ p => sqlO (p.1 _ _ hL')) ?_ ?_
      · rintro i x H5 hx ⟨sm, hd⟩
        rw [List.getElem?_map] at hx
        obtain ⟨y, hy, rfl⟩ := Option.map_eq_some_iff.mp hx
        have ym := List.mem_of_getElem? hy
        have yl := hts y ym
        have est : (ts.take (i + 1)).filter (fun y => lineB (cl z ++ cl y) kk) = (ts.take i).filter (fun y => lineB (cl z ++ cl y) kk) ++ (if lineB (cl z ++ cl y) kk then [y] else []) := by
          rw [List.take_succ, hy, List.filter_append]
          cases hg : lineB (cl z ++ cl y) kk <;> simp [hg]
        have ea : cl (z ++ y) = cl z ++ cl y := tl_append z y
        refine ⟨rfl, ?_⟩
        refine ⟨_, rfl, _, rfl, _, _, rfl, rfl, Nat.le_trans (Nat.add_le_add hz yl) (Nat.le_of_ble_eq_true rfl), _, rfl, z ++ y, kk, rfl, hk, by rw [len_app]; omega, fun c hcc => ?_, fun H6 s6 => ⟨_, rfl, ?_⟩⟩
        · rw [ea] at hcc
          rcases List.mem_append.mp hcc with q | q
          · exact hc c q
          · exact tasc y ym c q
        have hd6 := s6 _ _ hd
        show if lineB (cl (z ++ y)) kk = true then _ else _
        rw [ea]
        cases hg : lineB (cl z ++ cl y) kk with
        | false =>
          refine iteF ⟨sm.trans s6, ?_⟩
          rw [est, hg, if_neg Bool.false_ne_true, List.append_nil]
          exact hd6
        | true =>
          refine iteT ⟨_, rfl, _, hd6, ?_, fun b o e => ?_, ?_⟩
          · rw [List.length_map]
            have := List.length_filter_le (fun y => lineB (cl z ++ cl y) kk) (ts.take i)
            rw [List.length_take] at this
            exact small1000 (by have : (kindStrs7.map V.str).length = 7 := rfl; omega)
          · rw [upd_ne (ne_of_none e hD)]
            exact s6 _ _ (sm b o e)
          · rw [upd_same, est, hg, List.map_append]
            rfl
      · rintro H5 ⟨sm, hd⟩
        rw [List.length_map, List.take_length] at hd
        refine ⟨Nat.le_of_ble_eq_true rfl, fun e he => ?_⟩
        have nDe : D ≠ e := ne_of_none hd he
        refine ⟨.list ((ts.filter fun y => lineB (cl z ++ cl y) kk).map PyData.str), .list [], dp_lst (by rw [upd_ne nDe]; exact hd) (dps_strs _), dp_lst upd_same .nil, strs_shaped fun y hy => tasc y (List.mem_filter.mp hy).1, by decide +kernel, ?_⟩
        rw [strs_eqv]
        have e9 : (!(ts.filter fun y => lineB (cl z ++ cl y) kk).isEmpty) = canB (cl z) kk := by
          unfold canB
          rw [← ets, List.any_map, Bool.eq_iff_iff, Bool.not_eq_true', List.any_eq_true]
          constructor
          · intro h
            cases e2 : ts.filter fun y => lineB (cl z ++ cl y) kk with
            | nil => rw [e2] at h; cases h
            | cons y ys =>
              have := List.mem_filter.mp (show y ∈ ts.filter fun y => lineB (cl z ++ cl y) kk by rw [e2]; exact List.mem_cons_self)
              exact ⟨y, this.1, this.2⟩
          · rintro ⟨y, h1, h2⟩
            cases e2 : ts.filter fun y => lineB (cl z ++ cl y) kk with
            | nil =>
              have := List.mem_filter.mpr ⟨h1, h2⟩
              rw [show (ts.filter fun a => ((fun t => lineB (cl z ++ t) kk) ∘ cl) a) = [] from e2] at this
              cases this
            | cons y ys => rfl
        rw [e9]
        exact k _ (s1.trans (s2.trans (sm.trans (same_new he))))
theorem sc__law_wrong : FnScope ["_law_text", "_law_number", "_law_line", "_law_many"] ["_law_text"] (defScope s__law_wrong) := ⟨rfl, rfl, rfl, by decide +kernel, rfl, by decide +kernel, by decide +kernel⟩
def wrongOf (z : Str) : Option (Nat × Nat) := match rdDoc (splitB 10 (cl z)) [] with | .ok _ => none | .error p => some p
def sp_wrong : Sp := fun vs H Q _ => ∃ (z : Str), vs = [.str z] ∧ z.length ≤ 9000 ∧ (∀ c ∈ cl z, c < 128) ∧ match wrongOf z with
  | none => ∀ H', Same H H' → Q .non H'
  | some (l, s) => ∀ (p : Addr) (H' : Hp), Same H H' → H p = none → H' p = some (.tup [.int l, .int s]) → Q (.ref p) H'
theorem d__law_wrong (T : Txt w K mg W) : DefOk P w K mg base "_law_wrong" s__law_wrong ["_law_text"] 4 sp_wrong := by
  refine T.f__law_wrong.ok sc__law_wrong (fun vs H Q E h => ?_) (fun f cdv A outer s H vs Q E hr h => ?_)
  · obtain ⟨z, rfl, _⟩ := h
    rfl
  · obtain ⟨z, rfl, hz, hc, k⟩ := h
    refine ⟨_, (pss_cons (ps_for PassesOwn.never rfl (pi_enum (by rfl) T.n_enumerate (pa_cons (pe_split (pv 0) pe_str) pa_nil)) (pg_tup rfl (pgs_cons (pg_name (i := 1) sc__law_wrong.nd rfl (Or.inr rfl)) (pgs_cons (pg_name (i := 2) sc__law_wrong.nd rfl (Or.inr rfl)) pgs_nil)))
      (pss_cons (ps_if (pt_cmpR op_eq (pv 1) pe_int (nomark _)) (pss_one (ps_ret (pe_tup (pa_cons pe_int (pa_cons pe_int pa_nil))))) pss_nil)
      (pss_one (ps_if (pt_not (pt_val (pe_callD (d__law_is_line T) (hr.mono (by decide)) (pa_cons (pv 2) (pa_cons (pv 1) pa_nil))))) (pss_one (ps_ret (pe_tup (pa_cons (pv 1) (pa_cons (pe_callB (id := "max") (cr_max rfl) (by rfl) T.n_max (by decide +kernel) (pa_cons (pe_lc (own := [("_law_many", 3)]) (g := (gName 3)) rfl sc__law_wrong.nd (pi_range1 (by rfl) T.n_range (pa_cons (pe_op op_add (pe_callB (id := "len") call_len (by rfl) T.n_len (by decide +kernel) (pa_cons (pv 2) pa_nil)) pe_int) pa_nil)) (blkOk_by (own := [("_law_many", 3)]) (N := ["_law_text", "_law_number", "_law_line", "_law_many"]) (sc := defScope s__law_wrong) (by decide +kernel)) (fun _ _ _ _ _ => (pg_name (i := 3) sc__law_wrong.nd rfl (Or.inl rfl))) (fun _ _ _ _ _ => (pts_one (pt_val (pe_callD (d__law_can_begin T) (hr.mono (by decide)) (pa_cons (pe_slice sl_str (pv 2) po_none (po_some (pv 3))) (pa_cons (pv 1) pa_nil)))))) (fun _ _ _ _ _ => (pv 3))) pa_nil)) pa_nil))))) pss_nil))))
      (pss_one (ps_ret pe_non))), ?_⟩
    have sl2 : z.length + 2 ≤ sizeLine := Nat.le_trans (Nat.add_le_add_right hz 2) (Nat.le_of_ble_eq_true rfl)
    refine ⟨_, rfl, ⟨_, rfl⟩, z, "\n", rfl, rfl, rfl, sl2, fun L hL => ?_⟩
    have es : (Txt.split z "\n").map cl = splitB 10 (cl z) := split_is rfl (by decide +kernel)
    have hasc : ∀ y ∈ Txt.split z "\n", ∀ c ∈ cl y, c < 128 := fun y hy c hcy => hc c (splitB_mem (by rw [← es]; exact List.mem_map.mpr ⟨y, hy, rfl⟩) hcy)
    have hyl : ∀ y ∈ Txt.split z "\n", y.length ≤ 9000 := fun y hy => by
      have := splitB_short (s := 10) (l := cl z) (p := cl y) (by rw [← es]; exact List.mem_map.mpr ⟨y, hy, rfl⟩)
      rw [cl_len, cl_len] at this
      omega
    have k : match (match rdDoc ((Txt.split z "\n").map cl) [] with | .ok _ => none | .error p => some p) with
      | none => ∀ H', Same H H' → Q .non H'
      | some (l, s) => ∀ (p : Addr) (H' : Hp), Same H H' → H p = none → H' p = some (.tup [.int l, .int s]) → Q (.ref p) H' := by
      rw [es]
      exact k
    generalize Txt.split z "\n" = ys at es hasc hyl k ⊢
    have bL : (upd H L (.lst (ys.map V.str))) L = some (.lst (ys.map V.str)) := upd_same
    have s0 : Same H (upd H L (.lst (ys.map V.str))) := same_new hL
    refine ⟨_, _, rfl, sqlO bL, ?_⟩
    generalize upd H L (.lst (ys.map V.str)) = H1 at bL s0 ⊢
    refine for_it walk_enum (fun i σ' H2 => ∃ (v1 v2 : Option V) (rs : List Row), σ' = [some (.str z), v1, v2, none] ∧ Same H1 H2 ∧ rs.length = i ∧ i ≤ 200 ∧ rdDoc (ys.map cl) [] = rdDoc ((ys.map cl).drop i) rs) ⟨none, none, [], rfl, Same.refl _, rfl, Nat.zero_le _, rfl⟩ (fun i σ' H2 _ ⟨_, _, _, _, s2, _⟩ => sqlO (s2 _ _ bL)) ?_ ?_
    · rintro i x σ' H2 H3 hi ⟨v1, v2, rs, rfl, s2, hl, h200, er⟩ ⟨t, y1, y2, rfl, ht, rfl, e1, e2⟩
      cases e1
      have e2 : (ys.map V.str)[i]? = some y2 := e2
      rw [List.getElem?_map] at e2
      obtain ⟨y, he, rfl⟩ := Option.map_eq_some_iff.mp e2
      have ym := List.mem_of_getElem? he
      have hyi : (ys.map cl)[i]? = some (cl y) := by rw [List.getElem?_map, he]; rfl
      rw [drop_step hyi, rdDoc_go, hl] at er
      have s3 := s2.trans (same_new (o := .tup [.int (i : Nat), .str y]) ht)
      refine ⟨t, _, rfl, sqtO upd_same, rfl, _, _, rfl, _, _, rfl, rfl, ?_⟩
      generalize upd H2 t (.tup [.int (i : Nat), .str y]) = H4 at s3 ⊢
      refine ⟨_, rfl, rfl, _, rfl, ?_⟩
      refine ite2 (fun hc2 => ?_) (fun hc2 => ?_)
      · have hc2 : i = 200 := by have := V.int.inj (of_decide_eq_true hc2); omega
        rw [if_pos hc2] at er
        rw [er] at k
        refine ⟨Nat.le_of_ble_eq_true rfl, fun p hp => ?_⟩
        exact k p _ ((s0.trans s3).trans (same_new hp)) ((s0.trans s3).free hp) upd_same
      · have hc2 : i ≠ 200 := fun q => hc2 (decide_eq_true (by rw [q]; rfl))
        rw [if_neg hc2] at er
        refine ⟨_, rfl, _, rfl, y, i, rfl, by omega, Nat.le_trans (hyl y ym) (by omega), hasc y ym, fun H5 s5 => ⟨_, rfl, ?_⟩⟩
        cases ep : rdRow (cl y) i kinds 0 with
        | mk o sg =>
        rw [ep] at er
        cases o with
        | some r =>
          refine iteF ⟨_, _, rs ++ [r], rfl, s3.trans s5, by rw [List.length_append, hl]; rfl, by omega, er⟩
        | none =>
          refine iteT ?_
          rw [er] at k
          have yl : y.length ≤ sizeLine := Nat.le_trans (hyl y ym) (Nat.le_of_ble_eq_true rfl)
          have yl9 := hyl y ym
          refine ⟨_, rfl, _, rfl, _, y.length, rfl, ⟨yl, rfl⟩, _, _, rfl, rfl, _, rfl, by omega, by omega, fun D hD => ?_⟩
          rw [show ((y.length : Int) + 1).toNat = y.length + 1 by omega]
          refine lc_range (lo := 0) (n := y.length + 1) (fun j H' => Same H5 H' ∧ H' D = some (.lst (((((List.range j).filter fun m => canB ((cl y).take m) i).map fun m : Nat => (m : Int))).map V.int))) ⟨same_new hD, upd_same⟩ ?_ ?_
          · rintro j H6 hj ⟨sm, hd⟩
            have est : (List.range (j + 1)).filter (fun m => canB ((cl y).take m) i) = (List.range j).filter (fun m => canB ((cl y).take m) i) ++ (if canB ((cl y).take j) i then [j] else []) := by
              rw [List.range_succ, List.filter_append]
              cases hg : canB ((cl y).take j) i <;> simp [hg]
            have ec : cl (cutS y none (some (0 + (j : Int)))) = (cl y).take j := by
              rw [show (0 : Int) + (j : Int) = (j : Int) by omega]
              exact cut_to y j
            have lc : (cutS y none (some (0 + (j : Int)))).length ≤ 9000 := by
              rw [← cl_len, ec, List.length_take, cl_len]
              omega
            refine ⟨rfl, ?_⟩
            refine ⟨_, rfl, _, rfl, _, rfl, y, rfl, yl, _, rfl, _, i, rfl, by omega, lc, fun c hcc => ?_, fun H7 s7 => ⟨_, rfl, ?_⟩⟩
            · rw [ec] at hcc
              exact hasc y ym c (List.mem_of_mem_take hcc)
            rw [ec]
            have hd7 := s7 _ _ hd
            cases hg : canB ((cl y).take j) i with
            | false =>
              refine iteF ⟨sm.trans s7, ?_⟩
              rw [est, hg, if_neg Bool.false_ne_true, List.append_nil]
              exact hd7
            | true =>
              refine iteT ⟨_, rfl, _, hd7, ?_, fun b o e => ?_, ?_⟩
              · rw [List.length_map, List.length_map]
                have := List.length_filter_le (fun m => canB ((cl y).take m) i) (List.range j)
                rw [List.length_range] at this
                exact Nat.lt_of_lt_of_le (by omega : _ < 10000) (Nat.le_of_ble_eq_true rfl)
              · rw [upd_ne (ne_of_none e hD)]
                exact s7 _ _ (sm b o e)
              · rw [upd_same, est, hg, if_pos rfl, List.map_append, List.map_append, show (0 : Int) + (j : Int) = (j : Int) by omega]
                rfl
          · rintro H6 ⟨sm, hd⟩
            have i1000 : i ≤ 1000 := by omega
            obtain ⟨f1, x, f2, f3⟩ := far_at i1000 ep
            have cs : canB ((cl y).take sg) i = true := List.any_eq_true.mpr ⟨x, f2, (lineB_iff i1000).mpr f3⟩
            have ms : (sg : Int) ∈ (((List.range (y.length + 1)).filter fun m => canB ((cl y).take m) i).map fun m : Nat => (m : Int)) := List.mem_map.mpr ⟨sg, List.mem_filter.mpr ⟨List.mem_range.mpr (by rw [cl_len] at f1; omega), cs⟩, rfl⟩
            refine ⟨D, _, rfl, sqlO hd, List.length_pos_of_mem ms, fun mx hmx hle => ⟨Nat.le_of_ble_eq_true rfl, fun p hp => ?_⟩⟩
            have e9 : mx = (sg : Int) := by
              obtain ⟨m, hm, rfl⟩ := List.mem_map.mp hmx
              obtain ⟨hm1, hm2⟩ := List.mem_filter.mp hm
              have hm1 := List.mem_range.mp hm1
              obtain ⟨x2, _, h2⟩ := List.any_eq_true.mp hm2
              have hml : m ≤ (cl y).length := by rw [cl_len]; omega
              have up := far_up i1000 ep hml (l' := (cl y).take m ++ x2) (by rw [List.take_append_of_le_length (by rw [List.length_take]; omega), List.take_take, Nat.min_self]) ((lineB_iff i1000).mp h2)
              have := hle _ ms
              omega
            subst e9
            exact k p _ ((s0.trans (s3.trans (s5.trans sm))).trans (same_new hp)) ((s0.trans (s3.trans (s5.trans sm))).free hp) upd_same
    · rintro σ' H2 ⟨v1, v2, rs, rfl, s2, hl, h200, er⟩
      rw [List.length_map, List.drop_of_length_le (by rw [List.length_map]; exact Nat.le_refl _)] at er
      rw [er] at k
      exact k _ (s0.trans s2)
end
end Lw

namespace Lw
open PySem PySem.Spec PyProof.Rows L2 VW TL
local macro_rules | `(tactic| walk_at "rdc") => `(tactic| first | assumption | rfl | decide | omega | exact Or.inr ⟨by decide, by decide⟩ | exact ⟨by decide, by decide⟩ | exact ⟨by decide, by decide, by decide⟩ | (show (0 : Int) < _; omega) | (show (0 : Int) < _ ∧ _ < (1073741824 : Int); omega) | (show (-(2 ^ 64) < _ ∧ _ < 2 ^ 64) ∨ (-(2 ^ 64) < _ ∧ _ < 2 ^ 64); omega) | (show (-(2 ^ 64) < _ ∧ _ < 2 ^ 64) ∨ (-(2 ^ 64) < _ ∧ _ < 2 ^ 64); right; split <;> decide) | exact Nat.le_of_ble_eq_true rfl)
local macro_rules | `(tactic| walk_at "rd1") => `(tactic| first | refine ⟨_, rfl, ?_⟩ | refine And.intro (by walk_at "rdc") ?_ | refine ⟨_, _, rfl, rfl, ?_⟩ | refine Or.inl ⟨_, rfl, ?_⟩ | refine Or.inr ⟨_, rfl, ?_⟩ | refine ⟨_, _, _, _, rfl, rfl, sqlO (by first | assumption | exact upd_same), rfl, ?_⟩ | refine ⟨_, _, _, _, rfl, rfl, (by first | assumption | exact upd_same), rfl, ?_⟩)
local macro_rules | `(tactic| walk_at "rd") => `(tactic| repeat (walk_at "rd1"))

section
/-- a text of at most n plain signs -/
def Pl (n : Nat) (y : Str) : Prop := y.length ≤ n ∧ ∀ c ∈ cl y, c < 128
theorem Pl.mono {n m : Nat} {y : Str} (h : Pl n y) (hm : n ≤ m) : Pl m y := ⟨Nat.le_trans h.1 hm, h.2⟩
theorem Pl.app {n m : Nat} {x y : Str} (h : Pl n x) (h2 : Pl m y) : Pl (n + m) (x ++ y) := by
  refine ⟨by rw [len_app]; exact Nat.add_le_add h.1 h2.1, fun c hc => ?_⟩
  rw [show cl (x ++ y) = cl x ++ cl y from tl_append x y] at hc
  exact (List.mem_append.mp hc).elim (h.2 c) (h2.2 c)
theorem Pl.cut {n : Nat} {y : Str} (lo hi : Option Int) (h : Pl n y) : Pl n (cutS y lo hi) := by
  have e : cl (cutS y lo hi) = ((cl y).drop (HT.sIx y.length 0 lo)).take (HT.sIx y.length y.length hi - HT.sIx y.length 0 lo) := rfl
  refine ⟨?_, fun c hc => ?_⟩
  · rw [← cl_len, e, List.length_take, List.length_drop, cl_len]
    have := h.1
    omega
  · rw [e] at hc
    exact h.2 c (List.mem_of_mem_drop (List.mem_of_mem_take hc))
/-- the signs of lines that are joined -/
def SL (ys : List Str) : Nat := (ys.map (·.length)).sum + ys.length * ("\n" : Str).length
theorem SL_cons (y : Str) (ys : List Str) : SL (y :: ys) = y.length + 1 + SL ys := by
  have e : ("\n" : Str).length = 1 := rfl
  unfold SL
  rw [List.map_cons, List.sum_cons, List.length_cons, e]
  omega
theorem SL_nil : SL [] = 0 := rfl
theorem SL_app (a b : List Str) : SL (a ++ b) = SL a + SL b := by
  induction a with
  | nil => rw [List.nil_append, SL_nil, Nat.zero_add]
  | cons x a ih => rw [List.cons_append, SL_cons, SL_cons, ih]; omega
theorem SL_take (a : List Str) (i : Nat) : SL (a.take i) ≤ SL a := by
  conv => rhs; rw [← List.take_append_drop i a, SL_app]
  omega
theorem SL_drop (a : List Str) (i : Nat) : SL (a.drop i) ≤ SL a := by
  conv => rhs; rw [← List.take_append_drop i a, SL_app]
  omega
theorem SL_rev (a : List Str) : SL a.reverse = SL a := by
  induction a with
  | nil => rfl
  | cons x a ih =>
    rw [List.reverse_cons, SL_app, ih, SL_cons, SL_cons, SL_nil]
    omega
def cutL (ys : List Str) (lo hi : Option Int) : List Str := (ys.drop (HT.sIx ys.length 0 lo)).take (HT.sIx ys.length ys.length hi - HT.sIx ys.length 0 lo)
theorem cutV_map (ys : List Str) (lo hi : Option Int) : cutV (ys.map V.str) lo hi = (cutL ys lo hi).map V.str := by
  unfold cutV cutL
  rw [List.map_take, List.map_drop, List.length_map]
theorem SL_cut (ys : List Str) (lo hi : Option Int) : SL (cutL ys lo hi) ≤ SL ys := Nat.le_trans (SL_take _ _) (SL_drop _ _)
theorem mem_cut {ys : List Str} {lo hi : Option Int} {y : Str} (h : y ∈ cutL ys lo hi) : y ∈ ys := List.mem_of_mem_drop (List.mem_of_mem_take h)
theorem len_cut (ys : List Str) (lo hi : Option Int) : (cutL ys lo hi).length ≤ ys.length := by
  unfold cutL
  rw [List.length_take, List.length_drop]
  omega
theorem joinL_mem {s c : Nat} : ∀ {ls : List (List Nat)}, c ∈ joinL [s] ls → c = s ∨ ∃ l ∈ ls, c ∈ l
  | [], h => by cases h
  | [p], h => .inr ⟨p, List.mem_singleton.mpr rfl, h⟩
  | p :: q :: r, h => by
    rcases List.mem_append.mp (show c ∈ p ++ ([s] ++ joinL [s] (q :: r)) from h) with h | h
    · exact .inr ⟨p, List.mem_cons_self, h⟩
    rcases List.mem_append.mp h with h | h
    · exact .inl (List.mem_singleton.mp h)
    · rcases joinL_mem (ls := q :: r) h with h | ⟨l, h1, h2⟩
      · exact .inl h
      · exact .inr ⟨l, List.mem_cons_of_mem _ h1, h2⟩
theorem joinL_SL : ∀ (ys : List Str), (joinL [10] (ys.map cl)).length ≤ SL ys
  | [] => Nat.zero_le _
  | [y] => by
    show (cl y).length ≤ _
    rw [SL_cons, cl_len]
    omega
  | y :: z :: ys => by
    have := joinL_SL (z :: ys)
    show (cl y ++ ([10] ++ joinL [10] ((z :: ys).map cl))).length ≤ _
    rw [List.length_append, List.length_append, SL_cons, cl_len]
    show y.length + (1 + _) ≤ _
    omega
theorem Pl.join {n : Nat} {ys : List Str} (h : SL ys ≤ n) (ha : ∀ y ∈ ys, ∀ c ∈ cl y, c < 128) : Pl n (Txt.join "\n" ys) := by
  have e : cl (Txt.join "\n" ys) = joinL [10] (ys.map cl) := join_lines rfl
  refine ⟨by rw [← cl_len, e]; exact Nat.le_trans (joinL_SL ys) h, fun c hc => ?_⟩
  rw [e] at hc
  rcases joinL_mem hc with rfl | ⟨l, hl, h2⟩
  · decide
  · obtain ⟨y, hy, rfl⟩ := List.mem_map.mp hl
    exact ha y hy c h2
theorem splitB_sum {s : Nat} : ∀ (l : List Nat), ((splitB s l).map (·.length)).sum + (splitB s l).length = l.length + 1
  | [] => rfl
  | c :: r => by
    have := splitB_sum (s := s) r
    unfold splitB
    rw [List.length_cons]
    split
    · rw [List.map_cons, List.sum_cons, List.length_cons]
      simp only [List.length_nil]
      omega
    · split
      · rename_i e
        rw [e] at this
        simp at this
      · rename_i p ps e
        rw [e, List.map_cons, List.sum_cons, List.length_cons] at this
        rw [List.map_cons, List.sum_cons, List.length_cons, List.length_cons]
        omega
theorem SL_split (z : Str) : SL (Txt.split z "\n") = z.length + 1 := by
  have es : (Txt.split z "\n").map cl = splitB 10 (cl z) := split_is rfl (by decide +kernel)
  have h := splitB_sum (s := 10) (cl z)
  rw [← es, List.map_map, List.length_map, cl_len] at h
  unfold SL
  rw [show ("\n" : Str).length = 1 from rfl, Nat.mul_one, ← h]
  rw [show (fun x : Str => x.length) = ((fun x : List Nat => x.length) ∘ cl) from funext fun y => (cl_len y).symm]
variable {P : Program} {w : World} {K : PySem.W.Frag} {mg : Str → Option Value} {base : Heap} {W : Wd}
theorem sc__law_bent : FnScope ["_law_source", "_law_text", "_law_at", "_law_lines", "_law_stand", "_law_sign", "_law_some", "_law_row_here"] ["_law_source", "_law_text"] (defScope s__law_bent) := ⟨rfl, rfl, rfl, by decide +kernel, rfl, by decide +kernel, by decide +kernel⟩
def sp_bent : Sp := fun vs H Q _ => ∃ (s : Addr) (U : Hp) (z : Str) (n : Nat), vs = [.ref s, .str z] ∧ Src U H s ∧ Pl n z ∧ n ≤ 3000 ∧
  ∀ (y : Str) (U' H' : Hp), Gr (G1 s) U H U' H' → Src U' H' s → Pl (2 * n + 30) y → Q (.str y) H'
theorem d__law_bent (T : Txt w K mg W) : DefOk P w K mg base "_law_bent" s__law_bent ["_law_source", "_law_text"] 3 sp_bent := by
  refine T.f__law_bent.ok sc__law_bent (fun vs H Q E h => ?_) (fun f cdv A outer sh H vs Q E hr h => ?_)
  · obtain ⟨s, U, z, n, rfl, _⟩ := h
    rfl
  · obtain ⟨s, U, z, n, rfl, S, hz, hn, k⟩ := h
    have hzn := hz.1
    have sl : z.length ≤ sizeLine := Nat.le_trans hz.1 (Nat.le_trans hn (Nat.le_of_ble_eq_true rfl))
    have sl2 : z.length + 2 ≤ sizeLine := Nat.le_trans (Nat.add_le_add_right (Nat.le_trans hz.1 hn) 2) (Nat.le_of_ble_eq_true rfl)
    refine ⟨_, (pss_cons (ps_par (i := 2) (j := 3) (by rfl) sc__law_bent.nd rfl rfl (by decide) rfl rfl (pa_cons (pe_callD (d__law_next T) (hr.mono (by decide)) (pa_cons (pv 0) (pa_cons (pe_op op_add (pe_callB (id := "len") call_len (by rfl) T.n_len (by decide +kernel) (pa_cons (pv 1) pa_nil)) pe_int) pa_nil))) (pa_cons (pe_split (pv 1) pe_str) pa_nil)) (by rfl))
      (pss_cons (ps_set (i := 4) sc__law_bent.nd rfl (Or.inl rfl) (pe_callD (d__law_next T) (hr.mono (by decide)) (pa_cons (pv 0) (pa_cons (pe_callB (id := "len") call_len (by rfl) T.n_len (by decide +kernel) (pa_cons (pv 3) pa_nil)) pa_nil))))
      (Evl.pss_cut (ps_set (i := 5) sc__law_bent.nd rfl (Or.inl rfl) (pe_callD (d__law_one T) (hr.mono (by decide)) (pa_cons (pv 0) (pa_cons (pe_op op_cat (pe_callTy (T := "list") (call_list_text rfl) (by rfl) T.n_list (by decide +kernel) (pa_cons pe_str pa_nil)) (pe_lst (pa_cons pe_str pa_nil))) pa_nil))))
      (Evl.pss_cut (ps_set (i := 6) sc__law_bent.nd rfl (Or.inl rfl) (pe_lst (pa_cons (pe_op op_add_str (pe_op op_add_str (pe_slice sl_str (pv 1) po_none (po_some (pv 2))) (pv 5)) (pe_slice sl_str (pv 1) (po_some (pv 2)) po_none)) (pa_cons (pe_op op_add_str (pe_slice sl_str (pv 1) po_none (po_some (pv 2))) (pe_slice sl_str (pv 1) (po_some (pe_op op_add (pv 2) pe_int)) po_none)) (pa_cons (pe_op op_add_str (pe_op op_add_str (pe_slice sl_str (pv 1) po_none (po_some (pv 2))) (pv 5)) (pe_slice sl_str (pv 1) (po_some (pe_op op_add (pv 2) pe_int)) po_none)) (pa_cons (pe_slice sl_str (pv 1) po_none (po_some (pv 2))) pa_nil))))))
      (Evl.pss_cut (ps_set (i := 6) sc__law_bent.nd rfl (Or.inl rfl) (pe_op op_cat (pv 6) (pe_lst (pa_cons (pe_join pe_str (pe_op op_cat (pe_slice sl_list (pv 3) po_none (po_some (pv 4))) (pe_slice sl_list (pv 3) (po_some (pe_op op_add (pv 4) pe_int)) po_none))) (pa_cons (pe_join pe_str (pe_op op_cat (pe_slice sl_list (pv 3) po_none (po_some (pe_op op_add (pv 4) pe_int))) (pe_slice sl_list (pv 3) (po_some (pv 4)) po_none))) pa_nil)))))
      (Evl.pss_cut (ps_set (i := 6) sc__law_bent.nd rfl (Or.inl rfl) (pe_op op_cat (pv 6) (pe_lst (pa_cons (pe_join pe_str (pe_revL (pv 3))) (pa_cons (pe_op op_add_str (pv 1) pe_str) (pa_cons (pe_op op_add_str pe_str (pv 1)) (pa_cons (pe_op op_add_str (pv 1) pe_str) (pa_cons (pe_op op_add_str (pv 1) pe_str) pa_nil))))))))
      (pss_cons (ps_set (i := 7) sc__law_bent.nd rfl (Or.inl rfl) (pe_callD (d__law_one T) (hr.mono (by decide)) (pa_cons (pv 0) (pa_cons (pe_lst (pa_cons pe_str (pa_cons pe_str (pa_cons pe_str (pa_cons pe_str (pa_cons pe_str (pa_cons pe_str (pa_cons pe_str pa_nil)))))))) pa_nil))))
      (pss_one (ps_ret (pe_callD (d__law_one T) (hr.mono (by decide)) (pa_cons (pv 0) (pa_cons (pe_op op_cat (pe_op op_rep (pv 6) pe_int) (pe_lst (pa_cons (pe_join pe_str (pe_op op_cat (pe_op op_cat (pe_slice sl_list (pv 3) po_none (po_some (pv 4))) (pe_lst (pa_cons (pv 7) pa_nil))) (pe_slice sl_list (pv 3) (po_some (pv 4)) po_none))) pa_nil))) pa_nil)))))))))))), ?_⟩
    refine ⟨_, rfl, _, rfl, _, z.length, rfl, ⟨sl, rfl⟩, _, _, rfl, rfl, s, U, _, rfl, S, by omega, by omega, fun r H1 g1 S1 r0 r1 => ?_⟩
    refine ⟨_, rfl, ⟨_, rfl⟩, z, "\n", rfl, rfl, rfl, sl2, fun L hL => ?_⟩
    have hSL : SL (Txt.split z "\n") ≤ n + 1 := by rw [SL_split]; omega
    have hasc : ∀ y ∈ Txt.split z "\n", ∀ c ∈ cl y, c < 128 := fun y hy c hcy => hz.2 c (splitB_mem (s := 10) (by rw [← show (Txt.split z "\n").map cl = splitB 10 (cl z) from split_is rfl (by decide +kernel)]; exact List.mem_map.mpr ⟨y, hy, rfl⟩) hcy)
    have hne : Txt.split z "\n" ≠ [] := fun e => by
      have := SL_split z
      rw [e, SL_nil] at this
      omega
    generalize Txt.split z "\n" = ys at hSL hasc hne ⊢
    have yl : ys.length ≤ n + 1 := by
      unfold SL at hSL
      rw [show ("\n" : Str).length = 1 from rfl] at hSL
      omega
    have ypos : 0 < ys.length := List.length_pos_iff.mpr hne
    have Sn := S1.new (o := .lst (ys.map V.str)) hL
    have bL : (upd U L (.lst (ys.map V.str))) L = some (.lst (ys.map V.str)) := upd_same
    have hH : (upd H1 L (.lst (ys.map V.str))) L = some (.lst (ys.map V.str)) := upd_same
    generalize upd U L (.lst (ys.map V.str)) = U1 at Sn bL
    generalize upd H1 L (.lst (ys.map V.str)) = H2 at Sn hH ⊢
    have g2 := g1.trans Sn.1
    have S2 := Sn.2
    clear Sn g1 S1 hL
    refine ⟨_, _, rfl, ?_⟩
    refine ⟨_, rfl, _, rfl, _, _, rfl, .inl ⟨_, sqlO hH, rfl⟩, s, U1, _, rfl, S2, by rw [List.length_map]; omega, by rw [List.length_map]; omega, fun t H3 g3 S3 t0 t1 => ?_⟩
    have g3 := g2.trans g3
    refine ⟨fun σ' H' => ∃ (U' : Hp) (q : Str), σ' = [some (.ref s), some (.str z), some (.int r), some (.ref L), some (.int t), some (.str q), none, none] ∧ Gr (G1 s) U H U' H' ∧ Src U' H' s ∧ U' L = some (.lst (ys.map V.str)) ∧ Pl 1 q, ?_, ?_⟩
    · refine ⟨_, rfl, _, rfl, by decide +kernel, fun l1 hl1 => ?_⟩
      have A1 := S3.newH (o := .lst (((" 0129atlhcnge\n~-" : Str).cps.toList).map fun c => V.str ⟨#[c]⟩)) hl1
      refine ⟨Nat.le_of_ble_eq_true rfl, fun l2 hl2 => ?_⟩
      have n12 : l1 ≠ l2 := ne_of_none upd_same hl2
      have A2 := A1.2.newH (o := .lst [.str "\t"]) hl2
      refine ⟨_, _, _, _, rfl, rfl, by rw [upd_ne n12]; exact upd_same, upd_same, by decide +kernel, fun m hm => ?_⟩
      have A3 := A2.2.new (o := .lst ((((" 0129atlhcnge\n~-" : Str).cps.toList).map fun c => V.str ⟨#[c]⟩) ++ [.str "\t"])) hm
      refine ⟨s, m, _, _, rfl, A3.2, sqlO upd_same, by decide +kernel, by decide +kernel, fun x H4 g4 S4 hx => ?_⟩
      obtain ⟨q, rfl, hq⟩ : ∃ q : Str, x = .str q ∧ Pl 1 q := by
        rcases List.mem_append.mp hx with h | h
        · obtain ⟨c, hc, rfl⟩ := List.mem_map.mp h
          have : ∀ c ∈ (" 0129atlhcnge\n~-" : Str).cps.toList, c < 128 := by decide +kernel
          exact ⟨_, rfl, Nat.le_refl _, fun d hd => by rw [List.mem_singleton.mp (show d ∈ [c] from hd)]; exact this c hc⟩
        · rw [List.mem_singleton.mp h]
          exact ⟨_, rfl, by decide +kernel, by decide +kernel⟩
      refine ⟨_, q, rfl, (g3.trans (A1.1.trans (A2.1.trans A3.1))).trans g4, S4, g4.v _ _ (A3.1.v _ _ bL), hq⟩
    · rintro σ' H4 ⟨U4, q, rfl, g4, S4, bL4, hq⟩
      clear g3 S3 g2 S2 bL hH
      refine ⟨fun σ' H' => ∃ (U' : Hp) (M : Addr) (zs : List Str), σ' = [some (.ref s), some (.str z), some (.int r), some (.ref L), some (.int t), some (.str q), some (.ref M), none] ∧ Gr (G1 s) U H U' H' ∧ Src U' H' s ∧ U' L = some (.lst (ys.map V.str)) ∧ U' M = some (.lst (zs.map V.str)) ∧ (∀ y ∈ zs, Pl (2 * n + 30) y) ∧ 0 < zs.length ∧ zs.length ≤ 4, ?_, ?_⟩
      · have c1 : Pl n (cutS z none (some r)) := hz.cut _ _
        have c2 : Pl n (cutS z (some r) none) := hz.cut _ _
        have c3 : Pl n (cutS z (some (r + 1)) none) := hz.cut _ _
        have a1 := c1.app hq
        have a2 := a1.app c2
        have a3 := c1.app c3
        have a4 := a1.app c3
        have fc : ∀ {m : Nat} {x y : Str}, Pl m x → Pl m y → m ≤ 10000 → x.length + y.length ≤ sizeLine := fun h1 h2 hm => fits (Nat.le_trans h1.1 hm) (Nat.le_trans h2.1 hm)
        refine ⟨_, rfl, _, rfl, _, rfl, z, rfl, sl, _, rfl, _, _, rfl, rfl, fc (c1.mono (Nat.le_add_right n 1)) (hq.mono (by omega)) (by omega), ?_⟩
        refine ⟨_, rfl, _, rfl, _, rfl, z, rfl, sl, _, _, rfl, rfl, fc a1 (c2.mono (by omega)) (by omega), ?_⟩
        refine ⟨_, rfl, _, rfl, _, rfl, z, rfl, sl, ?_⟩
        refine ⟨_, rfl, _, rfl, _, _, rfl, rfl, _, rfl, z, rfl, sl, _, _, rfl, rfl, fc c1 c3 (by omega), ?_⟩
        refine ⟨_, rfl, _, rfl, _, rfl, z, rfl, sl, _, rfl, _, _, rfl, rfl, fc (c1.mono (Nat.le_add_right n 1)) (hq.mono (by omega)) (by omega), ?_⟩
        refine ⟨_, rfl, _, rfl, _, _, rfl, rfl, _, rfl, z, rfl, sl, _, _, rfl, rfl, fc a1 (c3.mono (by omega)) (by omega), ?_⟩
        refine ⟨_, rfl, _, rfl, _, rfl, z, rfl, sl, ?_⟩
        refine ⟨Nat.le_of_ble_eq_true rfl, fun M hM => ?_⟩
        have A := S4.new (o := .lst [.str (cutS z none (some r) ++ q ++ cutS z (some r) none), .str (cutS z none (some r) ++ cutS z (some (r + 1)) none), .str (cutS z none (some r) ++ q ++ cutS z (some (r + 1)) none), .str (cutS z none (some r))]) hM
        refine ⟨_, M, [cutS z none (some r) ++ q ++ cutS z (some r) none, cutS z none (some r) ++ cutS z (some (r + 1)) none, cutS z none (some r) ++ q ++ cutS z (some (r + 1)) none, cutS z none (some r)], rfl, g4.trans A.1, A.2, A.1.v _ _ bL4, upd_same, fun y hy => ?_, by show 0 < 4; decide, by show 4 ≤ 4; decide⟩
        simp only [List.mem_cons, List.not_mem_nil, or_false] at hy
        rcases hy with rfl | rfl | rfl | rfl
        · exact a2.mono (by omega)
        · exact a3.mono (by omega)
        · exact a4.mono (by omega)
        · exact c1.mono (by omega)
      · rintro σ' H5 ⟨U5, M, zs, rfl, g5, S5, bL5, bM5, hzs, zpos, zlen⟩
        clear S4 g4 bL4
        refine ⟨fun σ' H' => ∃ (U' : Hp) (M : Addr) (zs : List Str), σ' = [some (.ref s), some (.str z), some (.int r), some (.ref L), some (.int t), some (.str q), some (.ref M), none] ∧ Gr (G1 s) U H U' H' ∧ Src U' H' s ∧ U' L = some (.lst (ys.map V.str)) ∧ U' M = some (.lst (zs.map V.str)) ∧ (∀ y ∈ zs, Pl (2 * n + 30) y) ∧ 0 < zs.length ∧ zs.length ≤ 6, ?_, ?_⟩
        · refine ⟨_, rfl, ⟨_, rfl⟩, _, rfl, _, rfl, _, rfl, L, _, rfl, sqlO (S5.v _ _ bL5), fun l1 hl1 => ?_⟩
          rw [cutV_map]
          have A1 := S5.newH (o := .lst ((cutL ys none (some t)).map V.str)) hl1
          refine ⟨_, rfl, _, rfl, _, _, rfl, rfl, _, rfl, L, _, rfl, sqlO (A1.2.v _ _ bL5), fun l2 hl2 => ?_⟩
          rw [cutV_map]
          have A2 := A1.2.newH (o := .lst ((cutL ys (some (t + 1)) none).map V.str)) hl2
          have n12 : l1 ≠ l2 := ne_of_none upd_same hl2
          refine ⟨_, _, _, _, rfl, rfl, by rw [upd_ne n12]; exact upd_same, upd_same, by rw [List.length_map, List.length_map]; exact fits (Nat.le_trans (len_cut _ _ _) (by omega)) (Nat.le_trans (len_cut _ _ _) (by omega)), fun m hm => ?_⟩
          rw [← List.map_append]
          have A3 := A2.2.newH (o := .lst ((cutL ys none (some t) ++ cutL ys (some (t + 1)) none).map V.str)) hm
          have sa := SL_cut ys none (some t)
          have sb := SL_cut ys (some (t + 1)) none
          refine ⟨"\n", m, _, rfl, rfl, .inl (sqlO upd_same), Nat.le_trans (show SL (cutL ys none (some t) ++ cutL ys (some (t + 1)) none) ≤ 10000 by rw [SL_app]; omega) (by decide), ?_⟩
          have j1 : Pl (2 * n + 30) (Txt.join "\n" (cutL ys none (some t) ++ cutL ys (some (t + 1)) none)) := Pl.join (by rw [SL_app]; omega) fun y hy => (List.mem_append.mp hy).elim (fun h => hasc y (mem_cut h)) fun h => hasc y (mem_cut h)
          have G3 := g5.trans (A1.1.trans (A2.1.trans A3.1))
          have S6 := A3.2
          generalize upd _ m _ = H6 at G3 S6 ⊢
          clear A1 A2 A3 hl1 hl2 hm n12 sa sb
          refine ⟨⟨_, rfl⟩, _, rfl, _, rfl, _, _, rfl, rfl, _, rfl, L, _, rfl, sqlO (S6.v _ _ bL5), fun l1 hl1 => ?_⟩
          rw [cutV_map]
          have A1 := S6.newH (o := .lst ((cutL ys none (some (t + 1))).map V.str)) hl1
          refine ⟨_, rfl, _, rfl, _, rfl, L, _, rfl, sqlO (A1.2.v _ _ bL5), fun l2 hl2 => ?_⟩
          rw [cutV_map]
          have A2 := A1.2.newH (o := .lst ((cutL ys (some t) none).map V.str)) hl2
          have n12 : l1 ≠ l2 := ne_of_none upd_same hl2
          refine ⟨_, _, _, _, rfl, rfl, by rw [upd_ne n12]; exact upd_same, upd_same, by rw [List.length_map, List.length_map]; exact fits (Nat.le_trans (len_cut _ _ _) (by omega)) (Nat.le_trans (len_cut _ _ _) (by omega)), fun m hm => ?_⟩
          rw [← List.map_append]
          have A3 := A2.2.newH (o := .lst ((cutL ys none (some (t + 1)) ++ cutL ys (some t) none).map V.str)) hm
          have sa := SL_cut ys none (some (t + 1))
          have sb := SL_cut ys (some t) none
          refine ⟨"\n", m, _, rfl, rfl, .inl (sqlO upd_same), Nat.le_trans (show SL (cutL ys none (some (t + 1)) ++ cutL ys (some t) none) ≤ 10000 by rw [SL_app]; omega) (by decide), ?_⟩
          have j2 : Pl (2 * n + 30) (Txt.join "\n" (cutL ys none (some (t + 1)) ++ cutL ys (some t) none)) := Pl.join (by rw [SL_app]; omega) fun y hy => (List.mem_append.mp hy).elim (fun h => hasc y (mem_cut h)) fun h => hasc y (mem_cut h)
          refine ⟨Nat.le_of_ble_eq_true rfl, fun l3 hl3 => ?_⟩
          have A4 := A3.2.newH (o := .lst [.str (Txt.join "\n" (cutL ys none (some t) ++ cutL ys (some (t + 1)) none)), .str (Txt.join "\n" (cutL ys none (some (t + 1)) ++ cutL ys (some t) none))]) hl3
          refine ⟨_, _, _, _, rfl, rfl, A4.2.v _ _ bM5, upd_same, by rw [List.length_map]; exact fits (by omega) (by show 2 ≤ 10000; decide), fun M2 hM2 => ?_⟩
          have A5 := A4.2.new (o := .lst (zs.map V.str ++ [.str (Txt.join "\n" (cutL ys none (some t) ++ cutL ys (some (t + 1)) none)), .str (Txt.join "\n" (cutL ys none (some (t + 1)) ++ cutL ys (some t) none))])) hM2
          refine ⟨_, M2, zs ++ [_, _], rfl, G3.trans (A1.1.trans (A2.1.trans (A3.1.trans (A4.1.trans A5.1)))), A5.2, A5.1.v _ _ bL5, by rw [upd_same, List.map_append]; rfl, fun y hy => ?_, by rw [List.length_append]; omega, by rw [List.length_append]; show zs.length + 2 ≤ 6; omega⟩
          rcases List.mem_append.mp hy with h | h
          · exact hzs y h
          · simp only [List.mem_cons, List.not_mem_nil, or_false] at h
            rcases h with rfl | rfl
            · exact j1
            · exact j2
        · rintro σ' H6 ⟨U6, M2, z2, rfl, g6, S6, bL6, bM6, hz2, z2pos, z2len⟩
          clear S5 g5 bL5 bM5 hzs zpos zlen
          refine ⟨fun σ' H' => ∃ (U' : Hp) (M : Addr) (zs : List Str), σ' = [some (.ref s), some (.str z), some (.int r), some (.ref L), some (.int t), some (.str q), some (.ref M), none] ∧ Gr (G1 s) U H U' H' ∧ Src U' H' s ∧ U' L = some (.lst (ys.map V.str)) ∧ U' M = some (.lst (zs.map V.str)) ∧ (∀ y ∈ zs, Pl (2 * n + 30) y) ∧ 0 < zs.length ∧ zs.length ≤ 11, ?_, ?_⟩
          · refine ⟨_, rfl, ⟨_, rfl⟩, _, rfl, L, _, rfl, sqlO (S6.v _ _ bL6), fun l1 hl1 => ?_⟩
            rw [← List.map_reverse]
            have A1 := S6.newH (o := .lst (ys.reverse.map V.str)) hl1
            refine ⟨"\n", l1, _, rfl, rfl, .inl (sqlO upd_same), Nat.le_trans (show SL ys.reverse ≤ 10000 by rw [SL_rev]; omega) (by decide), ?_⟩
            have j1 : Pl (2 * n + 30) (Txt.join "\n" ys.reverse) := Pl.join (by rw [SL_rev]; omega) fun y hy => hasc y (List.mem_reverse.mp hy)
            have k1 : Pl 1 ("\n" : Str) := by constructor <;> decide +kernel
            have k2 : Pl 1 (" " : Str) := by constructor <;> decide +kernel
            have k3 : Pl 2 (" 0" : Str) := by constructor <;> decide +kernel
            have ft : ∀ {a b : Nat}, a ≤ n → b ≤ 10 → a + b ≤ sizeLine := fun h1 h2 => fits (by omega) (by omega)
            refine ⟨_, rfl, _, _, rfl, rfl, ft hz.1 (by decide +kernel), ?_⟩
            refine ⟨_, rfl, _, _, rfl, rfl, fits (by decide +kernel) (by omega), ?_⟩
            refine ⟨_, rfl, _, _, rfl, rfl, ft hz.1 (by decide +kernel), ?_⟩
            refine ⟨_, rfl, _, _, rfl, rfl, ft hz.1 (by decide +kernel), ?_⟩
            refine ⟨Nat.le_of_ble_eq_true rfl, fun l3 hl3 => ?_⟩
            have A4 := A1.2.newH (o := .lst [.str (Txt.join "\n" ys.reverse), .str (z ++ "\n"), .str ("\n" ++ z), .str (z ++ " "), .str (z ++ " 0")]) hl3
            refine ⟨_, _, _, _, rfl, rfl, A4.2.v _ _ bM6, upd_same, by rw [List.length_map]; exact fits (by omega) (by show 5 ≤ 10000; decide), fun M3 hM3 => ?_⟩
            have A5 := A4.2.new (o := .lst (z2.map V.str ++ [.str (Txt.join "\n" ys.reverse), .str (z ++ "\n"), .str ("\n" ++ z), .str (z ++ " "), .str (z ++ " 0")])) hM3
            refine ⟨_, M3, z2 ++ [_, _, _, _, _], rfl, g6.trans (A1.1.trans (A4.1.trans A5.1)), A5.2, A5.1.v _ _ bL6, by rw [upd_same, List.map_append]; rfl, fun y hy => ?_, by rw [List.length_append]; omega, by rw [List.length_append]; show z2.length + 5 ≤ 11; omega⟩
            rcases List.mem_append.mp hy with h | h
            · exact hz2 y h
            · simp only [List.mem_cons, List.not_mem_nil, or_false] at h
              rcases h with rfl | rfl | rfl | rfl | rfl
              · exact j1
              · exact (hz.app k1).mono (by omega)
              · exact (k1.app hz).mono (by omega)
              · exact (hz.app k2).mono (by omega)
              · exact (hz.app k3).mono (by omega)
          · rintro σ' H7 ⟨U7, M3, z3, rfl, g7, S7, bL7, bM7, hz3, z3pos, z3len⟩
            clear S6 g6 bL6 bM6 hz2 z2pos z2len
            refine ⟨_, rfl, Nat.le_of_ble_eq_true rfl, fun m hm => ?_⟩
            have B := S7.new (o := .lst [.str "cat 0 0 0 0 0 0 0 0 0", .str "nest 9 0", .str "nest 1", .str "group", .str "align 00", .str "cat 01", .str "hard "]) hm
            refine ⟨s, m, _, _, rfl, B.2, sqlO upd_same, by decide +kernel, by decide +kernel, fun x H8 g8 S8 hx => ?_⟩
            obtain ⟨e, rfl, he⟩ : ∃ e : Str, x = .str e ∧ Pl 23 e := by
              simp only [List.mem_cons, List.not_mem_nil, or_false] at hx
              rcases hx with rfl | rfl | rfl | rfl | rfl | rfl | rfl <;> exact ⟨_, rfl, by decide +kernel, by decide +kernel⟩
            have G8 := (g7.trans B.1).trans g8
            have bL8 := g8.v _ _ (B.1.v _ _ bL7)
            have bM8 := g8.v _ _ (B.1.v _ _ bM7)
            clear B hx g8 hm S7 g7 bL7 bM7
            refine ⟨_, rfl, _, rfl, _, _, _, rfl, rfl, S8.v _ _ bM8, by decide, by decide, ?_⟩
            refine ⟨Nat.le_trans (by rw [List.length_map]; show z3.length * 2 ≤ 22; omega) (by decide), fun p8 hp8 => ?_⟩
            have A1 := S8.newH (o := .lst (List.replicate (Int.toNat 2) (z3.map V.str)).flatten) hp8
            refine ⟨⟨_, rfl⟩, _, rfl, _, rfl, _, rfl, L, _, rfl, sqlO (A1.2.v _ _ bL8), fun l1 hl1 => ?_⟩
            rw [cutV_map]
            have A2 := A1.2.newH (o := .lst ((cutL ys none (some t)).map V.str)) hl1
            refine ⟨_, rfl, Nat.le_of_ble_eq_true rfl, fun l2 hl2 => ?_⟩
            have A3 := A2.2.newH (o := .lst [.str e]) hl2
            have n12 : l1 ≠ l2 := ne_of_none upd_same hl2
            refine ⟨_, _, _, _, rfl, rfl, by rw [upd_ne n12]; exact upd_same, upd_same, by rw [List.length_map]; exact fits (Nat.le_trans (len_cut _ _ _) (by omega)) (by show 1 ≤ 10000; decide), fun m1 hm1 => ?_⟩
            rw [show (cutL ys none (some t)).map V.str ++ [V.str e] = (cutL ys none (some t) ++ [e]).map V.str by rw [List.map_append]; rfl]
            have A4 := A3.2.newH (o := .lst ((cutL ys none (some t) ++ [e]).map V.str)) hm1
            refine ⟨_, rfl, _, rfl, _, rfl, L, _, rfl, sqlO (A4.2.v _ _ bL8), fun l3 hl3 => ?_⟩
            rw [cutV_map]
            have A5 := A4.2.newH (o := .lst ((cutL ys (some t) none).map V.str)) hl3
            have n13 : m1 ≠ l3 := ne_of_none upd_same hl3
            refine ⟨_, _, _, _, rfl, rfl, by rw [upd_ne n13]; exact upd_same, upd_same, by rw [List.length_map, List.length_map, List.length_append]; exact fits (Nat.le_trans (Nat.add_le_add_right (len_cut _ _ _) 1) (by omega)) (Nat.le_trans (len_cut _ _ _) (by omega)), fun m2 hm2 => ?_⟩
            rw [← List.map_append]
            have A6 := A5.2.newH (o := .lst ((cutL ys none (some t) ++ [e] ++ cutL ys (some t) none).map V.str)) hm2
            have sa := SL_cut ys none (some t)
            have sb := SL_cut ys (some t) none
            have se : SL [e] ≤ 24 := by rw [SL_cons, SL_nil]; have := he.1; omega
            have hlen : SL (cutL ys none (some t) ++ [e] ++ cutL ys (some t) none) ≤ 2 * n + 26 := by rw [SL_app, SL_app]; omega
            refine ⟨"\n", m2, _, rfl, rfl, .inl (sqlO upd_same), Nat.le_trans hlen (by omega), ?_⟩
            have j1 : Pl (2 * n + 30) (Txt.join "\n" (cutL ys none (some t) ++ [e] ++ cutL ys (some t) none)) := Pl.join (by omega) fun y hy => (List.mem_append.mp hy).elim (fun h => (List.mem_append.mp h).elim (fun h => hasc y (mem_cut h)) fun h => by rw [List.mem_singleton.mp h]; exact he.2) fun h => hasc y (mem_cut h)
            refine ⟨Nat.le_of_ble_eq_true rfl, fun l5 hl5 => ?_⟩
            have A7 := A6.2.newH (o := .lst [.str (Txt.join "\n" (cutL ys none (some t) ++ [e] ++ cutL ys (some t) none))]) hl5
            have hp : (upd (upd (upd (upd (upd (upd (upd H8 p8 (.lst (List.replicate (Int.toNat 2) (z3.map V.str)).flatten)) l1 (.lst ((cutL ys none (some t)).map V.str))) l2 (.lst [.str e])) m1 (.lst ((cutL ys none (some t) ++ [e]).map V.str))) l3 (.lst ((cutL ys (some t) none).map V.str))) m2 (.lst ((cutL ys none (some t) ++ [e] ++ cutL ys (some t) none).map V.str))) l5 (.lst [.str (Txt.join "\n" (cutL ys none (some t) ++ [e] ++ cutL ys (some t) none))])) p8 = some (.lst (List.replicate (Int.toNat 2) (z3.map V.str)).flatten) :=
              same_new hl5 _ _ (same_new hm2 _ _ (same_new hl3 _ _ (same_new hm1 _ _ (same_new hl2 _ _ (same_new hl1 _ _ upd_same)))))
            have hfl : (List.replicate (Int.toNat 2) (z3.map V.str)).flatten.length = z3.length + z3.length := by
              show (z3.map V.str ++ (z3.map V.str ++ [])).length = _
              rw [List.append_nil, List.length_append, List.length_map]
            refine ⟨_, _, _, _, rfl, rfl, hp, upd_same, ?_, fun m9 hm9 => ?_⟩
            · rw [hfl]
              exact fits (by omega) (by show 1 ≤ 10000; decide)
            have A8 := A7.2.new (o := .lst ((List.replicate (Int.toNat 2) (z3.map V.str)).flatten ++ [.str (Txt.join "\n" (cutL ys none (some t) ++ [e] ++ cutL ys (some t) none))])) hm9
            refine ⟨s, m9, _, _, rfl, A8.2, sqlO upd_same, by rw [List.length_append]; show 0 < _ + 1; omega, ?_, fun x H9 g9 S9 hx => ?_⟩
            · rw [List.length_append, hfl]
              show _ + 1 < _
              omega
            obtain ⟨y, rfl, hy⟩ : ∃ y : Str, x = .str y ∧ Pl (2 * n + 30) y := by
              rcases List.mem_append.mp hx with h | h
              · obtain ⟨l, hl, h2⟩ := List.mem_flatten.mp h
                rw [(List.mem_replicate.mp hl).2] at h2
                obtain ⟨y, hy, rfl⟩ := List.mem_map.mp h2
                exact ⟨y, rfl, hz3 y hy⟩
              · rw [List.mem_singleton.mp h]
                exact ⟨_, rfl, j1⟩
            exact k y _ _ ((G8.trans (A1.1.trans (A2.1.trans (A3.1.trans (A4.1.trans (A5.1.trans (A6.1.trans (A7.1.trans A8.1)))))))).trans g9) S9 hy
end
end Lw

set_option maxHeartbeats 0
namespace Lw
open PySem PySem.Spec PyProof.Rows L2 VW TL LamX
local macro_rules | `(tactic| walk_at "rdc") => `(tactic| first | assumption | rfl | decide | omega | exact Or.inr ⟨by decide, by decide⟩ | exact ⟨by decide, by decide⟩ | exact ⟨by decide, by decide, by decide⟩ | (show (0 : Int) < _; omega) | (show (0 : Int) < _ ∧ _ < (1073741824 : Int); omega) | (show (-(2 ^ 64) < _ ∧ _ < 2 ^ 64) ∨ (-(2 ^ 64) < _ ∧ _ < 2 ^ 64); omega) | (show (-(2 ^ 64) < _ ∧ _ < 2 ^ 64) ∨ (-(2 ^ 64) < _ ∧ _ < 2 ^ 64); right; split <;> decide) | exact Nat.le_of_ble_eq_true rfl)
local macro_rules | `(tactic| walk_at "rd1") => `(tactic| first | refine ⟨_, rfl, ?_⟩ | refine And.intro (by walk_at "rdc") ?_ | refine ⟨_, _, rfl, rfl, ?_⟩ | refine Or.inl ⟨_, rfl, ?_⟩ | refine Or.inr ⟨_, rfl, ?_⟩ | refine ⟨_, _, _, _, rfl, rfl, sqlO (by first | assumption | exact upd_same), rfl, ?_⟩ | refine ⟨_, _, _, _, rfl, rfl, (by first | assumption | exact upd_same), rfl, ?_⟩)
local macro_rules | `(tactic| walk_at "rd") => `(tactic| repeat (walk_at "rd1"))

abbrev qL : Str := Str.ofString "law" ++ ".<locals>." ++ "<lambda>"
abbrev qD : Str := Str.ofString "_law_deep_right" ++ ".<locals>." ++ "<lambda>"
abbrev tabL (P D : Addr) : List (Addr × Str) := [(P, qL), (D, qD)]
theorem tab_L {P D : Addr} (h : P ≠ D) {p : Addr × Str} (hp : p ∈ tabL P D) (e : p.1 = P) : p.2 = qL := by
  rcases List.mem_cons.mp hp with rfl | hp
  · rfl
  · rw [List.mem_singleton.mp hp] at e
    exact absurd e.symm h
theorem tab_D {P D : Addr} (h : P ≠ D) {p : Addr × Str} (hp : p ∈ tabL P D) (e : p.1 = D) : p.2 = qD := by
  rcases List.mem_cons.mp hp with rfl | hp
  · exact absurd e h
  · rw [List.mem_singleton.mp hp]
section
variable {P : Program} {w : World} {K : PySem.W.Frag} {mg : Str → Option Value} {base : Heap} {W : Wd}
theorem sc__law_deep_right : FnScope ["_law_is_list", "_law_deep", "_law_turn"] ["_law_is_list"] (defScope s__law_deep_right) := ⟨rfl, rfl, rfl, by decide +kernel, rfl, by decide +kernel, by decide +kernel⟩
def sp_deep (W : Wd) (cP : Addr) : Sp := fun vs H Q _ => ∃ (b : Bool), vs = [.bl b] ∧ Tabs (tabL cP W.tp__law_deep_right) H ∧ ∀ H', Tabs (tabL cP W.tp__law_deep_right) H' → Q (.bl true) H'
theorem d__law_deep_right (T : Txt w K mg W) {cP : Addr} (hne : cP ≠ W.tp__law_deep_right) (TBD : TabB base mg W.tc__law_deep_right W.tp__law_deep_right) : DefOk P w K mg base "_law_deep_right" s__law_deep_right ["_law_is_list"] 12 (sp_deep W cP) := by
  obtain ⟨⟨f, fd, hm, F, hb, hc⟩, hcode, hno⟩ := T.w__law_deep_right
  refine ⟨f, fd, hm, F, hb, F.okC hc sc__law_deep_right (fun vs H Q E h => ?_) (fun A outer s H vs Q E hr h => ?_)⟩
  · obtain ⟨b, rfl, _⟩ := h
    rfl
  · obtain ⟨b, rfl, tb, k⟩ := h
    refine ⟨_, (pss_cons (ps_set (i := 1) sc__law_deep_right.nd rfl (Or.inr rfl) (pe_lst pa_nil))
      (pss_cons (ps_for PassesOwn.never rfl (pi_range1 (by rfl) T.n_range (pa_cons pe_int pa_nil)) (pg_name (i := 2) sc__law_deep_right.nd rfl (Or.inl rfl))
      (pss_one (ps_set (i := 1) sc__law_deep_right.nd rfl (Or.inr rfl) (pe_ifExp (pt_val (pv 0)) (pe_lst (pa_cons (pv 1) pa_nil)) (pe_tup (pa_cons (pv 1) pa_nil))))))
      (pss_one (ps_ret (pe_cmpR (op_eqD hr.units) (pe_ask (T := tabL cP W.tp__law_deep_right) (c := W.tc__law_deep_right) (P := W.tp__law_deep_right) (said_asks T) TBD rfl (List.mem_cons_of_mem _ List.mem_cons_self) (fun p hp e => tab_D hne hp e) (hr.mono (by decide)) (lamS_by (sc := defScope s__law_deep_right) (by decide +kernel)) (fun A outer s H E f c' hr' => pe_callX (d_read_doc T) hr' (takes_of rfl rfl rfl rfl) (fun _ _ _ _ h => h) (pa_cons (pv 1) pa_nil))) (pe_tup (pa_cons pe_str (pa_cons (pe_un un_neg pe_int) (pa_cons (pe_un un_neg pe_int) pa_nil)))) (nomark _)))))), ?_⟩
    refine ⟨Nat.le_of_ble_eq_true rfl, fun L hL => ?_⟩
    refine ⟨_, rfl, by decide, by decide, ?_⟩
    refine for_range (lo := 0) (n := Int.toNat 1980) (fun i σ H' => ∃ (p : Addr) (v2 : Option V), σ = [some (.bl b), some (.ref p), v2] ∧ Same H H' ∧ ((∃ xs, H' p = some (.lst xs)) ∨ ∃ xs, H' p = some (.tup xs))) ⟨L, none, rfl, same_new hL, .inl ⟨_, upd_same⟩⟩ ?_ ?_
    · rintro i σ H' hi ⟨p, v2, rfl, sm, hp⟩
      cases b with
      | true => exact ⟨_, rfl, _, rfl, iteT ⟨_, rfl, Nat.le_of_ble_eq_true rfl, fun q hq => ⟨q, _, rfl, sm.trans (same_new hq), .inl ⟨_, upd_same⟩⟩⟩⟩
      | false => exact ⟨_, rfl, _, rfl, iteF ⟨_, rfl, Nat.le_of_ble_eq_true rfl, fun q hq => ⟨q, _, rfl, sm.trans (same_new hq), .inr ⟨_, upd_same⟩⟩⟩⟩
    · rintro σ H1 ⟨p, v2, rfl, sm, hp⟩
      have t1 := tb.ext sm
      refine ⟨t1, fun H2 eN t2 => ?_⟩
      obtain ⟨t, ty, kt⟩ : ∃ t : Value, TyX K H2 (.ref p) t ∧ PySem.W.kitOne K t (.type "str") = some false := by
        rcases hp with ⟨xs, h⟩ | ⟨xs, h⟩
        · exact ⟨_, .base (.lst (eN _ _ h fun ps e => nomatch e)), kit_ty (by decide +kernel)⟩
        · exact ⟨_, .base (.tup (eN _ _ h fun ps e => nomatch e)), kit_ty (by decide +kernel)⟩
      refine ⟨_, rfl, H2, Same.refl _, .inr ⟨_, t, rfl, ty, kt, ?_⟩⟩
      intro d' H' sm' hfree hx'
      refine ⟨d', .int (-1), .int (-1), rfl, rfl, hx', fun p4 H5 s5 hpn hp4 => ?_⟩
      refine ⟨1, rfl, 1, rfl, Nat.le_of_ble_eq_true rfl, fun p2 hp2 => ?_⟩
      have n2 : p4 ≠ p2 := ne_of_none hp4 hp2
      refine ⟨.tuple [.str "text", .int (-1), .int (-1)], .tuple [.str "text", .int (-1), .int (-1)], dp_tup (by rw [upd_ne n2]; exact hp4) (.cons (.str _) (.cons (.int _) (.cons (.int _) .nil))), dp_tup upd_same (.cons (.str _) (.cons (.int _) (.cons (.int _) .nil))), by decide +kernel, by decide +kernel, ?_⟩
      rw [show PyData.eqv (.tuple [.str "text", .int (-1), .int (-1)]) (.tuple [.str "text", .int (-1), .int (-1)]) = true by decide +kernel]
      exact k _ (t2.ext (sm'.trans (s5.trans (same_new hp2))))
/-! ### what outlives a lambda's call -/
/-- the heap without its tables -/
def noT (H : Hp) : Hp := fun b => match H b with
  | some (.tbl _) => none
  | o => o
/-- .. without one object -/
def noS (s : Addr) (H : Hp) : Hp := fun b => if b = s then none else H b
theorem noT_get {H : Hp} {b : Addr} {o : HO} (h : H b = some o) (n : ∀ ps, o ≠ .tbl ps) : noT H b = some o := by
  unfold noT
  rw [h]
  split
  · rename_i ps e
    exact absurd (Option.some.inj e) (n ps)
  · rfl
theorem noT_some {H : Hp} {b : Addr} {o : HO} (h : noT H b = some o) : H b = some o ∧ ∀ ps, o ≠ .tbl ps := by
  unfold noT at h
  split at h
  · cases h
  · rename_i hn
    refine ⟨h, fun ps e => ?_⟩
    subst e
    exact hn ps h
theorem noT_same {H : Hp} : Same (noT H) H := fun b o e => (noT_some e).1
theorem noT_ext {H0 H H1 : Hp} (s : Same (noT H0) H) (e : ExtN H H1) : Same (noT H0) H1 := fun b o q => e b o (s b o q) (noT_some q).2
theorem noS_same {s : Addr} {H : Hp} : Same (noS s H) H := fun b o e => by
  unfold noS at e
  split at e
  · cases e
  · exact e
theorem noS_at {s : Addr} {H : Hp} : noS s H s = none := if_pos rfl
theorem noS_get {s b : Addr} {H : Hp} {o : HO} (h : H b = some o) (hb : b ≠ s) : noS s H b = some o := by
  unfold noS
  rw [if_neg hb]
  exact h
theorem noS_under {s : Addr} {U H : Hp} (h : Same U H) (hs : U s = none) : Same U (noS s H) := fun b o e => noS_get (h b o e) fun z => by
  rw [z, hs] at e
  cases e
theorem noS_tabs {s : Addr} {H : Hp} {T : List (Addr × Str)} {xs : List V} (h : Tabs T H) (hs : H s = some (.lst xs)) : Tabs T (noS s H) := fun p hp => by
  obtain ⟨ps, h1, h2, h3⟩ := h p hp
  refine ⟨ps, noS_get h1 fun e => ?_, h2, fun pos cv e => ?_⟩
  · rw [e, hs] at h1
    cases h1
  · obtain ⟨c, e1, e2⟩ := h3 pos cv e
    refine ⟨c, e1, noS_get e2 fun e => ?_⟩
    rw [e, hs] at e2
    cases e2
theorem src_noS {s : Addr} {H : Hp} {a b c : Int} (h : H s = some (.lst [.int a, .int b, .int c])) : Src (noS s H) H s := ⟨noS_same, noS_at, a, b, c, h⟩
end
end Lw

set_option maxHeartbeats 0
namespace Lw
open PySem PySem.Spec PyProof.Rows L2 VW TL LamX
local macro_rules | `(tactic| walk_at "rdc") => `(tactic| first | assumption | rfl | decide | omega | exact Or.inr ⟨by decide, by decide⟩ | exact ⟨by decide, by decide⟩ | exact ⟨by decide, by decide, by decide⟩ | (show (0 : Int) < _; omega) | (show (0 : Int) < _ ∧ _ < (1073741824 : Int); omega) | (show (-(2 ^ 64) < _ ∧ _ < 2 ^ 64) ∨ (-(2 ^ 64) < _ ∧ _ < 2 ^ 64); omega) | (show (-(2 ^ 64) < _ ∧ _ < 2 ^ 64) ∨ (-(2 ^ 64) < _ ∧ _ < 2 ^ 64); right; split <;> decide) | exact Nat.le_of_ble_eq_true rfl)
local macro_rules | `(tactic| walk_at "rd1") => `(tactic| first | refine ⟨_, rfl, ?_⟩ | refine And.intro (by walk_at "rdc") ?_ | refine ⟨_, _, rfl, rfl, ?_⟩ | refine Or.inl ⟨_, rfl, ?_⟩ | refine Or.inr ⟨_, rfl, ?_⟩ | refine ⟨_, _, _, _, rfl, rfl, sqlO (by first | assumption | exact upd_same), rfl, ?_⟩ | refine ⟨_, _, _, _, rfl, rfl, (by first | assumption | exact upd_same), rfl, ?_⟩)
local macro_rules | `(tactic| walk_at "rd") => `(tactic| repeat (walk_at "rd1"))

theorem docL_pl {rs : List Row} (h : OkRows rs) (h12 : rs.length ≤ 12) {z : Str} (e : cl z = docL rs) : Pl 800 z := by
  refine ⟨?_, fun c hc => ?_⟩
  · rw [← cl_len, e]
    have := joinL_len 64 (rs.map Row.codes) fun l hl => by
      obtain ⟨r, hr, rfl⟩ := List.mem_map.mp hl
      obtain ⟨k, hk⟩ := h.mem r hr
      exact codes_len hk
    rw [List.length_map] at this
    show (joinL [10] (rs.map Row.codes)).length ≤ 800
    omega
  · rw [e] at hc
    rcases joinL_mem hc with rfl | ⟨l, hl, h2⟩
    · decide
    · obtain ⟨r, hr, rfl⟩ := List.mem_map.mp hl
      obtain ⟨i, hi⟩ := List.mem_iff_getElem?.mp hr
      have := (List.getElem?_eq_some_iff.mp hi).1
      have := codes_clean (h i r hi) (by omega) c h2
      omega
theorem rdDoc_codes : ∀ {ls : List (List Nat)} {rs qs : List Row}, rdDoc ls rs = .ok qs → rs.length ≤ 200 → qs.map Row.codes = rs.map Row.codes ++ ls
  | [], rs, qs, h, _ => by
    cases h
    simp
  | l :: ls, rs, qs, h, hl => by
    obtain ⟨h0, r, s, e, h2⟩ := rdDoc_cons h
    rw [rdDoc_codes h2 (by rw [List.length_append, List.length_singleton]; omega), List.map_append, List.map_cons, rdRow_inv (by omega) e]
    simp
theorem Src.grow {U H H' : Hp} {s : Addr} (S : Src U H s) (h : Same H H') : Src U H' s := by
  obtain ⟨a, b, c, e⟩ := S.h
  exact ⟨S.v.trans h, S.o, a, b, c, h _ _ e⟩
theorem lay3 {z : Str} {i j : Int} (h : PyData.strOk z = true) : (PyData.tuple [.str z, .int i, .int j]).canLay0 = true := by
  simp only [PyData.canLay0, PyData.canLayAll0, h, Bool.and_self]
theorem shp3 {z : Str} {i j : Int} (h : PyData.strOk z = true) : SeqAt.shaped (.tuple [.str z, .int i, .int j]) = true := by
  unfold SeqAt.shaped
  rw [lay3 h]
  simp [PyData.depth, PyData.depthAll]
def fn : Nat → Nat
  | 0 => 800 | 1 => 1630 | _ => 3290
section
variable {P : Program} {w : World} {K : PySem.W.Frag} {mg : Str → Option Value} {base : Heap} {W : Wd}
def sp_law (K : PySem.W.Frag) (cP D : Addr) : Sp := fun vs H Q _ => ∃ (a : Addr) (ns : List Int), vs = [.ref a] ∧ SqL K H a (ns.map V.int) ∧ ns.length ≤ 63 ∧ Tabs (tabL cP D) H ∧ ∀ H', Q (.bl true) H'
theorem sc_law : FnScope ["_law_script", "_law_cell", "_law_source", "_law_turn", "_law_text", "_law_change", "_law_wrong_here", "_law_told"] ["_law_script"] (defScope s_law) := ⟨rfl, rfl, rfl, by decide +kernel, rfl, by decide +kernel, by decide +kernel⟩
theorem fn_law (T : Txt w K mg W) {cC cP : Addr} (hne : cP ≠ W.tp__law_deep_right) (TB : TabB base mg cC cP) (TBD : TabB base mg W.tc__law_deep_right W.tp__law_deep_right) {f : Addr} {fd : FuncData} (F : Fun K "law" "law" s_law f fd) (hc : fd.code = .ref cC) : FnOk P w K mg base CX0 14 f fd ["_law_script"] (sp_law K cP W.tp__law_deep_right) := by
  refine F.okC hc sc_law (fun vs H Q E h => ?_) (fun A outer s H vs Q E hr h => ?_)
  · obtain ⟨a, ns, rfl, _⟩ := h
    rfl
  · obtain ⟨a, ns, rfl, ha, h63, tb, k⟩ := h
    refine ⟨_, (pss_cons (ps_for PassesOwn.never rfl (pi_list (pe_op op_cat (pe_lst (pa_cons (pe_callD (d__law_cell_at T) (hr.mono (by decide)) (pa_cons (pv 0) (pa_cons pe_int pa_nil))) pa_nil)) (pe_slice sl_list (pv 0) (po_some pe_int) (po_some pe_int)))) (pg_name (i := 1) sc_law.nd rfl (Or.inl rfl))
      (pss_cons (ps_set (i := 2) sc_law.nd rfl (Or.inl rfl) (pe_callD (d__law_source_of T) (hr.mono (by decide)) (pa_cons (pv 1) pa_nil)))
      (pss_one (ps_for PassesOwn.never rfl (pi_range1 (by rfl) T.n_range (pa_cons pe_int pa_nil)) (pg_name (i := 3) sc_law.nd rfl (Or.inl rfl))
      (pss_cons (ps_set (i := 4) sc_law.nd rfl (Or.inr rfl) (pe_callD (d_doc_text T) (hr.mono (by decide)) (pa_cons (mk_Doc T (hr.mono (by decide)) (pa_cons (pe_callD (d__law_rows T) (hr.mono (by decide)) (pa_cons (pv 2) (pa_cons pe_int pa_nil))) pa_nil)) pa_nil)))
      (pss_cons (ps_for PassesOwn.never rfl (pi_range1 (by rfl) T.n_range (pa_cons (pe_op op_add pe_int (pe_callD (d__law_next T) (hr.mono (by decide)) (pa_cons (pv 2) (pa_cons pe_int pa_nil)))) pa_nil)) (pg_name (i := 5) sc_law.nd rfl (Or.inl rfl))
      (pss_one (ps_set (i := 4) sc_law.nd rfl (Or.inr rfl) (pe_callD (d__law_bent T) (hr.mono (by decide)) (pa_cons (pv 2) (pa_cons (pv 4) pa_nil))))))
      (pss_cons (ps_set (i := 6) sc_law.nd rfl (Or.inl rfl) (pe_callD (d__law_wrong T) (hr.mono (by decide)) (pa_cons (pv 4) pa_nil)))
      (pss_cons (ps_set (i := 7) sc_law.nd rfl (Or.inl rfl) (pe_ask (T := tabL cP W.tp__law_deep_right) (c := cC) (P := cP) (said_asks T) TB rfl List.mem_cons_self (fun p hp e => tab_L hne hp e) (hr.mono (by decide)) (lamS_by (sc := defScope s_law) (by decide +kernel)) (fun A outer s H E f c' hr' => pe_callX (d_read_doc T) hr' (takes_of rfl rfl rfl rfl) (fun _ _ _ _ h => h) (pa_cons (pv 4) pa_nil))))
      (pss_cons (ps_if (pt_cmpR (op_neD hr.units) (pv 7) (pe_ifExp (pt_cmpR op_isN (pv 6) pe_non (nomark _)) pe_str (pe_op op_catT (pe_tup (pa_cons pe_str pa_nil)) (pv 6))) (nomark _)) (pss_one (ps_ret pe_bl)) pss_nil)
      (pss_one (ps_if (PW.pt (pw_and (pt_cmpR op_isN (pv 6) pe_non (nomark _)) (pw_and1 (pt_cmpR op_ne (pe_callD (d_doc_text T) (hr.mono (by decide)) (pa_cons (pe_callX0 (d_read_doc T) (hr.mono (by decide)) (pa_cons (pv 4) pa_nil)) pa_nil)) (pv 4) (nomark _))))) (pss_one (ps_ret pe_bl)) pss_nil)))))))))))
      (pss_one (ps_ret (pe_and (pe_callD (d__law_deep_right T hne TBD) (hr.mono (by decide)) (pa_cons pe_bl pa_nil)) (pe_one (pe_callD (d__law_deep_right T hne TBD) (hr.mono (by decide)) (pa_cons pe_bl pa_nil))))))), ?_⟩
    refine ⟨_, rfl, a, ns, 0, rfl, ha, by decide, fun c0 => ⟨Nat.le_of_ble_eq_true rfl, fun l0 hl0 => ?_⟩⟩
    have sm0 : Same H (upd H l0 (.lst [.int c0])) := same_new hl0
    refine ⟨_, rfl, _, rfl, _, rfl, a, _, rfl, sqlS sm0 ha, fun l1 hl1 => ?_⟩
    have n01 : l0 ≠ l1 := ne_of_none upd_same hl1
    have sm1 := sm0.trans (same_new (o := .lst (cutV (ns.map V.int) (some 1) (some 5))) hl1)
    refine ⟨_, _, _, _, rfl, rfl, by rw [upd_ne n01]; exact upd_same, upd_same, Nat.le_of_lt (small1000 (by have := cutV_length (ns.map V.int) (some 1) (some 5); rw [List.length_map] at this; rw [List.length_singleton]; omega)), fun l2 hl2 => ?_⟩
    obtain ⟨cs, ecs⟩ : ∃ cs : List Int, [V.int c0] ++ cutV (ns.map V.int) (some 1) (some 5) = cs.map V.int := by
      unfold cutV
      exact ⟨c0 :: _, by rw [List.map_cons, ← List.map_drop, ← List.map_take]; rfl⟩
    rw [ecs]
    refine ⟨l2, rfl, ⟨_, sqlO upd_same⟩, ?_⟩
    have sm2 := sm1.trans (same_new (o := .lst (cs.map V.int)) hl2)
    have hl2' : (upd (upd (upd H l0 (.lst [.int c0])) l1 (.lst (cutV (ns.map V.int) (some 1) (some 5)))) l2 (.lst (cs.map V.int))) l2 = some (.lst (cs.map V.int)) := upd_same
    generalize upd (upd (upd H l0 (.lst [.int c0])) l1 (.lst (cutV (ns.map V.int) (some 1) (some 5)))) l2 (.lst (cs.map V.int)) = H0 at sm2 hl2' ⊢
    have tb0 := tb.ext sm2
    have hlN := noT_get hl2' (fun ps e => nomatch e)
    clear sm0 sm1 n01 hl0 hl1 hl2 ha
    refine for_list (xs := cs.map V.int) (fun i σ H' => Same (noT H0) H' ∧ Tabs (tabL cP W.tp__law_deep_right) H' ∧ ∃ v1 v2 v3 v4 v5 v6 v7, σ = [some (.ref a), v1, v2, v3, v4, v5, v6, v7]) ⟨noT_same, tb0, _, _, _, _, _, _, _, rfl⟩ (fun i σ H' _ z => sqlO (z.1 _ _ hlN)) ?_ ?_
    · rintro i y σ Ht hy ⟨smt, tbt, v1, v2, v3, v4, v5, v6, v7, rfl⟩
      obtain ⟨c, rfl⟩ : ∃ c, y = V.int c := by
        rw [List.getElem?_map] at hy
        cases e : cs[i]? with
        | none => rw [e] at hy; cases hy
        | some c => rw [e] at hy; exact ⟨c, (Option.some.inj hy).symm⟩
      refine ⟨_, rfl, c, rfl, fun p z1 z2 z3 hp => ?_⟩
      have S0 : Src Ht (upd Ht p (.lst [.int z1, .int z2, .int z3])) p := ⟨same_new hp, hp, _, _, _, upd_same⟩
      have hp0 : (noT H0) p = none := smt.free hp
      refine ⟨_, rfl, by decide, by decide, ?_⟩
      refine for_range (lo := 0) (n := Int.toNat 6) (fun j σ H' => ∃ (U : Hp) (v3 v4 v5 v6 v7 : Option V), σ = [some (.ref a), some (.int c), some (.ref p), v3, v4, v5, v6, v7] ∧ Src U H' p ∧ Tabs (tabL cP W.tp__law_deep_right) U ∧ Same (noT H0) U) ⟨Ht, _, _, _, _, _, rfl, S0, tbt, smt⟩ ?_ ?_
      · rintro j σ H1 hj ⟨U, v3, v4, v5, v6, v7, rfl, S1, tU, sU⟩
        refine ⟨_, rfl, p, U, 12, rfl, S1, by decide, by decide, fun q vs rs U2 H2 g2 S2 hq hu2 hd2 hok n0 n12 => ?_⟩
        refine fun x dx hx hdx ne => made_doc hx hdx ne S2.v (sqlO (S2.v _ _ hu2)) (.of S2.v hd2) hok n0 (by omega) fun U8 H8 g8 dc => ⟨rfl, ?_⟩
        refine ⟨x, rs, U8, rfl, g8.s, dc, hok, by omega, fun z H9 s9 ez => ?_⟩
        have hz := docL_pl hok n12 ez
        have S9 : Src U H9 p := by
          obtain ⟨b1, b2, b3, e⟩ := S2.h
          exact ⟨(g2.v.trans S2.v).trans (g8.same.trans s9), S1.o, b1, b2, b3, (g8.same.trans s9) _ _ e⟩
        clear S1 S2 g2 hq hu2 hd2 hx hdx ne g8 dc s9 ez
        refine ⟨_, rfl, p, U, 2, rfl, S9, by decide, by decide, fun r H10 g10 S10 r0 r1 => ⟨1, r, rfl, rfl, _, rfl, by omega, by omega, ?_⟩⟩
        refine for_range (lo := 0) (n := (1 + r).toNat) (fun i σ H' => ∃ (y : Str) (v5 : Option V), σ = [some (.ref a), some (.int c), some (.ref p), some (.int (0 + (j : Int))), some (.str y), v5, v6, v7] ∧ Src U H' p ∧ Pl (fn i) y) ⟨z, _, rfl, S10, hz⟩ ?_ ?_
        · rintro i σ H11 hi ⟨y, v5, rfl, S11, hy⟩
          have i2 : i < 2 := by omega
          refine ⟨_, rfl, _, rfl, p, U, y, fn i, rfl, S11, hy, ?_, fun y2 U2 H12 g12 S12 hy2 => ?_⟩
          · match i, i2 with
            | 0, _ => decide
            | 1, _ => decide
          · refine ⟨y2, _, rfl, ⟨g12.v.trans S12.v, S11.o, S12.h⟩, ?_⟩
            match i, i2, hy2 with
            | 0, _, h => exact h
            | 1, _, h => exact h
        · rintro σ H11 ⟨y, v5, rfl, S11, hy⟩
          have hy : Pl 3290 y := by
            have e : (1 + r).toNat = 1 ∨ (1 + r).toNat = 2 := by omega
            rcases e with e | e <;> (rw [e] at hy; exact hy.mono (by decide))
          clear S10 g10 hz S9
          have es : (Txt.split y "\n").map cl = splitB 10 (cl y) := split_is rfl (by decide +kernel)
          have ly : ∀ u ∈ Txt.split y "\n", u.length < 4000 := fun u hu => by
            have := splitB_short (s := 10) (l := cl y) (p := cl u) (by rw [← es]; exact List.mem_map.mpr ⟨u, hu, rfl⟩)
            rw [cl_len, cl_len] at this
            have := hy.1
            omega
          have ylen : y.length + 2 ≤ sizeLine := Nat.le_trans (Nat.add_le_add_right hy.1 2) (Nat.le_of_ble_eq_true rfl)
          refine ⟨_, rfl, y, rfl, Nat.le_trans hy.1 (by decide), hy.2, ?_⟩
          cases er : rdDoc (splitB 10 (cl y)) [] with
          | ok qs =>
            rw [show wrongOf y = none by unfold wrongOf; rw [er]]
            intro H12 s12
            have S12 : Src U H12 p := S11.grow s12
            have t12 := tU.ext S12.v
            refine ⟨t12, fun H13 eN t13 => ?_⟩
            have sN := noT_ext (sU.trans S12.v) eN
            obtain ⟨b1, b2, b3, e12⟩ := S12.h
            have e13 := eN _ _ e12 (fun ps e => nomatch e)
            obtain ⟨okq, l200, lenq⟩ := rdDoc_ok er (fun i r e => by simp at e) (Nat.zero_le _)
            have h0 : 0 < qs.length := by
              rw [lenq]
              have := List.length_pos_iff.mpr (splitB_ne (s := 10) (cl y))
              omega
            have ecodes := rdDoc_codes er (Nat.zero_le _)
            refine ⟨_, rfl, H13, Same.refl _, .inl ⟨y, rfl, ylen, ly, ?_⟩⟩
            rw [es, er]
            refine ⟨h0, fun x U' H14 g dc => ?_⟩
            refine ⟨_, rfl, ⟨_, rfl, rfl, true, rfl, iteT ⟨.str "told", .str "told", .str _, .str _, by decide +kernel, by decide +kernel, false, by decide +kernel, iteF ?_⟩⟩⟩
            refine ⟨_, rfl, rfl, _, rfl, ifT (decide_eq_true rfl) ?_⟩
            refine ⟨_, rfl, H14, Same.refl _, .inl ⟨y, rfl, ylen, ly, ?_⟩⟩
            rw [es, er]
            refine ⟨h0, fun x2 U2 H15 g2 dc2 => ⟨x2, qs, U2, rfl, g2.s, dc2, okq, l200, fun z2 H16 s16 ez => ?_⟩⟩
            obtain rfl : z2 = y := cl_inj (by
              rw [ez]
              show joinL [10] (qs.map Row.codes) = _
              rw [ecodes, List.map_nil, List.nil_append]
              exact (splitB_join (cl y)).1)
            refine ⟨_, rfl, rfl, _, rfl, ifF (by rw [decide_eq_true rfl]; rfl) ?_⟩
            have s99 : Same H13 H16 := g.same.trans (g2.same.trans s16)
            exact ⟨noS p H16, _, _, _, _, _, rfl, src_noS (s99 _ _ e13), noS_tabs (t13.ext s99) (s99 _ _ e13), noS_under (sN.trans s99) hp0⟩
          | error e9 =>
            obtain ⟨l, sg⟩ := e9
            rw [show wrongOf y = some (l, sg) by unfold wrongOf; rw [er]]
            intro wp H12 s12 hwp bw
            have S12 : Src U H12 p := S11.grow s12
            have t12 := tU.ext S12.v
            refine ⟨t12, fun H13 eN t13 => ?_⟩
            have sN := noT_ext (sU.trans S12.v) eN
            obtain ⟨b1, b2, b3, e12⟩ := S12.h
            have e13 := eN _ _ e12 (fun ps e => nomatch e)
            have bw13 := eN _ _ bw (fun ps e => nomatch e)
            refine ⟨_, rfl, H13, Same.refl _, .inl ⟨y, rfl, ylen, ly, ?_⟩⟩
            rw [es, er]
            intro d' H' sm hfree hx'
            refine ⟨d', .int l, .int sg, rfl, rfl, hx', fun p4 H4 s4 hpn hp4 => ?_⟩
            refine ⟨_, rfl, ⟨_, rfl, rfl, false, congrArg V.bl (decide_eq_false (fun e => nomatch e)), iteF ?_⟩⟩
            refine ⟨Nat.le_of_ble_eq_true rfl, fun p2 hp2 => ⟨_, rfl, ?_⟩⟩
            have n2 : p2 ≠ p4 := (ne_of_none hp4 hp2).symm
            have s6 := (sm.trans s4).trans (same_new (o := .tup [.str "text"]) hp2)
            refine ⟨p2, wp, _, _, rfl, rfl, sqtO upd_same, sqtO (s6 _ _ bw13), (fun e => nomatch e), Nat.le_of_ble_eq_true rfl, (fun e => nomatch e), fun _ p3 hp3 => ?_⟩
            have n3 : p4 ≠ p3 := ne_of_none (o := .tup [.str "text", .int l, .int sg]) (by rw [upd_ne n2.symm]; exact hp4) hp3
            refine ⟨.tuple [.str "text", .int l, .int sg], .tuple [.str "text", .int l, .int sg], dp_tup (by rw [upd_ne n3, upd_ne n2.symm]; exact hp4) (.cons (.str _) (.cons (.int _) (.cons (.int _) .nil))), dp_tup upd_same (.cons (.str _) (.cons (.int _) (.cons (.int _) .nil))), shp3 (by decide +kernel), shp3 (by decide +kernel), false, by rw [SeqAt.eqv_refl _ (lay3 (by decide +kernel))]; rfl, iteF ?_⟩
            have s99 := s6.trans (same_new (o := .tup ([V.str "text"] ++ [V.int l, V.int sg])) hp3)
            refine ⟨_, rfl, rfl, _, rfl, ifF (decide_eq_false (fun e => nomatch e)) (iteF ?_)⟩
            exact ⟨noS p _, _, _, _, _, _, rfl, src_noS (s99 _ _ e13), noS_tabs (t13.ext s99) (s99 _ _ e13), noS_under (sN.trans s99) hp0⟩
      · rintro σ H1 ⟨U, v3, v4, v5, v6, v7, rfl, S1, tU, sU⟩
        exact ⟨sU.trans S1.v, tU.ext S1.v, _, _, _, _, _, _, _, rfl⟩
    · rintro σ H1 ⟨sm, t1, v1, v2, v3, v4, v5, v6, v7, rfl⟩
      refine ⟨true, rfl, t1, fun H2 t2 => ⟨_, rfl, iteT ⟨false, rfl, t2, fun H3 t3 => k H3⟩⟩⟩
end
end Lw

set_option maxHeartbeats 0
namespace Lw
open PySem PySem.Spec PyProof.Rows L2 VW TL LamX
theorem all_mk {w : World} {K : PySem.W.Frag} {h : Heap} {mg : Str → Option Value} (X : K.In h) (G : h.Ns mainGlobals mg)
    {ts : List Addr} {C_LayoutError : Addr} {C_InvalidDoc : Addr} {C_InvalidBound : Addr} {C_InvalidText : Addr} {C_InvalidValue : Addr} {C_InvalidCall : Addr} {C_LimitExceeded : Addr} {C_Doc : Addr} {nm_Doc q_Doc : Str} {N_Doc : Addr} {bs_Doc sub_Doc : List Value} {sn_Doc : List Str} {ab_Doc : Bool} {col_Doc : Option Bool} {dd_Doc : Option Addr} {k0_Doc k1_Doc k2_Doc k3_Doc k5_Doc : Option Value} {oc_Doc : Value} {od_Doc : Option Addr} {es_Doc : Array DictEntry} {n_Doc : Nat} {sl_Doc : Array (Option Value)} {f_Doc___init__ : Addr} {oc_Doc___init__ kV_Doc___init__ dc_Doc___init__ pm_Doc___init__ cd_Doc___init__ ct_Doc___init__ : Value} {od_Doc___init__ an_Doc___init__ : Option Addr} {sl_Doc___init__ : Array (Option Value)} {f_Doc___eq__ : Addr} {oc_Doc___eq__ kV_Doc___eq__ dc_Doc___eq__ pm_Doc___eq__ cd_Doc___eq__ ct_Doc___eq__ : Value} {od_Doc___eq__ an_Doc___eq__ : Option Addr} {sl_Doc___eq__ : Array (Option Value)} {f_Doc_row_list : Addr} {oc_Doc_row_list kV_Doc_row_list dc_Doc_row_list pm_Doc_row_list cd_Doc_row_list ct_Doc_row_list : Value} {od_Doc_row_list an_Doc_row_list : Option Addr} {sl_Doc_row_list : Array (Option Value)} {enm_InvalidText eq_InvalidText : Str} {eN_InvalidText : Addr} {ebs_InvalidText ebm_InvalidText esub_InvalidText : List Value} {esn_InvalidText : List Str} {eab_InvalidText : Bool} {ecol_InvalidText : Option Bool} {edd_InvalidText : Option Addr} {ek0_InvalidText ek1_InvalidText ek2_InvalidText ek3_InvalidText ek5_InvalidText : Option Value} {f_InvalidText___init__ : Addr} {oc_InvalidText___init__ kV_InvalidText___init__ dc_InvalidText___init__ pm_InvalidText___init__ cd_InvalidText___init__ ct_InvalidText___init__ : Value} {od_InvalidText___init__ an_InvalidText___init__ : Option Addr} {sl_InvalidText___init__ : Array (Option Value)} {f__shown : Addr} {oc__shown kV__shown dc__shown pm__shown cd__shown ct__shown : Value} {od__shown an__shown : Option Addr} {sl__shown : Array (Option Value)} {f_is_integer : Addr} {oc_is_integer kV_is_integer dc_is_integer pm_is_integer cd_is_integer ct_is_integer : Value} {od_is_integer an_is_integer : Option Addr} {sl_is_integer : Array (Option Value)} {f_is_between : Addr} {oc_is_between kV_is_between dc_is_between pm_is_between cd_is_between ct_is_between : Value} {od_is_between an_is_between : Option Addr} {sl_is_between : Array (Option Value)} {f_copied_row : Addr} {oc_copied_row kV_copied_row dc_copied_row pm_copied_row cd_copied_row ct_copied_row : Value} {od_copied_row an_copied_row : Option Addr} {sl_copied_row : Array (Option Value)} {f_is_row : Addr} {oc_is_row kV_is_row dc_is_row pm_is_row cd_is_row ct_is_row : Value} {od_is_row an_is_row : Option Addr} {sl_is_row : Array (Option Value)} {f__checked_rows : Addr} {oc__checked_rows kV__checked_rows dc__checked_rows pm__checked_rows cd__checked_rows ct__checked_rows : Value} {od__checked_rows an__checked_rows : Option Addr} {sl__checked_rows : Array (Option Value)} {f__is_signs : Addr} {oc__is_signs kV__is_signs dc__is_signs pm__is_signs cd__is_signs ct__is_signs : Value} {od__is_signs an__is_signs : Option Addr} {sl__is_signs : Array (Option Value)} {f__is_parts : Addr} {oc__is_parts kV__is_parts dc__is_parts pm__is_parts cd__is_parts ct__is_parts : Value} {od__is_parts an__is_parts : Option Addr} {sl__is_parts : Array (Option Value)} {f_check_doc : Addr} {oc_check_doc kV_check_doc dc_check_doc pm_check_doc cd_check_doc ct_check_doc : Value} {od_check_doc an_check_doc : Option Addr} {sl_check_doc : Array (Option Value)} {f_doc_text : Addr} {oc_doc_text kV_doc_text dc_doc_text pm_doc_text cd_doc_text ct_doc_text : Value} {od_doc_text an_doc_text : Option Addr} {sl_doc_text : Array (Option Value)} {f_read_doc : Addr} {oc_read_doc kV_read_doc dc_read_doc pm_read_doc cd_read_doc ct_read_doc : Value} {od_read_doc an_read_doc : Option Addr} {sl_read_doc : Array (Option Value)} {f__row_line : Addr} {oc__row_line kV__row_line dc__row_line pm__row_line cd__row_line ct__row_line : Value} {od__row_line an__row_line : Option Addr} {sl__row_line : Array (Option Value)} {f__read_row : Addr} {oc__read_row kV__read_row dc__read_row pm__read_row cd__read_row ct__read_row : Value} {od__read_row an__read_row : Option Addr} {sl__read_row : Array (Option Value)} {f__read_kind : Addr} {oc__read_kind kV__read_kind dc__read_kind pm__read_kind cd__read_kind ct__read_kind : Value} {od__read_kind an__read_kind : Option Addr} {sl__read_kind : Array (Option Value)} {f__common_signs : Addr} {oc__common_signs kV__common_signs dc__common_signs pm__common_signs cd__common_signs ct__common_signs : Value} {od__common_signs an__common_signs : Option Addr} {sl__common_signs : Array (Option Value)} {f__read_string : Addr} {oc__read_string kV__read_string dc__read_string pm__read_string cd__read_string ct__read_string : Value} {od__read_string an__read_string : Option Addr} {sl__read_string : Array (Option Value)} {f__read_cat : Addr} {oc__read_cat kV__read_cat dc__read_cat pm__read_cat cd__read_cat ct__read_cat : Value} {od__read_cat an__read_cat : Option Addr} {sl__read_cat : Array (Option Value)} {f__read_numbers : Addr} {oc__read_numbers kV__read_numbers dc__read_numbers pm__read_numbers cd__read_numbers ct__read_numbers : Value} {od__read_numbers an__read_numbers : Option Addr} {sl__read_numbers : Array (Option Value)} {f__read_number : Addr} {oc__read_number kV__read_number dc__read_number pm__read_number cd__read_number ct__read_number : Value} {od__read_number an__read_number : Option Addr} {sl__read_number : Array (Option Value)} {f__law_cell_at : Addr} {oc__law_cell_at kV__law_cell_at dc__law_cell_at pm__law_cell_at cd__law_cell_at ct__law_cell_at : Value} {od__law_cell_at an__law_cell_at : Option Addr} {sl__law_cell_at : Array (Option Value)} {f__law_source_of : Addr} {oc__law_source_of kV__law_source_of dc__law_source_of pm__law_source_of cd__law_source_of ct__law_source_of : Value} {od__law_source_of an__law_source_of : Option Addr} {sl__law_source_of : Array (Option Value)} {f__law_next : Addr} {oc__law_next kV__law_next dc__law_next pm__law_next cd__law_next ct__law_next : Value} {od__law_next an__law_next : Option Addr} {sl__law_next : Array (Option Value)} {f__law_one : Addr} {oc__law_one kV__law_one dc__law_one pm__law_one cd__law_one ct__law_one : Value} {od__law_one an__law_one : Option Addr} {sl__law_one : Array (Option Value)} {f__law_signs : Addr} {oc__law_signs kV__law_signs dc__law_signs pm__law_signs cd__law_signs ct__law_signs : Value} {od__law_signs an__law_signs : Option Addr} {sl__law_signs : Array (Option Value)} {f__law_row : Addr} {oc__law_row kV__law_row dc__law_row pm__law_row cd__law_row ct__law_row : Value} {od__law_row an__law_row : Option Addr} {sl__law_row : Array (Option Value)} {f__law_rows : Addr} {oc__law_rows kV__law_rows dc__law_rows pm__law_rows cd__law_rows ct__law_rows : Value} {od__law_rows an__law_rows : Option Addr} {sl__law_rows : Array (Option Value)} {f__law_said : Addr} {oc__law_said kV__law_said dc__law_said pm__law_said cd__law_said ct__law_said : Value} {od__law_said an__law_said : Option Addr} {sl__law_said : Array (Option Value)} {f__law_is_number : Addr} {oc__law_is_number kV__law_is_number dc__law_is_number pm__law_is_number cd__law_is_number ct__law_is_number : Value} {od__law_is_number an__law_is_number : Option Addr} {sl__law_is_number : Array (Option Value)} {f__law_is_line : Addr} {oc__law_is_line kV__law_is_line dc__law_is_line pm__law_is_line cd__law_is_line ct__law_is_line : Value} {od__law_is_line an__law_is_line : Option Addr} {sl__law_is_line : Array (Option Value)} {f__law_can_begin : Addr} {oc__law_can_begin kV__law_can_begin dc__law_can_begin pm__law_can_begin cd__law_can_begin ct__law_can_begin : Value} {od__law_can_begin an__law_can_begin : Option Addr} {sl__law_can_begin : Array (Option Value)} {f__law_wrong : Addr} {oc__law_wrong kV__law_wrong dc__law_wrong pm__law_wrong cd__law_wrong ct__law_wrong : Value} {od__law_wrong an__law_wrong : Option Addr} {sl__law_wrong : Array (Option Value)} {f__law_bent : Addr} {oc__law_bent kV__law_bent dc__law_bent pm__law_bent cd__law_bent ct__law_bent : Value} {od__law_bent an__law_bent : Option Addr} {sl__law_bent : Array (Option Value)} {f__law_deep_right : Addr} {oc__law_deep_right kV__law_deep_right dc__law_deep_right pm__law_deep_right cd__law_deep_right ct__law_deep_right : Value} {od__law_deep_right an__law_deep_right : Option Addr} {sl__law_deep_right : Array (Option Value)} {f_law : Addr} {oc_law kV_law dc_law pm_law cd_law ct_law : Value} {od_law an_law : Option Addr} {sl_law : Array (Option Value)} {t_MOST_ROWS : Tok} {t_MOST_PARTS : Tok} {t_MOST_NEST : Tok} {t_MOST_TEXT_SIGNS : Tok} {t_MOST_LINE_SIGNS : Tok} {D_ROW_LENGTHS : Addr} {es_ROW_LENGTHS : Array DictEntry} {n_ROW_LENGTHS : Nat} {t_ROW_LENGTHS_text : Tok} {t_ROW_LENGTHS_line : Tok} {t_ROW_LENGTHS_hard : Tok} {t_ROW_LENGTHS_cat : Tok} {t_ROW_LENGTHS_nest : Tok} {t_ROW_LENGTHS_align : Tok} {t_ROW_LENGTHS_group : Tok} {cc_law cP_law : Addr} {cc__law_deep_right cP__law_deep_right : Addr}
    (a_LayoutError : PySem.W.nsIn K mainGlobals "LayoutError" = some (some (.ref C_LayoutError)))
    (a_InvalidDoc : PySem.W.nsIn K mainGlobals "InvalidDoc" = some (some (.ref C_InvalidDoc)))
    (a_InvalidBound : PySem.W.nsIn K mainGlobals "InvalidBound" = some (some (.ref C_InvalidBound)))
    (a_InvalidText : PySem.W.nsIn K mainGlobals "InvalidText" = some (some (.ref C_InvalidText)))
    (a_InvalidValue : PySem.W.nsIn K mainGlobals "InvalidValue" = some (some (.ref C_InvalidValue)))
    (a_InvalidCall : PySem.W.nsIn K mainGlobals "InvalidCall" = some (some (.ref C_InvalidCall)))
    (a_LimitExceeded : PySem.W.nsIn K mainGlobals "LimitExceeded" = some (some (.ref C_LimitExceeded)))
    (a_Doc : PySem.W.nsIn K mainGlobals "Doc" = some (some (.ref C_Doc)))
    (fi_Doc___init__ : PySem.W.findIn K (.ref C_Doc) "__init__" = some (some (.ref f_Doc___init__)))
    (fi_Doc___eq__ : PySem.W.findIn K (.ref C_Doc) "__eq__" = some (some (.ref f_Doc___eq__)))
    (fi_Doc_row_list : PySem.W.findIn K (.ref C_Doc) "row_list" = some (some (.ref f_Doc_row_list)))
    (fi_InvalidText___init__ : PySem.W.findIn K (.ref C_InvalidText) "__init__" = some (some (.ref f_InvalidText___init__)))
    (fi__shown : PySem.W.nsIn K mainGlobals "_shown" = some (some (.ref f__shown)))
    (fi_is_integer : PySem.W.nsIn K mainGlobals "is_integer" = some (some (.ref f_is_integer)))
    (fi_is_between : PySem.W.nsIn K mainGlobals "is_between" = some (some (.ref f_is_between)))
    (fi_copied_row : PySem.W.nsIn K mainGlobals "copied_row" = some (some (.ref f_copied_row)))
    (fi_is_row : PySem.W.nsIn K mainGlobals "is_row" = some (some (.ref f_is_row)))
    (fi__checked_rows : PySem.W.nsIn K mainGlobals "_checked_rows" = some (some (.ref f__checked_rows)))
    (fi__is_signs : PySem.W.nsIn K mainGlobals "_is_signs" = some (some (.ref f__is_signs)))
    (fi__is_parts : PySem.W.nsIn K mainGlobals "_is_parts" = some (some (.ref f__is_parts)))
    (fi_check_doc : PySem.W.nsIn K mainGlobals "check_doc" = some (some (.ref f_check_doc)))
    (fi_doc_text : PySem.W.nsIn K mainGlobals "doc_text" = some (some (.ref f_doc_text)))
    (fi_read_doc : PySem.W.nsIn K mainGlobals "read_doc" = some (some (.ref f_read_doc)))
    (fi__row_line : PySem.W.nsIn K mainGlobals "_row_line" = some (some (.ref f__row_line)))
    (fi__read_row : PySem.W.nsIn K mainGlobals "_read_row" = some (some (.ref f__read_row)))
    (fi__read_kind : PySem.W.nsIn K mainGlobals "_read_kind" = some (some (.ref f__read_kind)))
    (fi__common_signs : PySem.W.nsIn K mainGlobals "_common_signs" = some (some (.ref f__common_signs)))
    (fi__read_string : PySem.W.nsIn K mainGlobals "_read_string" = some (some (.ref f__read_string)))
    (fi__read_cat : PySem.W.nsIn K mainGlobals "_read_cat" = some (some (.ref f__read_cat)))
    (fi__read_numbers : PySem.W.nsIn K mainGlobals "_read_numbers" = some (some (.ref f__read_numbers)))
    (fi__read_number : PySem.W.nsIn K mainGlobals "_read_number" = some (some (.ref f__read_number)))
    (fi__law_cell_at : PySem.W.nsIn K mainGlobals "_law_cell_at" = some (some (.ref f__law_cell_at)))
    (fi__law_source_of : PySem.W.nsIn K mainGlobals "_law_source_of" = some (some (.ref f__law_source_of)))
    (fi__law_next : PySem.W.nsIn K mainGlobals "_law_next" = some (some (.ref f__law_next)))
    (fi__law_one : PySem.W.nsIn K mainGlobals "_law_one" = some (some (.ref f__law_one)))
    (fi__law_signs : PySem.W.nsIn K mainGlobals "_law_signs" = some (some (.ref f__law_signs)))
    (fi__law_row : PySem.W.nsIn K mainGlobals "_law_row" = some (some (.ref f__law_row)))
    (fi__law_rows : PySem.W.nsIn K mainGlobals "_law_rows" = some (some (.ref f__law_rows)))
    (fi__law_said : PySem.W.nsIn K mainGlobals "_law_said" = some (some (.ref f__law_said)))
    (fi__law_is_number : PySem.W.nsIn K mainGlobals "_law_is_number" = some (some (.ref f__law_is_number)))
    (fi__law_is_line : PySem.W.nsIn K mainGlobals "_law_is_line" = some (some (.ref f__law_is_line)))
    (fi__law_can_begin : PySem.W.nsIn K mainGlobals "_law_can_begin" = some (some (.ref f__law_can_begin)))
    (fi__law_wrong : PySem.W.nsIn K mainGlobals "_law_wrong" = some (some (.ref f__law_wrong)))
    (fi__law_bent : PySem.W.nsIn K mainGlobals "_law_bent" = some (some (.ref f__law_bent)))
    (fi__law_deep_right : PySem.W.nsIn K mainGlobals "_law_deep_right" = some (some (.ref f__law_deep_right)))
    (fi_law : PySem.W.nsIn K mainGlobals "law" = some (some (.ref f_law)))
    (pg_Doc : PySem.W.plainGet K C_Doc Str.empty = true)
    (hd_Doc : PySem.W.hasDictIn K C_Doc = true)
    (po_Doc : PySem.W.plainOver K C_Doc = true)
    (sa_Doc : PySem.W.findIn K (.ref C_Doc) "__setattr__" = some (some (.builtin "object.__setattr__")))
    (mk_Doc : PySem.W.makesIn K C_Doc = true)
    (kc_Doc : PySem.W.keepIn K (.ref C_Doc) = true)
    (na_Doc__rows : PySem.W.findIn K (.ref C_Doc) "_rows" = some none)
    (na_Doc_facts : PySem.W.findIn K (.ref C_Doc) "facts" = some none)
    (na_Doc_group_facts : PySem.W.findIn K (.ref C_Doc) "group_facts" = some none)
    (i_Doc_1 : PySem.W.findIn K (.ref C_Doc) "__class__" = some (some (.builtin "object.__class__")))
    (i_Doc_2 : PySem.W.specialIn K (.builtin "object.__class__") "__get__" = some (some (.builtin "getset_descriptor.__get__")))
    (i_Doc_3 : PySem.W.takesIn K (.builtin "object.__class__") = some true)
    (i_Doc_4 : PySem.W.mroIn K C_Doc (.type "object") = some true)
    (ic_Doc : PySem.W.isClsIn K C_Doc = true)
    (tc_Doc : PySem.W.typeIn K (.ref C_Doc) = some (.type "type"))
    (i_Doc_6 : PySem.W.subIn K (.type "int") (.ref C_Doc) = some false)
    (i_Doc_7 : PySem.W.subIn K (.type "NoneType") (.ref C_Doc) = some false)
    (i_Doc_8 : PySem.W.subIn K (.type "list") (.ref C_Doc) = some false)
    (i_Doc_9 : PySem.W.notFirst K C_Doc (.ref C_Doc) = true)
    (i_Doc_10 : PySem.W.notFirst K C_Doc (.type "int") = true)
    (i_Doc_11 : PySem.W.notFirst K C_Doc (.type "NoneType") = true)
    (i_Doc_12 : PySem.W.notFirst K C_Doc (.type "list") = true)
    (ne_Doc_1 : K.lookup C_Doc = some (excClassObj nm_Doc q_Doc C_Doc N_Doc bs_Doc [.type "object"] true sn_Doc sub_Doc ab_Doc col_Doc dd_Doc k0_Doc k1_Doc k2_Doc k3_Doc k5_Doc "object.__new__"))
    (ne_Doc_2 : K.lookup N_Doc = some ⟨oc_Doc, od_Doc, .dict es_Doc n_Doc, sl_Doc⟩)
    (ne_Doc_3 : PySem.W.KeysLit w.params es_Doc.toList)
    (ne_Doc_4 : PySem.W.nsIn K N_Doc "__eq__" = some (some (.ref f_Doc___eq__)))
    (ne_Doc_5 : PySem.W.nsIn K N_Doc "__ne__" = some none)
    (is_Doc___init__ : PySem.W.isFn K (.ref f_Doc___init__) = true)
    (l_Doc___init__ : K.lookup f_Doc___init__ = some ⟨oc_Doc___init__, od_Doc___init__, .func (PySem.W.fnOf "__init__" "Doc.__init__" (defArgs s_Doc___init__) (defBody s_Doc___init__) (defScope s_Doc___init__) .none kV_Doc___init__ dc_Doc___init__ pm_Doc___init__ an_Doc___init__ cd_Doc___init__ ct_Doc___init__), sl_Doc___init__⟩)
    (cn_Doc___init__ : PySem.W.codeIn K cd_Doc___init__ "Doc.__init__" = true)
    (kp_Doc___init__ : PySem.W.keepIn K (.ref f_Doc___init__) = true)
    (is_Doc___eq__ : PySem.W.isFn K (.ref f_Doc___eq__) = true)
    (l_Doc___eq__ : K.lookup f_Doc___eq__ = some ⟨oc_Doc___eq__, od_Doc___eq__, .func (PySem.W.fnOf "__eq__" "Doc.__eq__" (defArgs s_Doc___eq__) (defBody s_Doc___eq__) (defScope s_Doc___eq__) .none kV_Doc___eq__ dc_Doc___eq__ pm_Doc___eq__ an_Doc___eq__ cd_Doc___eq__ ct_Doc___eq__), sl_Doc___eq__⟩)
    (cn_Doc___eq__ : PySem.W.codeIn K cd_Doc___eq__ "Doc.__eq__" = true)
    (kp_Doc___eq__ : PySem.W.keepIn K (.ref f_Doc___eq__) = true)
    (is_Doc_row_list : PySem.W.isFn K (.ref f_Doc_row_list) = true)
    (l_Doc_row_list : K.lookup f_Doc_row_list = some ⟨oc_Doc_row_list, od_Doc_row_list, .func (PySem.W.fnOf "row_list" "Doc.row_list" (defArgs s_Doc_row_list) (defBody s_Doc_row_list) (defScope s_Doc_row_list) .none kV_Doc_row_list dc_Doc_row_list pm_Doc_row_list an_Doc_row_list cd_Doc_row_list ct_Doc_row_list), sl_Doc_row_list⟩)
    (cn_Doc_row_list : PySem.W.codeIn K cd_Doc_row_list "Doc.row_list" = true)
    (kp_Doc_row_list : PySem.W.keepIn K (.ref f_Doc_row_list) = true)
    (sup_rd : PySem.W.readsIn K C_LayoutError (.type "type") = true)
    (sup_ga : PySem.W.specialIn K (.ref C_LayoutError) "__getattribute__" = some (some (.builtin "type.__getattribute__")))
    (sup_at : PySem.W.findCls K (.ref C_LayoutError) (.type "type") "__init__" = some (.val (.builtin "ArithmeticError.__init__")))
    (sup_ex : PySem.W.subIn K (.ref C_LayoutError) (.type "BaseException") = some true)
    (sup_hd : PySem.W.hasDictIn K C_LayoutError = true)
    (sup_ty : PySem.W.typeIn K (.ref C_LayoutError) = some (.type "type"))
    (exg_n : PySem.W.specialIn K (.builtin "object.__class__") "__get__" = some (some (.builtin "getset_descriptor.__get__")))
    (exg_t : PySem.W.takesIn K (.builtin "object.__class__") = some true)
    (ec_InvalidText : K.lookup C_InvalidText = some (excClassObj enm_InvalidText eq_InvalidText C_InvalidText eN_InvalidText ebs_InvalidText ebm_InvalidText true esn_InvalidText esub_InvalidText eab_InvalidText ecol_InvalidText edd_InvalidText ek0_InvalidText ek1_InvalidText ek2_InvalidText ek3_InvalidText ek5_InvalidText "ArithmeticError.__new__"))
    (eo_InvalidText : AX.overA ebm_InvalidText = true)
    (esa_InvalidText : PySem.W.findIn K (.ref C_InvalidText) "__setattr__" = some (some (.builtin "object.__setattr__")))
    (eex_InvalidText : PySem.W.subIn K (.ref C_InvalidText) (.type "BaseException") = some true)
    (ety_InvalidText : PySem.W.typeIn K (.ref C_InvalidText) = some (.type "type"))
    (ekp_InvalidText : PySem.W.keepIn K (.ref C_InvalidText) = true)
    (xg_InvalidText : PySem.W.findIn K (.ref C_InvalidText) "__getattribute__" = some (some (.builtin "BaseException.__getattribute__")))
    (xk_InvalidText : PySem.W.findIn K (.ref C_InvalidText) "__getattr__" = some none)
    (xd_InvalidText : PySem.W.hasDictIn K C_InvalidText = true)
    (xa_InvalidText : PySem.W.findIn K (.ref C_InvalidText) "__class__" = some (some (.builtin "object.__class__")))
    (xm_InvalidText : PySem.W.mroIn K C_InvalidText (.type "object") = some true)
    (xs_InvalidText : PySem.W.subIn K (.ref C_InvalidText) (.ref C_LayoutError) = some true)
    (kt_InvalidText_Arith : PySem.W.kitOne K (.ref C_InvalidText) (.type "ArithmeticError") = some true)
    (na_InvalidText_line : PySem.W.findIn K (.ref C_InvalidText) "line" = some none)
    (na_InvalidText_sign : PySem.W.findIn K (.ref C_InvalidText) "sign" = some none)
    (kt_InvalidText_InvalidDoc : PySem.W.kitOne K (.ref C_InvalidText) (.ref C_InvalidDoc) = some false)
    (kt_InvalidText_InvalidBound : PySem.W.kitOne K (.ref C_InvalidText) (.ref C_InvalidBound) = some false)
    (kt_InvalidText_InvalidValue : PySem.W.kitOne K (.ref C_InvalidText) (.ref C_InvalidValue) = some false)
    (kt_InvalidText_InvalidCall : PySem.W.kitOne K (.ref C_InvalidText) (.ref C_InvalidCall) = some false)
    (kt_InvalidText_LimitExceeded : PySem.W.kitOne K (.ref C_InvalidText) (.ref C_LimitExceeded) = some false)
    (l_InvalidText___init__ : K.lookup f_InvalidText___init__ = some ⟨oc_InvalidText___init__, od_InvalidText___init__, .func (PySem.W.fnOf "__init__" "InvalidText.__init__" (defArgs s_InvalidText___init__) (defBody s_InvalidText___init__) (defScope s_InvalidText___init__) .none kV_InvalidText___init__ dc_InvalidText___init__ pm_InvalidText___init__ an_InvalidText___init__ cd_InvalidText___init__ ct_InvalidText___init__), sl_InvalidText___init__⟩)
    (cn_InvalidText___init__ : PySem.W.codeIn K cd_InvalidText___init__ "InvalidText.__init__" = true)
    (kp_InvalidText___init__ : PySem.W.keepIn K (.ref f_InvalidText___init__) = true)
    (tyf_InvalidText___init__ : PySem.W.typeIn K (.ref f_InvalidText___init__) = some (.type "function"))
    (l__shown : K.lookup f__shown = some ⟨oc__shown, od__shown, .func (PySem.W.fnOf "_shown" "_shown" (defArgs s__shown) (defBody s__shown) (defScope s__shown) .none kV__shown dc__shown pm__shown an__shown cd__shown ct__shown), sl__shown⟩)
    (cn__shown : PySem.W.codeIn K cd__shown "_shown" = true)
    (kp__shown : PySem.W.keepIn K (.ref f__shown) = true)
    (l_is_integer : K.lookup f_is_integer = some ⟨oc_is_integer, od_is_integer, .func (PySem.W.fnOf "is_integer" "is_integer" (defArgs s_is_integer) (defBody s_is_integer) (defScope s_is_integer) .none kV_is_integer dc_is_integer pm_is_integer an_is_integer cd_is_integer ct_is_integer), sl_is_integer⟩)
    (cn_is_integer : PySem.W.codeIn K cd_is_integer "is_integer" = true)
    (kp_is_integer : PySem.W.keepIn K (.ref f_is_integer) = true)
    (l_is_between : K.lookup f_is_between = some ⟨oc_is_between, od_is_between, .func (PySem.W.fnOf "is_between" "is_between" (defArgs s_is_between) (defBody s_is_between) (defScope s_is_between) .none kV_is_between dc_is_between pm_is_between an_is_between cd_is_between ct_is_between), sl_is_between⟩)
    (cn_is_between : PySem.W.codeIn K cd_is_between "is_between" = true)
    (kp_is_between : PySem.W.keepIn K (.ref f_is_between) = true)
    (l_copied_row : K.lookup f_copied_row = some ⟨oc_copied_row, od_copied_row, .func (PySem.W.fnOf "copied_row" "copied_row" (defArgs s_copied_row) (defBody s_copied_row) (defScope s_copied_row) .none kV_copied_row dc_copied_row pm_copied_row an_copied_row cd_copied_row ct_copied_row), sl_copied_row⟩)
    (cn_copied_row : PySem.W.codeIn K cd_copied_row "copied_row" = true)
    (kp_copied_row : PySem.W.keepIn K (.ref f_copied_row) = true)
    (l_is_row : K.lookup f_is_row = some ⟨oc_is_row, od_is_row, .func (PySem.W.fnOf "is_row" "is_row" (defArgs s_is_row) (defBody s_is_row) (defScope s_is_row) .none kV_is_row dc_is_row pm_is_row an_is_row cd_is_row ct_is_row), sl_is_row⟩)
    (cn_is_row : PySem.W.codeIn K cd_is_row "is_row" = true)
    (kp_is_row : PySem.W.keepIn K (.ref f_is_row) = true)
    (l__checked_rows : K.lookup f__checked_rows = some ⟨oc__checked_rows, od__checked_rows, .func (PySem.W.fnOf "_checked_rows" "_checked_rows" (defArgs s__checked_rows) (defBody s__checked_rows) (defScope s__checked_rows) .none kV__checked_rows dc__checked_rows pm__checked_rows an__checked_rows cd__checked_rows ct__checked_rows), sl__checked_rows⟩)
    (cn__checked_rows : PySem.W.codeIn K cd__checked_rows "_checked_rows" = true)
    (kp__checked_rows : PySem.W.keepIn K (.ref f__checked_rows) = true)
    (l__is_signs : K.lookup f__is_signs = some ⟨oc__is_signs, od__is_signs, .func (PySem.W.fnOf "_is_signs" "_is_signs" (defArgs s__is_signs) (defBody s__is_signs) (defScope s__is_signs) .none kV__is_signs dc__is_signs pm__is_signs an__is_signs cd__is_signs ct__is_signs), sl__is_signs⟩)
    (cn__is_signs : PySem.W.codeIn K cd__is_signs "_is_signs" = true)
    (kp__is_signs : PySem.W.keepIn K (.ref f__is_signs) = true)
    (l__is_parts : K.lookup f__is_parts = some ⟨oc__is_parts, od__is_parts, .func (PySem.W.fnOf "_is_parts" "_is_parts" (defArgs s__is_parts) (defBody s__is_parts) (defScope s__is_parts) .none kV__is_parts dc__is_parts pm__is_parts an__is_parts cd__is_parts ct__is_parts), sl__is_parts⟩)
    (cn__is_parts : PySem.W.codeIn K cd__is_parts "_is_parts" = true)
    (kp__is_parts : PySem.W.keepIn K (.ref f__is_parts) = true)
    (l_check_doc : K.lookup f_check_doc = some ⟨oc_check_doc, od_check_doc, .func (PySem.W.fnOf "check_doc" "check_doc" (defArgs s_check_doc) (defBody s_check_doc) (defScope s_check_doc) .none kV_check_doc dc_check_doc pm_check_doc an_check_doc cd_check_doc ct_check_doc), sl_check_doc⟩)
    (cn_check_doc : PySem.W.codeIn K cd_check_doc "check_doc" = true)
    (kp_check_doc : PySem.W.keepIn K (.ref f_check_doc) = true)
    (l_doc_text : K.lookup f_doc_text = some ⟨oc_doc_text, od_doc_text, .func (PySem.W.fnOf "doc_text" "doc_text" (defArgs s_doc_text) (defBody s_doc_text) (defScope s_doc_text) .none kV_doc_text dc_doc_text pm_doc_text an_doc_text cd_doc_text ct_doc_text), sl_doc_text⟩)
    (cn_doc_text : PySem.W.codeIn K cd_doc_text "doc_text" = true)
    (kp_doc_text : PySem.W.keepIn K (.ref f_doc_text) = true)
    (l_read_doc : K.lookup f_read_doc = some ⟨oc_read_doc, od_read_doc, .func (PySem.W.fnOf "read_doc" "read_doc" (defArgs s_read_doc) (defBody s_read_doc) (defScope s_read_doc) .none kV_read_doc dc_read_doc pm_read_doc an_read_doc cd_read_doc ct_read_doc), sl_read_doc⟩)
    (cn_read_doc : PySem.W.codeIn K cd_read_doc "read_doc" = true)
    (kp_read_doc : PySem.W.keepIn K (.ref f_read_doc) = true)
    (l__row_line : K.lookup f__row_line = some ⟨oc__row_line, od__row_line, .func (PySem.W.fnOf "_row_line" "_row_line" (defArgs s__row_line) (defBody s__row_line) (defScope s__row_line) .none kV__row_line dc__row_line pm__row_line an__row_line cd__row_line ct__row_line), sl__row_line⟩)
    (cn__row_line : PySem.W.codeIn K cd__row_line "_row_line" = true)
    (kp__row_line : PySem.W.keepIn K (.ref f__row_line) = true)
    (l__read_row : K.lookup f__read_row = some ⟨oc__read_row, od__read_row, .func (PySem.W.fnOf "_read_row" "_read_row" (defArgs s__read_row) (defBody s__read_row) (defScope s__read_row) .none kV__read_row dc__read_row pm__read_row an__read_row cd__read_row ct__read_row), sl__read_row⟩)
    (cn__read_row : PySem.W.codeIn K cd__read_row "_read_row" = true)
    (kp__read_row : PySem.W.keepIn K (.ref f__read_row) = true)
    (l__read_kind : K.lookup f__read_kind = some ⟨oc__read_kind, od__read_kind, .func (PySem.W.fnOf "_read_kind" "_read_kind" (defArgs s__read_kind) (defBody s__read_kind) (defScope s__read_kind) .none kV__read_kind dc__read_kind pm__read_kind an__read_kind cd__read_kind ct__read_kind), sl__read_kind⟩)
    (cn__read_kind : PySem.W.codeIn K cd__read_kind "_read_kind" = true)
    (kp__read_kind : PySem.W.keepIn K (.ref f__read_kind) = true)
    (l__common_signs : K.lookup f__common_signs = some ⟨oc__common_signs, od__common_signs, .func (PySem.W.fnOf "_common_signs" "_common_signs" (defArgs s__common_signs) (defBody s__common_signs) (defScope s__common_signs) .none kV__common_signs dc__common_signs pm__common_signs an__common_signs cd__common_signs ct__common_signs), sl__common_signs⟩)
    (cn__common_signs : PySem.W.codeIn K cd__common_signs "_common_signs" = true)
    (kp__common_signs : PySem.W.keepIn K (.ref f__common_signs) = true)
    (l__read_string : K.lookup f__read_string = some ⟨oc__read_string, od__read_string, .func (PySem.W.fnOf "_read_string" "_read_string" (defArgs s__read_string) (defBody s__read_string) (defScope s__read_string) .none kV__read_string dc__read_string pm__read_string an__read_string cd__read_string ct__read_string), sl__read_string⟩)
    (cn__read_string : PySem.W.codeIn K cd__read_string "_read_string" = true)
    (kp__read_string : PySem.W.keepIn K (.ref f__read_string) = true)
    (l__read_cat : K.lookup f__read_cat = some ⟨oc__read_cat, od__read_cat, .func (PySem.W.fnOf "_read_cat" "_read_cat" (defArgs s__read_cat) (defBody s__read_cat) (defScope s__read_cat) .none kV__read_cat dc__read_cat pm__read_cat an__read_cat cd__read_cat ct__read_cat), sl__read_cat⟩)
    (cn__read_cat : PySem.W.codeIn K cd__read_cat "_read_cat" = true)
    (kp__read_cat : PySem.W.keepIn K (.ref f__read_cat) = true)
    (l__read_numbers : K.lookup f__read_numbers = some ⟨oc__read_numbers, od__read_numbers, .func (PySem.W.fnOf "_read_numbers" "_read_numbers" (defArgs s__read_numbers) (defBody s__read_numbers) (defScope s__read_numbers) .none kV__read_numbers dc__read_numbers pm__read_numbers an__read_numbers cd__read_numbers ct__read_numbers), sl__read_numbers⟩)
    (cn__read_numbers : PySem.W.codeIn K cd__read_numbers "_read_numbers" = true)
    (kp__read_numbers : PySem.W.keepIn K (.ref f__read_numbers) = true)
    (l__read_number : K.lookup f__read_number = some ⟨oc__read_number, od__read_number, .func (PySem.W.fnOf "_read_number" "_read_number" (defArgs s__read_number) (defBody s__read_number) (defScope s__read_number) .none kV__read_number dc__read_number pm__read_number an__read_number cd__read_number ct__read_number), sl__read_number⟩)
    (cn__read_number : PySem.W.codeIn K cd__read_number "_read_number" = true)
    (kp__read_number : PySem.W.keepIn K (.ref f__read_number) = true)
    (l__law_cell_at : K.lookup f__law_cell_at = some ⟨oc__law_cell_at, od__law_cell_at, .func (PySem.W.fnOf "_law_cell_at" "_law_cell_at" (defArgs s__law_cell_at) (defBody s__law_cell_at) (defScope s__law_cell_at) .none kV__law_cell_at dc__law_cell_at pm__law_cell_at an__law_cell_at cd__law_cell_at ct__law_cell_at), sl__law_cell_at⟩)
    (cn__law_cell_at : PySem.W.codeIn K cd__law_cell_at "_law_cell_at" = true)
    (kp__law_cell_at : PySem.W.keepIn K (.ref f__law_cell_at) = true)
    (l__law_source_of : K.lookup f__law_source_of = some ⟨oc__law_source_of, od__law_source_of, .func (PySem.W.fnOf "_law_source_of" "_law_source_of" (defArgs s__law_source_of) (defBody s__law_source_of) (defScope s__law_source_of) .none kV__law_source_of dc__law_source_of pm__law_source_of an__law_source_of cd__law_source_of ct__law_source_of), sl__law_source_of⟩)
    (cn__law_source_of : PySem.W.codeIn K cd__law_source_of "_law_source_of" = true)
    (kp__law_source_of : PySem.W.keepIn K (.ref f__law_source_of) = true)
    (l__law_next : K.lookup f__law_next = some ⟨oc__law_next, od__law_next, .func (PySem.W.fnOf "_law_next" "_law_next" (defArgs s__law_next) (defBody s__law_next) (defScope s__law_next) .none kV__law_next dc__law_next pm__law_next an__law_next cd__law_next ct__law_next), sl__law_next⟩)
    (cn__law_next : PySem.W.codeIn K cd__law_next "_law_next" = true)
    (kp__law_next : PySem.W.keepIn K (.ref f__law_next) = true)
    (l__law_one : K.lookup f__law_one = some ⟨oc__law_one, od__law_one, .func (PySem.W.fnOf "_law_one" "_law_one" (defArgs s__law_one) (defBody s__law_one) (defScope s__law_one) .none kV__law_one dc__law_one pm__law_one an__law_one cd__law_one ct__law_one), sl__law_one⟩)
    (cn__law_one : PySem.W.codeIn K cd__law_one "_law_one" = true)
    (kp__law_one : PySem.W.keepIn K (.ref f__law_one) = true)
    (l__law_signs : K.lookup f__law_signs = some ⟨oc__law_signs, od__law_signs, .func (PySem.W.fnOf "_law_signs" "_law_signs" (defArgs s__law_signs) (defBody s__law_signs) (defScope s__law_signs) .none kV__law_signs dc__law_signs pm__law_signs an__law_signs cd__law_signs ct__law_signs), sl__law_signs⟩)
    (cn__law_signs : PySem.W.codeIn K cd__law_signs "_law_signs" = true)
    (kp__law_signs : PySem.W.keepIn K (.ref f__law_signs) = true)
    (l__law_row : K.lookup f__law_row = some ⟨oc__law_row, od__law_row, .func (PySem.W.fnOf "_law_row" "_law_row" (defArgs s__law_row) (defBody s__law_row) (defScope s__law_row) .none kV__law_row dc__law_row pm__law_row an__law_row cd__law_row ct__law_row), sl__law_row⟩)
    (cn__law_row : PySem.W.codeIn K cd__law_row "_law_row" = true)
    (kp__law_row : PySem.W.keepIn K (.ref f__law_row) = true)
    (l__law_rows : K.lookup f__law_rows = some ⟨oc__law_rows, od__law_rows, .func (PySem.W.fnOf "_law_rows" "_law_rows" (defArgs s__law_rows) (defBody s__law_rows) (defScope s__law_rows) .none kV__law_rows dc__law_rows pm__law_rows an__law_rows cd__law_rows ct__law_rows), sl__law_rows⟩)
    (cn__law_rows : PySem.W.codeIn K cd__law_rows "_law_rows" = true)
    (kp__law_rows : PySem.W.keepIn K (.ref f__law_rows) = true)
    (l__law_said : K.lookup f__law_said = some ⟨oc__law_said, od__law_said, .func (PySem.W.fnOf "_law_said" "_law_said" (defArgs s__law_said) (defBody s__law_said) (defScope s__law_said) .none kV__law_said dc__law_said pm__law_said an__law_said cd__law_said ct__law_said), sl__law_said⟩)
    (cn__law_said : PySem.W.codeIn K cd__law_said "_law_said" = true)
    (kp__law_said : PySem.W.keepIn K (.ref f__law_said) = true)
    (l__law_is_number : K.lookup f__law_is_number = some ⟨oc__law_is_number, od__law_is_number, .func (PySem.W.fnOf "_law_is_number" "_law_is_number" (defArgs s__law_is_number) (defBody s__law_is_number) (defScope s__law_is_number) .none kV__law_is_number dc__law_is_number pm__law_is_number an__law_is_number cd__law_is_number ct__law_is_number), sl__law_is_number⟩)
    (cn__law_is_number : PySem.W.codeIn K cd__law_is_number "_law_is_number" = true)
    (kp__law_is_number : PySem.W.keepIn K (.ref f__law_is_number) = true)
    (l__law_is_line : K.lookup f__law_is_line = some ⟨oc__law_is_line, od__law_is_line, .func (PySem.W.fnOf "_law_is_line" "_law_is_line" (defArgs s__law_is_line) (defBody s__law_is_line) (defScope s__law_is_line) .none kV__law_is_line dc__law_is_line pm__law_is_line an__law_is_line cd__law_is_line ct__law_is_line), sl__law_is_line⟩)
    (cn__law_is_line : PySem.W.codeIn K cd__law_is_line "_law_is_line" = true)
    (kp__law_is_line : PySem.W.keepIn K (.ref f__law_is_line) = true)
    (l__law_can_begin : K.lookup f__law_can_begin = some ⟨oc__law_can_begin, od__law_can_begin, .func (PySem.W.fnOf "_law_can_begin" "_law_can_begin" (defArgs s__law_can_begin) (defBody s__law_can_begin) (defScope s__law_can_begin) .none kV__law_can_begin dc__law_can_begin pm__law_can_begin an__law_can_begin cd__law_can_begin ct__law_can_begin), sl__law_can_begin⟩)
    (cn__law_can_begin : PySem.W.codeIn K cd__law_can_begin "_law_can_begin" = true)
    (kp__law_can_begin : PySem.W.keepIn K (.ref f__law_can_begin) = true)
    (l__law_wrong : K.lookup f__law_wrong = some ⟨oc__law_wrong, od__law_wrong, .func (PySem.W.fnOf "_law_wrong" "_law_wrong" (defArgs s__law_wrong) (defBody s__law_wrong) (defScope s__law_wrong) .none kV__law_wrong dc__law_wrong pm__law_wrong an__law_wrong cd__law_wrong ct__law_wrong), sl__law_wrong⟩)
    (cn__law_wrong : PySem.W.codeIn K cd__law_wrong "_law_wrong" = true)
    (kp__law_wrong : PySem.W.keepIn K (.ref f__law_wrong) = true)
    (l__law_bent : K.lookup f__law_bent = some ⟨oc__law_bent, od__law_bent, .func (PySem.W.fnOf "_law_bent" "_law_bent" (defArgs s__law_bent) (defBody s__law_bent) (defScope s__law_bent) .none kV__law_bent dc__law_bent pm__law_bent an__law_bent cd__law_bent ct__law_bent), sl__law_bent⟩)
    (cn__law_bent : PySem.W.codeIn K cd__law_bent "_law_bent" = true)
    (kp__law_bent : PySem.W.keepIn K (.ref f__law_bent) = true)
    (l__law_deep_right : K.lookup f__law_deep_right = some ⟨oc__law_deep_right, od__law_deep_right, .func (PySem.W.fnOf "_law_deep_right" "_law_deep_right" (defArgs s__law_deep_right) (defBody s__law_deep_right) (defScope s__law_deep_right) .none kV__law_deep_right dc__law_deep_right pm__law_deep_right an__law_deep_right cd__law_deep_right ct__law_deep_right), sl__law_deep_right⟩)
    (cn__law_deep_right : PySem.W.codeIn K cd__law_deep_right "_law_deep_right" = true)
    (kp__law_deep_right : PySem.W.keepIn K (.ref f__law_deep_right) = true)
    (l_law : K.lookup f_law = some ⟨oc_law, od_law, .func (PySem.W.fnOf "law" "law" (defArgs s_law) (defBody s_law) (defScope s_law) .none kV_law dc_law pm_law an_law cd_law ct_law), sl_law⟩)
    (cn_law : PySem.W.codeIn K cd_law "law" = true)
    (kp_law : PySem.W.keepIn K (.ref f_law) = true)
    (g_MOST_ROWS : PySem.W.nsIn K mainGlobals "MOST_ROWS" = some (some (.int 200 t_MOST_ROWS)))
    (g_MOST_PARTS : PySem.W.nsIn K mainGlobals "MOST_PARTS" = some (some (.int 8 t_MOST_PARTS)))
    (g_MOST_NEST : PySem.W.nsIn K mainGlobals "MOST_NEST" = some (some (.int 8 t_MOST_NEST)))
    (g_MOST_TEXT_SIGNS : PySem.W.nsIn K mainGlobals "MOST_TEXT_SIGNS" = some (some (.int 20 t_MOST_TEXT_SIGNS)))
    (g_MOST_LINE_SIGNS : PySem.W.nsIn K mainGlobals "MOST_LINE_SIGNS" = some (some (.int 3 t_MOST_LINE_SIGNS)))
    (g_ROW_LENGTHS : PySem.W.nsIn K mainGlobals "ROW_LENGTHS" = some (some (.ref D_ROW_LENGTHS)))
    (kl_ROW_LENGTHS : K.lookup D_ROW_LENGTHS = some ⟨.type "dict", none, .dict es_ROW_LENGTHS n_ROW_LENGTHS, #[]⟩)
    (kk_ROW_LENGTHS : PySem.W.KeysLit w.params es_ROW_LENGTHS.toList)
    (kw_ROW_LENGTHS : (D_ROW_LENGTHS == sysModules) = false)
    (ks_ROW_LENGTHS : L2.keysL es_ROW_LENGTHS.toList = some (["text", "line", "hard", "cat", "nest", "align", "group"] : List Str))
    (k_ROW_LENGTHS_text : PySem.W.nsIn K D_ROW_LENGTHS "text" = some (some (.int 2 t_ROW_LENGTHS_text)))
    (k_ROW_LENGTHS_line : PySem.W.nsIn K D_ROW_LENGTHS "line" = some (some (.int 2 t_ROW_LENGTHS_line)))
    (k_ROW_LENGTHS_hard : PySem.W.nsIn K D_ROW_LENGTHS "hard" = some (some (.int 1 t_ROW_LENGTHS_hard)))
    (k_ROW_LENGTHS_cat : PySem.W.nsIn K D_ROW_LENGTHS "cat" = some (some (.int 2 t_ROW_LENGTHS_cat)))
    (k_ROW_LENGTHS_nest : PySem.W.nsIn K D_ROW_LENGTHS "nest" = some (some (.int 3 t_ROW_LENGTHS_nest)))
    (k_ROW_LENGTHS_align : PySem.W.nsIn K D_ROW_LENGTHS "align" = some (some (.int 2 t_ROW_LENGTHS_align)))
    (k_ROW_LENGTHS_group : PySem.W.nsIn K D_ROW_LENGTHS "group" = some (some (.int 2 t_ROW_LENGTHS_group)))
    (z_ArithmeticError : PySem.W.nsIn K mainGlobals "ArithmeticError" = some none)
    (z_bool : PySem.W.nsIn K mainGlobals "bool" = some none)
    (z_enumerate : PySem.W.nsIn K mainGlobals "enumerate" = some none)
    (z_int : PySem.W.nsIn K mainGlobals "int" = some none)
    (z_isinstance : PySem.W.nsIn K mainGlobals "isinstance" = some none)
    (z_len : PySem.W.nsIn K mainGlobals "len" = some none)
    (z_list : PySem.W.nsIn K mainGlobals "list" = some none)
    (z_max : PySem.W.nsIn K mainGlobals "max" = some none)
    (z_range : PySem.W.nsIn K mainGlobals "range" = some none)
    (z_repr : PySem.W.nsIn K mainGlobals "repr" = some none)
    (z_str : PySem.W.nsIn K mainGlobals "str" = some none)
    (z_tuple : PySem.W.nsIn K mainGlobals "tuple" = some none)
    (kx_str_Doc : PySem.W.kitOne K (.type "str") (.ref C_Doc) = some false)
    (kx_dict_Doc : PySem.W.kitOne K (.type "dict") (.ref C_Doc) = some false)
    (kx_Doc_str : PySem.W.kitOne K (.ref C_Doc) (.type "str") = some false)
    (cd_of_law : cd_law = .ref cc_law)
    (tab_law : PySem.W.tabIn K "law" = some (cc_law, cP_law))
    (hd_of_law : PySem.W.codeHdIn K cc_law cP_law = true)
    (no_law : K.lookup cP_law = none)
    (cd_of__law_deep_right : cd__law_deep_right = .ref cc__law_deep_right)
    (tab__law_deep_right : PySem.W.tabIn K "_law_deep_right" = some (cc__law_deep_right, cP__law_deep_right))
    (hd_of__law_deep_right : PySem.W.codeHdIn K cc__law_deep_right cP__law_deep_right = true)
    (no__law_deep_right : K.lookup cP__law_deep_right = none)
    (nt__law_deep_right : cP_law ≠ cP__law_deep_right)
    (mt__law_deep_right : cP__law_deep_right ∈ ts)
    : ∃ W fl, Txt w K mg W ∧ W.tp__law_deep_right ∈ ts ∧ cP_law ≠ W.tp__law_deep_right ∧ ∃ fd, mg "law" = some (.ref fl) ∧ Fun K "law" "law" s_law fl fd ∧ Binds K fd ["_law_script"] [] ∧ fd.code = .ref cc_law ∧ PySem.W.codeHdIn K cc_law cP_law = true ∧ K.lookup cP_law = none := by
  have F_law := fun_mk (st := s_law) l_law cn_law kp_law
  refine ⟨{ c_LayoutError := C_LayoutError, c_InvalidDoc := C_InvalidDoc, c_InvalidBound := C_InvalidBound, c_InvalidText := C_InvalidText, c_InvalidValue := C_InvalidValue, c_InvalidCall := C_InvalidCall, c_LimitExceeded := C_LimitExceeded, c_Doc := C_Doc, ROW_LENGTHS := D_ROW_LENGTHS, tc__law_deep_right := cc__law_deep_right, tp__law_deep_right := cP__law_deep_right }, f_law, {
      n_ArithmeticError := PySem.W.mg_none_of X G z_ArithmeticError,
      n_bool := PySem.W.mg_none_of X G z_bool,
      n_enumerate := PySem.W.mg_none_of X G z_enumerate,
      n_int := PySem.W.mg_none_of X G z_int,
      n_isinstance := PySem.W.mg_none_of X G z_isinstance,
      n_len := PySem.W.mg_none_of X G z_len,
      n_list := PySem.W.mg_none_of X G z_list,
      n_max := PySem.W.mg_none_of X G z_max,
      n_range := PySem.W.mg_none_of X G z_range,
      n_repr := PySem.W.mg_none_of X G z_repr,
      n_str := PySem.W.mg_none_of X G z_str,
      n_tuple := PySem.W.mg_none_of X G z_tuple,
      g_MOST_ROWS := ⟨t_MOST_ROWS, PySem.W.mg_of X G g_MOST_ROWS⟩,
      g_MOST_PARTS := ⟨t_MOST_PARTS, PySem.W.mg_of X G g_MOST_PARTS⟩,
      g_MOST_NEST := ⟨t_MOST_NEST, PySem.W.mg_of X G g_MOST_NEST⟩,
      g_MOST_TEXT_SIGNS := ⟨t_MOST_TEXT_SIGNS, PySem.W.mg_of X G g_MOST_TEXT_SIGNS⟩,
      g_MOST_LINE_SIGNS := ⟨t_MOST_LINE_SIGNS, PySem.W.mg_of X G g_MOST_LINE_SIGNS⟩,
      g_ROW_LENGTHS := PySem.W.mg_of X G g_ROW_LENGTHS,
      k_ROW_LENGTHS := ⟨_, _, kl_ROW_LENGTHS, kk_ROW_LENGTHS, kw_ROW_LENGTHS⟩,
      kt_ROW_LENGTHS := ⟨_, _, kl_ROW_LENGTHS, kw_ROW_LENGTHS, ks_ROW_LENGTHS⟩,
      k_ROW_LENGTHS_text := ⟨_, k_ROW_LENGTHS_text⟩,
      k_ROW_LENGTHS_line := ⟨_, k_ROW_LENGTHS_line⟩,
      k_ROW_LENGTHS_hard := ⟨_, k_ROW_LENGTHS_hard⟩,
      k_ROW_LENGTHS_cat := ⟨_, k_ROW_LENGTHS_cat⟩,
      k_ROW_LENGTHS_nest := ⟨_, k_ROW_LENGTHS_nest⟩,
      k_ROW_LENGTHS_align := ⟨_, k_ROW_LENGTHS_align⟩,
      k_ROW_LENGTHS_group := ⟨_, k_ROW_LENGTHS_group⟩,
      c_LayoutError := PySem.W.mg_of X G a_LayoutError,
      c_InvalidDoc := PySem.W.mg_of X G a_InvalidDoc,
      c_InvalidBound := PySem.W.mg_of X G a_InvalidBound,
      c_InvalidText := PySem.W.mg_of X G a_InvalidText,
      c_InvalidValue := PySem.W.mg_of X G a_InvalidValue,
      c_InvalidCall := PySem.W.mg_of X G a_InvalidCall,
      c_LimitExceeded := PySem.W.mg_of X G a_LimitExceeded,
      c_Doc := PySem.W.mg_of X G a_Doc,
      cl_Doc := ⟨pg_Doc, hd_Doc, po_Doc, sa_Doc⟩,
      i_Doc := ⟨i_Doc_1, i_Doc_2, i_Doc_3, i_Doc_4, kit_self, kit_not (by decide) ic_Doc tc_Doc i_Doc_6, kit_not (by decide) ic_Doc tc_Doc i_Doc_7, kit_not (by decide) ic_Doc tc_Doc i_Doc_8, i_Doc_9, i_Doc_10, i_Doc_11, i_Doc_12⟩,
      ne_Doc := ⟨f_Doc___eq__, nm_Doc, q_Doc, N_Doc, bs_Doc, sn_Doc, sub_Doc, ab_Doc, col_Doc, dd_Doc, k0_Doc, k1_Doc, k2_Doc, k3_Doc, k5_Doc, oc_Doc, od_Doc, es_Doc, n_Doc, sl_Doc, ne_Doc_1, ne_Doc_2, strKeys_of ne_Doc_3, ne_Doc_4, ne_Doc_5, fi_Doc___eq__⟩,
      na_Doc__rows := na_Doc__rows,
      na_Doc_facts := na_Doc_facts,
      na_Doc_group_facts := na_Doc_group_facts,
      f_Doc___init__ := methDef_mk (st := s_Doc___init__) fi_Doc___init__ is_Doc___init__ l_Doc___init__ cn_Doc___init__ kp_Doc___init__ (fun _ _ _ _ _ _ us hl => match us, hl with | [_, _], _ => rfl),
      f_Doc___eq__ := methDef_mk (st := s_Doc___eq__) fi_Doc___eq__ is_Doc___eq__ l_Doc___eq__ cn_Doc___eq__ kp_Doc___eq__ (fun _ _ _ _ _ _ us hl => match us, hl with | [_, _], _ => rfl),
      f_Doc_row_list := methDef_mk (st := s_Doc_row_list) fi_Doc_row_list is_Doc_row_list l_Doc_row_list cn_Doc_row_list kp_Doc_row_list (fun _ _ _ _ _ _ us hl => match us, hl with | [_], _ => rfl),
      mk_Doc := ⟨mk_Doc, kc_Doc⟩,
      e_InvalidText := ⟨PySem.W.mg_of X G a_InvalidText, ⟨⟨_, _, _, _, _, _, _, _, _, _, _, _, _, _, _, ec_InvalidText, eo_InvalidText⟩, esa_InvalidText, eex_InvalidText, ety_InvalidText, ekp_InvalidText⟩, f_InvalidText___init__, _, fi_InvalidText___init__, tyf_InvalidText___init__, fun_mk (st := s_InvalidText___init__) l_InvalidText___init__ cn_InvalidText___init__ kp_InvalidText___init__, (fun_mk (st := s_InvalidText___init__) l_InvalidText___init__ cn_InvalidText___init__ kp_InvalidText___init__).binds (fun _ _ _ _ _ _ us hl => match us, hl with | [_, _, _], _ => rfl)⟩,
      x_InvalidText := ⟨xg_InvalidText, xk_InvalidText, eex_InvalidText, xd_InvalidText, xa_InvalidText, exg_n, exg_t, xm_InvalidText⟩,
      na_InvalidText_line := na_InvalidText_line,
      na_InvalidText_sign := na_InvalidText_sign,
      exm_InvalidText := PySem.W.exm_ref sup_ex sup_hd sup_ty xs_InvalidText,
      kt_InvalidText_InvalidDoc := kt_InvalidText_InvalidDoc,
      kt_InvalidText_InvalidBound := kt_InvalidText_InvalidBound,
      kt_InvalidText_InvalidText := kit_self,
      kt_InvalidText_InvalidValue := kt_InvalidText_InvalidValue,
      kt_InvalidText_InvalidCall := kt_InvalidText_InvalidCall,
      kt_InvalidText_LimitExceeded := kt_InvalidText_LimitExceeded,
      kt_InvalidText_Arith := kt_InvalidText_Arith,
      kx_str_Doc := kx_str_Doc,
      kx_dict_Doc := kx_dict_Doc,
      kx_Doc_str := kx_Doc_str,
      sup := ⟨⟨sup_rd, sup_ga⟩, sup_at⟩,
      f__shown := topDef_mk (st := s__shown) X G fi__shown l__shown cn__shown kp__shown (fun _ _ _ _ _ _ us hl => match us, hl with | [_], _ => rfl),
      f_is_integer := topDef_mk (st := s_is_integer) X G fi_is_integer l_is_integer cn_is_integer kp_is_integer (fun _ _ _ _ _ _ us hl => match us, hl with | [_], _ => rfl),
      f_is_between := topDef_mk (st := s_is_between) X G fi_is_between l_is_between cn_is_between kp_is_between (fun _ _ _ _ _ _ us hl => match us, hl with | [_, _, _], _ => rfl),
      f_copied_row := topDef_mk (st := s_copied_row) X G fi_copied_row l_copied_row cn_copied_row kp_copied_row (fun _ _ _ _ _ _ us hl => match us, hl with | [_], _ => rfl),
      f_is_row := topDef_mk (st := s_is_row) X G fi_is_row l_is_row cn_is_row kp_is_row (fun _ _ _ _ _ _ us hl => match us, hl with | [_, _], _ => rfl),
      f__checked_rows := topDef_mk (st := s__checked_rows) X G fi__checked_rows l__checked_rows cn__checked_rows kp__checked_rows (fun _ _ _ _ _ _ us hl => match us, hl with | [_], _ => rfl),
      f__is_signs := topDef_mk (st := s__is_signs) X G fi__is_signs l__is_signs cn__is_signs kp__is_signs (fun _ _ _ _ _ _ us hl => match us, hl with | [_, _], _ => rfl),
      f__is_parts := topDef_mk (st := s__is_parts) X G fi__is_parts l__is_parts cn__is_parts kp__is_parts (fun _ _ _ _ _ _ us hl => match us, hl with | [_, _], _ => rfl),
      f_check_doc := topDef_mk (st := s_check_doc) X G fi_check_doc l_check_doc cn_check_doc kp_check_doc (fun _ _ _ _ _ _ us hl => match us, hl with | [_], _ => rfl),
      f_doc_text := topDef_mk (st := s_doc_text) X G fi_doc_text l_doc_text cn_doc_text kp_doc_text (fun _ _ _ _ _ _ us hl => match us, hl with | [_], _ => rfl),
      f_read_doc := topDef_mk (st := s_read_doc) X G fi_read_doc l_read_doc cn_read_doc kp_read_doc (fun _ _ _ _ _ _ us hl => match us, hl with | [_], _ => rfl),
      f__row_line := topDef_mk (st := s__row_line) X G fi__row_line l__row_line cn__row_line kp__row_line (fun _ _ _ _ _ _ us hl => match us, hl with | [_], _ => rfl),
      f__read_row := topDef_mk (st := s__read_row) X G fi__read_row l__read_row cn__read_row kp__read_row (fun _ _ _ _ _ _ us hl => match us, hl with | [_, _], _ => rfl),
      f__read_kind := topDef_mk (st := s__read_kind) X G fi__read_kind l__read_kind cn__read_kind kp__read_kind (fun _ _ _ _ _ _ us hl => match us, hl with | [_, _, _], _ => rfl),
      f__common_signs := topDef_mk (st := s__common_signs) X G fi__common_signs l__common_signs cn__common_signs kp__common_signs (fun _ _ _ _ _ _ us hl => match us, hl with | [_, _], _ => rfl),
      f__read_string := topDef_mk (st := s__read_string) X G fi__read_string l__read_string cn__read_string kp__read_string (fun _ _ _ _ _ _ us hl => match us, hl with | [_, _, _], _ => rfl),
      f__read_cat := topDef_mk (st := s__read_cat) X G fi__read_cat l__read_cat cn__read_cat kp__read_cat (fun _ _ _ _ _ _ us hl => match us, hl with | [_, _], _ => rfl),
      f__read_numbers := topDef_mk (st := s__read_numbers) X G fi__read_numbers l__read_numbers cn__read_numbers kp__read_numbers (fun _ _ _ _ _ _ us hl => match us, hl with | [_, _, _], _ => rfl),
      f__read_number := topDef_mk (st := s__read_number) X G fi__read_number l__read_number cn__read_number kp__read_number (fun _ _ _ _ _ _ us hl => match us, hl with | [_, _, _], _ => rfl),
      f__law_cell_at := topDef_mk (st := s__law_cell_at) X G fi__law_cell_at l__law_cell_at cn__law_cell_at kp__law_cell_at (fun _ _ _ _ _ _ us hl => match us, hl with | [_, _], _ => rfl),
      f__law_source_of := topDef_mk (st := s__law_source_of) X G fi__law_source_of l__law_source_of cn__law_source_of kp__law_source_of (fun _ _ _ _ _ _ us hl => match us, hl with | [_], _ => rfl),
      f__law_next := topDef_mk (st := s__law_next) X G fi__law_next l__law_next cn__law_next kp__law_next (fun _ _ _ _ _ _ us hl => match us, hl with | [_, _], _ => rfl),
      f__law_one := topDef_mk (st := s__law_one) X G fi__law_one l__law_one cn__law_one kp__law_one (fun _ _ _ _ _ _ us hl => match us, hl with | [_, _], _ => rfl),
      f__law_signs := topDef_mk (st := s__law_signs) X G fi__law_signs l__law_signs cn__law_signs kp__law_signs (fun _ _ _ _ _ _ us hl => match us, hl with | [_, _], _ => rfl),
      f__law_row := topDef_mk (st := s__law_row) X G fi__law_row l__law_row cn__law_row kp__law_row (fun _ _ _ _ _ _ us hl => match us, hl with | [_, _], _ => rfl),
      f__law_rows := topDef_mk (st := s__law_rows) X G fi__law_rows l__law_rows cn__law_rows kp__law_rows (fun _ _ _ _ _ _ us hl => match us, hl with | [_, _], _ => rfl),
      f__law_said := topDef_mk (st := s__law_said) X G fi__law_said l__law_said cn__law_said kp__law_said (fun _ _ _ _ _ _ us hl => match us, hl with | [_], _ => rfl),
      f__law_is_number := topDef_mk (st := s__law_is_number) X G fi__law_is_number l__law_is_number cn__law_is_number kp__law_is_number (fun _ _ _ _ _ _ us hl => match us, hl with | [_, _], _ => rfl),
      f__law_is_line := topDef_mk (st := s__law_is_line) X G fi__law_is_line l__law_is_line cn__law_is_line kp__law_is_line (fun _ _ _ _ _ _ us hl => match us, hl with | [_, _], _ => rfl),
      f__law_can_begin := topDef_mk (st := s__law_can_begin) X G fi__law_can_begin l__law_can_begin cn__law_can_begin kp__law_can_begin (fun _ _ _ _ _ _ us hl => match us, hl with | [_, _], _ => rfl),
      f__law_wrong := topDef_mk (st := s__law_wrong) X G fi__law_wrong l__law_wrong cn__law_wrong kp__law_wrong (fun _ _ _ _ _ _ us hl => match us, hl with | [_], _ => rfl),
      f__law_bent := topDef_mk (st := s__law_bent) X G fi__law_bent l__law_bent cn__law_bent kp__law_bent (fun _ _ _ _ _ _ us hl => match us, hl with | [_, _], _ => rfl),
      f__law_deep_right := topDef_mk (st := s__law_deep_right) X G fi__law_deep_right l__law_deep_right cn__law_deep_right kp__law_deep_right (fun _ _ _ _ _ _ us hl => match us, hl with | [_], _ => rfl),
      f_law := topDef_mk (st := s_law) X G fi_law l_law cn_law kp_law (fun _ _ _ _ _ _ us hl => match us, hl with | [_], _ => rfl),
      w__law_deep_right := ⟨⟨f__law_deep_right, _, PySem.W.mg_of X G fi__law_deep_right, fun_mk (st := s__law_deep_right) l__law_deep_right cn__law_deep_right kp__law_deep_right, (fun_mk (st := s__law_deep_right) l__law_deep_right cn__law_deep_right kp__law_deep_right).binds (fun _ _ _ _ _ _ us hl => match us, hl with | [_], _ => rfl), cd_of__law_deep_right⟩, hd_of__law_deep_right, no__law_deep_right⟩ }, mt__law_deep_right, nt__law_deep_right, _, PySem.W.mg_of X G fi_law, F_law, F_law.binds (fun _ _ _ _ _ _ us hl => match us, hl with | [_], _ => rfl), cd_of_law, hd_of_law, no_law⟩
theorem two {α : Type} {P : α → Prop} {a b : α} (ha : P a) (hb : P b) : ∀ p ∈ [a, b], P p := fun p hp => by
  rcases List.mem_cons.mp hp with rfl | hp
  · exact ha
  · rw [List.mem_singleton.mp hp]
    exact hb
theorem walk {l : PySem.W.OpenLaw} {q : Program} {loose : List Str} {XP : (Str → Option Value) → Heap → Prop} {YP : World → Heap → Prop} {d : DefRec} {KK : Params → PySem.W.Frag} {ts : List Addr} (hn : l.most = some 63) (hdf : d.params.defaults = []) (hname : d.name = "law")
    (hY : ∀ (w : World) (h : Heap), YP w h → (KK w.params).In h) (hT : ∀ (w : World) (h : Heap), YP w h → ∀ P ∈ ts, h.get? P = some (PySem.W.tabObj #[]))
    (F : ∀ (w : World) (mg : Str → Option Value) (h : Heap), (KK w.params).In h → h.Ns mainGlobals mg → ∃ cC cP : Addr, cP ∈ ts ∧ ∃ W fl, Txt w (KK w.params) mg W ∧ W.tp__law_deep_right ∈ ts ∧ cP ≠ W.tp__law_deep_right ∧ ∃ fd, mg "law" = some (.ref fl) ∧ Fun (KK w.params) "law" "law" s_law fl fd ∧ Binds (KK w.params) fd ["_law_script"] [] ∧
      fd.code = .ref cC ∧ PySem.W.codeHdIn (KK w.params) cC cP = true ∧ (KK w.params).lookup cP = none) :
    PySem.W.WalkO q loose XP YP l.row.toRowW d [] (fun f vs => PySem.call f vs) :=
  walk_ofTs (n := 63) (k := 14) (x := "_law_script") (K := KK) (CX := fun _ => CX0) hn (by decide) hdf ⟨rfl, by decide, by decide⟩ hY (fun w mg fa h Y KX G hmg => by
    obtain ⟨cC, cP, hm, W, fl, T, hmD, hne, fd, h1, h2, h3, hc, hh, hno⟩ := F w mg h KX G
    rw [hname, h1] at hmg
    cases hmg
    have wD := T.w__law_deep_right
    refine ⟨fd, [(cC, cP), (W.tc__law_deep_right, W.tp__law_deep_right)], sp_law (KK w.params) cP W.tp__law_deep_right, two (hT w h Y cP hm) (hT w h Y _ hmD), two hno wD.no, two (PySem.W.codeHd_of_K KX hh) (PySem.W.codeHd_of_K KX wD.code), fun s u => ?_, fun H a ns hl _ ht hS => ?_, fun base _ _ TB => ?_⟩
    · obtain ⟨oc, od, kV, doc, pm, an, cdv, ct, osl, rfl, _, _⟩ := h2.ex
      exact .of_eq rfl
    · exact ⟨a, ns, rfl, hS, hl, two (TabS.nil (ht _ List.mem_cons_self)) (TabS.nil (ht _ (List.mem_cons_of_mem _ List.mem_cons_self))), fun _ => rfl⟩
    · exact fn_law T hne (TB _ List.mem_cons_self) (TB _ (List.mem_cons_of_mem _ List.mem_cons_self)) h2 hc)
    fun _ _ _ _ _ h => h
end Lw

open PySem PySem.W PyProof.Rows in
set_option maxRecDepth 100000 in
set_option maxHeartbeats 0 in
theorem PySem.Challenge.cw_farlayout_k04_texts_that_are_none_holds : PySem.Challenge.rw_farlayout_k04_texts_that_are_none.Holds := by
  w_on; o_law; k_head; (case hw => w_witness2)
  k_fill
  refine Lw.walk (l := PySem.Challenge.rw_farlayout_k04_texts_that_are_none) rfl rfl rfl (fun w h Y => PySem.W.km_in_of Y) (fun w h Y => PySem.W.km_tabs_of Y) ?F
  case F =>
    intro w mg h KX G
    refine' ⟨_, _, ?mem, Lw.all_mk (w := w) KX G ?a_LayoutError ?a_InvalidDoc ?a_InvalidBound ?a_InvalidText ?a_InvalidValue ?a_InvalidCall ?a_LimitExceeded ?a_Doc ?fi_Doc___init__ ?fi_Doc___eq__ ?fi_Doc_row_list ?fi_InvalidText___init__ ?fi__shown ?fi_is_integer ?fi_is_between ?fi_copied_row ?fi_is_row ?fi__checked_rows ?fi__is_signs ?fi__is_parts ?fi_check_doc ?fi_doc_text ?fi_read_doc ?fi__row_line ?fi__read_row ?fi__read_kind ?fi__common_signs ?fi__read_string ?fi__read_cat ?fi__read_numbers ?fi__read_number ?fi__law_cell_at ?fi__law_source_of ?fi__law_next ?fi__law_one ?fi__law_signs ?fi__law_row ?fi__law_rows ?fi__law_said ?fi__law_is_number ?fi__law_is_line ?fi__law_can_begin ?fi__law_wrong ?fi__law_bent ?fi__law_deep_right ?fi_law ?pg_Doc ?hd_Doc ?po_Doc ?sa_Doc ?mk_Doc ?kc_Doc ?na_Doc__rows ?na_Doc_facts ?na_Doc_group_facts ?i_Doc_1 ?i_Doc_2 ?i_Doc_3 ?i_Doc_4 ?ic_Doc ?tc_Doc ?i_Doc_6 ?i_Doc_7 ?i_Doc_8 ?i_Doc_9 ?i_Doc_10 ?i_Doc_11 ?i_Doc_12 ?ne_Doc_1 ?ne_Doc_2 ?ne_Doc_3 ?ne_Doc_4 ?ne_Doc_5 ?is_Doc___init__ ?l_Doc___init__ ?cn_Doc___init__ ?kp_Doc___init__ ?is_Doc___eq__ ?l_Doc___eq__ ?cn_Doc___eq__ ?kp_Doc___eq__ ?is_Doc_row_list ?l_Doc_row_list ?cn_Doc_row_list ?kp_Doc_row_list ?sup_rd ?sup_ga ?sup_at ?sup_ex ?sup_hd ?sup_ty ?exg_n ?exg_t ?ec_InvalidText ?eo_InvalidText ?esa_InvalidText ?eex_InvalidText ?ety_InvalidText ?ekp_InvalidText ?xg_InvalidText ?xk_InvalidText ?xd_InvalidText ?xa_InvalidText ?xm_InvalidText ?xs_InvalidText ?kt_InvalidText_Arith ?na_InvalidText_line ?na_InvalidText_sign ?kt_InvalidText_InvalidDoc ?kt_InvalidText_InvalidBound ?kt_InvalidText_InvalidValue ?kt_InvalidText_InvalidCall ?kt_InvalidText_LimitExceeded ?l_InvalidText___init__ ?cn_InvalidText___init__ ?kp_InvalidText___init__ ?tyf_InvalidText___init__ ?l__shown ?cn__shown ?kp__shown ?l_is_integer ?cn_is_integer ?kp_is_integer ?l_is_between ?cn_is_between ?kp_is_between ?l_copied_row ?cn_copied_row ?kp_copied_row ?l_is_row ?cn_is_row ?kp_is_row ?l__checked_rows ?cn__checked_rows ?kp__checked_rows ?l__is_signs ?cn__is_signs ?kp__is_signs ?l__is_parts ?cn__is_parts ?kp__is_parts ?l_check_doc ?cn_check_doc ?kp_check_doc ?l_doc_text ?cn_doc_text ?kp_doc_text ?l_read_doc ?cn_read_doc ?kp_read_doc ?l__row_line ?cn__row_line ?kp__row_line ?l__read_row ?cn__read_row ?kp__read_row ?l__read_kind ?cn__read_kind ?kp__read_kind ?l__common_signs ?cn__common_signs ?kp__common_signs ?l__read_string ?cn__read_string ?kp__read_string ?l__read_cat ?cn__read_cat ?kp__read_cat ?l__read_numbers ?cn__read_numbers ?kp__read_numbers ?l__read_number ?cn__read_number ?kp__read_number ?l__law_cell_at ?cn__law_cell_at ?kp__law_cell_at ?l__law_source_of ?cn__law_source_of ?kp__law_source_of ?l__law_next ?cn__law_next ?kp__law_next ?l__law_one ?cn__law_one ?kp__law_one ?l__law_signs ?cn__law_signs ?kp__law_signs ?l__law_row ?cn__law_row ?kp__law_row ?l__law_rows ?cn__law_rows ?kp__law_rows ?l__law_said ?cn__law_said ?kp__law_said ?l__law_is_number ?cn__law_is_number ?kp__law_is_number ?l__law_is_line ?cn__law_is_line ?kp__law_is_line ?l__law_can_begin ?cn__law_can_begin ?kp__law_can_begin ?l__law_wrong ?cn__law_wrong ?kp__law_wrong ?l__law_bent ?cn__law_bent ?kp__law_bent ?l__law_deep_right ?cn__law_deep_right ?kp__law_deep_right ?l_law ?cn_law ?kp_law ?g_MOST_ROWS ?g_MOST_PARTS ?g_MOST_NEST ?g_MOST_TEXT_SIGNS ?g_MOST_LINE_SIGNS ?g_ROW_LENGTHS ?kl_ROW_LENGTHS ?kk_ROW_LENGTHS ?kw_ROW_LENGTHS ?ks_ROW_LENGTHS ?k_ROW_LENGTHS_text ?k_ROW_LENGTHS_line ?k_ROW_LENGTHS_hard ?k_ROW_LENGTHS_cat ?k_ROW_LENGTHS_nest ?k_ROW_LENGTHS_align ?k_ROW_LENGTHS_group ?z_ArithmeticError ?z_bool ?z_enumerate ?z_int ?z_isinstance ?z_len ?z_list ?z_max ?z_range ?z_repr ?z_str ?z_tuple ?kx_str_Doc ?kx_dict_Doc ?kx_Doc_str ?cd_of_law ?tab_law ?hd_of_law ?no_law ?cd_of__law_deep_right ?tab__law_deep_right ?hd_of__law_deep_right ?no__law_deep_right ?nt__law_deep_right ?mt__law_deep_right⟩
    (case a_LayoutError => k_is)
    (case a_InvalidDoc => k_is)
    (case a_InvalidBound => k_is)
    (case a_InvalidText => k_is)
    (case a_InvalidValue => k_is)
    (case a_InvalidCall => k_is)
    (case a_LimitExceeded => k_is)
    (case a_Doc => k_is)
    (case fi_Doc___init__ => k_is)
    (case fi_Doc___eq__ => k_is)
    (case fi_Doc_row_list => k_is)
    (case fi_InvalidText___init__ => k_is)
    (case fi__shown => k_is)
    (case fi_is_integer => k_is)
    (case fi_is_between => k_is)
    (case fi_copied_row => k_is)
    (case fi_is_row => k_is)
    (case fi__checked_rows => k_is)
    (case fi__is_signs => k_is)
    (case fi__is_parts => k_is)
    (case fi_check_doc => k_is)
    (case fi_doc_text => k_is)
    (case fi_read_doc => k_is)
    (case fi__row_line => k_is)
    (case fi__read_row => k_is)
    (case fi__read_kind => k_is)
    (case fi__common_signs => k_is)
    (case fi__read_string => k_is)
    (case fi__read_cat => k_is)
    (case fi__read_numbers => k_is)
    (case fi__read_number => k_is)
    (case fi__law_cell_at => k_is)
    (case fi__law_source_of => k_is)
    (case fi__law_next => k_is)
    (case fi__law_one => k_is)
    (case fi__law_signs => k_is)
    (case fi__law_row => k_is)
    (case fi__law_rows => k_is)
    (case fi__law_said => k_is)
    (case fi__law_is_number => k_is)
    (case fi__law_is_line => k_is)
    (case fi__law_can_begin => k_is)
    (case fi__law_wrong => k_is)
    (case fi__law_bent => k_is)
    (case fi__law_deep_right => k_is)
    (case fi_law => k_is)
    (case pg_Doc => k_is)
    (case hd_Doc => k_is)
    (case po_Doc => k_is)
    (case sa_Doc => k_is)
    (case mk_Doc => k_is)
    (case kc_Doc => k_is)
    (case na_Doc__rows => k_is)
    (case na_Doc_facts => k_is)
    (case na_Doc_group_facts => k_is)
    (case i_Doc_1 => k_is)
    (case i_Doc_2 => k_is)
    (case i_Doc_3 => k_is)
    (case i_Doc_4 => k_is)
    (case ic_Doc => k_is)
    (case tc_Doc => k_is)
    (case i_Doc_6 => k_is)
    (case i_Doc_7 => k_is)
    (case i_Doc_8 => k_is)
    (case i_Doc_9 => k_is)
    (case i_Doc_10 => k_is)
    (case i_Doc_11 => k_is)
    (case i_Doc_12 => k_is)
    (case ne_Doc_1 => k_is)
    (case ne_Doc_2 => k_is)
    (case ne_Doc_3 => k_keys)
    (case ne_Doc_4 => k_is)
    (case ne_Doc_5 => k_is)
    (case is_Doc___init__ => k_is)
    (case l_Doc___init__ => k_is)
    (case cn_Doc___init__ => k_is)
    (case kp_Doc___init__ => k_is)
    (case is_Doc___eq__ => k_is)
    (case l_Doc___eq__ => k_is)
    (case cn_Doc___eq__ => k_is)
    (case kp_Doc___eq__ => k_is)
    (case is_Doc_row_list => k_is)
    (case l_Doc_row_list => k_is)
    (case cn_Doc_row_list => k_is)
    (case kp_Doc_row_list => k_is)
    (case sup_rd => k_is)
    (case sup_ga => k_is)
    (case sup_at => k_is)
    (case sup_ex => k_is)
    (case sup_hd => k_is)
    (case sup_ty => k_is)
    (case exg_n => k_is)
    (case exg_t => k_is)
    (case ec_InvalidText => k_is)
    (case eo_InvalidText => rfl)
    (case esa_InvalidText => k_is)
    (case eex_InvalidText => k_is)
    (case ety_InvalidText => k_is)
    (case ekp_InvalidText => k_is)
    (case xg_InvalidText => k_is)
    (case xk_InvalidText => k_is)
    (case xd_InvalidText => k_is)
    (case xa_InvalidText => k_is)
    (case xm_InvalidText => k_is)
    (case xs_InvalidText => k_is)
    (case kt_InvalidText_Arith => first | k_is | decide +kernel | kernel_rfl)
    (case na_InvalidText_line => k_is)
    (case na_InvalidText_sign => k_is)
    (case kt_InvalidText_InvalidDoc => first | k_is | decide +kernel | kernel_rfl)
    (case kt_InvalidText_InvalidBound => first | k_is | decide +kernel | kernel_rfl)
    (case kt_InvalidText_InvalidValue => first | k_is | decide +kernel | kernel_rfl)
    (case kt_InvalidText_InvalidCall => first | k_is | decide +kernel | kernel_rfl)
    (case kt_InvalidText_LimitExceeded => first | k_is | decide +kernel | kernel_rfl)
    (case l_InvalidText___init__ => k_is)
    (case cn_InvalidText___init__ => k_is)
    (case kp_InvalidText___init__ => k_is)
    (case tyf_InvalidText___init__ => k_is)
    (case l__shown => k_is)
    (case cn__shown => k_is)
    (case kp__shown => k_is)
    (case l_is_integer => k_is)
    (case cn_is_integer => k_is)
    (case kp_is_integer => k_is)
    (case l_is_between => k_is)
    (case cn_is_between => k_is)
    (case kp_is_between => k_is)
    (case l_copied_row => k_is)
    (case cn_copied_row => k_is)
    (case kp_copied_row => k_is)
    (case l_is_row => k_is)
    (case cn_is_row => k_is)
    (case kp_is_row => k_is)
    (case l__checked_rows => k_is)
    (case cn__checked_rows => k_is)
    (case kp__checked_rows => k_is)
    (case l__is_signs => k_is)
    (case cn__is_signs => k_is)
    (case kp__is_signs => k_is)
    (case l__is_parts => k_is)
    (case cn__is_parts => k_is)
    (case kp__is_parts => k_is)
    (case l_check_doc => k_is)
    (case cn_check_doc => k_is)
    (case kp_check_doc => k_is)
    (case l_doc_text => k_is)
    (case cn_doc_text => k_is)
    (case kp_doc_text => k_is)
    (case l_read_doc => k_is)
    (case cn_read_doc => k_is)
    (case kp_read_doc => k_is)
    (case l__row_line => k_is)
    (case cn__row_line => k_is)
    (case kp__row_line => k_is)
    (case l__read_row => k_is)
    (case cn__read_row => k_is)
    (case kp__read_row => k_is)
    (case l__read_kind => k_is)
    (case cn__read_kind => k_is)
    (case kp__read_kind => k_is)
    (case l__common_signs => k_is)
    (case cn__common_signs => k_is)
    (case kp__common_signs => k_is)
    (case l__read_string => k_is)
    (case cn__read_string => k_is)
    (case kp__read_string => k_is)
    (case l__read_cat => k_is)
    (case cn__read_cat => k_is)
    (case kp__read_cat => k_is)
    (case l__read_numbers => k_is)
    (case cn__read_numbers => k_is)
    (case kp__read_numbers => k_is)
    (case l__read_number => k_is)
    (case cn__read_number => k_is)
    (case kp__read_number => k_is)
    (case l__law_cell_at => k_is)
    (case cn__law_cell_at => k_is)
    (case kp__law_cell_at => k_is)
    (case l__law_source_of => k_is)
    (case cn__law_source_of => k_is)
    (case kp__law_source_of => k_is)
    (case l__law_next => k_is)
    (case cn__law_next => k_is)
    (case kp__law_next => k_is)
    (case l__law_one => k_is)
    (case cn__law_one => k_is)
    (case kp__law_one => k_is)
    (case l__law_signs => k_is)
    (case cn__law_signs => k_is)
    (case kp__law_signs => k_is)
    (case l__law_row => k_is)
    (case cn__law_row => k_is)
    (case kp__law_row => k_is)
    (case l__law_rows => k_is)
    (case cn__law_rows => k_is)
    (case kp__law_rows => k_is)
    (case l__law_said => k_is)
    (case cn__law_said => k_is)
    (case kp__law_said => k_is)
    (case l__law_is_number => k_is)
    (case cn__law_is_number => k_is)
    (case kp__law_is_number => k_is)
    (case l__law_is_line => k_is)
    (case cn__law_is_line => k_is)
    (case kp__law_is_line => k_is)
    (case l__law_can_begin => k_is)
    (case cn__law_can_begin => k_is)
    (case kp__law_can_begin => k_is)
    (case l__law_wrong => k_is)
    (case cn__law_wrong => k_is)
    (case kp__law_wrong => k_is)
    (case l__law_bent => k_is)
    (case cn__law_bent => k_is)
    (case kp__law_bent => k_is)
    (case l__law_deep_right => k_is)
    (case cn__law_deep_right => k_is)
    (case kp__law_deep_right => k_is)
    (case l_law => k_is)
    (case cn_law => k_is)
    (case kp_law => k_is)
    (case g_MOST_ROWS => k_is)
    (case g_MOST_PARTS => k_is)
    (case g_MOST_NEST => k_is)
    (case g_MOST_TEXT_SIGNS => k_is)
    (case g_MOST_LINE_SIGNS => k_is)
    (case g_ROW_LENGTHS => k_is)
    (case kl_ROW_LENGTHS => k_is)
    (case kk_ROW_LENGTHS => k_keys)
    (case kw_ROW_LENGTHS => decide)
    (case ks_ROW_LENGTHS => rfl)
    (case k_ROW_LENGTHS_text => k_is)
    (case k_ROW_LENGTHS_line => k_is)
    (case k_ROW_LENGTHS_hard => k_is)
    (case k_ROW_LENGTHS_cat => k_is)
    (case k_ROW_LENGTHS_nest => k_is)
    (case k_ROW_LENGTHS_align => k_is)
    (case k_ROW_LENGTHS_group => k_is)
    (case z_ArithmeticError => k_is)
    (case z_bool => k_is)
    (case z_enumerate => k_is)
    (case z_int => k_is)
    (case z_isinstance => k_is)
    (case z_len => k_is)
    (case z_list => k_is)
    (case z_max => k_is)
    (case z_range => k_is)
    (case z_repr => k_is)
    (case z_str => k_is)
    (case z_tuple => k_is)
    (case kx_str_Doc => first | k_is | decide +kernel | kernel_rfl)
    (case kx_dict_Doc => first | k_is | decide +kernel | kernel_rfl)
    (case kx_Doc_str => first | k_is | decide +kernel | kernel_rfl)
    (case cd_of_law => rfl)
    (case tab_law => first | k_is | rfl | kernel_rfl)
    (case hd_of_law => first | k_is | rfl | kernel_rfl)
    (case no_law => first | k_is | rfl | kernel_rfl)
    (case cd_of__law_deep_right => rfl)
    (case tab__law_deep_right => first | k_is | rfl | kernel_rfl)
    (case hd_of__law_deep_right => first | k_is | rfl | kernel_rfl)
    (case no__law_deep_right => first | k_is | rfl | kernel_rfl)
    (case nt__law_deep_right => decide)
    (case mt__law_deep_right => first | exact List.mem_cons_self | decide | k_mem)
    (case mem => first | exact List.mem_cons_self | decide | k_mem)
