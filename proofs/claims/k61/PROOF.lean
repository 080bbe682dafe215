import PyProof.Rows.All
import Wide.All
import OpenK.AllK
import Wide.FinOn
import HandS.ForMost
import HandS.IsInst
import HandS.OwnEq
import HandS.More
import HandS.Text
import HandS.Conv
import HandS.Evl
import HandS.MakeKwOnly
import PyProof.ListStr
import PyProof.ReprRoads
import PyProof.Rows.PlainNe
import PyProof.InstNe
import HandS.Walk
import HandS.Iter
import HandS.RaiseMore
import HandS.Defaults
import HandS.ForExc
import HandS.ExcInit
import HandS.ExcIs
import HandS.ExcField
import HandS.ClsMeth
import HandS.FStr
import KE.KExcInit
import HandS.Lambda
import HandS.EndTab
import HandS.SetFor
import KE.KNestM
import HandS.Style
import HandS.Flow
import HandS.Dict
import HandS.Zip
import HandS.List
import KE.KeyNested
import PyProof.DictRoadsH
import HandS.TupLen
import HandS.Finally
import HandS.Wide
import KE.KDictCopyH
import HandS.StrMore
import PySem.Challenge.RW_farlayout_k61_known_rewritings
set_option Elab.async false
set_option linter.all false
set_option maxRecDepth 100000
/-! Views: a part of the abstract heap of which facts are told; what is made is added to it, what is changed lies outside. -/
namespace VW
open PySem L2

structure Gr (S : Addr → Prop) (V H V' H' : Hp) : Prop where
  v : Same V V'
  s : Same V' H'
  k : ∀ b o, ¬ S b → H b = some o → H' b = some o
  n : ∀ b, H b ≠ none → H' b ≠ none ∧ V' b = V b

abbrev S0 : Addr → Prop := fun _ => False

theorem some_ne {x : Option HO} {o : HO} (h : x = some o) : x ≠ none := by rw [h]; exact fun z => nomatch z
section
variable {S S' : Addr → Prop} {V H V' H' V2 H2 : Hp} {p a : Addr} {o : HO}

theorem Gr.refl (h : Same V H) : Gr S V H V H := ⟨Same.refl _, h, fun _ _ _ e => e, fun _ e => ⟨e, rfl⟩⟩
theorem Gr.trans (a : Gr S V H V' H') (b : Gr S V' H' V2 H2) : Gr S V H V2 H2 :=
  ⟨a.v.trans b.v, b.s, fun x o hx e => b.k x o hx (a.k x o hx e), fun x e => ⟨(b.n x (a.n x e).1).1, ((b.n x (a.n x e).1).2).trans (a.n x e).2⟩⟩
theorem Gr.back (g : Gr S V H V' H') : Gr S V H V H' := ⟨Same.refl _, g.v.trans g.s, g.k, fun x e => ⟨(g.n x e).1, rfl⟩⟩
theorem Gr.weak (hS : ∀ b, S b → S' b) (g : Gr S V H V' H') : Gr S' V H V' H' := ⟨g.v, g.s, fun b o hb e => g.k b o (fun z => hb (hS b z)) e, g.n⟩
theorem Gr.of0 (g : Gr S0 V H V' H') : Gr S V H V' H' := g.weak fun _ z => z.elim
theorem Gr.same (g : Gr S0 V H V' H') : Same H H' := fun b o e => g.k b o (fun z => z) e
theorem Gr.free (g : Gr S V H V' H') (h : H' p = none) : H p = none := by
  cases e : H p with
  | none => rfl
  | some o => exact absurd h (g.n p (by rw [e]; exact fun z => nomatch z)).1
theorem vfree (s : Same V H) (h : H p = none) : V p = none := s.free h
/-- a new object, told of -/
theorem Gr.new (g : Gr S V H V' H') (h : H' p = none) : Gr S V H (upd V' p o) (upd H' p o) := by
  refine ⟨fun b u e => ?_, fun b u e => ?_, fun b u hb e => ?_, fun b e => ?_⟩
  · have q := g.v b u e
    rw [upd_ne (ne_of_none (g.s b u q) h)]
    exact q
  · by_cases hb : b = p
    · subst hb
      rw [upd_same] at e ⊢
      exact e
    · rw [upd_ne hb] at e ⊢
      exact g.s b u e
  · have q := g.k b u hb e
    rw [upd_ne (ne_of_none q h)]
    exact q
  · have hb : b ≠ p := fun z => by
      subst z
      exact e (g.free h)
    rw [upd_ne hb, upd_ne hb]
    exact g.n b e
/-- a new object, not told of -/
theorem Gr.newH (g : Gr S V H V' H') (h : H' p = none) : Gr S V H V' (upd H' p o) := by
  refine ⟨g.v, fun b u e => ?_, fun b u hb e => ?_, fun b e => ?_⟩
  · have q := g.s b u e
    rw [upd_ne (ne_of_none q h)]
    exact q
  · have q := g.k b u hb e
    rw [upd_ne (ne_of_none q h)]
    exact q
  · have hb : b ≠ p := fun z => by
      subst z
      exact e (g.free h)
    rw [upd_ne hb]
    exact g.n b e
/-- what is outside of the view is changed -/
theorem Gr.mut (g : Gr S V H V' H') (hS : S p ∨ H p = none) (hv : V' p = none) : Gr S V H V' (upd H' p o) := by
  refine ⟨g.v, fun b u e => ?_, fun b u hb e => ?_, fun b e => ⟨?_, (g.n b e).2⟩⟩
  · have hb : b ≠ p := fun z => by
      subst z
      rw [hv] at e
      cases e
    rw [upd_ne hb]
    exact g.s b u e
  · have hbp : b ≠ p := fun z => by
      subst z
      rcases hS with hS | hS
      · exact hb hS
      · rw [hS] at e
        cases e
    rw [upd_ne hbp]
    exact g.k b u hb e
  · by_cases hb : b = p
    · subst hb
      rw [upd_same]
      exact fun z => nomatch z
    · rw [upd_ne hb]
      exact (g.n b e).1
/-- what was outside is told of from now on: p is new since H -/
theorem Gr.tell (g : Gr S V H V' H') (h0 : H p = none) (h : H' p = some o) (hv : V' p = none) : Gr S V H (upd V' p o) H' := by
  refine ⟨fun b u e => ?_, fun b u e => ?_, g.k, fun b e => ⟨(g.n b e).1, ?_⟩⟩
  · have q := g.v b u e
    rw [upd_ne (ne_of_none q hv)]
    exact q
  · by_cases hb : b = p
    · subst hb
      rw [upd_same] at e
      rw [h]
      exact e
    · rw [upd_ne hb] at e
      exact g.s b u e
  · have hb : b ≠ p := fun z => by
      subst z
      exact e h0
    rw [upd_ne hb]
    exact (g.n b e).2
theorem Gr.grow (g : Gr S V H V' H') (e : Same H' H2) : Gr S V H V' H2 :=
  ⟨g.v, g.s.trans e, fun b o hb q => e b o (g.k b o hb q), fun b q => ⟨(by
    cases z : H' b with
    | none => exact absurd z (g.n b q).1
    | some o => exact some_ne (e b o z)), (g.n b q).2⟩⟩
/-- all that is new is told of, but for M -/
noncomputable def allU (M : Addr → Prop) (H H' V' : Hp) : Hp := by
  classical exact fun b => if H b = none ∧ ¬ M b then H' b else V' b
theorem allU_new {M : Addr → Prop} (h : H p = none) (hM : ¬ M p) : allU M H H' V' p = H' p := by
  unfold allU
  exact if_pos ⟨h, hM⟩
theorem allU_old {M : Addr → Prop} (h : H p ≠ none) : allU M H H' V' p = V' p := by
  unfold allU
  exact if_neg fun z => h z.1
theorem allU_M {M : Addr → Prop} (h : M p) : allU M H H' V' p = V' p := by
  unfold allU
  exact if_neg fun z => z.2 h
theorem Gr.all (M : Addr → Prop) (h0 : Same V H) (g : Gr S V H V' H') : Gr S V H (allU M H H' V') H' := by
  refine ⟨fun b o e => ?_, fun b o e => ?_, g.k, fun b e => ⟨(g.n b e).1, (allU_old e).trans (g.n b e).2⟩⟩
  · rw [allU_old (some_ne (h0 b o e))]
    exact g.v b o e
  · by_cases hb : H b = none
    · by_cases hM : M b
      · rw [allU_M hM] at e
        exact g.s b o e
      · rw [allU_new hb hM] at e
        exact e
    · rw [allU_old hb] at e
      exact g.s b o e
theorem Gr.allSame (M : Addr → Prop) (g : Gr S V H V' H') : Same V' (allU M H H' V') := fun b o e => by
  by_cases hb : H b = none
  · by_cases hM : M b
    · rw [allU_M hM]
      exact e
    · rw [allU_new hb hM]
      exact g.s b o e
  · rw [allU_old hb]
    exact e
/-- what was made first and changed afterwards is new -/
theorem Gr.under (hD : H p = none) (g : Gr (fun b => b = p) V (upd H p o) V' H') : Gr S V H V' H' := by
  refine ⟨g.v, g.s, fun b u _ e => ?_, fun b e => ?_⟩
  · have hb := ne_of_none e hD
    exact g.k b u hb (by rw [upd_ne hb]; exact e)
  · have hb : b ≠ p := fun z => e (by rw [z]; exact hD)
    exact g.n b (by rw [upd_ne hb]; exact e)
theorem Gr.out (g : Gr S V H V' H') (h : H p ≠ none) (hv : V p = none) : V' p = none := (g.n p h).2.trans hv
theorem Gr.there (g : Gr S V H V' H') (h : H p ≠ none) : H' p ≠ none := (g.n p h).1
end

section
variable {K : PySem.W.Frag} {H H' : Hp}
theorem rdS {a : Addr} {u : HO} (e : Same H H') (h : Rd H a u) : Rd H' a u := by
  rcases h with h | ⟨o, h⟩
  · exact Or.inl (e a _ h)
  · exact Or.inr ⟨o, e a _ h⟩
theorem sqlS {a : Addr} {xs : List V} (e : Same H H') (h : SqL K H a xs) : SqL K H' a xs := e.seq h
theorem sqtS {a : Addr} {xs : List V} (e : Same H H') (h : SqT K H a xs) : SqT K H' a xs := by
  rcases h with h | h
  · exact Or.inl (rdS e h)
  · exact Or.inr h
theorem sqlO {a : Addr} {xs : List V} (h : H a = some (.lst xs)) : SqL K H a xs := Or.inl (Or.inl h)
theorem sqtO {a : Addr} {xs : List V} (h : H a = some (.tup xs)) : SqT K H a xs := Or.inl (Or.inl h)
mutual
theorem dpS (e : Same H H') : ∀ {d : PyData} {v : V}, Dp K H v d → Dp K H' v d
  | .none, _, h => by cases h; exact .non
  | .bool _, _, h => by cases h; exact .bl _
  | .int _, _, h => by cases h; exact .int _
  | .str _, _, h => by cases h; exact .str _
  | .list _, _, h => by
    cases h with
    | lst hs ha => exact .lst (sqlS e hs) (dpsS e ha)
  | .tuple _, _, h => by
    cases h with
    | tup hs ha => exact .tup (sqtS e hs) (dpsS e ha)
  | .dict _, _, h => by cases h
theorem dpsS (e : Same H H') : ∀ {ds : List PyData} {vs : List V}, DpAll K H vs ds → DpAll K H' vs ds
  | [], _, h => by cases h; exact .nil
  | _ :: _, _, h => by
    cases h with
    | cons h1 h2 => exact .cons (dpS e h1) (dpsS e h2)
end
theorem dps_length : ∀ {ds : List PyData} {vs : List V}, DpAll K H vs ds → vs.length = ds.length
  | [], _, h => by cases h; rfl
  | _ :: _, _, h => by
    cases h with
    | cons h1 h2 => rw [List.length_cons, List.length_cons, dps_length h2]
theorem dps_get : ∀ {ds : List PyData} {vs : List V} {i : Nat} {v : V}, DpAll K H vs ds → vs[i]? = some v → ∃ d, ds[i]? = some d ∧ Dp K H v d
  | [], _, i, v, h, e => by cases h; simp at e
  | d :: ds, _, 0, v, h, e => by
    cases h with
    | cons h1 h2 =>
      simp at e
      subst e
      exact ⟨d, by simp, h1⟩
  | d :: ds, _, i + 1, v, h, e => by
    cases h with
    | cons h1 h2 =>
      simp at e
      obtain ⟨d', q1, q2⟩ := dps_get h2 e
      exact ⟨d', by simpa using q1, q2⟩
theorem dps_append {vs ws : List V} {ds es : List PyData} (h : DpAll K H vs ds) (h2 : DpAll K H ws es) : DpAll K H (vs ++ ws) (ds ++ es) := by
  induction vs generalizing ds with
  | nil => cases h; exact h2
  | cons v vs ih =>
    cases h with
    | cons h1 h3 => exact .cons h1 (ih h3)
theorem dps_take {vs : List V} {ds : List PyData} (n : Nat) (h : DpAll K H vs ds) : DpAll K H (vs.take n) (ds.take n) := by
  induction vs generalizing ds n with
  | nil => cases h; simp; exact .nil
  | cons v vs ih =>
    cases h with
    | cons h1 h3 =>
      cases n with
      | zero => exact .nil
      | succ n => exact .cons h1 (ih n h3)
theorem dps_drop {vs : List V} {ds : List PyData} (n : Nat) (h : DpAll K H vs ds) : DpAll K H (vs.drop n) (ds.drop n) := by
  induction vs generalizing ds n with
  | nil => cases h; simp; exact .nil
  | cons v vs ih =>
    cases h with
    | cons h1 h3 =>
      cases n with
      | zero => exact .cons h1 h3
      | succ n => exact ih n h3
theorem dps_ints (ns : List Int) : DpAll K H (ns.map V.int) (ns.map PyData.int) := by
  induction ns with
  | nil => exact .nil
  | cons n ns ih => exact .cons (.int n) ih
theorem dps_of_ints {vs : List V} {ns : List Int} (h : DpAll K H vs (ns.map PyData.int)) : vs = ns.map V.int := by
  induction ns generalizing vs with
  | nil => cases h; rfl
  | cons n ns ih =>
    cases h with
    | cons h1 h2 =>
      cases h1
      rw [ih h2]
      rfl
end
theorem same_new {H : Hp} {p : Addr} {o : HO} (h : H p = none) : Same H (upd H p o) := fun b u e => by rw [upd_ne (ne_of_none e h)]; exact e
/-- all but s -/
noncomputable def hide (s : Addr) (H : Hp) : Hp := by
  classical exact fun b => if b = s then none else H b
theorem hide_at {s : Addr} {H : Hp} : hide s H s = none := by
  unfold hide
  exact if_pos rfl
theorem hide_ne {s b : Addr} {H : Hp} (h : b ≠ s) : hide s H b = H b := by
  unfold hide
  exact if_neg h
theorem hide_same {s : Addr} {H : Hp} : Same (hide s H) H := fun b o e => by
  by_cases h : b = s
  · rw [h, hide_at] at e
    cases e
  · rw [hide_ne h] at e
    exact e
theorem hide_in {s : Addr} {U H : Hp} (h : Same U H) (hs : U s = none) : Same U (hide s H) := fun b o e => by
  have hb : b ≠ s := fun z => by
    rw [z, hs] at e
    cases e
  rw [hide_ne hb]
  exact h b o e
end VW

/-! More rules over the hand layer: a def by its name, list(text), repr(data), w.get(k) of a written dict, == and != by an own __eq__. -/
namespace L2
open PySem PySem.Spec PyProof.Rows

/-! ### a def of the text, by its name -/
structure DefOk (P : Program) (w : World) (K : PySem.W.Frag) (mg : Str → Option Value) (base : Heap) (x : Str) (st : Stmt) (ps : List Str) (k : Nat) (sp : Sp) : Prop where
  ex : ∃ f fd, mg x = some (.ref f) ∧ Fun K x x st f fd ∧ Binds K fd ps [] ∧ FnOk P w K mg base CX0 k f fd ps sp
structure TopDef (K : PySem.W.Frag) (mg : Str → Option Value) (x : Str) (st : Stmt) (ps : List Str) : Prop where
  ex : ∃ f fd, mg x = some (.ref f) ∧ Fun K x x st f fd ∧ Binds K fd ps []
section
variable {X : Cx}
theorem pe_callD {x : Str} {st : Stmt} {ps : List Str} {k : Nat} {sp : Sp} {e : Expr} {es : List Expr} {t : TA} {p pos : Pos} (D : DefOk X.prog X.w X.K X.mg X.base x st ps k sp) (hr : Room k X.A) (ha : PA X (e :: es) t) (hg : Gl X x := by rfl)
    (hdb : (x == ("__debug__" : Str)) = false := by decide) (he : starEach (e :: es) X.env = (false, eval e X.env) :: starEach es X.env := by rfl) (hpl : (backTo pos (starEach es X.env)).any (·.1) = false := by rfl) :
    PE X (.Call (.Name x p) (e :: es) [] pos) (tCall sp [] E0 t) := by
  obtain ⟨f, fd, hm, hk, hb, F⟩ := D.ex
  exact pe_call F hr hg hm hk.kp hb .nil pass0 ha hdb he hpl
theorem pe_callD0 {x : Str} {st : Stmt} {ps : List Str} {k : Nat} {sp : Sp} {p pos : Pos} (D : DefOk X.prog X.w X.K X.mg X.base x st ps k sp) (hr : Room k X.A) (hg : Gl X x := by rfl) (hdb : (x == ("__debug__" : Str)) = false := by decide) :
    PE X (.Call (.Name x p) [] [] pos) (tCall sp [] E0 tNil) := by
  obtain ⟨f, fd, hm, hk, hb, F⟩ := D.ex
  exact pe_call0 F hr hg hm hk.kp hb .nil pass0 hdb
theorem pe_globI {x : Str} {i : Int} {pos : Pos} (h : ∃ t, X.mg x = some (.int i t)) (hg : Gl X x := by rfl) (hd : (x == ("__debug__" : Str)) = false := by decide) : PE X (.Name x pos) (tC (.int i)) := by
  obtain ⟨t, h⟩ := h
  exact pe_glob hg h ⟨t, rfl⟩ hd
/-- the body of a def, as a rule for its promise -/
theorem TopDef.ok {P : Program} {w : World} {K : PySem.W.Frag} {mg : Str → Option Value} {base : Heap} {x : Str} {st : Stmt} {N ps : List Str} {k : Nat} {sp : Sp} (T : TopDef K mg x st ps) (S : FnScope N ps (defScope st)) (len : ∀ vs H Q E, sp vs H Q E → vs.length = ps.length)
    (hbody : ∀ (f : Addr) (cdv : Value) (A : Around) (outer : List Env) (s : Shared) (H : Hp) (vs : List V) (Q : VK) (E : XK), Room k (A.deeper (envOfC x (defScope st) s.heap.objs.size f cdv)) → sp vs H Q E →
      ∃ t, PSs (cxOf CX0 P w K mg base N x (defScope st) f cdv A outer s H E).nox (defBody st) t ∧ t { nx := fun _ H' => Q .non H', rt := Q } (start N vs) H) : DefOk P w K mg base x st ps (k + 1) sp := by
  obtain ⟨f, fd, hm, F, hb⟩ := T.ex
  exact ⟨f, fd, hm, F, hb, F.ok S len (hbody f)⟩
end
theorem topDef_mk {K : PySem.W.Frag} {mg : Str → Option Value} {h : Heap} {f : Addr} {x : Str} {st : Stmt} {ps : List Str} {oc : Value} {od an : Option Addr} {osl : Array (Option Value)} {kV doc pm cdv ct : Value} (X : K.In h) (G : h.Ns mainGlobals mg)
    (a : PySem.W.nsIn K mainGlobals x = some (some (.ref f)))
    (l : K.lookup f = some ⟨oc, od, .func (PySem.W.fnOf x x (defArgs st) (defBody st) (defScope st) .none kV doc pm an cdv ct), osl⟩)
    (c : PySem.W.codeIn K cdv x = true) (k : PySem.W.keepIn K (.ref f) = true)
    (hb : ∀ (kV doc pm : Value) (an : Option Addr) (cdv ct : Value) (us : List Value), us.length = ps.length → bindArgs (PySem.W.fnOf x x (defArgs st) (defBody st) (defScope st) .none kV doc pm an cdv ct) ⟨us, []⟩ = pure (ps.zip us)) : TopDef K mg x st ps :=
  have F := fun_mk (st := st) l c k
  ⟨f, _, PySem.W.mg_of X G a, F, F.binds hb⟩

/-! ### list(text) -/
theorem call_list_text {X : Cx} (hc : X.calm = true) : CallR X (.type "list") (fun xs H Q => ∃ z : Str, xs = [.str z] ∧ z.cps.size ≤ sizeLine ∧ ∀ l, H l = none → Q (.ref l) (upd H l (.lst (z.cps.toList.map fun c => V.str ⟨#[c]⟩)))) := by
  intro pins s σ H xs us Q I r h
  obtain ⟨z, rfl, hz, q⟩ := h
  obtain ⟨u, rfl, t, rfl⟩ := vals1 r
  refine PySem.call_list_str (I.ok.hd hc) z t (fun h' tk acc' c' hk hS hacc => ?_) hz
  refine ⟨.ref s.heap.objs.size, _, I.laid (t' := tk) hk (Nat.le_refl _) (show ObjOk X.prog X.w _ h' _ (.lst (z.cps.toList.map fun c => V.str ⟨#[c]⟩)) from ⟨?_, acc'.toList, c', ?_, ?_⟩), rfl, q _ (I.hok.fresh (Nat.le_refl _))⟩
  · rw [List.length_map, Array.length_toList]
    exact hz
  · refine vals_of_at (by rw [List.length_map, Array.length_toList, Array.length_toList]; exact hacc.1.symm) fun j x w h1 h2 => ?_
    have h3 := hacc.2 j w (by rw [← Array.getElem?_toList]; exact h2)
    obtain ⟨c, t', e1, e2⟩ := h3
    have e3 : z.cps.toList[j]? = some c := by rw [Array.getElem?_toList]; exact e1
    rw [List.getElem?_map, e3] at h1
    cases h1
    exact ⟨t', e2⟩
  · rw [Array.toArray_toList]
    exact hS

/-! ### repr of data -/
theorem call_reprD {X : Cx} (hu : X.A.units + 65 < cLine) (hg : X.A.guards = some []) : CallR X (.builtin "repr") (fun xs H Q => ∃ a d, xs = [.ref a] ∧ Dp X.K H (.ref a) d ∧ d.showable = true ∧ d.hasDict = false ∧ d.depth ≤ 64 ∧ d.shown.length ≤ sizeLine ∧ Q (.str d.shown) H) := by
  intro pins s σ H xs us Q I r h
  obtain ⟨a, d, rfl, hd, h1, h2, h3, h4, q⟩ := h
  obtain ⟨u, rfl, rx⟩ := vals1 r
  obtain ⟨as, hr⟩ := Dp.reads I d _ u hd rx
  cases rx
  refine PySem.repr_of_reads' (h₀ := s.heap) hr h1 (PyData.noDict_hsm h2) hg (by omega) (fun _ _ e => e) (fun h' u tk hk => ?_) h4
  exact ⟨.str d.shown, H, I.kept (t' := tk) hk, ⟨u, rfl⟩, q⟩

/-! ### w.get(k), w a dict of the module whose keys are texts -/
def tKGet (K : PySem.W.Frag) (w : World) (td ty : TE) : TE := fun σ H Q => td σ H fun x H1 => ∃ a es n, x = .ref a ∧ K.lookup a = some ⟨.type "dict", none, .dict es n, #[]⟩ ∧ PySem.W.KeysLit w.params es.toList ∧ (a == sysModules) = false ∧
  ty σ H1 fun y H2 => ∃ z r v, y = .str z ∧ PySem.W.nsIn K a z = some r ∧ RelV v (r.getD .none) ∧ Q v H2
theorem pe_dgetK {X : Cx} {o e : Expr} {apos cpos : Pos} {td ty : TE} (ho : PE X o td) (he : PE X e ty) (m : M1 X o "get" apos e cpos) : PE X (.Call (.Attribute o "get" apos) [e] [] cpos) (tKGet X.K X.w td ty) := by
  refine ⟨fun pins s σ H Q I h => ?_⟩
  refine wpAny_Call_method m.base m.few m.line PySem.F.plainAttrs_dict PySem.F.slot_dict_get PySem.F.type_dict_get (thn (ho.run pins s σ H _ I h) fun u s1 ⟨x, H1, I1, rx, a, es, n, ex, hl, hk, low, q1⟩ => ?_)
  subst ex
  obtain rfl : u = Value.ref a := rx
  have hm := PySem.W.mapOf_K (prog := X.prog) (w := X.w) I1.kIn hl hk
  refine ⟨hm.typeIs, hm.noDict, ?_⟩
  rw [m.trees]
  refine Calls.callWith_builtin rfl (Calls.evalArgs_plain (Calls.spliced_cons (thn (he.run pins s1 σ H1 _ I1 q1) fun iv s2 ⟨y, H2, I2, ry, z, r, v, ey, e, rv, q2⟩ => Calls.spliced_nil ?_)))
  subst ey
  obtain ⟨t, rfl⟩ := (show ∃ t, iv = Value.str z t from ry)
  have hm2 := PySem.W.mapOf_K (prog := X.prog) (w := X.w) I2.kIn hl hk
  refine call_meetsIn PySem.F.slot_dict_get hm2.typeIs PySem.F.entry_dict_get (PySem.F.args_dict_get_2 _ _) (meets_dict_get (strKind X.prog X.w) a (strKind_is X.prog X.w z t) low) ⟨_, hm2, ?_⟩
  rw [PySem.W.find_K hl e]
  exact ⟨v, H2, I2.tok _, rv, q2⟩

/-! ### == and != of an instance whose class has an own __eq__ (and no __ne__) -/
/-- what the right side is -/
inductive Rhs (K : PySem.W.Frag) (H : Hp) : V → Value → Prop where
  | int (i : Int) : Rhs K H (.int i) (.type "int")
  | non : Rhs K H .non (.type "NoneType")
  | lst {a : Addr} {xs : List V} (e : H a = some (.lst xs)) : Rhs K H (.ref a) (.type "list")
  | ins {a C dx : Addr} {fs : List (Str × V)} (e : H a = some (.ins C dx fs)) : Rhs K H (.ref a) (.ref C)
theorem Rhs.looks {X : Cx} {pins : List (Addr × Obj)} {σ : St} {H : Hp} {s : Shared} {y : V} {u t : Value} {M : Model} (I : Inv X pins σ H s) (r : RelV y u) (h : Rhs X.K H y t) : PySem.W.Looks M s.heap (typeOf u) t := by
  cases h with
  | int i =>
    obtain ⟨tk, rfl⟩ := r
    exact PySem.W.Looks.of_pure rfl
  | non =>
    cases r
    exact PySem.W.Looks.of_pure rfl
  | @lst a xs e =>
    cases r
    obtain ⟨_, its, n, _, h1⟩ := (show ObjOk X.prog X.w H s.heap a (.lst xs) from I.hok a _ e)
    exact (PySem.W.Looks.ld h1).andThen .now
  | @ins a C dx fs e =>
    cases r
    obtain ⟨mA, J, _⟩ := ins_get I.hok e
    obtain ⟨od, J, _⟩ := J.look
    exact J.type
/-- the class at C has the own __eq__ that keeps sp -/
structure EqOk (P : Program) (w : World) (K : PySem.W.Frag) (mg : Str → Option Value) (base : Heap) (C : Addr) (k : Nat) (sp : Sp) : Prop where
  ex : ∃ f fd, PySem.W.findIn K (.ref C) "__eq__" = some (some (.ref f)) ∧ PySem.W.isFn K (.ref f) = true ∧ Binds K fd ["self", "other"] [] ∧ FnOk P w K mg base CX0 k f fd ["self", "other"] sp
def rEqO (K : PySem.W.Frag) (C : Addr) (sp : Sp) : R2 := fun x y H Q => ∃ a dx fs t, x = .ref a ∧ H a = some (.ins C dx fs) ∧ Rhs K H y t ∧ PySem.W.notFirst K C t = true ∧ sp [x, y] H (fun v H' => ∃ b, v = .bl b ∧ Q (.bl b) H') E0
section
variable {X : Cx} {C : Addr} {k : Nat} {sp : Sp}
theorem run_eqO (D : EqOk X.prog X.w X.K X.mg X.base C k sp) {A : Around} {pins : List (Addr × Obj)} {σ : St} {H : Hp} {s : Shared} {a dx : Addr} {fs : List (Str × V)} {y : V} {v t : Value} {R : Bool → Shared → Prop} (hr : Room k A) (hf : A.frames = X.A.frames)
    (I : Inv X pins σ H s) (e : H a = some (.ins C dx fs)) (ry : RelV y v) (hR : Rhs X.K H y t) (hn : PySem.W.notFirst X.K C t = true)
    (hs : sp [.ref a, y] H (fun v H' => ∃ b, v = .bl b ∧ ∀ s', Inv X pins σ H' s' → R b s') E0) :
    wpAny (model X.prog X.w) A (richCompare .Eq (.ref a) v) (fun r s' => ∃ b, r = .bool b ∧ R b s') X.xe s := by
  obtain ⟨f, fd, h1, h2, hb, F⟩ := D.ex
  obtain ⟨mA, J, _⟩ := ins_get I.hok e
  obtain ⟨od, J, _⟩ := J.look
  obtain ⟨m, hF⟩ := I.fr
  refine PySem.W.cmp_K (op := .Eq) (tb := t) hr.units0 hF I.ok.mod.kin J (hR.looks I ry) hn h1 h2 ?_
  have e0 : Env0 X.prog X.w X.K X.mg X.base A X.stack s H := by
    have e := I.env0
    exact ⟨by rw [hf]; exact e.frames, e.mod, e.bs, e.bsz, e.funs, e.frf, e.hok, e.bare⟩
  have hl := F.len _ _ _ _ hs
  have r2 : Vals [V.ref a, y] [Value.ref a, v] := .cons rfl (.cons ry .nil)
  refine wpAny_call (codeAny_mono (F.run A X.stack s H ⟨[.ref a, v], []⟩ [.ref a, v] [.ref a, y] _ E0 hr e0 (by
    have := hb s [.ref a, v] I.kIn (by simpa using hl)
    simpa using this) r2 hs) fun r s' hq => ?_)
  cases r with
  | error e => exact False.elim hq
  | ok fl =>
    cases fl with
    | ret w =>
      obtain ⟨z, H', I', rz, b, ez, ex⟩ := I.after hq
      subst ez
      cases rz
      exact ⟨b, rfl, ex s' I'⟩
    | next => exact False.elim hq
    | brk => exact False.elim hq
    | cont => exact False.elim hq
theorem op_eqO (D : EqOk X.prog X.w X.K X.mg X.base C k sp) (hr : Room k X.A) (mono : ∀ vs H Q Q' E, (∀ v H', Q v H' → Q' v H') → sp vs H Q E → sp vs H Q' E) : OpR X (compareOp .Eq) (rEqO X.K C sp) := by
  intro pins s σ H x y v u Q I rx ry h
  obtain ⟨a, dx, fs, t, rfl, e, hR, hn, hs⟩ := h
  cases rx
  show wpAny (model X.prog X.w) X.A (richCompare .Eq (.ref a) u) (EP X pins σ Q) X.xe s
  refine wpAny_mono (run_eqO D (R := fun b s' => ∃ H', Inv X pins σ H' s' ∧ Q (.bl b) H') hr rfl I e ry hR hn (mono _ _ _ _ _ (fun v H' z => ?_) hs)) (fun r s' z => ?_) fun _ _ z => z
  · obtain ⟨b, ev, q⟩ := z
    exact ⟨b, ev, fun s' I' => ⟨H', I', q⟩⟩
  · obtain ⟨b, rfl, H', I', q⟩ := z
    exact ⟨.bl b, H', I', rfl, q⟩
end

/-! ### a method of a class, by its name -/
structure MethDef (K : PySem.W.Frag) (C : Addr) (m qual : Str) (st : Stmt) (ps : List Str) : Prop where
  ex : ∃ f fd, PySem.W.findIn K (.ref C) m = some (some (.ref f)) ∧ PySem.W.isFn K (.ref f) = true ∧ Fun K m qual st f fd ∧ Binds K fd ps []
theorem methDef_mk {K : PySem.W.Frag} {C f : Addr} {x q : Str} {st : Stmt} {ps : List Str} {oc : Value} {od an : Option Addr} {osl : Array (Option Value)} {kV doc pm cdv ct : Value}
    (a : PySem.W.findIn K (.ref C) x = some (some (.ref f))) (i : PySem.W.isFn K (.ref f) = true)
    (l : K.lookup f = some ⟨oc, od, .func (PySem.W.fnOf x q (defArgs st) (defBody st) (defScope st) .none kV doc pm an cdv ct), osl⟩)
    (c : PySem.W.codeIn K cdv q = true) (k : PySem.W.keepIn K (.ref f) = true)
    (hb : ∀ (kV doc pm : Value) (an : Option Addr) (cdv ct : Value) (us : List Value), us.length = ps.length → bindArgs (PySem.W.fnOf x q (defArgs st) (defBody st) (defScope st) .none kV doc pm an cdv ct) ⟨us, []⟩ = pure (ps.zip us)) : MethDef K C x q st ps :=
  have F := fun_mk (st := st) l c k
  ⟨f, _, a, i, F, F.binds hb⟩
/-- a method that keeps its promise -/
structure MethOk (P : Program) (w : World) (K : PySem.W.Frag) (mg : Str → Option Value) (base : Heap) (C : Addr) (m q : Str) (st : Stmt) (ps : List Str) (k : Nat) (sp : Sp) : Prop where
  ex : ∃ f fd, PySem.W.findIn K (.ref C) m = some (some (.ref f)) ∧ PySem.W.isFn K (.ref f) = true ∧ Fun K m q st f fd ∧ Binds K fd ps [] ∧ FnOk P w K mg base CX0 k f fd ps sp
theorem MethDef.ok {P : Program} {w : World} {K : PySem.W.Frag} {mg : Str → Option Value} {base : Heap} {C : Addr} {m q : Str} {st : Stmt} {N ps : List Str} {k : Nat} {sp : Sp} (T : MethDef K C m q st ps) (S : FnScope N ps (defScope st)) (len : ∀ vs H Q E, sp vs H Q E → vs.length = ps.length)
    (hbody : ∀ (f : Addr) (cdv : Value) (A : Around) (outer : List Env) (s : Shared) (H : Hp) (vs : List V) (Q : VK) (E : XK), Room k (A.deeper (envOfC q (defScope st) s.heap.objs.size f cdv)) → sp vs H Q E →
      ∃ t, PSs (cxOf CX0 P w K mg base N q (defScope st) f cdv A outer s H E).nox (defBody st) t ∧ t { nx := fun _ H' => Q .non H', rt := Q } (start N vs) H) : MethOk P w K mg base C m q st ps (k + 1) sp := by
  obtain ⟨f, fd, h1, h2, F, hb⟩ := T.ex
  exact ⟨f, fd, h1, h2, F, hb, F.ok S len (hbody f)⟩
section
variable {X : Cx} {C : Addr} {m q : Str} {st : Stmt} {ps : List Str} {k : Nat} {sp : Sp} {o e : Expr} {es : List Expr} {ta : TE} {t tk : TA} {apos pos p : Pos} {pl : Sem Bool} {x : Str}
theorem pe_methD (D : MethOk X.prog X.w X.K X.mg X.base C m q st ps k sp) (c : Cls X.K C) (hr : Room k X.A) (he : PE X o ta) (ha : PA X (e :: es) t)
    (hst : starEach (e :: es) X.env = (false, eval e X.env) :: starEach es X.env := by rfl) (hpl : (backTo pos (starEach es X.env)).any (·.1) = false := by rfl)
    (ht : eval (.Call (.Attribute o m apos) (e :: es) [] pos) X.env = (do
      let ov ← eval o X.env
      standAt apos.atName
      let (f, first) ← holding [ov] (getMethod ov m pl)
      callWith pos f first (backTo pos (starEach (e :: es) X.env)) (backToKw pos (keywordEach [] X.env))) := by rfl) :
    PE X (.Call (.Attribute o m apos) (e :: es) [] pos) (tMeth C m sp [] E0 ta t) := by
  obtain ⟨f, fd, h1, h2, h3, hb, F⟩ := D.ex
  exact pe_meth he c ⟨h1, h2, h3.kp⟩ F hr hb .nil pass0 ha hst hpl ht
theorem pe_methD0 (D : MethOk X.prog X.w X.K X.mg X.base C m q st ps k sp) (c : Cls X.K C) (hr : Room k X.A) (he : PE X o ta)
    (ht : eval (.Call (.Attribute o m apos) [] [] pos) X.env = (do
      let ov ← eval o X.env
      standAt apos.atName
      let (f, first) ← holding [ov] (getMethod ov m pl)
      callWith pos f first (backTo pos (starEach [] X.env)) (backToKw pos (keywordEach [] X.env))) := by rfl) :
    PE X (.Call (.Attribute o m apos) [] [] pos) (tMeth C m sp [] E0 ta tNil) := by
  obtain ⟨f, fd, h1, h2, h3, hb, F⟩ := D.ex
  exact pe_meth0 he c ⟨h1, h2, h3.kp⟩ F hr hb .nil pass0 ht
/-- C(e, ..) -/
theorem pe_makeD (D : MethOk X.prog X.w X.K X.mg X.base C "__init__" q st ps k sp) (hmk : PySem.W.makesIn X.K C = true ∧ PySem.W.keepIn X.K (.ref C) = true) (hm : X.mg x = some (.ref C)) (hr : Room (k + 1) X.A) (ha : PA X (e :: es) t) (hg : Gl X x := by rfl)
    (hdb : (x == ("__debug__" : Str)) = false := by decide) (he : starEach (e :: es) X.env = (false, eval e X.env) :: starEach es X.env := by rfl) (hpl : (backTo pos (starEach es X.env)).any (·.1) = false := by rfl) :
    PE X (.Call (.Name x p) (e :: es) [] pos) (tMake C sp [] E0 t) := by
  obtain ⟨f, fd, h1, h2, h3, hb, F⟩ := D.ex
  exact pe_make ⟨hmk.1, h1, h2, hmk.2⟩ F hr hg hm hb .nil pass0 ha hdb he hpl
/-- C(k = e, ..): all by keywords in their order -/
theorem Fun.kbn {K : PySem.W.Frag} {x q : Str} {st : Stmt} {f : Addr} {fd : FuncData} {ps ks : List Str} {n : Nat} (F : Fun K x q st f fd)
    (h : ∀ (kV doc pm : Value) (an : Option Addr) (cdv ct : Value) (us ws : List Value), us.length = n → ws.length = ks.length → bindArgs (PySem.W.fnOf x q (defArgs st) (defBody st) (defScope st) .none kV doc pm an cdv ct) ⟨us, ks.zip ws⟩ = pure (ps.zip (us ++ ws))) :
    KBn K fd ps n ks (fun us ws => us ++ ws) (fun vs zs => vs ++ zs) := by
  obtain ⟨oc, od, kV, doc, pm, an, cdv, ct, osl, rfl, lk, hcd⟩ := F.ex
  exact ⟨fun s us ws _ l1 l2 => .of_eq (h kV doc pm an cdv ct us ws l1 l2), fun a b => a.append b⟩
theorem pe_makeD_kw {kws : List Keyword} {ks : List Str} (D : MethOk X.prog X.w X.K X.mg X.base C "__init__" q st ps k sp) (hmk : PySem.W.makesIn X.K C = true ∧ PySem.W.keepIn X.K (.ref C) = true) (hm : X.mg x = some (.ref C)) (hr : Room (k + 1) X.A)
    (h : ∀ (kV doc pm : Value) (an : Option Addr) (cdv ct : Value) (us ws : List Value), us.length = 1 → ws.length = ks.length → bindArgs (PySem.W.fnOf "__init__" q (defArgs st) (defBody st) (defScope st) .none kV doc pm an cdv ct) ⟨us, ks.zip ws⟩ = pure (ps.zip (us ++ ws)))
    (hkw : PK X kws tk) (hg : Gl X x := by rfl)
    (hall : (backToKw pos (keywordEach kws X.env)).all (·.1.isSome) = true := by rfl) (hks : (backToKw pos (keywordEach kws X.env)).filterMap (·.1) = ks := by rfl) (hdb : (x == ("__debug__" : Str)) = false := by decide)
    (hpl : ((backTo pos (starEach [] X.env)).any (·.1) || (backToKw pos (keywordEach kws X.env)).any (·.1.isNone)) = false := by rfl) :
    PE X (.Call (.Name x p) [] kws pos) (tMakeK C 0 ks.length sp (fun vs zs => vs ++ zs) E0 tNil tk) := by
  obtain ⟨f, fd, h1, h2, h3, hb, F⟩ := D.ex
  exact pe_makeK0 ⟨hmk.1, h1, h2, hmk.2⟩ F hr hg hm (h3.kbn h) pass0 hkw hall hks hdb hpl
end
/-- what isinstance and == ask of a class of the text -/
structure ClsIsi (K : PySem.W.Frag) (C : Addr) : Prop where
  ha : PySem.W.findIn K (.ref C) "__class__" = some (some (.builtin "object.__class__"))
  hn : PySem.W.specialIn K (.builtin "object.__class__") "__get__" = some (some (.builtin "getset_descriptor.__get__"))
  htk : PySem.W.takesIn K (.builtin "object.__class__") = some true
  hm : PySem.W.mroIn K C (.type "object") = some true
  self_ : PySem.W.kitOne K (.ref C) (.ref C) = some true
  int_ : PySem.W.kitOne K (.type "int") (.ref C) = some false
  non_ : PySem.W.kitOne K (.type "NoneType") (.ref C) = some false
  lst_ : PySem.W.kitOne K (.type "list") (.ref C) = some false
  nSelf : PySem.W.notFirst K C (.ref C) = true
  nInt : PySem.W.notFirst K C (.type "int") = true
  nNon : PySem.W.notFirst K C (.type "NoneType") = true
  nLst : PySem.W.notFirst K C (.type "list") = true
/-! ### the same rules with the written part named (within a comprehension) -/
section
variable {X : Cx} {K : PySem.W.Frag}
theorem ix_tupK (h : X.K = K := by rfl) : IxR X (rIxT K) := by
  subst h
  exact ix_tup
theorem ix_listK (h : X.K = K := by rfl) : IxR X (rIxL K) := by
  subst h
  exact ix_list
theorem call_lenK (h : X.K = K := by rfl) : CallR X (.builtin "len") (fun xs H Q => ∃ x n, xs = [x] ∧ LenV K x H n ∧ Q (.int n) H) := by
  subst h
  exact call_len
theorem call_isiK' (h : X.K = K := by rfl) : CallR X (.builtin "isinstance") (rIsi K) := by
  subst h
  exact call_isi
theorem call_list_ofK (h : X.K = K := by rfl) : CallR X (.type "list") (fun xs H Q => ∃ p ys, xs = [.ref p] ∧ (SqL K H p ys ∨ SqT K H p ys) ∧ ∀ l, H l = none → Q (.ref l) (upd H l (.lst ys))) := by
  subst h
  exact call_list_of
end
end L2

/-! The law's own def where it asks repr: its promise for the claim's caller alone (nothing is being shown around it), and its end. -/
namespace L2
open PySem PySem.Spec PyProof.Rows
/-- a promise that holds where nothing is being shown around the call -/
structure FnOkG (P : Program) (w : World) (K : PySem.W.Frag) (mg : Str → Option Value) (base : Heap) (k : Nat) (f : Addr) (fd : FuncData) (ps : List Str) (sp : Sp) : Prop where
  len : ∀ vs H Q E, sp vs H Q E → vs.length = ps.length
  go : ∀ (A : Around) (outer : List Env) (st : Shared) (H : Hp) (args : Args) (us : List Value) (vs : List V) (Q : VK) (E : XK), A.guards = some [] → Room k A → Env0 P w K mg base A outer st H → BindsTo st fd args (ps.zip us) →
    Vals vs us → sp vs H Q E → codeAny (model P w) A (.call (.ref f) args) (CR CX0 outer P w H st Q E) st
theorem some_neq {α : Type} {x : Option α} {o : α} (h : x = some o) : x ≠ none := by
  rw [h]
  exact fun z => nomatch z
section
variable {P : Program} {w : World} {K : PySem.W.Frag} {mg : Str → Option Value} {base : Heap}
theorem Fun.okG {x qual : Str} {d : Stmt} {f : Addr} {fd : FuncData} {N ps : List Str} {k : Nat} {sp : Sp} (F : Fun K x qual d f fd) (S : FnScope N ps (defScope d)) (len : ∀ vs H Q E, sp vs H Q E → vs.length = ps.length)
    (body : ∀ (cdv : Value) (A : Around) (outer : List Env) (st : Shared) (H : Hp) (vs : List V) (Q : VK) (E : XK), (A.deeper (envOfC qual (defScope d) st.heap.objs.size f cdv)).guards = some [] →
      Room k (A.deeper (envOfC qual (defScope d) st.heap.objs.size f cdv)) → sp vs H Q E →
      ∃ t, PSs (cxOf CX0 P w K mg base N qual (defScope d) f cdv A outer st H E).nox (defBody d) t ∧ t { nx := fun _ H' => Q .non H', rt := Q } (start N vs) H) : FnOkG P w K mg base (k + 1) f fd ps sp := by
  obtain ⟨oc, od, kV, doc, pm, an, cdv, ct, osl, rfl, at_f, cod⟩ := F.ex
  refine ⟨len, fun A outer st H args us vs Q E hgd room e0 hbd rel ask => ?_⟩
  have n_args := len _ _ _ _ ask
  have inK : K.In st.heap := e0.mod.kin.keeps fun b o q => (e0.bs b o q).1
  have noLim : st.heap.NoLimit := e0.mod.nolimit.keeps fun b o q => (e0.bs b o q).1
  have kinds : ∀ y ∈ ps.zip us, (defScope d).names.lookup y.1 = some .local ∨ ((defScope d).names.lookup y.1 = some .cell ∧ ((cellsFrom (st.heap.objs.size + 1) (defScope d).names []).lookup y.1).isSome = true) :=
    fun ⟨nm, u⟩ hy => (S.par nm (List.of_mem_zip hy).1).elim (fun q => .inl q) fun q => .inr ⟨q, PySem.W.cellsFrom_some _ _ _ (.inl q)⟩
  refine codeAny_call_function room.depth (inK _ _ at_f) rfl S.co S.gen rfl (PySem.W.codeRec_of inK cod) (hbd _ _ _ _ (wpAny_newFunctionEnv_cells S.kind kinds fun env he s1 x => ?_))
  subst he
  refine ⟨noLim.keeps x.toInCall.keep, codeAny_func ?_⟩
  obtain ⟨t, ht, hq⟩ := body cdv A outer st H vs Q E hgd (room.deeper _) ask
  refine wpAny_mono (ht.nox.run [] s1 (start N vs) H _ (inv_start S room.hd e0 n_args rel x) hq) (fun fl s' z => ?_) fun e s' z => z
  cases fl with
  | ret u =>
    obtain ⟨v, σ', H', J, rv, q⟩ := z
    exact ⟨v, H', J.os, J.bare, J.base, J.hok, rv, q⟩
  | next =>
    obtain ⟨σ', H', J, q⟩ := z
    exact ⟨V.non, H', J.os, J.bare, J.base, J.hok, rfl, q⟩
  | brk => exact z.elim fun _ z => z.elim fun _ z => z.2.elim
  | cont => exact z.elim fun _ z => z.elim fun _ z => z.2.elim
/-- the end: the law's call from the claim's caller -/
theorem law_callG {mb : Str → Option Value} {k : Nat} {fa a : Addr} {fd : FuncData} {x : Str} {sp : Sp} {st : Shared} {vs : List Value} {ns : List Int}
    (inK : K.In st.heap) (gl : st.heap.Ns mainGlobals mg) (bl : st.heap.Ns builtinsNs mb) (bb : ∀ x : Str, x ≠ "__name__" → mb x = bootBuiltins x) (lim : st.heap.NoLimit) (gens : st.gens = #[])
    (obj : st.heap.get? a = some { cls := .type "list", data := .seq vs.toArray }) (areInts : IntsAre vs ns) (short : ns.length ≤ sizeLine) (room : Room k callerA)
    (F : ∀ base : Heap, K.In base → base.Ns mainGlobals mg → FnOkG P w K mg base k fa fd [x] sp) (binds : ∀ (s : Shared) (u : Value), BindsTo s fd ⟨[u], []⟩ [(x, u)])
    (ask : ∀ H : Hp, SqL K H a (ns.map V.int) → sp [.ref a] H (fun v _ => v = .bl true) fun _ _ _ => False) :
    codeAny (model P w) callerA (.call (.ref fa) ⟨[.ref a], []⟩) (fun r s' => r = .ok (.ret (.bool true)) ∧ OldK st.heap s'.heap ∧ s'.os = st.os ∧ AllBare s'.gens) st := by
  have rel := vals_ints areInts
  have n_vs := areInts.length
  -- H: nothing is told of, or the script alone, as a thing that stays
  have core : ∀ H : Hp, (∀ b, H b = none ∨ ∃ ob xs, H b = some (.frz ob (.lst xs))) → SqL K H a (ns.map V.int) → HOk P w H st.heap → (∀ b, H b ≠ none → b = a) → (H a ≠ none → K.lookup a = none) →
      codeAny (model P w) callerA (.call (.ref fa) ⟨[.ref a], []⟩) (fun r s' => r = .ok (.ret (.bool true)) ∧ OldK st.heap s'.heap ∧ s'.os = st.os ∧ AllBare s'.gens) st := by
    intro H hO hS hok only_a notK
    have stands : ∀ {b : Addr} {o : Obj}, st.heap.get? b = some o → H b = none → (hidT st.heap H).get? b = some o := fun e n => hidT_get e n
    have free_of : ∀ {b : Addr}, b ≠ a → H b = none := fun {b} hb => by
      cases q : H b with
      | none => rfl
      | some u => exact absurd (only_a b (some_neq q)) hb
    have keepNs : ∀ {b : Addr} {m : Str → Option Value}, st.heap.Ns b m → (hidT st.heap H).Ns b m := fun {b m} ⟨o, es, ep, e, hdat, more⟩ => ⟨o, es, ep, stands e (free_of fun eq => by
      rw [eq, obj] at e
      cases e
      cases hdat), hdat, more⟩
    have inB : K.In (hidT st.heap H) := fun b o e => stands (inK b o e) (by
      cases q : H b with
      | none => rfl
      | some u =>
        have eq := only_a b (some_neq q)
        subst eq
        rw [notK (some_neq q)] at e
        cases e)
    have md : Mod K mg (hidT st.heap H) := ⟨inB, keepNs gl, ⟨mb, keepNs bl, bb⟩, lim.elim fun mc h => ⟨mc, keepNs h.1, h.2⟩⟩
    have e0 : Env0 P w K mg (hidT st.heap H) callerA [] st H := ⟨rfl, md, fun b o e => of_hidT e, Nat.le_of_eq (hidT_size _ _), trivial, fun b hb => (List.not_mem_nil (a := b) hb).elim, hok, .of_eq gens⟩
    refine codeAny_mono ((F _ inB (keepNs gl)).go callerA [] st H ⟨[.ref a], []⟩ [.ref a] [.ref a] _ _ rfl room e0 (binds st (.ref a)) (.cons rfl .nil) (ask H hS)) fun r s' z => ?_
    cases r with
    | error e => exact False.elim z
    | ok fl =>
      cases fl with
      | next => exact False.elim z
      | brk => exact False.elim z
      | cont => exact False.elim z
      | ret u =>
        obtain ⟨v, H', eos, br, un, ok2, rv, (ev : v = .bl true)⟩ := z
        subst ev
        cases rv
        refine ⟨rfl, OldK.of_keep fun b o e => ?_, eos, br⟩
        rcases hO b with q | ⟨ob, xs, q⟩
        · exact un.keep b o e q (fun z => (List.not_mem_nil (a := b) z).elim) (by simp)
        · have h1 := (hok b _ q).1
          have h2 := (ok2 b _ (un.frzs b ob _ q)).1
          rw [e] at h1
          cases h1
          exact h2
  cases at_a : K.lookup a with
  | some o =>
    have e := inK a o at_a
    rw [obj] at e
    cases e
    exact core (fun _ => none) (fun _ => .inl rfl) (.inr ⟨_, vs.toArray, _, at_a, rfl, rfl, rfl, by rw [List.size_toArray, n_vs]; exact short, by simpa using rel⟩) (fun b u z => nomatch z) (fun b z => absurd rfl z) fun z => absurd rfl z
  | none =>
    have yes : ∀ {b : Addr} {u : HO}, (if b = a then some (HO.frz { cls := .type "list", data := .seq vs.toArray } (.lst (ns.map V.int))) else none) = some u → b = a ∧ u = .frz { cls := .type "list", data := .seq vs.toArray } (.lst (ns.map V.int)) := fun {b u} z => by
      by_cases hb : b = a
      · rw [if_pos hb] at z
        exact ⟨hb, (Option.some.inj z).symm⟩
      · rw [if_neg hb] at z
        cases z
    refine core (fun b => if b = a then some (.frz { cls := .type "list", data := .seq vs.toArray } (.lst (ns.map V.int))) else none) (fun b => ?_) (.inl (.inr ⟨{ cls := .type "list", data := .seq vs.toArray }, if_pos rfl⟩)) (fun b u z => ?_) (fun b z => ?_) fun _ => at_a
    · by_cases hb : b = a
      · exact .inr ⟨_, _, if_pos hb⟩
      · exact .inl (if_neg hb)
    · obtain ⟨rfl, rfl⟩ := yes z
      exact ⟨obj, by rw [List.length_map]; exact short, vs, _, rel, obj⟩
    · by_cases hb : b = a
      · exact hb
      · exact absurd (if_neg hb) z
theorem walk_G {l : PySem.W.OpenLaw} {n k : Nat} {q : Program} {loose : List Str} {XP : (Str → Option Value) → Heap → Prop} {YP : World → Heap → Prop} {d : DefRec} {KK : Params → PySem.W.Frag} {sp : World → Sp} {x : Str}
    (hn : l.most = some n) (hn2 : n ≤ sizeLine) (hdf : d.params.defaults = []) (room : Room k callerA) (hY : ∀ (w : World) (h : Heap), YP w h → (KK w.params).In h)
    (F : ∀ (w : World) (mg : Str → Option Value) (fa : Addr) (h : Heap), (KK w.params).In h → h.Ns mainGlobals mg → mg d.name = some (.ref fa) →
      ∃ fd : FuncData, (∀ (s : Shared) (u : Value), BindsTo s fd ⟨[u], []⟩ [(x, u)]) ∧ ∀ base : Heap, (KK w.params).In base → base.Ns mainGlobals mg → FnOkG l.prog w (KK w.params) mg base k fa fd [x] (sp w))
    (ask : ∀ (w : World) (H : Hp) (a : Addr) (ns : List Int), ns.length ≤ n → SqL (KK w.params) H a (ns.map V.int) → sp w [.ref a] H (fun v _ => v = .bl true) fun _ _ _ => False) :
    PySem.W.WalkO q loose XP YP l.row.toRowW d [] (fun f vs => PySem.call f vs) :=
  Att.attach_call hn hdf fun w s₀ s₁ mg mb fa o pm cd doc a vs ns G Y ho hd hcd hmg hobj hints hlen hgens => by
    obtain ⟨fd, hb, hF⟩ := F w mg fa _ (hY w _ Y) G.T.g hmg
    exact law_callG (hY w _ Y) G.T.g G.T.b G.T.builtins G.T.nolimit hgens hobj hints (Nat.le_trans hlen hn2) room hF hb fun H hS => ask w H a ns hlen hS
end
end L2

/-! != by an own __eq__ without __ne__; a list of one such instance == a list of one other value. -/
namespace L2
open PySem PySem.Spec PyProof.Rows
/-- the class at C has an own __eq__ at f, and no __ne__; it stands on object alone -/
structure ClsNe (K : PySem.W.Frag) (C : Addr) : Prop where
  ex : ∃ (f : Addr) (nm q : Str) (N : Addr) (bs : List Value) (sn : List Str) (sub : List Value) (ab : Bool) (col : Option Bool) (dd : Option Addr) (k0 k1 k2 k3 k5 : Option Value) (oc : Value) (od : Option Addr) (es : Array DictEntry) (n : Nat) (sl : Array (Option Value)),
    K.lookup C = some (excClassObj nm q C N bs [.type "object"] true sn sub ab col dd k0 k1 k2 k3 k5 "object.__new__") ∧ K.lookup N = some ⟨oc, od, .dict es n, sl⟩ ∧ StrKeys es ∧ PySem.W.nsIn K N "__eq__" = some (some (.ref f)) ∧ PySem.W.nsIn K N "__ne__" = some none ∧
    PySem.W.findIn K (.ref C) "__eq__" = some (some (.ref f))
theorem find_of_nsIn {K : PySem.W.Frag} {N : Addr} {oc : Value} {od : Option Addr} {es : Array DictEntry} {n : Nat} {sl : Array (Option Value)} {x : Str} {r : Option Value} (h : K.lookup N = some ⟨oc, od, .dict es n, sl⟩) (e : PySem.W.nsIn K N x = some r) : nsFind es x = r := by
  unfold PySem.W.nsIn at e
  rw [h] at e
  dsimp only at e
  unfold nsFind findBy
  rw [← Array.find?_toList]
  have alt : ∀ en : DictEntry, Value.isStr en.key x = en.key.isStr x := fun _ => rfl
  cases q : es.toList.find? (·.key.isStr x) with
  | some en =>
    rw [q] at e
    simp only [Option.some.injEq] at e
    rw [← e]
    rfl
  | none =>
    rw [q] at e
    dsimp only at e
    split at e
    · cases e
    · cases e
      rfl
theorem strKeys_of {P : Params} {es : Array DictEntry} (h : PySem.W.KeysLit P es.toList) : StrKeys es := fun e he => by
  obtain ⟨x, t, e1, _⟩ := h.all e (Array.mem_toList_iff.mpr he)
  exact ⟨x, t, e1⟩
theorem kit_self {K : PySem.W.Frag} {C : Addr} : PySem.W.kitOne K (.ref C) (.ref C) = some true := if_pos (beq_self_eq_true _)
theorem kit_not {K : PySem.W.Frag} {C : Addr} {t : Value} {b : Bool} (hne : (match t with | .ref _ => false | _ => true) = true) (h1 : PySem.W.isClsIn K C = true) (h2 : PySem.W.typeIn K (.ref C) = some (.type "type")) (h3 : PySem.W.subIn K t (.ref C) = some b) : PySem.W.kitOne K t (.ref C) = some b := by
  have e : (t == Value.ref C) = false := by
    cases q : t == Value.ref C with
    | false => rfl
    | true =>
      have := eq_of_beq q
      subst this
      cases hne
  have h1' : (PySem.W.clsIn K C).isSome = true := h1
  show (if (t == Value.ref C) = true then some true else if ((PySem.W.clsIn K C).isSome && PySem.W.typeIn K (.ref C) == some (.type "type")) = true then PySem.W.subIn K t (.ref C) else none) = some b
  rw [e, if_neg Bool.false_ne_true, if_pos (by rw [h1', h2]; rfl)]
  exact h3
theorem isFn_obj {K : PySem.W.Frag} {f : Addr} (h : PySem.W.isFn K (.ref f) = true) : ∃ o, K.lookup f = some o ∧ o.cls = .type "function" := by
  unfold PySem.W.isFn at h
  exact Option.map_eq_some_iff.mp (beq_iff_eq.mp h)
def rNeO (C : Addr) (sp : Sp) : R2 := fun x y H Q => ∃ a b dx fs dy gs, x = .ref a ∧ y = .ref b ∧ H a = some (.ins C dx fs) ∧ H b = some (.ins C dy gs) ∧ sp [x, y] H (fun v H' => ∃ k, v = .bl k ∧ Q (.bl (!k)) H') E0
section
variable {X : Cx} {C : Addr} {k : Nat} {sp : Sp}
theorem op_neO (D : EqOk X.prog X.w X.K X.mg X.base C k sp) (N : ClsNe X.K C) (hr : Room (k + 1) X.A) (mono : ∀ vs H Q Q' E, (∀ v H', Q v H' → Q' v H') → sp vs H Q E → sp vs H Q' E) : OpR X (compareOp .NotEq) (rNeO C sp) := by
  intro pins s σ H x y v u Q I rx ry h
  obtain ⟨a, b, dx, fs, dy, gs, rfl, rfl, ea, eb, hs⟩ := h
  cases rx
  cases ry
  obtain ⟨f, fd, h1, h2, hb, F⟩ := D.ex
  obtain ⟨f', nm, q, NN, bs, sn, sub, ab, col, dd, k0, k1, k2, k3, k5, oc, od, es, n, sl, l1, l2, sk, e1, e2, e3⟩ := N.ex
  obtain rfl : f = f' := by
    have z := h1.symm.trans e3
    cases z
    rfl
  obtain ⟨mA, J, _⟩ := ins_get I.hok ea
  obtain ⟨oA, J, _⟩ := J.look
  obtain ⟨mB, J2, _⟩ := ins_get I.hok eb
  obtain ⟨oB, J2, _⟩ := J2.look
  obtain ⟨of, lf, cf⟩ := isFn_obj h2
  have base : s.heap.OwnEqNoNe a C f "object" [.type "object"] :=
    ⟨_, of, nm, q, NN, bs, true, sn, sub, ab, col, dd, k0, k1, k2, k3, k5, "object.__new__", nsFind es, _, J.at_, J.cls, I.kIn _ _ l1, ⟨_, es, n, I.kIn _ _ l2, rfl, sk, fun _ => rfl⟩, find_of_nsIn l2 e1, I.kIn _ _ lf, cf, PySem.F.mro_object, PySem.F.cmp_object.eq.lookup, find_of_nsIn l2 e2⟩
  have e0 : Env0 X.prog X.w X.K X.mg X.base X.A.in1 X.stack s H := I.env0.in1
  have hl := F.len _ _ _ _ hs
  have r2 : Vals [V.ref a, V.ref b] [Value.ref a, Value.ref b] := .cons rfl (.cons rfl .nil)
  have run := F.run X.A.in1 X.stack s H ⟨[.ref a, .ref b], []⟩ [.ref a, .ref b] [.ref a, .ref b] _ E0 hr.in1 e0 (by
    have := hb s [.ref a, .ref b] I.kIn (by simpa using hl)
    simpa using this) r2 hs
  obtain ⟨hp, g, d, t, os⟩ := s
  refine compareOp_ne_ownEq PySem.F.cmp_object base J2.at_ J2.cls (by have := hr.un; omega) (wpAny_call (codeAny_mono run fun r s' hq => ?_))
  cases r with
  | error e => exact False.elim hq
  | ok fl =>
    cases fl with
    | ret w =>
      obtain ⟨z, H', I', rz, b', ez, ex⟩ := I.after hq
      subst ez
      cases rz
      exact ⟨b', rfl, .bl (!b'), H', I', rfl, ex⟩
    | next => exact False.elim hq
    | brk => exact False.elim hq
    | cont => exact False.elim hq
end
end L2
namespace GQ1
open PySem PySem.SeqAt GQ
open AutoSeq1 (wpAny_loadPart')
open MeetsSeq MeetsSeq2 MeetsSeq3 SeqRoads2
section
variable {prog : Program} {w : World} {A : Around} {E : Value → Shared → Prop}
/-- two lists of one item each, whose items are not equal -/
theorem one_ne {l b : Addr} {x y : Value} {xs ys : Array Value} {n m : Nat} {st : Shared} {Q : Value → Shared → Prop} (hu : A.units < cLine) (hl : st.heap.get? l = some { cls := .type "list", data := .seq xs n }) (hb : st.heap.get? b = some { cls := .type "list", data := .seq ys m })
    (sx : xs.size = 1) (sy : ys.size = 1) (ex : xs[((0 : Int)).toNat]? = some x) (ey : ys[((0 : Int)).toNat]? = some y)
    (item : wpAny (model prog w) A.in1 (eqBool x y) (fun r s' => r = false ∧ (∃ zs us n' m', s'.heap.get? l = some { cls := .type "list", data := .seq zs n' } ∧ s'.heap.get? b = some { cls := .type "list", data := .seq us m' } ∧ zs[((0 : Int)).toNat]?.isSome = true ∧ us[((0 : Int)).toNat]?.isSome = true) ∧ Q (.bool false) s') E st) :
    wpAny (model prog w) A (richCompare .Eq (.ref l) (.ref b)) Q E st := by
  refine wpAny_richCompare_same_room (op := .Eq) ⟨_, hl, rfl⟩ ⟨_, hb, rfl⟩ F.slot_list_eq (call_here F.slot_list_eq ⟨_, hl, rfl⟩ F.entry_list_eq (F.args_list_eq_2 _ _) ?_) hu
  have sub := AutoSeq1.sub_list_list
  have turn : wpAny (model prog w) A.in1 (Builtin.«list.__eq__.loop» ⟨[.ref l, .ref b, rawInt 0, rawInt 2], []⟩) (FinOf prog w A (wants (fun v s' => v ≠ .notImplemented ∧ Q v s') E)) (fun e s' => wants (fun v s' => v ≠ .notImplemented ∧ Q v s') E (.error e) s') st := by
    obtain ⟨hp, g, d, tk, os⟩ := st
    wp_walk using wpAny_loadPart' hl, wpAny_loadPart' hb
    rw [ex, ey]
    refine wpAny_bind (wpAny_mono item (fun r s2 q => ?_) fun _ _ z => z)
    obtain ⟨hr, ⟨zs, us, n', m', hl2, hb2, i1, i2⟩, q⟩ := q
    subst hr
    obtain ⟨z, e1⟩ := Option.isSome_iff_exists.mp i1
    obtain ⟨u, e2⟩ := Option.isSome_iff_exists.mp i2
    obtain ⟨hp2, g2, d2, tk2, os2⟩ := s2
    wp_walk using wpAny_loadPart' hl2, wpAny_loadPart' hb2
    rw [e1, e2]
    wp_walk
    exact ⟨(fun z => nomatch z), q⟩
  have same : ¬ (xs.size != ys.size) = true := by simp [sx, sy]
  obtain ⟨hp, g, d, tk, os⟩ := st
  wp_walk using wpAny_loadPart' hl, wpAny_loadPart' hb
  exact ⟨plainId_quiet plain_eq_loop _, codeAny_builtin entry_eq_loop (by
    rw [Around.under_plainId plain_eq_loop _]
    exact turn)⟩
theorem eq_other {a : Addr} {y : Value} {st : Shared} {Q : Bool → Shared → Prop} (hy : y = .none) (h : wpAny (model prog w) A (richCompare .Eq (.ref a) y) (fun v s' => ∃ r, v = .bool r ∧ Q r s') E st) : wpAny (model prog w) A (eqBool (.ref a) y) Q E st := by
  subst hy
  unfold eqBool
  refine wpAny_holding ?_
  refine wpAny_ite_split (fun z => absurd (eq_of_beq z) (fun z => nomatch z)) fun _ => ?_
  refine wpAny_bind (wpAny_mono h (fun v s' hv => ?_) fun _ _ z => z)
  obtain ⟨r, rfl, q⟩ := hv
  exact wpAny_truthy_bool q
end
end GQ1
namespace L2
open PySem PySem.Spec PyProof.Rows
section
variable {X : Cx} {C : Addr} {k : Nat} {sp : Sp}
/-- [a] == [None], a an instance that is not equal to None -/
def rEq1 (K : PySem.W.Frag) (C : Addr) (sp : Sp) : R2 := fun x y H Q => ∃ l b a dx fs, x = .ref l ∧ y = .ref b ∧ H l = some (.lst [.ref a]) ∧ H b = some (.lst [.non]) ∧ H a = some (.ins C dx fs) ∧ PySem.W.notFirst K C (.type "NoneType") = true ∧ sp [.ref a, .non] H (fun v H' => v = .bl false ∧ H' = H) E0 ∧ Q (.bl false) H
theorem op_eq1 (D : EqOk X.prog X.w X.K X.mg X.base C k sp) (hr : Room (k + 1) X.A) (mono : ∀ vs H Q Q' E, (∀ v H', Q v H' → Q' v H') → sp vs H Q E → sp vs H Q' E) : OpR X (compareOp .Eq) (rEq1 X.K C sp) := by
  intro pins s σ H x y v u Q I rx ry h
  obtain ⟨l, b, a, dx, fs, rfl, rfl, hl, hb, ha, hn, hs, q⟩ := h
  cases rx
  cases ry
  obtain ⟨_, its, n, r1, h1⟩ := (show ObjOk X.prog X.w H s.heap l (.lst [.ref a]) from I.hok l _ hl)
  obtain ⟨_, its2, m, r2, h2⟩ := (show ObjOk X.prog X.w H s.heap b (.lst [.non]) from I.hok b _ hb)
  cases r1 with | cons q1 t1 =>
  cases t1
  cases q1
  cases r2 with | cons q2 t2 =>
  cases t2
  cases q2
  show wpAny (model X.prog X.w) X.A (richCompare .Eq (.ref l) (.ref b)) (EP X pins σ Q) X.xe s
  refine GQ1.one_ne (x := .ref a) (y := .none) hr.units0 h1 h2 rfl rfl rfl rfl (GQ1.eq_other rfl (wpAny_mono (run_eqO D (R := fun c s' => c = false ∧ Inv X pins σ H s' ∧ True) (hr.in1) rfl I ha (show RelV .non Value.none from rfl) .non hn (mono _ _ _ _ _ (fun v H' z => ?_) hs)) (fun r s' z => ?_) fun _ _ z => z))
  · obtain ⟨rfl, rfl⟩ := z
    exact ⟨false, rfl, fun s' I' => ⟨rfl, I', True.intro⟩⟩
  · obtain ⟨c, rfl, rfl, I', _⟩ := z
    obtain ⟨_, jts, n', r1, g1⟩ := (show ObjOk X.prog X.w H s'.heap l (.lst [.ref a]) from I'.hok l _ hl)
    obtain ⟨_, jts2, m', r2, g2⟩ := (show ObjOk X.prog X.w H s'.heap b (.lst [.non]) from I'.hok b _ hb)
    cases r1 with | cons q1 t1 =>
    cases t1
    cases q1
    cases r2 with | cons q2 t2 =>
    cases t2
    cases q2
    exact ⟨false, rfl, rfl, ⟨_, _, n', m', g1, g2, rfl, rfl⟩, .bl false, H, I', rfl, q⟩
end
end L2

/-! for k in w, w a dict of the module whose keys are texts. -/
namespace L2
open PySem PySem.Spec PyProof.Rows
/-- the keys of such a dict -/
def keysL : List DictEntry → Option (List Str)
  | [] => some []
  | e :: r => match e.key, keysL r with
    | .str z _, some zs => some (z :: zs)
    | _, _ => none
theorem keysL_cons {e : DictEntry} {r : List DictEntry} {ks : List Str} (h : keysL (e :: r) = some ks) : ∃ z t zs, e.key = .str z t ∧ keysL r = some zs ∧ ks = z :: zs := by
  unfold keysL at h
  split at h
  · rename_i z t zs e1 e2
    cases h
    exact ⟨z, t, zs, e1, e2, rfl⟩
  · cases h
theorem keysL_len : ∀ {es : List DictEntry} {ks : List Str}, keysL es = some ks → ks.length = es.length
  | [], ks, h => by
    cases h
    rfl
  | e :: r, ks, h => by
    obtain ⟨z, t, zs, _, h2, rfl⟩ := keysL_cons h
    rw [List.length_cons, List.length_cons, keysL_len h2]
theorem keysL_get : ∀ {es : List DictEntry} {ks : List Str} {i : Nat}, keysL es = some ks → i < ks.length → ∃ e z t, es[i]? = some e ∧ e.key = .str z t ∧ ks[i]? = some z
  | [], ks, i, h, hi => by
    cases h
    exact absurd hi (Nat.not_lt_zero _)
  | e :: r, ks, i, h, hi => by
    obtain ⟨z, t, zs, h1, h2, rfl⟩ := keysL_cons h
    cases i with
    | zero => exact ⟨e, z, t, rfl, h1, rfl⟩
    | succ i =>
      obtain ⟨e', z', t', a, b, c⟩ := keysL_get h2 (i := i) (by simpa using hi)
      exact ⟨e', z', t', by simpa using a, b, by simpa using c⟩
/-- turns over the texts ks -/
def Iwk (ks : List Str) : It := ⟨fun i _ => i < ks.length, fun i H x H' => H' = H ∧ ∃ z, ks[i]? = some z ∧ x = .str z, fun i _ => ks.length ≤ i⟩
theorem walk_wk {ks : List Str} : Walk (Iwk ks) ks.length (fun _ => True) (fun i H x H' => H' = H ∧ ∃ z, ks[i]? = some z ∧ x = .str z) :=
  ⟨fun _ _ h _ => h, fun _ _ => Nat.le_refl _, fun _ _ _ _ _ _ y => y⟩
section
variable {P : Program} {w : World} {K : PySem.W.Frag} {tg : Expr}
theorem turn_wk {a : Addr} {es : Array DictEntry} {n : Nat} {ks : List Str} (it : Addr) (hl : K.lookup a = some ⟨.type "dict", none, .dict es n, #[]⟩) (hk : keysL es.toList = some ks) :
    Turn P w K tg (Iwk ks) [it] it (fun i h => h.IsKeyIter it a i ks.length n) where
  mem := List.mem_singleton.mpr rfl
  obj := fun i h st b hb => by
    obtain rfl : b = it := List.mem_singleton.mp hb
    obtain ⟨o, e1, _, e3⟩ := st
    exact ⟨o, e1, fun v z => by rw [e3] at z; cases z⟩
  keep := fun i h h' st k => st.at fun o e => k it (List.mem_singleton.mpr rfl) o e
  item := by
    intro X eP ew eK hc i pins s σ H E I hf st hg
    subst eP ew eK
    obtain ⟨f0, f1, f2, f3, f4, f5⟩ := hf it (List.mem_singleton.mpr rfl)
    obtain ⟨en, z, tk, e1, e2, e3⟩ := keysL_get hk hg
    have hsz : es.size = ks.length := by rw [keysL_len hk, Array.length_toList]
    refine next_key_item st (I.kIn _ _ hl) rfl hsz (by rw [← Array.getElem?_toList]; exact e1) fun h' st' sb => ?_
    have J : Inv X pins σ H { s with heap := h' } := I.turned (t' := s.toks) (fun b o hb q => (sb.2 b hb).trans q) f0 f1 f3 f4 f5
    obtain ⟨o, q1, q2, q3⟩ := id st'
    refine ⟨en.key, rfl, go_of (s := { s with heap := h' }) q1 q2 q3 (by decide) ⟨.str z, H, J, ?_, ⟨rfl, z, e3, rfl⟩, st', fun b hb => (hf b hb).1⟩⟩
    rw [e2]
    exact ⟨tk, rfl⟩
  done := by
    intro X eP ew eK hc i pins s σ H E I hf st hg
    subst eP ew eK
    obtain ⟨f0, f1, f2, f3, f4, f5⟩ := hf it (List.mem_singleton.mpr rfl)
    have hsz : es.size = ks.length := by rw [keysL_len hk, Array.length_toList]
    exact next_key_end (I.ok.hd hc) st (I.kIn _ _ hl) rfl hsz hg fun h' eb => ⟨rfl, I.turned (t' := s.toks) (fun b o hb q => eb b o hb q) f0 f1 f3 f4 f5⟩
  self := fun B j s Q E turned more => by
    have hT := turned.typeIs
    exact wpAny_pyIter_slot hT F.slot_dict_keyiterator_iter (wpAny_call_entry F.slot_dict_keyiterator_iter hT F.entry_dict_keyiterator_iter (wpAny_pure ⟨_, rfl, "dict_keyiterator", _, hT, F.slot_dict_keyiterator_next.lookup, more⟩) (F.args_dict_keyiterator_iter_1 _))
end
def iWk (K : PySem.W.Frag) (td : TE) : TI := fun σ H R => td σ H fun x H1 => ∃ a es n ks, x = .ref a ∧ K.lookup a = some ⟨.type "dict", none, .dict es n, #[]⟩ ∧ (a == sysModules) = false ∧ keysL es.toList = some ks ∧ R (Iwk ks) H1
theorem pi_wk {X : Cx} {tg e : Expr} {td : TE} (he : PE X e td) : PI X tg e (iWk X.K td) := by
  refine ⟨fun pins s σ H R I h => ?_⟩
  refine thn (he.run pins s σ H _ I h) fun u s1 ⟨x, H1, I1, rx, a, es, n, ks, ex, hl, hs, hk, q⟩ => ?_
  subst ex
  obtain rfl : u = Value.ref a := rx
  have hsz : es.size = ks.length := by rw [keysL_len hk, Array.length_toList]
  refine iter_keys hs (I1.kIn _ _ hl) ⟨rfl, rfl, rfl⟩ rfl (pi_one (tk := s1.toks) I1 _ (turn_wk _ hl hk) ⟨_, Heap.get?_push_size _ rfl, rfl, ?_⟩ q)
  rw [hsz] <;> rfl
end L2

/-! Documents as plain data: rows, their texts, and how a text is read. -/
namespace Lw
open PySem L2
def GoodS (n : Nat) (z : Str) : Prop := z.cps.size ≤ n ∧ ∀ c ∈ z.cps.toList, 32 ≤ c ∧ c ≤ 126
inductive Row where
  | text (z : Str) | line (z : Str) | hard | cat (ps : List Int) | nest (n j : Int) | align (j : Int) | group (j : Int)
def Row.data : Row → PyData
  | .text z => .tuple [.str "text", .str z]
  | .line z => .tuple [.str "line", .str z]
  | .hard => .tuple [.str "hard"]
  | .cat ps => .tuple [.str "cat", .list (ps.map .int)]
  | .nest n j => .tuple [.str "nest", .int n, .int j]
  | .align j => .tuple [.str "align", .int j]
  | .group j => .tuple [.str "group", .int j]
def Row.ok (k : Nat) : Row → Prop
  | .text z => GoodS 20 z
  | .line z => GoodS 3 z
  | .hard => True
  | .cat ps => ps.length ≤ 8 ∧ ∀ j ∈ ps, 0 ≤ j ∧ j < k
  | .nest n j => 0 ≤ n ∧ n ≤ 8 ∧ 0 ≤ j ∧ j < k
  | .align j => 0 ≤ j ∧ j < k
  | .group j => 0 ≤ j ∧ j < k
theorem GoodS.mono {n m : Nat} {z : Str} (h : GoodS n z) (hm : n ≤ m) : GoodS m z := ⟨Nat.le_trans h.1 hm, h.2⟩
def OkRows (rs : List Row) : Prop := ∀ (i : Nat) (r : Row), rs[i]? = some r → Row.ok i r
theorem OkRows.snoc {rs : List Row} {r : Row} (h : OkRows rs) (hr : r.ok rs.length) : OkRows (rs ++ [r]) := fun i q e => by
  rcases Nat.lt_trichotomy i rs.length with l | l | l
  · rw [List.getElem?_append_left l] at e
    exact h i q e
  · subst l
    rw [List.getElem?_append_right (Nat.le_refl _), Nat.sub_self] at e
    cases e
    exact hr
  · rw [List.getElem?_eq_none (by rw [List.length_append, List.length_singleton]; omega)] at e
    cases e
def Row.kind : Row → Str
  | .text _ => "text" | .line _ => "line" | .hard => "hard" | .cat _ => "cat" | .nest _ _ => "nest" | .align _ => "align" | .group _ => "group"

/-! ### a line is read -/
def comm : List Nat → List Nat → Nat
  | a :: as, b :: bs => if a = b then comm as bs + 1 else 0
  | _, _ => 0
/-- digits of a number less than e -/
def digs (e : Nat) : List Nat → Option Nat → Nat → Option Nat × Nat
  | [], n, s => (n, s)
  | c :: r, n, s => if 48 ≤ c ∧ c ≤ 57 then (if n = some 0 ∨ e ≤ n.getD 0 * 10 + (c - 48) then (n, s) else digs e r (some (n.getD 0 * 10 + (c - 48))) (s + 1)) else (n, s)
def rdNum (l : List Nat) (s e : Nat) : Option Nat × Nat := if e = 0 ∨ l[s]? ≠ some 32 then (none, s) else digs e (l.drop (s + 1)) none (s + 1)
def good (c : Nat) : Bool := decide (32 ≤ c ∧ c ≤ 126)
def run : Nat → List Nat → Nat
  | 0, _ => 0
  | _ + 1, [] => 0
  | m + 1, c :: r => if good c then run m r + 1 else 0
/-- k: the length of the kind -/
def rdStr (k : Nat) (l : List Nat) (most : Nat) : Option (List Nat) × Nat :=
  if l[k]? ≠ some 32 then (none, k) else if k + 1 + run most (l.drop (k + 1)) < l.length then (none, k + 1 + run most (l.drop (k + 1))) else (some (l.drop (k + 1)), k + 1 + run most (l.drop (k + 1)))
def rdParts (l : List Nat) (k : Nat) : Nat → Nat → List Nat → Option (List Nat) × Nat
  | 0, s, ps => if s < l.length then (none, s) else (some ps, s)
  | m + 1, s, ps => if s < l.length then (match rdNum l s k with | (none, t) => (none, t) | (some p, t) => rdParts l k m t (ps ++ [p])) else (some ps, s)
def rdNums (l : List Nat) : List Nat → Nat → List Nat → Option (List Nat) × Nat
  | [], s, fs => if s < l.length then (none, s) else (some fs, s)
  | e :: es, s, fs => match rdNum l s e with | (none, t) => (none, t) | (some n, t) => rdNums l es t (fs ++ [n])
inductive Kind where
  | text | line | hard | cat | nest | align | group
  deriving DecidableEq
def Kind.str : Kind → Str
  | .text => "text" | .line => "line" | .hard => "hard" | .cat => "cat" | .nest => "nest" | .align => "align" | .group => "group"
def Kind.cps (q : Kind) : List Nat := q.str.cps.toList
def kinds : List Kind := [.text, .line, .hard, .cat, .nest, .align, .group]
def Kind.needs : Kind → Bool
  | .nest => true | .align => true | .group => true | _ => false
def strOf (l : List Nat) : Str := ⟨l.toArray⟩
def rdKind (q : Kind) (l : List Nat) (k : Nat) : Option Row × Nat :=
  if k = 0 ∧ q.needs = true then (none, 0) else
  if comm q.cps l < q.cps.length then (none, comm q.cps l) else
  match q with
  | .text => match rdStr 4 l 20 with | (none, s) => (none, s) | (some z, s) => (some (.text (strOf z)), s)
  | .line => match rdStr 4 l 3 with | (none, s) => (none, s) | (some z, s) => (some (.line (strOf z)), s)
  | .cat => match rdParts l k 8 3 [] with | (none, s) => (none, s) | (some ps, s) => (some (.cat (ps.map Int.ofNat)), s)
  | .nest => match rdNums l [9, k] 4 [] with | (some [n, j], s) => (some (.nest n j), s) | (_, s) => (none, s)
  | .hard => match rdNums l [] 4 [] with | (some _, s) => (some .hard, s) | (none, s) => (none, s)
  | .align => match rdNums l [k] 5 [] with | (some [j], s) => (some (.align j), s) | (_, s) => (none, s)
  | .group => match rdNums l [k] 5 [] with | (some [j], s) => (some (.group j), s) | (_, s) => (none, s)
def rdRow (l : List Nat) (k : Nat) : List Kind → Nat → Option Row × Nat
  | [], m => (none, m)
  | q :: qs, m => match rdKind q l k with | (some r, s) => (some r, s) | (none, s) => rdRow l k qs (max m s)
def rdDoc : List (List Nat) → List Row → Except (Nat × Nat) (List Row)
  | [], rs => .ok rs
  | l :: ls, rs => if rs.length = 200 then .error (200, 0) else match rdRow l rs.length kinds 0 with | (none, s) => .error (rs.length, s) | (some r, _) => rdDoc ls (rs ++ [r])

/-! ### what is read is a row -/
theorem digs_lt {e : Nat} : ∀ {l : List Nat} {n : Option Nat} {s : Nat} {m t : Nat}, digs e l n s = (some m, t) → (∀ a, n = some a → a < e) → m < e
  | [], n, s, m, t, h, hn => by
    cases h
    exact hn m rfl
  | c :: r, n, s, m, t, h, hn => by
    unfold digs at h
    split at h
    · split at h
      · cases h
        exact hn m rfl
      · rename_i h2
        refine digs_lt h fun a ha => ?_
        cases ha
        omega
    · cases h
      exact hn m rfl
theorem rdNum_lt {l : List Nat} {s e m t : Nat} (h : rdNum l s e = (some m, t)) : m < e := by
  unfold rdNum at h
  split at h
  · cases h
  · exact digs_lt h fun a ha => nomatch ha
theorem run_le : ∀ (m : Nat) (l : List Nat), run m l ≤ m ∧ run m l ≤ l.length
  | 0, l => ⟨Nat.le_refl _, Nat.zero_le _⟩
  | m + 1, [] => ⟨Nat.zero_le _, Nat.zero_le _⟩
  | m + 1, c :: r => by
    have := run_le m r
    unfold run
    rw [List.length_cons]
    split <;> omega
theorem run_good : ∀ (m : Nat) (l : List Nat) (i : Nat), i < run m l → ∃ c, l[i]? = some c ∧ good c = true
  | 0, l, i, h => absurd h (Nat.not_lt_zero _)
  | m + 1, [], i, h => absurd h (Nat.not_lt_zero _)
  | m + 1, c :: r, i, h => by
    unfold run at h
    split at h
    · rename_i hc
      cases i with
      | zero => exact ⟨c, rfl, hc⟩
      | succ i => exact run_good m r i (by omega)
    · omega
theorem rdStr_ok {k most s : Nat} {l z : List Nat} (h : rdStr k l most = (some z, s)) : GoodS most (strOf z) := by
  unfold rdStr at h
  split at h
  · cases h
  split at h
  · cases h
  rename_i h2
  cases h
  have r1 := run_le most (l.drop (k + 1))
  rw [List.length_drop] at r1
  refine ⟨?_, fun c hc => ?_⟩
  · show (l.drop (k + 1)).toArray.size ≤ most
    rw [List.size_toArray, List.length_drop]
    omega
  · obtain ⟨i, hi⟩ := List.mem_iff_getElem?.mp (show c ∈ l.drop (k + 1) by simpa [strOf] using hc)
    have hlt : i < (l.drop (k + 1)).length := (List.getElem?_eq_some_iff.mp hi).1
    rw [List.length_drop] at hlt
    obtain ⟨d, h1, h2⟩ := run_good most (l.drop (k + 1)) i (by omega)
    rw [hi] at h1
    cases h1
    exact of_decide_eq_true h2
theorem rdParts_ok {l : List Nat} {k : Nat} : ∀ {m s : Nat} {ps qs : List Nat} {t : Nat}, rdParts l k m s ps = (some qs, t) → (∀ p ∈ ps, p < k) → qs.length ≤ ps.length + m ∧ ∀ p ∈ qs, p < k
  | 0, s, ps, qs, t, h, hp => by
    unfold rdParts at h
    split at h <;> cases h
    exact ⟨Nat.le_refl _, hp⟩
  | m + 1, s, ps, qs, t, h, hp => by
    unfold rdParts at h
    split at h
    · split at h
      · cases h
      · rename_i p t' e
        have := rdParts_ok h fun q hq => by
          rcases List.mem_append.mp hq with hq | hq
          · exact hp q hq
          · rw [List.mem_singleton.mp hq]
            exact rdNum_lt e
        rw [List.length_append, List.length_singleton] at this
        exact ⟨by omega, this.2⟩
    · cases h
      exact ⟨by omega, hp⟩
theorem rdNums1 {l : List Nat} {e s j t : Nat} {fs : List Nat} (h : rdNums l [e] s [] = (some fs, t)) : ∃ j, fs = [j] ∧ j < e := by
  unfold rdNums at h
  split at h
  · cases h
  · rename_i n t' e1
    unfold rdNums at h
    split at h <;> cases h
    exact ⟨n, rfl, rdNum_lt e1⟩
theorem rdNums2 {l : List Nat} {e e' s j t : Nat} {fs : List Nat} (h : rdNums l [e, e'] s [] = (some fs, t)) : ∃ i j, fs = [i, j] ∧ i < e ∧ j < e' := by
  unfold rdNums at h
  split at h
  · cases h
  · rename_i n t' e1
    unfold rdNums at h
    split at h
    · cases h
    · rename_i m t2 e2
      unfold rdNums at h
      split at h <;> cases h
      exact ⟨n, m, rfl, rdNum_lt e1, rdNum_lt e2⟩
theorem rdKind_ok {q : Kind} {l : List Nat} {k s : Nat} {r : Row} (h : rdKind q l k = (some r, s)) : r.ok k := by
  unfold rdKind at h
  split at h
  · cases h
  split at h
  · cases h
  cases q with
  | text =>
    dsimp only at h
    split at h <;> cases h
    exact rdStr_ok (by assumption)
  | line =>
    dsimp only at h
    split at h <;> cases h
    exact rdStr_ok (by assumption)
  | hard =>
    dsimp only at h
    split at h <;> cases h
    exact True.intro
  | cat =>
    dsimp only at h
    split at h <;> cases h
    rename_i ps e
    have := rdParts_ok e fun p hp => nomatch hp
    refine ⟨by rw [List.length_map]; simpa using this.1, fun j hj => ?_⟩
    obtain ⟨n, hn, rfl⟩ := List.mem_map.mp hj
    exact ⟨Int.natCast_nonneg n, Int.ofNat_lt.mpr (this.2 n hn)⟩
  | nest =>
    dsimp only at h
    split at h <;> cases h
    rename_i n j e
    obtain ⟨a, b, e1, h1, h2⟩ := rdNums2 (j := 0) e
    cases e1
    exact ⟨Int.natCast_nonneg _, by omega, Int.natCast_nonneg _, Int.ofNat_lt.mpr h2⟩
  | align =>
    dsimp only at h
    split at h <;> cases h
    rename_i j e
    obtain ⟨a, e1, h1⟩ := rdNums1 (j := 0) e
    cases e1
    exact ⟨Int.natCast_nonneg _, Int.ofNat_lt.mpr h1⟩
  | group =>
    dsimp only at h
    split at h <;> cases h
    rename_i j e
    obtain ⟨a, e1, h1⟩ := rdNums1 (j := 0) e
    cases e1
    exact ⟨Int.natCast_nonneg _, Int.ofNat_lt.mpr h1⟩
theorem rdRow_ok {l : List Nat} {k : Nat} {r : Row} {s : Nat} : ∀ {qs : List Kind} {m : Nat}, rdRow l k qs m = (some r, s) → r.ok k
  | [], m, h => by cases h
  | q :: qs, m, h => by
    unfold rdRow at h
    split at h
    · cases h
      exact rdKind_ok (by assumption)
    · exact rdRow_ok h
theorem rdDoc_ok : ∀ {ls : List (List Nat)} {rs qs : List Row}, rdDoc ls rs = .ok qs → OkRows rs → rs.length ≤ 200 → OkRows qs ∧ qs.length ≤ 200 ∧ qs.length = rs.length + ls.length
  | [], rs, qs, h, ho, hl => by
    cases h
    exact ⟨ho, hl, rfl⟩
  | l :: ls, rs, qs, h, ho, hl => by
    unfold rdDoc at h
    split at h
    · cases h
    split at h
    · cases h
    · rename_i hne r s e
      have := rdDoc_ok h (ho.snoc (rdRow_ok e)) (by rw [List.length_append, List.length_singleton]; omega)
      rw [List.length_append, List.length_singleton] at this
      rw [List.length_cons]
      exact ⟨this.1, this.2.1, by omega⟩

/-! ### the text of a row, and back -/
def dg (n : Nat) : List Nat := if n < 10 then [48 + n] else if n < 100 then [48 + n / 10, 48 + n % 10] else [48 + n / 100, 48 + n / 10 % 10, 48 + n % 10]
/-- the words of a row behind its kind -/
def Row.words : Row → List (List Nat)
  | .text z => [z.cps.toList]
  | .line z => [z.cps.toList]
  | .hard => []
  | .cat ps => ps.map fun p => dg p.toNat
  | .nest n j => [dg n.toNat, dg j.toNat]
  | .align j => [dg j.toNat]
  | .group j => [dg j.toNat]
def tailL (ws : List (List Nat)) : List Nat := ws.flatMap fun w => 32 :: w
def Row.q : Row → Kind
  | .text _ => .text | .line _ => .line | .hard => .hard | .cat _ => .cat | .nest _ _ => .nest | .align _ => .align | .group _ => .group
def Row.codes (r : Row) : List Nat := r.q.cps ++ tailL r.words
theorem digs_dg {e n : Nat} {r : List Nat} {s : Nat} (hn : n < e) (he : e ≤ 1000) (hr : r = [] ∨ ∃ t, r = 32 :: t) : digs e (dg n ++ r) none s = (some n, s + (dg n).length) := by
  have stop : ∀ (m : Nat) (s : Nat), digs e r (some m) s = (some m, s) := fun m s => by
    rcases hr with rfl | ⟨t, rfl⟩
    · rfl
    · unfold digs
      rw [if_neg (by decide)]
  have step : ∀ (o : Option Nat) (d : Nat) (s : Nat) (t : List Nat), d < 10 → o ≠ some 0 → o.getD 0 * 10 + d < e → digs e ((48 + d) :: t) o s = digs e t (some (o.getD 0 * 10 + d)) (s + 1) := fun o d s t hd ho hlt => by
    conv => lhs; unfold digs
    rw [if_pos (by omega), show 48 + d - 48 = d by omega, if_neg (by rintro (h | h) <;> first | exact ho h | omega)]
  unfold dg
  split
  · rename_i h
    rw [List.cons_append, step none n s _ h (fun z => nomatch z) (by simpa using hn)]
    simpa using stop n (s + 1)
  split
  · rename_i h1 h
    rw [List.cons_append, step none (n / 10) s _ (by omega) (fun z => nomatch z) (by simp; omega), List.cons_append, step _ (n % 10) _ _ (by omega) (fun z => by
      have := Option.some.inj z
      simp at this
      omega) (by simp; omega)]
    have e1 : (some (Option.getD none 0 * 10 + n / 10)).getD 0 * 10 + n % 10 = n := by simp; omega
    rw [e1]
    exact stop n (s + 2)
  · rename_i h1 h
    rw [List.cons_append, step none (n / 100) s _ (by omega) (fun z => nomatch z) (by simp; omega), List.cons_append, step _ (n / 10 % 10) _ _ (by omega) (fun z => by
      have := Option.some.inj z
      simp at this
      omega) (by simp; omega), List.cons_append, step _ (n % 10) _ _ (by omega) (fun z => by
      have := Option.some.inj z
      simp at this
      omega) (by simp; omega)]
    have e1 : (some ((some (Option.getD none 0 * 10 + n / 100)).getD 0 * 10 + n / 10 % 10)).getD 0 * 10 + n % 10 = n := by simp; omega
    rw [e1]
    exact stop n (s + 3)
/-- l is p, then w -/
theorem rdNum_dg {p : List Nat} {e n : Nat} {r : List Nat} (hn : n < e) (he : e ≤ 1000) (hr : r = [] ∨ ∃ t, r = 32 :: t) : rdNum (p ++ 32 :: (dg n ++ r)) p.length e = (some n, p.length + (1 + (dg n).length)) := by
  unfold rdNum
  rw [if_neg (by
    rintro (h | h)
    · omega
    · exact h (by rw [List.getElem?_append_right (Nat.le_refl _), Nat.sub_self]; rfl)), show p ++ 32 :: (dg n ++ r) = (p ++ [32]) ++ (dg n ++ r) by simp, List.drop_append_of_le_length (by simp), show List.drop (p.length + 1) (p ++ [32]) = [] from List.drop_eq_nil_of_le (by simp), List.nil_append, digs_dg hn he hr]
  congr 1
  omega
theorem tail_shape (ws : List (List Nat)) : tailL ws = [] ∨ ∃ t, tailL ws = 32 :: t := by
  cases ws with
  | nil => exact .inl rfl
  | cons w ws => exact .inr ⟨w ++ tailL ws, by simp [tailL]⟩
theorem tail_cons (w : List Nat) (ws : List (List Nat)) : tailL (w :: ws) = 32 :: (w ++ tailL ws) := by simp [tailL]
theorem rdParts_back {k : Nat} (hk : k ≤ 1000) : ∀ (ps : List Nat) (p : List Nat) (m : Nat) (qs : List Nat), ps.length ≤ m → (∀ j ∈ ps, j < k) → ∃ t, rdParts (p ++ tailL (ps.map dg)) k m p.length qs = (some (qs ++ ps), t)
  | [], p, 0, qs, hm, hj => ⟨p.length, by
    unfold rdParts
    rw [if_neg (by simp [tailL])]
    simp⟩
  | [], p, m + 1, qs, hm, hj => ⟨p.length, by
    unfold rdParts
    rw [if_neg (by simp [tailL])]
    simp⟩
  | j :: ps, p, 0, qs, hm, hj => absurd hm (by simp)
  | j :: ps, p, m + 1, qs, hm, hj => by
    have e := rdNum_dg (p := p) (hj j List.mem_cons_self) hk (tail_shape (ps.map dg))
    obtain ⟨t, ht⟩ := rdParts_back hk ps (p ++ 32 :: dg j) m (qs ++ [j]) (by simpa using hm) fun i hi => hj i (List.mem_cons_of_mem _ hi)
    refine ⟨t, ?_⟩
    rw [List.map_cons, tail_cons]
    unfold rdParts
    rw [if_pos (by rw [List.length_append, List.length_cons]; omega), e]
    dsimp only
    have e2 : p.length + (1 + (dg j).length) = (p ++ 32 :: dg j).length := by rw [List.length_append, List.length_cons]; omega
    have e3 : p ++ 32 :: (dg j ++ tailL (ps.map dg)) = (p ++ 32 :: dg j) ++ tailL (ps.map dg) := by simp
    rw [e2, e3, ht]
    simp
theorem rdNums_back : ∀ (es ns : List Nat) (p : List Nat) (qs : List Nat), es.length = ns.length → (∀ (i e n : Nat), es[i]? = some e → ns[i]? = some n → n < e ∧ e ≤ 1000) → ∃ t, rdNums (p ++ tailL (ns.map dg)) es p.length qs = (some (qs ++ ns), t)
  | [], [], p, qs, hl, h => ⟨p.length, by
    unfold rdNums
    rw [if_neg (by simp [tailL])]
    simp⟩
  | [], n :: ns, p, qs, hl, h => absurd hl (by simp)
  | e :: es, [], p, qs, hl, h => absurd hl (by simp)
  | e :: es, n :: ns, p, qs, hl, h => by
    obtain ⟨h1, h2⟩ := h 0 e n rfl rfl
    have e1 := rdNum_dg (p := p) h1 h2 (tail_shape (ns.map dg))
    obtain ⟨t, ht⟩ := rdNums_back es ns (p ++ 32 :: dg n) (qs ++ [n]) (by simpa using hl) fun i a b ha hb => h (i + 1) a b ha hb
    refine ⟨t, ?_⟩
    rw [List.map_cons, tail_cons]
    unfold rdNums
    rw [e1]
    dsimp only
    have e2 : p.length + (1 + (dg n).length) = (p ++ 32 :: dg n).length := by rw [List.length_append, List.length_cons]; omega
    have e3 : p ++ 32 :: (dg n ++ tailL (ns.map dg)) = (p ++ 32 :: dg n) ++ tailL (ns.map dg) := by simp
    rw [e2, e3, ht]
    simp
theorem run_all : ∀ (l : List Nat) (m : Nat), l.length ≤ m → (∀ c ∈ l, good c = true) → run m l = l.length
  | [], 0, _, _ => rfl
  | [], _ + 1, _, _ => rfl
  | c :: r, 0, h, _ => absurd h (by simp)
  | c :: r, m + 1, h, hg => by
    unfold run
    rw [if_pos (hg c List.mem_cons_self), run_all r m (by simpa using h) fun d hd => hg d (List.mem_cons_of_mem _ hd)]
    rfl
theorem rdStr_back {p : List Nat} {z : Str} {most : Nat} (h : GoodS most z) : ∃ t, rdStr p.length (p ++ 32 :: z.cps.toList) most = (some z.cps.toList, t) := by
  have e : (p ++ 32 :: z.cps.toList).drop (p.length + 1) = z.cps.toList := by
    rw [show p ++ 32 :: z.cps.toList = (p ++ [32]) ++ z.cps.toList by simp, List.drop_append_of_le_length (by simp), show List.drop (p.length + 1) (p ++ [32]) = [] from List.drop_eq_nil_of_le (by simp), List.nil_append]
  have hr := run_all z.cps.toList most (by simpa using h.1) fun c hc => decide_eq_true (h.2 c hc)
  refine ⟨p.length + 1 + z.cps.toList.length, ?_⟩
  unfold rdStr
  rw [if_neg (by
    intro hne
    exact hne (by rw [List.getElem?_append_right (Nat.le_refl _), Nat.sub_self]; rfl)), e, hr, if_neg (by rw [List.length_append, List.length_cons]; omega)]
theorem comm_self : ∀ (a b : List Nat), comm a (a ++ b) = a.length
  | [], b => by cases b <;> rfl
  | c :: a, b => by
    rw [List.cons_append]
    unfold comm
    rw [if_pos rfl, comm_self a b]
    rfl
theorem cps_text : Kind.cps .text = [116, 101, 120, 116] := by decide +kernel
theorem cps_line : Kind.cps .line = [108, 105, 110, 101] := by decide +kernel
theorem cps_hard : Kind.cps .hard = [104, 97, 114, 100] := by decide +kernel
theorem cps_cat : Kind.cps .cat = [99, 97, 116] := by decide +kernel
theorem cps_nest : Kind.cps .nest = [110, 101, 115, 116] := by decide +kernel
theorem cps_align : Kind.cps .align = [97, 108, 105, 103, 110] := by decide +kernel
theorem cps_group : Kind.cps .group = [103, 114, 111, 117, 112] := by decide +kernel
theorem rdKind_back {r : Row} {k : Nat} (h : r.ok k) (hk : k ≤ 1000) : ∃ t, rdKind r.q r.codes k = (some r, t) := by
  have h0 : ¬ (k = 0 ∧ r.q.needs = true) := by
    rintro ⟨rfl, hn⟩
    cases r with
    | nest n j => exact absurd (show 0 ≤ n ∧ n ≤ 8 ∧ 0 ≤ j ∧ j < (0 : Nat) from h) (by omega)
    | align j => exact absurd (show 0 ≤ j ∧ j < (0 : Nat) from h) (by omega)
    | group j => exact absurd (show 0 ≤ j ∧ j < (0 : Nat) from h) (by omega)
    | _ => cases hn
  unfold rdKind
  rw [if_neg h0, if_neg (by unfold Row.codes; rw [comm_self]; omega)]
  cases r with
  | text z =>
    obtain ⟨t, ht⟩ := rdStr_back (p := Kind.cps .text) (z := z) (most := 20) h
    refine ⟨t, ?_⟩
    have e : Row.codes (.text z) = Kind.cps .text ++ 32 :: z.cps.toList := by simp [Row.codes, Row.words, Row.q, tailL]
    have e4 : (Kind.cps .text).length = 4 := by rw [cps_text]; rfl
    rw [e4] at ht
    show (match rdStr 4 (Row.codes (.text z)) 20 with | (none, s) => (none, s) | (some z, s) => (some (Row.text (strOf z)), s)) = _
    rw [e, ht]
    rfl
  | line z =>
    obtain ⟨t, ht⟩ := rdStr_back (p := Kind.cps .line) (z := z) (most := 3) h
    refine ⟨t, ?_⟩
    have e : Row.codes (.line z) = Kind.cps .line ++ 32 :: z.cps.toList := by simp [Row.codes, Row.words, Row.q, tailL]
    have e4 : (Kind.cps .line).length = 4 := by rw [cps_line]; rfl
    rw [e4] at ht
    show (match rdStr 4 (Row.codes (.line z)) 3 with | (none, s) => (none, s) | (some z, s) => (some (Row.line (strOf z)), s)) = _
    rw [e, ht]
    rfl
  | hard =>
    obtain ⟨t, ht⟩ := rdNums_back [] [] (Kind.cps .hard) [] rfl fun i e n a => by simp at a
    have e4 : (Kind.cps .hard).length = 4 := by rw [cps_hard]; rfl
    rw [e4] at ht
    refine ⟨t, ?_⟩
    show (match rdNums (Row.codes .hard) [] 4 [] with | (some _, s) => (some Row.hard, s) | (none, s) => (none, s)) = _
    rw [show Row.codes .hard = Kind.cps .hard ++ tailL (([] : List Nat).map dg) from rfl, ht]
  | cat ps =>
    obtain ⟨h8, hp⟩ := h
    obtain ⟨t, ht⟩ := rdParts_back hk (ps.map Int.toNat) (Kind.cps .cat) 8 [] (by rw [List.length_map]; exact h8) fun j hj => by
      obtain ⟨i, hi, rfl⟩ := List.mem_map.mp hj
      have := hp i hi
      omega
    have e3 : (Kind.cps .cat).length = 3 := by rw [cps_cat]; rfl
    rw [e3] at ht
    refine ⟨t, ?_⟩
    show (match rdParts (Row.codes (.cat ps)) k 8 3 [] with | (none, s) => (none, s) | (some ps, s) => (some (Row.cat (ps.map Int.ofNat)), s)) = _
    have e : Row.codes (.cat ps) = Kind.cps .cat ++ tailL ((ps.map Int.toNat).map dg) := by simp [Row.codes, Row.words, Row.q, List.map_map, Function.comp_def]
    rw [e, ht]
    dsimp only
    have e2 : (([] : List Nat) ++ ps.map Int.toNat).map Int.ofNat = ps := by
      rw [List.nil_append, List.map_map]
      clear ht e h8 h0
      induction ps with
      | nil => rfl
      | cons j ps ih =>
        rw [List.map_cons, ih fun i hi => hp i (List.mem_cons_of_mem _ hi)]
        have := (hp j List.mem_cons_self).1
        congr 1
        show (j.toNat : Int) = j
        omega
    rw [e2]
  | nest n j =>
    obtain ⟨n0, n8, j0, jk⟩ := h
    obtain ⟨t, ht⟩ := rdNums_back [9, k] [n.toNat, j.toNat] (Kind.cps .nest) [] rfl fun i a b ha hb => by
      match i, ha, hb with
      | 0, ha, hb => cases ha; cases hb; omega
      | 1, ha, hb => cases ha; cases hb; omega
      | i + 2, ha, hb => simp at ha
    have e4 : (Kind.cps .nest).length = 4 := by rw [cps_nest]; rfl
    rw [e4] at ht
    refine ⟨t, ?_⟩
    show (match rdNums (Row.codes (.nest n j)) [9, k] 4 [] with | (some [n, j], s) => (some (Row.nest n j), s) | (_, s) => (none, s)) = _
    rw [show Row.codes (.nest n j) = Kind.cps .nest ++ tailL ([n.toNat, j.toNat].map dg) from rfl, ht]
    dsimp only [List.nil_append]
    rw [show ((n.toNat : Nat) : Int) = n by omega, show ((j.toNat : Nat) : Int) = j by omega]
  | align j =>
    obtain ⟨j0, jk⟩ := h
    obtain ⟨t, ht⟩ := rdNums_back [k] [j.toNat] (Kind.cps .align) [] rfl fun i a b ha hb => by
      match i, ha, hb with
      | 0, ha, hb => cases ha; cases hb; omega
      | i + 1, ha, hb => simp at ha
    have e4 : (Kind.cps .align).length = 5 := by rw [cps_align]; rfl
    rw [e4] at ht
    refine ⟨t, ?_⟩
    show (match rdNums (Row.codes (.align j)) [k] 5 [] with | (some [j], s) => (some (Row.align j), s) | (_, s) => (none, s)) = _
    rw [show Row.codes (.align j) = Kind.cps .align ++ tailL ([j.toNat].map dg) from rfl, ht]
    dsimp only [List.nil_append]
    rw [show ((j.toNat : Nat) : Int) = j by omega]
  | group j =>
    obtain ⟨j0, jk⟩ := h
    obtain ⟨t, ht⟩ := rdNums_back [k] [j.toNat] (Kind.cps .group) [] rfl fun i a b ha hb => by
      match i, ha, hb with
      | 0, ha, hb => cases ha; cases hb; omega
      | i + 1, ha, hb => simp at ha
    have e4 : (Kind.cps .group).length = 5 := by rw [cps_group]; rfl
    rw [e4] at ht
    refine ⟨t, ?_⟩
    show (match rdNums (Row.codes (.group j)) [k] 5 [] with | (some [j], s) => (some (Row.group j), s) | (_, s) => (none, s)) = _
    rw [show Row.codes (.group j) = Kind.cps .group ++ tailL ([j.toNat].map dg) from rfl, ht]
    dsimp only [List.nil_append]
    rw [show ((j.toNat : Nat) : Int) = j by omega]
/-- another kind does not read it -/
theorem comm_head {a b : Nat} {as bs : List Nat} (h : a ≠ b) : comm (a :: as) (b :: bs) = 0 := by
  unfold comm
  exact if_neg h
theorem rdKind_other {q q' : Kind} {l t : List Nat} {k : Nat} (h : q ≠ q') (e : l = q'.cps ++ t) : rdKind q l k = (none, 0) := by
  have c0 : comm q.cps l = 0 := by
    rw [e]
    cases q <;> cases q' <;> first | exact absurd rfl h | skip
    all_goals (simp only [cps_text, cps_line, cps_hard, cps_cat, cps_nest, cps_align, cps_group, List.cons_append]; exact comm_head (by decide))
  have hq : 0 < q.cps.length := by cases q <;> decide +kernel
  unfold rdKind
  split
  · rfl
  · rw [c0, if_pos hq]
theorem rdRow_back {r : Row} {k : Nat} (h : r.ok k) (hk : k ≤ 1000) : ∃ t, rdRow r.codes k kinds 0 = (some r, t) := by
  obtain ⟨t, ht⟩ := rdKind_back h hk
  refine ⟨t, ?_⟩
  have other : ∀ q, q ≠ r.q → rdKind q r.codes k = (none, 0) := fun q hq => rdKind_other hq rfl
  have go : ∀ qs m, r.q ∈ qs → rdRow r.codes k qs m = (some r, t) := fun qs => by
    induction qs with
    | nil => intro m hm; cases hm
    | cons q qs ih =>
      intro m hm
      by_cases e : q = r.q
      · unfold rdRow
        rw [e, ht]
      · unfold rdRow
        rw [other q e]
        exact ih _ ((List.mem_cons.mp hm).resolve_left fun z => e z.symm)
  exact go kinds 0 (by cases r <;> simp [Row.q, kinds])
theorem rdDoc_back : ∀ (qs rs : List Row), OkRows (rs ++ qs) → (rs ++ qs).length ≤ 200 → rdDoc (qs.map Row.codes) rs = .ok (rs ++ qs)
  | [], rs, _, _ => by simp [rdDoc]
  | q :: qs, rs, ho, hl => by
    rw [List.length_append, List.length_cons] at hl
    obtain ⟨t, ht⟩ := rdRow_back (r := q) (k := rs.length) (ho rs.length q (by rw [List.getElem?_append_right (Nat.le_refl _), Nat.sub_self]; rfl)) (by omega)
    rw [List.map_cons]
    unfold rdDoc
    rw [if_neg (by omega), ht]
    have e : rs ++ q :: qs = (rs ++ [q]) ++ qs := by simp
    have := rdDoc_back qs (rs ++ [q]) (by rw [← e]; exact ho) (by rw [← e, List.length_append, List.length_cons]; omega)
    rw [e]
    exact this
end Lw

/-! Texts as lists of signs. -/
namespace Lw
open PySem PySem.Spec PyProof.Rows L2
/-- a number, or None -/
def optI : Option Nat → V
  | none => .non
  | some n => .int n
abbrev cl (z : Str) : List Nat := z.cps.toList
theorem cl_len (z : Str) : (cl z).length = z.length := Array.length_toList
theorem cl_inj {a b : Str} (h : cl a = cl b) : a = b := Str.ext' (Array.toList_inj.mp h)
theorem cl_one (c : Nat) : cl ⟨#[c]⟩ = [c] := rfl
theorem cut_take (z : Str) (i j : Nat) (hij : i ≤ j) : cl (cutS z (some (i : Int)) (some (j : Int))) = ((cl z).drop i).take (j - i) := by
  unfold cutS
  rw [HT.sIx_nat, HT.sIx_nat]
  show ((cl z).drop (min i z.length)).take (min j z.length - min i z.length) = _
  by_cases h : i ≤ z.length
  · rw [Nat.min_eq_left h]
    by_cases h2 : j ≤ z.length
    · rw [Nat.min_eq_left h2]
    · rw [Nat.min_eq_right (by omega), List.take_of_length_le (by rw [List.length_drop, cl_len]; omega), List.take_of_length_le (by rw [List.length_drop, cl_len]; omega)]
  · rw [Nat.min_eq_right (by omega : z.length ≤ i), Nat.min_eq_right (by omega : z.length ≤ j), Nat.sub_self, List.take_zero, List.drop_of_length_le (by rw [cl_len]; omega), List.take_nil]
theorem cut_from (z : Str) (i : Nat) : cl (cutS z (some (i : Int)) none) = (cl z).drop i := by
  unfold cutS
  rw [HT.sIx_nat, HT.sIx_none]
  show ((cl z).drop (min i z.length)).take (z.length - min i z.length) = _
  by_cases h : i ≤ z.length
  · rw [Nat.min_eq_left h, List.take_of_length_le (by rw [List.length_drop, cl_len]; omega)]
  · rw [Nat.min_eq_right (by omega), Nat.sub_self, List.take_zero, List.drop_of_length_le (by rw [cl_len]; omega)]
theorem cut_one (z : Str) (i : Nat) : cl (cutS z (some (i : Int)) (some ((i : Int) + 1))) = ((cl z).drop i).take 1 := by
  have := cut_take z i (i + 1) (by omega)
  rw [show i + 1 - i = 1 by omega] at this
  exact this
theorem take1 (l : List Nat) (i : Nat) : (l.drop i).take 1 = match l[i]? with | some c => [c] | none => [] := by
  cases h : l[i]? with
  | none =>
    have := List.getElem?_eq_none_iff.mp h
    rw [List.drop_of_length_le this, List.take_nil]
  | some c =>
    obtain ⟨hi, e⟩ := List.getElem?_eq_some_iff.mp h
    rw [List.drop_eq_getElem_cons hi, e]
    rfl
/-- z[i:i+1] == the sign c -/
theorem cut_eq (z : Str) (i c : Nat) : decide (V.str (cutS z (some (i : Int)) (some ((i : Int) + 1))) = V.str ⟨#[c]⟩) = decide ((cl z)[i]? = some c) := by
  have e := cut_one z i
  rw [take1] at e
  by_cases h : (cl z)[i]? = some c
  · rw [h] at e
    rw [decide_eq_true h, decide_eq_true (by rw [cl_inj (a := cutS z _ _) (b := ⟨#[c]⟩) e])]
  · rw [decide_eq_false h, decide_eq_false (fun q => h ?_)]
    rw [V.str.inj q] at e
    cases h2 : (cl z)[i]? with
    | none => rw [h2] at e; cases e
    | some d =>
      rw [h2] at e
      rw [List.cons.inj e |>.1]
theorem lt1 (a b : Nat) : decide (([a] : List Nat) < [b]) = decide (a < b) := by
  by_cases h : a < b
  · rw [decide_eq_true h]
    exact decide_eq_true (show List.Lex _ _ _ from List.Lex.rel h)
  · rw [decide_eq_false h, decide_eq_false]
    intro z
    cases z with
    | rel h' => exact h h'
    | cons h' => cases h'
theorem not_lt1 (a b : Nat) : (!decide (([a] : List Nat) < [b])) = decide (b ≤ a) := by
  rw [lt1]
  by_cases z : a < b
  · rw [decide_eq_true z, decide_eq_false (by omega)]
    rfl
  · rw [decide_eq_false z, decide_eq_true (by omega)]
    rfl
theorem from0 (c : Nat) : (!decide (({ cps := #[c] } : Str).cps.toList < (Str.ofString "0").cps.toList)) = decide (48 ≤ c) := not_lt1 c 48
theorem to9 (c : Nat) : (!decide ((Str.ofString "9").cps.toList < ({ cps := #[c] } : Str).cps.toList)) = decide (c ≤ 57) := not_lt1 57 c
theorem fromB (c : Nat) : (!decide (({ cps := #[c] } : Str).cps.toList < (Str.ofString " ").cps.toList)) = decide (32 ≤ c) := not_lt1 c 32
theorem toT (c : Nat) : (!decide ((Str.ofString "~").cps.toList < ({ cps := #[c] } : Str).cps.toList)) = decide (c ≤ 126) := not_lt1 126 c
theorem scal_opt (o : Option Nat) (i : Int) : scal (optI o) (.int i) = true := by cases o <;> rfl
theorem tru_opt {K : PySem.W.Frag} {H : Hp} (o : Option Nat) : TruV K (optI o) H (match o with | none => false | some n => (n : Int) != 0) := by cases o <;> rfl
/-- what is told of the sign at i -/
theorem at_sign {z : Str} {i : Nat} (h : i < z.length) : ∃ c, (cl z)[i]? = some c ∧ atI (cl z) (i : Int) = some c :=
  ⟨(cl z)[i]'(by rw [cl_len]; exact h), List.getElem?_eq_getElem _, atI_nat (List.getElem?_eq_getElem _)⟩
theorem digit_text (c : Nat) (h : 48 ≤ c ∧ c ≤ 57) : PySem.intText? ⟨#[c]⟩ = some ((c - 48 : Nat) : Int) := by
  have : ∀ d, d < 10 → PySem.intText? ⟨#[48 + d]⟩ = some ((d : Nat) : Int) := by decide +kernel
  have e := this (c - 48) (by omega)
  rw [show 48 + (c - 48) = c by omega] at e
  exact e
theorem dg_text : ∀ n : Nat, n < 1000 → cl (toString (n : Int) : Str) = dg n := by
  have h : (List.range 1000).all (fun n : Nat => decide (cl (toString (n : Int) : Str) = dg n)) = true := by decide +kernel
  intro n hn
  exact of_decide_eq_true (List.all_eq_true.mp h n (List.mem_range.mpr hn))
theorem drop_step {α : Type} {l : List α} {m : Nat} {c : α} (h : l[m]? = some c) : l.drop m = c :: l.drop (m + 1) := by
  obtain ⟨hi, e⟩ := List.getElem?_eq_some_iff.mp h
  rw [List.drop_eq_getElem_cons hi, e]
theorem drop_end {l : List Nat} {m : Nat} (h : l[m]? = none) : l.drop m = [] := List.drop_of_length_le (List.getElem?_eq_none_iff.mp h)
theorem comm_go {a b : List Nat} {m c : Nat} (ha : a[m]? = some c) (hb : b[m]? = some c) : comm (a.drop m) (b.drop m) = comm (a.drop (m + 1)) (b.drop (m + 1)) + 1 := by
  rw [drop_step ha, drop_step hb]
  conv => lhs; unfold comm
  rw [if_pos rfl]
theorem comm_stop {a b : List Nat} {m : Nat} (h : a[m]? = none ∨ a[m]? ≠ b[m]?) : comm (a.drop m) (b.drop m) = 0 := by
  cases ha : a[m]? with
  | none =>
    rw [drop_end ha]
    rfl
  | some c =>
    cases hb : b[m]? with
    | none =>
      rw [drop_end hb, drop_step ha]
      rfl
    | some d =>
      rw [drop_step ha, drop_step hb]
      unfold comm
      rw [if_neg]
      rintro rfl
      rcases h with h | h
      · rw [ha] at h
        cases h
      · exact h (ha.trans hb.symm)
theorem run_go {l : List Nat} {m n c : Nat} (h : l[m]? = some c) (hg : good c = true) : run (n + 1) (l.drop m) = run n (l.drop (m + 1)) + 1 := by
  rw [drop_step h]
  conv => lhs; unfold run
  rw [if_pos hg]
theorem run_stop {l : List Nat} {m n : Nat} (h : n = 0 ∨ l[m]? = none ∨ ∃ c, l[m]? = some c ∧ good c = false) : run n (l.drop m) = 0 := by
  rcases h with rfl | h | ⟨c, h, hg⟩
  · unfold run
    rfl
  · rw [drop_end h]
    cases n <;> rfl
  · rw [drop_step h]
    cases n with
    | zero => rfl
    | succ n =>
      unfold run
      rw [hg]
      rfl
theorem digs_in {e m c : Nat} {l : List Nat} {o : Option Nat} (h : l[m]? = some c) (hc : 48 ≤ c ∧ c ≤ 57) (ho : o ≠ some 0) (he : o.getD 0 * 10 + (c - 48) < e) : digs e (l.drop m) o m = digs e (l.drop (m + 1)) (some (o.getD 0 * 10 + (c - 48))) (m + 1) := by
  rw [drop_step h]
  conv => lhs; unfold digs
  rw [if_pos hc, if_neg (by rintro (z | z) <;> first | exact ho z | omega)]
theorem digs_out {e m c : Nat} {l : List Nat} {o : Option Nat} (h : l[m]? = some c) (hc : ¬ (48 ≤ c ∧ c ≤ 57) ∨ o = some 0 ∨ e ≤ o.getD 0 * 10 + (c - 48)) : digs e (l.drop m) o m = (o, m) := by
  rw [drop_step h]
  unfold digs
  by_cases h1 : 48 ≤ c ∧ c ≤ 57
  · rw [if_pos h1, if_pos (hc.resolve_left fun z => z h1)]
  · rw [if_neg h1]
end Lw
namespace Lw
open PySem PySem.Spec PyProof.Rows L2
def RowV (K : PySem.W.Frag) (U : Hp) (v : V) : Option Row → Prop
  | none => v = .non
  | some r => Dp K U v r.data
theorem strOf_cl (z : Str) : strOf (cl z) = z := cl_inj (by simp [strOf])
end Lw
namespace Lw
open PySem PySem.Spec PyProof.Rows L2 TL
theorem join_tail (w : List Nat) (ws : List (List Nat)) : joinL [32] (w :: ws) = w ++ tailL ws := by
  induction ws generalizing w with
  | nil => simp [tailL, joinL]
  | cons v ws ih =>
    show w ++ ([32] ++ joinL [32] (v :: ws)) = _
    rw [ih, tail_cons]
    rfl
theorem dg_len (n : Nat) : (dg n).length ≤ 3 := by
  unfold dg
  split
  · simp
  split <;> simp
theorem dg_clean (n : Nat) (h : n < 1000) : ∀ c ∈ dg n, 48 ≤ c ∧ c ≤ 57 := by
  intro c hc
  unfold dg at hc
  split at hc
  · simp at hc
    omega
  split at hc <;> simp at hc <;> omega
theorem tail_len (m : Nat) : ∀ (ws : List (List Nat)), (∀ w ∈ ws, w.length ≤ m) → (tailL ws).length ≤ ws.length * (m + 1)
  | [], _ => by simp [tailL]
  | w :: ws, h => by
    rw [tail_cons, List.length_cons, List.length_append, List.length_cons, Nat.succ_mul]
    have := tail_len m ws fun v hv => h v (List.mem_cons_of_mem _ hv)
    have := h w List.mem_cons_self
    omega
theorem kind_short (q : Kind) : q.cps.length ≤ 5 ∧ ∀ c ∈ q.cps, 97 ≤ c ∧ c ≤ 122 := by cases q <;> decide +kernel
theorem codes_len {r : Row} {k : Nat} (h : r.ok k) : r.codes.length ≤ 64 := by
  have hk := (kind_short r.q).1
  unfold Row.codes
  rw [List.length_append]
  cases r with
  | text z =>
    have := tail_len 20 [cl z] fun w hw => by rw [List.mem_singleton.mp hw, cl_len]; exact h.1
    show _ + (tailL [cl z]).length ≤ 64
    simp at this
    omega
  | line z =>
    have := tail_len 20 [cl z] fun w hw => by rw [List.mem_singleton.mp hw, cl_len]; exact Nat.le_trans h.1 (by decide)
    show _ + (tailL [cl z]).length ≤ 64
    simp at this
    omega
  | hard =>
    show _ + 0 ≤ 64
    omega
  | cat ps =>
    have := tail_len 3 (ps.map fun p => dg p.toNat) fun w hw => by
      obtain ⟨p, _, rfl⟩ := List.mem_map.mp hw
      exact dg_len _
    rw [List.length_map] at this
    have h8 : ps.length ≤ 8 := h.1
    show _ + (tailL (ps.map fun p => dg p.toNat)).length ≤ 64
    omega
  | nest n j =>
    have := tail_len 3 [dg n.toNat, dg j.toNat] fun w hw => by
      simp at hw
      rcases hw with rfl | rfl <;> exact dg_len _
    simp at this
    show _ + (tailL [dg n.toNat, dg j.toNat]).length ≤ 64
    omega
  | align j =>
    have := tail_len 3 [dg j.toNat] fun w hw => by rw [List.mem_singleton.mp hw]; exact dg_len _
    simp at this
    show _ + (tailL [dg j.toNat]).length ≤ 64
    omega
  | group j =>
    have := tail_len 3 [dg j.toNat] fun w hw => by rw [List.mem_singleton.mp hw]; exact dg_len _
    simp at this
    show _ + (tailL [dg j.toNat]).length ≤ 64
    omega
theorem words_clean {r : Row} {k : Nat} (h : r.ok k) (hk : k ≤ 1000) : ∀ w ∈ r.words, ∀ c ∈ w, 32 ≤ c ∧ c ≤ 126 := by
  have num : ∀ (j : Int), 0 ≤ j → j < 1000 → ∀ c ∈ dg j.toNat, 32 ≤ c ∧ c ≤ 126 := fun j h0 h1 c hc => by
    have := dg_clean j.toNat (by omega) c hc
    omega
  cases r with
  | text z =>
    intro w hw c hc
    rw [show w = cl z from List.mem_singleton.mp hw] at hc
    exact h.2 c hc
  | line z =>
    intro w hw c hc
    rw [show w = cl z from List.mem_singleton.mp hw] at hc
    exact h.2 c hc
  | hard =>
    intro w hw
    cases hw
  | cat ps =>
    intro w hw c hc
    obtain ⟨p, hp, rfl⟩ := List.mem_map.mp hw
    have := h.2 p hp
    exact num p this.1 (by omega) c hc
  | nest n j =>
    obtain ⟨n0, n8, j0, jk⟩ := h
    intro w hw c hc
    simp [Row.words] at hw
    rcases hw with rfl | rfl
    · exact num n n0 (by omega) c hc
    · exact num j j0 (by omega) c hc
  | align j =>
    intro w hw c hc
    rw [show w = dg j.toNat from List.mem_singleton.mp hw] at hc
    have h : 0 ≤ j ∧ j < k := h
    exact num j h.1 (by omega) c hc
  | group j =>
    intro w hw c hc
    rw [show w = dg j.toNat from List.mem_singleton.mp hw] at hc
    have h : 0 ≤ j ∧ j < k := h
    exact num j h.1 (by omega) c hc
theorem codes_clean {r : Row} {k : Nat} (h : r.ok k) (hk : k ≤ 1000) : ∀ c ∈ r.codes, 32 ≤ c ∧ c ≤ 126 := by
  intro c hc
  rcases List.mem_append.mp hc with hc | hc
  · have := (kind_short r.q).2 c hc
    omega
  · obtain ⟨w, hw, hc⟩ := List.mem_flatMap.mp hc
    rcases List.mem_cons.mp hc with rfl | hc
    · omega
    · exact words_clean h hk w hw c hc
/-- a text, or a number, as str() has it -/
theorem call_str_is {X : Cx} : CallR X (.type "str") (fun xs H Q => (∃ i, xs = [.int i] ∧ i.natAbs.log2 < 1920 ∧ Q (.str (toString i)) H) ∨ (∃ a, xs = [.str a] ∧ Q (.str a) H)) :=
  fun pins s σ H xs us Q I r h => h.elim (call_str_int pins s σ H xs us Q I r) (SkE.call_str_str pins s σ H xs us Q I r)
theorem small_log {i : Int} (h : i.natAbs < 2 ^ 64) : i.natAbs.log2 < 1920 := by
  by_cases h0 : i.natAbs = 0
  · rw [h0]
    decide
  · exact Nat.lt_of_lt_of_le ((Nat.log2_lt h0).mpr h) (by decide)
theorem lines_len {m : Nat} : ∀ (zs : List Str), (∀ z ∈ zs, z.length ≤ m) → (zs.map (·.length)).sum ≤ zs.length * m
  | [], _ => Nat.zero_le _
  | z :: zs, h => by
    rw [List.map_cons, List.sum_cons, List.length_cons, Nat.succ_mul]
    have := lines_len zs fun y hy => h y (List.mem_cons_of_mem _ hy)
    have := h z List.mem_cons_self
    omega
theorem joinL_len (m : Nat) : ∀ (ls : List (List Nat)), (∀ l ∈ ls, l.length ≤ m) → (joinL [10] ls).length ≤ ls.length * (m + 1)
  | [], _ => Nat.zero_le _
  | [p], h => by
    have := h p (List.mem_singleton.mpr rfl)
    show p.length ≤ 1 * (m + 1)
    omega
  | p :: q :: r, h => by
    show (p ++ ([10] ++ joinL [10] (q :: r))).length ≤ _
    rw [List.length_append, List.length_append, show (p :: q :: r).length = (q :: r).length + 1 from rfl, Nat.succ_mul]
    have := joinL_len m (q :: r) fun l hl => h l (List.mem_cons_of_mem _ hl)
    have := h p List.mem_cons_self
    have e1 : ([10] : List Nat).length = 1 := rfl
    omega
end Lw

/-! f(k = v, ..): a def called by the names of its parameters alone. -/
namespace L2
open PySem PySem.Spec PyProof.Rows
def tKwOnly (m : Nat) (sp : Sp) (gV : List V → List V) (tk : TA) : TE := fun σ H Q => tk σ H fun zs H1 => zs.length = m ∧ sp (gV zs) H1 Q E0
section
variable {X : Cx} {x : Str} {st : Stmt} {ps ks : List Str} {k : Nat} {sp : Sp} {kws : List Keyword} {tk : TA} {p pos : Pos} {g : List Value → List Value} {gV : List V → List V}
theorem pe_kwD (D : DefOk X.prog X.w X.K X.mg X.base x st ps k sp) (hr : Room k X.A) (rel : ∀ {zs : List V} {ws : List Value}, Vals zs ws → Vals (gV zs) (g ws))
    (hb : ∀ (kV doc pm : Value) (an : Option Addr) (cdv ct : Value) (ws : List Value), ws.length = ks.length → bindArgs (PySem.W.fnOf x x (defArgs st) (defBody st) (defScope st) .none kV doc pm an cdv ct) ⟨[], ks.zip ws⟩ = pure (ps.zip (g ws)))
    (hkw : PK X kws tk) (hg : Gl X x := by rfl) (named : (backToKw pos (keywordEach kws X.env)).all (·.1.isSome) = true := by rfl) (hks : (backToKw pos (keywordEach kws X.env)).filterMap (·.1) = ks := by rfl)
    (hdb : (x == ("__debug__" : Str)) = false := by decide) (plain : ((backTo pos (starEach [] X.env)).any (·.1) || (backToKw pos (keywordEach kws X.env)).any (·.1.isNone)) = false := by rfl) :
    PE X (.Call (.Name x p) [] kws pos) (tKwOnly ks.length sp gV tk) := by
  obtain ⟨f, fd, hm, F, _, G⟩ := D.ex
  have kp := F.kp
  obtain ⟨oc, od, kV, doc, pm, an, cdv, ct, osl, rfl, lk, hcd⟩ := F.ex
  refine ⟨fun pins s σ H Q I h => wpAny_Call_Name_kw (ld_glob I hg hm (PySem.W.callWith_KW0 (h₀ := X.base) I.ok.mod.kin kp named (thn (hkw.run pos pins s σ H _ I h) fun ws s2 ⟨zs, H2, I2, rz, l2, q⟩ => ⟨I2.kIn, ?_⟩) plain) hdb)⟩
  rw [hks]
  have r2 := rel rz
  refine wpAny_call (codeAny_mono (G.run X.A X.stack s2 H2 ⟨[], ks.zip ws⟩ (g ws) (gV zs) Q E0 hr I2.env0 (.of_eq (hb _ _ _ _ _ _ ws (rz.length.symm.trans l2))) r2 q) fun r s' z => ?_)
  cases r with
  | error e => exact pass0 pins σ H2 s2 e s' I2 z
  | ok fl =>
    cases fl with
    | ret u => exact I2.after z
    | next => exact False.elim z
    | brk => exact False.elim z
    | cont => exact False.elim z
end
end L2

/-! Error classes over a class of the text that stands over ArithmeticError: made, raised, asked. -/
namespace PySem
namespace AX
open PySem.W PySem.Calls PyProof.Rows PySem.HandSPX PySem.OEX
abbrev arith : List Value := [.type "ArithmeticError", .type "Exception", .type "BaseException", .type "object"]
/-- classes of the text, then ArithmeticError's own line -/
def overA : List Value → Bool
  | .ref _ :: r => overA r
  | l => l == arith
theorem overA_own {l : List Value} : overA l = true → ∃ rs : List Addr, l = rs.map Value.ref ++ arith := by
  induction l with
  | nil => intro z; exact absurd z (by decide)
  | cons v r ih =>
    intro z
    by_cases q : ∃ c, v = .ref c
    · obtain ⟨c, rfl⟩ := q
      obtain ⟨rs, e⟩ := ih z
      exact ⟨c :: rs, by rw [e]; rfl⟩
    · refine ⟨[], ?_⟩
      cases v <;> first | exact absurd ⟨_, rfl⟩ q | exact beq_iff_eq.mp z
theorem own_pass (self : Value) : ∀ rs : List Addr, refuseLoop self "__setattr__" (rs.map Value.ref ++ arith) = pure ()
  | [] => F.store_ArithmeticError.passes self
  | c :: rs => by
    rw [List.map_cons, List.cons_append, refuseLoop_ref]
    exact own_pass self rs
theorem own_has (X : String) : ∀ rs : List Addr, (rs.map Value.ref ++ arith).contains (.type X) = arith.contains (.type X)
  | [] => rfl
  | c :: rs => by
    rw [List.map_cons, List.cons_append, List.contains_cons, own_has X rs]
    rfl
theorem over_pass {l : List Value} (self : Value) (h : overA l = true) : refuseLoop self "__setattr__" l = pure () := by
  obtain ⟨rs, rfl⟩ := overA_own h
  exact own_pass self rs
theorem over_has {l : List Value} (X : String) (h : overA l = true) : l.contains (.type X) = arith.contains (.type X) := by
  obtain ⟨rs, rfl⟩ := overA_own h
  exact own_has X rs
theorem over_some {l : List Value} (h : overA l = true) : l.isEmpty = false := by
  cases l with
  | nil => exact absurd h (by decide)
  | cons _ _ => rfl
section
open Builtin Builtin.ObjectAttr
variable {P : Program} {w : World} {A : Around} {R : Result → Shared → Prop} {g0 : Heap} {gs : Array GenState} {dr : Drawn} {n : Nat} {os : OsState} {K : W.Frag} {f : Str} {tk : Tok} {v : Value} {e C : Addr} {fv : Array Value} {cl : ClassData}
/-- e.f = v where e has its dict, or none as yet: what the checks ahead of the store ask -/
theorem store_ahead {od : Option Obj} {oe : Obj} (inK : K.In g0) (J : W.InstAt g0 e oe C od) (hc : W.clsIn K C = some cl) (over : overA cl.mro = true) (free : W.findIn K (.ref C) f = some none)
    (go : wpAny (model P w) A.in1 (storeInOwnDict (.ref e) (.ref C) (.str f tk) f v false) (fun r z => match r with | .done u => R (.ok u) z | .again c => c.quiet = true ∧ codeAny (model P w) A c R z) (fun x z => R (.error x) z) ⟨g0, gs, dr, n, os⟩) :
    codeAny (model P w) A (.call (.builtin "object.__setattr__") ⟨[.ref e, .str f tk, v], []⟩) R ⟨g0, gs, dr, n, os⟩ := by
  have B := F.store_object
  have isObj : cl.mro.contains (.type "object") = true := (over_has "object" over).trans (by decide +kernel)
  have inst : W.Looks (model P w) g0 (isInstance (.ref e) (.type "object")) true :=
    J.type.andThen (W.looks_mroIn inK (by unfold W.mroIn; rw [hc, Option.bind_some, if_neg (by rw [over_some over]; decide), isObj]))
  refine codeAny_call_builtin B.slot.plain B.entry (@W.check_slot (model P w) _ _ ⟨g0, gs, dr, n, os⟩ "object.__setattr__" "object" "__setattr__" (.ref e) [.str f tk, v] [] _ B.kind B.split inst (B.args (.ref e) (.str f tk) v) ?_)
  have line : W.Looks (model P w) g0 (mroOf (.ref C)) cl.mro := (W.looks_clsIn inK hc).andThen .now
  have taker : W.Looks (model P w) g0 (storeTaker? none) none := .now
  rw [W.osa_eq, refuse_eq]
  refine wpAny_bind (wpAny_bind (J.type.at (wpAny_bind (line.at ?_))))
  rw [over_pass _ over]
  exact wpAny_pure (wpAny_bind (J.type.at (wpAny_bind ((W.looks_findIn inK free).at (wpAny_bind (taker.at go))))))
/-- the first field -/
theorem field_one (inK : K.In g0) (at_e : g0.get? e = some { cls := .ref C, data := .fields fv }) (hc : W.clsIn K C = some cl) (over : overA cl.mro = true) (own : cl.hasDict = true) (free : W.findIn K (.ref C) f = some none)
    (done : ∀ g1 n1 dx, (∀ b u, b ≠ e → g0.get? b = some u → g1.get? b = some u) → g0.objs.size ≤ dx → dx ≠ e → g1.get? e = some { cls := .ref C, dict := some dx, data := .fields fv } →
      g1.Ns1 dx (fun y => if y = f then some v else none) → R (.ok (.ret .none)) ⟨g1, gs, dr, n1, os⟩) :
    codeAny (model P w) A (.call (.builtin "object.__setattr__") ⟨[.ref e, .str f tk, v], []⟩) R ⟨g0, gs, dr, n, os⟩ := by
  refine store_ahead inK (oe := { cls := .ref C, data := .fields fv }) (od := none) ⟨at_e, rfl, rfl, trivial⟩ hc over free ?_
  have e_old : e ≠ g0.objs.size := Nat.ne_of_lt (Heap.lt_size at_e)
  have cld : W.Looks (model P w) g0 (classData C) cl := W.looks_clsIn inK hc
  obtain ⟨q1, q2, q3, q4, q5, q6, q7, q8, q9, q10, q11⟩ := cl
  dsimp only at own
  subst own
  unfold storeInOwnDict ownDictForStores
  repeat (first | with_reducible refine store_in_new ?_ ?_ | with_reducible refine wpAny_loadPart_at at_e ?_ | with_reducible refine cld.at ?_ | wp_step)
  · exact ⟨_, #[], _, (Heap.get?_update_ne _ _ _ _ e_old.symm).trans (Heap.get?_push_at rfl rfl), rfl, fun x hx => absurd hx (by simp), fun _ => rfl⟩
  · intro g1 n1 names same
    have at1 : (g0.push { cls := .type "dict", data := .dict #[] }).get? e = some { cls := .ref C, data := .fields fv } := Heap.get?_push_of_some _ at_e
    refine done g1 n1 g0.objs.size (fun b u hb hu => ?_) (Nat.le_refl _) e_old.symm ?_ names
    · exact (same.2 b (Nat.ne_of_lt (Heap.lt_size hu))).trans ((Heap.get?_update_ne _ _ _ _ hb).trans (Heap.get?_push_of_some _ hu))
    · exact (same.2 e e_old).trans (Heap.get?_update_self _ at1 rfl)
/-- a further field -/
theorem field_more {dx : Addr} {old : Str → Option Value} {ns : List Str} (inK : K.In g0) (at_e : g0.get? e = some { cls := .ref C, dict := some dx, data := .fields fv }) (nsd : g0.Ns1 dx old) (few : Within old ns) (many : ns.length ≤ 1000)
    (hc : W.clsIn K C = some cl) (over : overA cl.mro = true) (own : cl.hasDict = true) (free : W.findIn K (.ref C) f = some none)
    (done : ∀ g1 n1, (∀ b u, b ≠ dx → g0.get? b = some u → g1.get? b = some u) → g1.Ns1 dx (fun y => if y = f then some v else old y) → R (.ok (.ret .none)) ⟨g1, gs, dr, n1, os⟩) :
    codeAny (model P w) A (.call (.builtin "object.__setattr__") ⟨[.ref e, .str f tk, v], []⟩) R ⟨g0, gs, dr, n, os⟩ := by
  obtain ⟨oD, esD, epD, hoD, hdD, _⟩ := nsd.count few
  refine store_ahead inK (oe := { cls := .ref C, dict := some dx, data := .fields fv }) (od := some oD) ⟨at_e, rfl, rfl, hoD⟩ hc over free ?_
  have cld : W.Looks (model P w) g0 (classData C) cl := W.looks_clsIn inK hc
  obtain ⟨q1, q2, q3, q4, q5, q6, q7, q8, q9, q10, q11⟩ := cl
  dsimp only at own
  subst own
  unfold storeInOwnDict ownDictForStores
  repeat (first | with_reducible refine store_in_old nsd few many ?_ | with_reducible refine wpAny_loadPart_at at_e ?_ | with_reducible refine cld.at ?_ | wp_step)
  intro g1 n1 names same
  exact done g1 n1 (fun b u hb hu => (same.2 b hb).trans hu) names
end
end AX
end PySem

namespace L2
open PySem PySem.Spec PyProof.Rows PySem.AX
/-- what the text says of such a class -/
structure AeC (K : PySem.W.Frag) (C : Addr) : Prop where
  cls : ∃ nm q N bs bm sn sub ab col dd k0 k1 k2 k3 k5, K.lookup C = some (excClassObj nm q C N bs bm true sn sub ab col dd k0 k1 k2 k3 k5 "ArithmeticError.__new__") ∧ overA bm = true
  sa : PySem.W.findIn K (.ref C) "__setattr__" = some (some (.builtin "object.__setattr__"))
  ex : PySem.W.subIn K (.ref C) (.type "BaseException") = some true
  ty : PySem.W.typeIn K (.ref C) = some (.type "type")
  kp : PySem.W.keepIn K (.ref C) = true
theorem AeC.data {K : PySem.W.Frag} {C : Addr} (T : AeC K C) : ∃ cl : ClassData, PySem.W.clsIn K C = some cl ∧ overA cl.mro = true ∧ cl.hasDict = true := by
  obtain ⟨nm, q, N, bs, bm, sn, sub, ab, col, dd, k0, k1, k2, k3, k5, hC, over⟩ := T.cls
  refine ⟨{ name := nm, bases := bs, mro := .ref C :: bm, ns := N, qualname := q, hasDict := true, slotNames := sn, subclasses := sub, abstract := ab, collection := col, hasDel := false }, ?_, over, rfl⟩
  unfold PySem.W.clsIn
  rw [hC] <;> rfl
section
variable {X : Cx} {pins : List (Addr × Obj)} {σ : St} {H : Hp} {s : Shared} {e C dx : Addr} {f : Str} {y : V} {u : Value} {fs : List (Str × V)} {Q : Unit → Shared → Prop} {E : Value → Shared → Prop} {A : Around}
theorem set_one (T : AeC X.K C) (J : Inv X pins σ H s) (he : H e = some (exo e C none)) (free : PySem.W.findIn X.K (.ref C) f = some none) (ry : RelV y u)
    (go : ∀ dx s', H dx = none → dx ≠ e → Inv X pins σ (upd (upd H dx (exd dx [(f, y)])) e (exo e C (some dx))) s' → Q () s') : wpAny (model X.prog X.w) A (setAttr (.ref e) f u) Q E s := by
  obtain ⟨cl, hcl, over, own⟩ := T.data
  obtain ⟨t1, at_e⟩ := exo_at J.hok he
  obtain ⟨g0, gs, dr, n, os⟩ := s
  refine PySem.W.set_plain J.kIn (ox := { cls := .ref C, dict := none, data := .fields #[.ref t1, .none, .none, .none, .bool false, .none] }) (od := none) ⟨at_e, rfl, rfl, trivial⟩ T.sa (field_one J.kIn at_e hcl over own free fun g1 n1 dx old new ne at1 names => ?_)
  have dxH : H dx = none := J.hok.fresh new
  have off : ∀ {b : Addr} {o : Obj}, g0.get? b = some o → b ≠ dx := fun q => Nat.ne_of_lt (Nat.lt_of_lt_of_le (Heap.lt_size q) new)
  have offe : ∀ {b : Addr}, H b = none → b ≠ e := fun {b} q z => by
    rw [z, he] at q
    cases q
  -- what is tracked but for e stands as it stood
  have stands : ∀ {b : Addr} {o : HO}, H b = some o → b ≠ e → (upd (upd H dx (exd dx [(f, y)])) e (exo e C (some dx))) b = some o := fun {b o} q z => by
    rw [upd_ne z, upd_ne (ne_of_none q dxH)]
    exact q
  have un : Un X.fs [] H (upd (upd H dx (exd dx [(f, y)])) e (exo e C (some dx))) g0 g1 := {
    keep := fun b o q z _ _ => old b o (offe z) q
    slot := fun b o q z _ _ => ⟨o.slots, old b o (offe z) q⟩
    free := fun b o q z _ => by
      rw [upd_ne (offe z), upd_ne (off q)]
      exact z
    there := fun b o q _ => by
      by_cases hb : b = e
      · subst hb
        exact ⟨_, at1⟩
      · exact ⟨o, old b o hb q⟩
    tups := fun b vs q => stands q (at_ne he q exo_tup)
    frzs := fun b o v q => stands q (at_ne he q exo_frz)
    tbls := fun b ps q => ⟨#[], by rw [stands q (at_ne he q exo_tbl)]; simp⟩ }
  refine go dx _ dxH ne (J.un (t' := n1) un fun b o q => ?_)
  by_cases hb : b = e
  · rw [hb, upd_same] at q
    rw [hb, ← Option.some.inj q]
    exact exo_ok at1
  · rw [upd_ne hb] at q
    by_cases hd : b = dx
    · rw [hd, upd_same] at q
      rw [hd, ← Option.some.inj q]
      exact exd_ok names (relO_put (fs := []) ry fun _ => True.intro)
    · rw [upd_ne hd] at q
      have apart : ∀ {c : Addr}, (c = b ∨ H c = some (.own b)) → c ≠ e := fun {c} hc => by
        rcases hc with rfl | hc
        · exact hb
        · exact at_ne he hc exo_own
      exact (J.hok b o q).stay (fun c v hc z => old c v (apart hc) z) (fun c hc => stands hc (at_ne he hc exo_own)) (fun c vs hc => stands hc (at_ne he hc exo_tup))
theorem set_more (T : AeC X.K C) (J : Inv X pins σ H s) (he : H e = some (exo e C (some dx))) (hd : H dx = some (exd dx fs)) (few : fs.length ≤ 900) (free : PySem.W.findIn X.K (.ref C) f = some none) (ry : RelV y u)
    (go : ∀ s', Inv X pins σ (upd H dx (exd dx ((f, y) :: fs))) s' → Q () s') : wpAny (model X.prog X.w) A (setAttr (.ref e) f u) Q E s := by
  obtain ⟨cl, hcl, over, own⟩ := T.data
  obtain ⟨t1, at_e⟩ := exo_at J.hok he
  obtain ⟨mA, names, rel⟩ := exd_at J.hok hd
  have within := within_of rel
  obtain ⟨g0, gs, dr, n, os⟩ := s
  obtain ⟨oD, _, _, hoD, _, _⟩ := names.count within
  refine PySem.W.set_plain J.kIn (ox := { cls := .ref C, dict := some dx, data := .fields #[.ref t1, .none, .none, .none, .bool false, .none] }) (od := some oD) ⟨at_e, rfl, rfl, hoD⟩ T.sa
    (field_more J.kIn at_e names within (by rw [List.length_map]; omega) hcl over own free fun g1 n1 old names1 => ?_)
  obtain ⟨o1, _, _, there, _⟩ := id names1
  exact go _ (J.write (t' := n1) (x := dx) (e := dx) (o := exd dx ((f, y) :: fs)) (by rw [hd]; exact True.intro) (.inl rfl) old ⟨o1, there⟩ (exd_ok names1 (relO_put ry rel)))
/-- ArithmeticError.__init__(e, ..) of one that is being made -/
theorem init_over {us : List Value} {Q : Value → Shared → Prop} (T : AeC X.K C) (J : Inv X pins σ H s) (he : H e = some (exo e C none)) (hl : us.length ≤ sizeLine) (go : ∀ s', Inv X pins σ H s' → Q .none s') :
    wpAny (model X.prog X.w) A (call (.builtin "ArithmeticError.__init__") (.ref e :: us)) Q E s := by
  obtain ⟨nm, q, N, bs, bm, sn, sub, ab, col, dd, k0, k1, k2, k3, k5, hC, over⟩ := T.cls
  obtain ⟨t1, at_e⟩ := exo_at J.hok he
  obtain ⟨g0, gs, dr, n, os⟩ := s
  refine wpAny_call (PySem.HandSPX.init_base F.excBase_ArithmeticError (fun Y => over_has Y over) (J.kIn _ _ hC) at_e hl fun g1 t2 old at1 => ?_)
  have J1 := J.write (t' := n) (x := e) (e := e) (o := exo e C none) (by rw [he]; exact True.intro) (.inl rfl) old ⟨_, at1⟩ (exo_ok at1)
  rw [show upd H e (exo e C none) = H from funext fun b => if hb : b = e then by rw [hb, upd_same, he] else upd_ne hb] at J1
  exact go _ J1
end
/-! ### readings and rules -/
/-- L.__init__(self, text), L the class of the text above -/
def tSupI (K : PySem.W.Frag) (ta : TA) : TE := fun σ H Q => ta σ H fun vs H1 => ∃ (e C : Addr) (ws : List V), vs = .ref e :: ws ∧ ws.length ≤ 1000 ∧ AeC K C ∧ H1 e = some (exo e C none) ∧ Q .non H1
/-- self.f = y -/
def tFst (K : PySem.W.Frag) (f : Str) (to te : TE) : TS := fun D σ H => te σ H fun y H1 => to σ H1 fun x H2 => ∃ e C : Addr, x = .ref e ∧ AeC K C ∧ PySem.W.findIn K (.ref C) f = some none ∧
  ((H2 e = some (exo e C none) ∧ ∀ dx, H2 dx = none → dx ≠ e → D.nx σ (upd (upd H2 dx (exd dx [(f, y)])) e (exo e C (some dx)))) ∨
    ∃ (dx : Addr) (fs : List (Str × V)), H2 e = some (exo e C (some dx)) ∧ H2 dx = some (exd dx fs) ∧ fs.length ≤ 900 ∧ D.nx σ (upd H2 dx (exd dx ((f, y) :: fs))))
/-- what is asked of L to read L.__init__ -/
structure SupC (K : PySem.W.Frag) (L : Addr) (mc : Value) : Prop where
  rd : ClX.CRead K L mc
  at_ : PySem.W.findCls K (.ref L) mc "__init__" = some (.val (.builtin "ArithmeticError.__init__"))
section
variable {X : Cx} {o e : Expr} {es : List Expr} {to te : TE} {ta : TA} {f x : Str} {p p' p1 p2 pos : Pos} {L : Addr} {mc : Value}
theorem pe_supinit {pl : Sem Bool} (S : SupC X.K L mc) (hm : X.mg x = some (.ref L)) (ha : PA X (e :: es) ta) (hg : Gl X x := by rfl) (hdb : (x == ("__debug__" : Str)) = false := by decide)
    (hc : eval (.Call (.Attribute (.Name x p1) "__init__" p2) (e :: es) [] pos) X.env = (do
      let ov ← eval (.Name x p1) X.env
      standAt p2.atName
      let (f, first) ← holding [ov] (getMethod ov "__init__" pl)
      callWith pos f first (backTo pos (starEach (e :: es) X.env)) (backToKw pos (keywordEach [] X.env))) := by rfl)
    (he : starEach (e :: es) X.env = (false, eval e X.env) :: starEach es X.env := by rfl) (hpl : (backTo pos (starEach es X.env)).any (·.1) = false := by rfl) :
    PE X (.Call (.Attribute (.Name x p1) "__init__" p2) (e :: es) [] pos) (tSupI X.K ta) := by
  refine ⟨fun pins s σ H Q J h => PySem.W.methodCall_KW (ld_glob J hg hm (PySem.W.method_cls J.kIn S.rd.ga (PySem.W.cls_value J.kIn S.rd.rd S.at_ rfl ?_)) hdb) hc⟩
  refine PyProof.Rows.callWith_method1 (thn (ha.run pos pins _ σ H _ (J.tok _) h) fun us s1 ⟨vs, H1, J1, r1, er, C, ws, ev, hl, T, at_e, q⟩ => ?_) he hpl
  subst ev
  cases r1 with
  | @cons _ u0 _ ur ra rest =>
    obtain rfl : u0 = Value.ref er := ra
    exact init_over T J1 at_e (by rw [← Paired.length rest, sizeLine_eq]; omega) fun s' J2 => ⟨.non, H1, J2, rfl, q⟩
theorem ps_field (ho : PE X o to) (he : PE X e te) (hs : swapsWith e (some (.Attribute o f p')) pos.line X.env = pure false := by rfl) : PS X (.Assign [.Attribute o f p'] e pos) (tFst X.K f to te) := by
  refine ⟨fun pins s σ H D J h => plainObj_wpAny_Assign_Attribute (thn (he.run pins s σ H _ J h) fun v s1 ⟨y, H1, J1, r1, q1⟩ => thn (ho.run pins s1 σ H1 _ J1 q1) fun u s2 hu => ?_) hs⟩
  obtain ⟨x, H2, J2, r2, er, C, rfl, T, free, q⟩ := hu
  obtain rfl : u = Value.ref er := r2
  rcases q with ⟨at_e, q⟩ | ⟨dx, fs, at_e, at_d, few, q⟩
  · exact set_one T J2 at_e free r1 fun dx s' n ne J3 => ⟨σ, _, J3, q dx n ne⟩
  · exact set_more T J2 at_e at_d few free r1 fun s' J3 => ⟨σ, _, J3, q⟩
/-- C(e, ..), to be raised -/
theorem pmk_over {CX : CXT} {C fI : Addr} {k : Nat} {fd : FuncData} {ps : List Str} {sp : Sp} (T : AeC X.K C) (at_i : PySem.W.findIn X.K (.ref C) "__init__" = some (some (.ref fI))) (ty_i : PySem.W.typeIn X.K (.ref fI) = some (.type "function"))
    (G : FnOk X.prog X.w X.K X.mg X.base CX k fI fd ps sp) (hr : Room (k + 1) X.A) (hb : Binds X.K fd ps []) (hx : Passes CX X (fun _ _ _ => False)) (hm : X.mg x = some (.ref C)) (ha : PA X (e :: es) ta) (hg : Gl X x := by rfl)
    (hdb : (x == ("__debug__" : Str)) = false := by decide) (he : starEach (e :: es) X.env = (false, eval e X.env) :: starEach es X.env := by rfl) (hpl : (backTo pos (starEach es X.env)).any (·.1) = false := by rfl) :
    PMk X (.Call (.Name x p) (e :: es) [] pos) (tMkO C sp [] ta) := by
  intro pins s σ H Q J h
  obtain ⟨nm, q, N, bs, bm, sn, sub, ab, col, dd, k0, k1, k2, k3, k5, hC, over⟩ := T.cls
  refine wpAny_Call_Name_kw (ld_glob J hg hm (PySem.W.callWith_K (h₀ := X.base) J.ok.mod.kin T.kp (thn (ha.run pos pins s σ H _ J h) fun us s1 ⟨vs, H1, J1, r1, few, q1⟩ => ⟨J1.kIn, ?_⟩) he hpl) hdb)
  obtain ⟨g0, gs, dr, tk, os⟩ := s1
  have nextE : g0.objs.size ≤ g0.objs.size + 1 := Nat.le_succ _
  have noE : H1 (g0.objs.size + 1) = none := J1.hok.fresh nextE
  have ask := q1 (g0.objs.size + 1) noE
  have old : ∀ b o, g0.get? b = some o → ((g0.push (PySem.W.kdv_tup us)).push (PySem.HandSPX.excO C g0.objs.size)).get? b = some o := fun b o z => Heap.get?_push_of_some _ (Heap.get?_push_of_some _ z)
  have at_e : ((g0.push (PySem.W.kdv_tup us)).push (PySem.HandSPX.excO C g0.objs.size)).get? (g0.objs.size + 1) = some (PySem.HandSPX.excO C g0.objs.size) := by heap_get
  have J2 : Inv X pins σ (upd H1 (g0.objs.size + 1) (exo (g0.objs.size + 1) C none)) ⟨(g0.push (PySem.W.kdv_tup us)).push (PySem.HandSPX.excO C g0.objs.size), gs, dr, tk, os⟩ := J1.laid (t' := tk) old nextE (exo_ok at_e)
  rw [List.append_nil] at ask
  have r2 : Vals (V.ref (g0.objs.size + 1) :: vs) (Value.ref (g0.objs.size + 1) :: us) := .cons rfl r1
  have n_us : (Value.ref (g0.objs.size + 1) :: us).length = ps.length := r2.length.symm.trans (G.len _ _ _ _ ask)
  have us_few : us.length ≤ sizeLine := by
    rw [← Paired.length r1, sizeLine_eq]
    omega
  have bound := hb _ (Value.ref (g0.objs.size + 1) :: us) J2.kIn (by rw [List.append_nil]; exact n_us)
  rw [List.append_nil] at bound
  refine wpAny_call (PySem.HandSPX.call_own F.excBase_ArithmeticError (fun Y => over_has Y over) (J1.kIn _ _ hC) (PySem.W.looks_findIn J1.kIn at_i) (fun self => PySem.W.bind_fn J1.kIn self ty_i) us_few
    (codeAny_mono (G.run _ X.stack _ _ ⟨Value.ref (g0.objs.size + 1) :: us, []⟩ (Value.ref (g0.objs.size + 1) :: us) _ _ (fun _ _ _ => False) (hr.make C us []) (J2.env0.make C us []) bound r2 ask) fun r s' z => ?_))
  cases r with
  | error er => exact hx pins σ _ _ er s' J2 z
  | ok fl =>
    cases fl with
    | next => exact z.elim
    | brk => exact z.elim
    | cont => exact z.elim
    | ret u =>
      obtain ⟨v, H2, os2, bare2, un2, hok2, rv, ev, d, fs, ea, ed, free_d, q2⟩ := z
      subst ev
      obtain ⟨g2, gs2, dr2, tk2, os'⟩ := s'
      exact ⟨rv, mk_end (raises_own T.ex T.ty) J1 nextE old un2 hok2 os2 bare2 ea ed free_d q2⟩
end
end L2

/-! Caught errors that have fields; lambdas handed to a def; defs that raise. -/
namespace PySem.W
open PySem PySem.Spec PySem.Calls PyProof.Rows
section
variable {prog : Program} {w : World} {A : Around} {E : Value → Shared → Prop} {K : Frag} {s : Shared} {x D : Addr} {ox : Obj} {od : Option Obj}
theorem find_dataO {C : Addr} {name : Str} {a g : Value} (hc : (clsIn K C).isSome = true) (ha : findIn K (.ref C) name = some (some a)) (hg : specialIn K a "__get__" = some (some g)) (ht : takesIn K a = some true) : findObj K C od name = some (.bind g a) := by
  obtain ⟨cd, e⟩ := Option.isSome_iff_exists.mp hc
  unfold findObj
  rw [e, Option.bind_some, ha, Option.bind_some]
  simp only [hg, ht, Option.bind_some]
/-- x.__class__ of an error that may have a dict -/
theorem classE {Q : Option Value → Shared → Prop} (ga : findIn K (.ref D) "__getattribute__" = some (some (.builtin "BaseException.__getattribute__"))) (gg : findIn K (.ref D) "__getattr__" = some none) (isE : subIn K (.ref D) (.type "BaseException") = some true)
    (hasD : hasDictIn K D = true) (atC : findIn K (.ref D) "__class__" = some (some (.builtin "object.__class__"))) (getC : specialIn K (.builtin "object.__class__") "__get__" = some (some (.builtin "getset_descriptor.__get__")))
    (takC : takesIn K (.builtin "object.__class__") = some true) (objD : mroIn K D (.type "object") = some true) (inK : K.In s.heap) (J : InstAt s.heap x ox D od) (go : Q (some (.ref D)) { s with toks := s.toks + 1 }) :
    wpAny (model prog w) A (getAttr? (.ref x) "__class__") Q E s := by
  have hf : findObj K D od "__class__" = some (.bind (.builtin "getset_descriptor.__get__") (.builtin "object.__class__")) := find_dataO (by obtain ⟨cd, hc, _⟩ := any_some hasD; rw [hc]; rfl) atC getC takC
  obtain ⟨g0, gs, dr, n, os⟩ := s
  have T0 := J.type (M := model prog w)
  have T1 := looks_findIn (M := model prog w) inK ga
  have T2 := looks_findIn (M := model prog w) inK gg
  have T3 := looks_find (M := model prog w) inK J hf
  have over : Looks (model prog w) g0 (isInstance (.ref x) (.type "BaseException")) true := T0.andThen (looks_subIn inK isE)
  have no : (Value.builtin "BaseException.__getattribute__" == Value.builtin "object.__getattribute__") = false := by decide +kernel
  unfold getAttr? getAttrBy? getAttrBy
  refine wpAny_bind (wpAny_mkText (wpAny_bind (wpAny_attempt (wpAny_holding (wpAny_bind (T0.at (wpAny_bind (T1.at ?_))))))))
  show wpAny _ _ (if (onTheHeap (Value.ref D) && Value.builtin "BaseException.__getattribute__" == Value.builtin "object.__getattribute__") = true then _ else _) _ _ _
  rw [no, Bool.and_false, if_neg Bool.false_ne_true]
  unfold getAttrByItsOwn hookBefore
  refine wpAny_bind ?_
  rw [if_pos (show onTheHeap (Value.ref D) = true from rfl)]
  refine T2.at (wpAny_bind (wpAny_attempt (wpAny_holding ?_)))
  unfold callGetattribute
  rw [show (false && onTheHeap (Value.builtin "BaseException.__getattribute__")) = false from rfl, if_neg Bool.false_ne_true]
  unfold boundAndCalled
  rw [PySem.F.excAttr_ValueError.ga.bind (.ref x)]
  refine wpAny_bind (wpAny_pure ?_)
  show wpAny _ _ (call (.builtin "BaseException.__getattribute__") [.ref x, .str "__class__" n]) _ _ _
  refine wpAny_call (codeAny_call_builtin PySem.F.excAttr_ValueError.ga.plain PySem.F.entry_bexc_ga ?_)
  refine @check_slot (model prog w) _ _ ⟨g0, gs, dr, n + 1, os⟩ "BaseException.__getattribute__" "BaseException" "__getattribute__" (.ref x) [.str "__class__" n] [] _ (by decide +kernel) (by decide +kernel) over (PySem.F.args_bexc_ga (.ref x) (.str "__class__" n)) ?_
  unfold Builtin.«object.__getattribute__»
  refine wpAny_bind (wpAny_of_eq (a := ((Value.ref x : Value), [Value.str "__class__" n])) (by first | rfl | (simp only [slotArgs]; rfl)) ?_)
  refine wpAny_bind (wpAny_pure (wpAny_bind (T0.at (wpAny_bind (T3.at ?_)))))
  show wpAny _ _ (holding [Value.builtin "object.__class__"] (call (.builtin "getset_descriptor.__get__") [.builtin "object.__class__", .ref x, .ref D]) >>= ret) _ _ _
  refine wpAny_bind (wpAny_holding (wpAny_call (class_get (s := ⟨g0, gs, dr, n + 1, os⟩) (ox := ox) (od := od) inK J objD (wpAny_pure ?_))))
  show wpAny _ _ (handedOut (.ref D)) _ _ _
  rw [handedOut_of (v := .ref D) rfl]
  first | exact wpAny_pure (wpAny_pure go) | exact wpAny_pure go | exact wpAny_pure (wpAny_bind (wpAny_pure (wpAny_pure go)))
theorem kitE (ga : findIn K (.ref D) "__getattribute__" = some (some (.builtin "BaseException.__getattribute__"))) (gg : findIn K (.ref D) "__getattr__" = some none) (isE : subIn K (.ref D) (.type "BaseException") = some true) (hasD : hasDictIn K D = true)
    (atC : findIn K (.ref D) "__class__" = some (some (.builtin "object.__class__"))) (getC : specialIn K (.builtin "object.__class__") "__get__" = some (some (.builtin "getset_descriptor.__get__"))) (takC : takesIn K (.builtin "object.__class__") = some true)
    (objD : mroIn K D (.type "object") = some true) : KitX K (.ref x) (.ref D) (fun h => InstAt h x ox D od) := by
  have lk : ∃ o' c' cd sl, K.lookup D = some ⟨o', c', .cls cd, sl⟩ := by
    obtain ⟨cd, hc, _⟩ := any_some hasD
    unfold clsIn at hc
    split at hc
    · exact ⟨_, _, _, _, by assumption⟩
    · cases hc
  obtain ⟨o', c', cd, sl, lk⟩ := lk
  exact {
    ty := fun _ _ _ J => J.type
    it := fun _ _ inK _ => by
      intro A' Q' E' s' k q
      unfold isType loadHead
      exact wpAny_bind (wpAny_loadPart (k _ _ (inK _ _ lk)) (wpAny_pure q))
    ne := fun h tp dd its n sl inK htp => Bool.eq_false_iff.mpr fun q => by
      obtain rfl : D = tp := Value.ref.inj (beq_iff_eq.mp q)
      have z := (inK _ _ lk).symm.trans htp
      cases z
    ca := fun inK J k => classE ga gg isE hasD atC getC takC objD inK J k }
end
end PySem.W

namespace L2
open PySem PySem.Spec PyProof.Rows
/-- isinstance(e, c), e the error that the suite holds, with its fields at dd -/
def rIsF (K : PySem.W.Frag) (cls : Value) (d : Option Addr) (a : Addr) : List V → Hp → VK → Prop := fun xs H Q =>
  ∃ (D dd : Addr) (fs : List (Str × V)) (c : V) (cv : Value) (b : Bool), cls = .ref D ∧ d = some dd ∧ ExcC K D ∧ H dd = some (.xd fs) ∧ xs = [.ref a, c] ∧ (∀ u, RelV c u → u = cv) ∧ PySem.W.kitOne K (.ref D) cv = some b ∧ Q (.bl b) H
theorem call_isF {X : Cx} {a : Addr} {cls : Value} {d : Option Addr} {oe : Obj} {pn : List (Addr × Obj)} (hz : Zc cls d oe) (hf : ∃ vs, oe.data = .fields vs) : CallR (X.suite a ((a, oe) :: pn)) (.builtin "isinstance") (rIsF X.K cls d a) := by
  intro pins s σ H xs us Q J r h
  obtain ⟨D, dd, fs, c, cv, b, rfl, rfl, C, hd, rfl, hcv, k, q⟩ := h
  cases r with
  | cons rx rr =>
    cases rr with
    | cons rt rr =>
      cases rr
      cases rx
      obtain rfl := hcv _ rt
      obtain ⟨at_a, _⟩ := J.pin (a, oe) (List.mem_append.mpr (.inl List.mem_cons_self))
      obtain ⟨mA, names, _⟩ := (show ObjOk X.prog X.w H s.heap dd (.xd fs) from J.hok dd _ hd)
      obtain ⟨od, at_d, _⟩ := lookIn_ns names
      obtain ⟨vs, hv⟩ := hf
      have I0 : PySem.W.InstAt s.heap a oe D (some od) := ⟨at_a, hz.1, by unfold PySem.W.notCls; rw [hv] <;> rfl, by rw [hz.2]; exact at_d⟩
      exact PySem.W.kia_one (PySem.W.kitE C.hg C.hk C.hs C.hd C.ha C.hn C.ht C.hm) J.kIn I0 k (fun z => nomatch z) fun tk => ⟨.bl b, H, J.kept (t' := tk) fun _ _ z => z, rfl, q⟩
/-- xs.count(True), xs a list of bools -/
def eqT : Value → Bool
  | .bool b => b
  | _ => false
theorem bools_count : ∀ {bs : List Bool} {its : List Value}, Vals (bs.map V.bl) its → its.countP eqT = bs.count true
  | [], _, h => by cases h; rfl
  | b :: bs, _, h => by
    cases h with
    | cons h1 h2 =>
      cases h1
      rw [List.countP_cons, bools_count h2, List.count_cons]
      cases b <;> rfl
theorem bools_mem : ∀ {bs : List Bool} {its : List Value}, Vals (bs.map V.bl) its → ∀ y ∈ its, ∃ b, y = .bool b
  | [], _, h, y, hy => by
    cases h
    cases hy
  | b :: bs, _, h, y, hy => by
    cases h with
    | cons h1 h2 =>
      rcases List.mem_cons.mp hy with rfl | hy
      · exact ⟨b, h1⟩
      · exact bools_mem h2 y hy
theorem mt_countT {X : Cx} : MtR X "list.count" (fun x xs H Q => ∃ (p : Addr) (bs : List Bool), x = .ref p ∧ xs = [.bl true] ∧ SqL X.K H p (bs.map V.bl) ∧ Q (.int (bs.count true : Nat)) H) := by
  intro pins s σ H x xs v us Q J r rs h
  obtain ⟨p, bs, rfl, rfl, hs, q⟩ := h
  cases r
  obtain ⟨u, rfl, ru⟩ := rs.one
  cases ru
  obtain ⟨its, rv, ⟨⟨cls, dd, data, sl⟩, n, ho, hc, hdn, hd⟩, hlen⟩ := J.list hs
  simp only at hc hd
  subst hc hd
  refine call_meets PySem.F.slot_list_count ⟨_, ho, rfl⟩ PySem.F.entry_list_count (PySem.F.args_list_count_2 _ _)
    (SeqAt.list_countAt p its.toArray n dd sl (.bool true) eqT) ⟨ho, fun y hy => ?_, ?_⟩
  · obtain ⟨b, rfl⟩ := bools_mem rv y (by simpa using hy)
    have z := SeqAt.EqAt.bool_bool (A := X.A.in1) (s := s) b true
    rw [show (b == true) = eqT (.bool b) by cases b <;> rfl] at z
    exact z
  · have ec : its.toArray.toList.countP eqT = bs.count true := by rw [List.toList_toArray]; exact bools_count rv
    refine ⟨.int (bs.count true : Nat), H, J.tok _, ⟨s.toks, ?_⟩, q⟩
    show Value.int ((its.toArray.toList.countP eqT : Nat) : Int) s.toks = _
    rw [ec]
end L2
namespace L2
open PySem PySem.Spec PyProof.Rows LamX
theorem kany_yes {K : PySem.W.Frag} {t c : Value} {r : List Value} (h : PySem.W.kitOne K t c = some true) : PySem.W.kitAny K t (c :: r) = some true := by
  unfold PySem.W.kitAny
  rw [h]
theorem kany_no {K : PySem.W.Frag} {t c : Value} {r : List Value} {b : Option Bool} (h : PySem.W.kitOne K t c = some false) (h2 : PySem.W.kitAny K t r = b) : PySem.W.kitAny K t (c :: r) = b := by
  unfold PySem.W.kitAny
  rw [h]
  exact h2
/-! ### defs that raise -/
structure DefOkX (P : Program) (w : World) (K : PySem.W.Frag) (mg : Str → Option Value) (base : Heap) (x : Str) (st : Stmt) (ps : List Str) (k : Nat) (sp : Sp) : Prop where
  ex : ∃ f fd, mg x = some (.ref f) ∧ Fun K x x st f fd ∧ Binds K fd ps [] ∧ FnOk P w K mg base (L2.CX P w) k f fd ps sp
section
variable {P : Program} {w : World} {K : PySem.W.Frag} {mg : Str → Option Value} {base : Heap}
theorem TopDef.okX {x : Str} {st : Stmt} {N ps : List Str} {k : Nat} {sp : Sp} (T : TopDef K mg x st ps) (S : FnScope N ps (defScope st)) (len : ∀ vs H Q E, sp vs H Q E → vs.length = ps.length)
    (hbody : ∀ (f : Addr) (cdv : Value) (A : Around) (outer : List Env) (s : Shared) (H : Hp) (vs : List V) (Q : VK) (E : XK), Room k (A.deeper (envOfC x (defScope st) s.heap.objs.size f cdv)) → sp vs H Q E →
      ∃ t, PSs (cxOf (L2.CX P w) P w K mg base N x (defScope st) f cdv A outer s H E) (defBody st) t ∧ t { nx := fun _ H' => Q .non H', rt := Q } (start N vs) H) : DefOkX P w K mg base x st ps (k + 1) sp := by
  obtain ⟨f, fd, hm, F, hb⟩ := T.ex
  exact ⟨f, fd, hm, F, hb, F.okX S len (hbody f)⟩
end
section
variable {X : Cx} {x : Str} {st : Stmt} {ps : List Str} {k : Nat} {sp : Sp} {e : Expr} {es : List Expr} {t : TA} {p pos : Pos} {E : XK} {W : WX}
/-- a call of a def that may raise; what it raises is wished for by E -/
theorem pe_callX (D : DefOkX X.prog X.w X.K X.mg X.base x st ps k sp) (hr : Room k X.A) (tk : Takes X W) (hW : ∀ cls d σ H, E cls d H → W cls d σ H) (ha : PA X (e :: es) t) (hg : Gl X x := by rfl)
    (hdb : (x == ("__debug__" : Str)) = false := by decide) (he : starEach (e :: es) X.env = (false, eval e X.env) :: starEach es X.env := by rfl) (hpl : (backTo pos (starEach es X.env)).any (·.1) = false := by rfl) :
    PE X (.Call (.Name x p) (e :: es) [] pos) (tCall sp [] E t) := by
  obtain ⟨f, fd, hm, hk, hb, F⟩ := D.ex
  exact pe_call F hr hg hm hk.kp hb .nil (passes_call tk hW) ha hdb he hpl
/-- .. that raises nothing here -/
theorem pe_callX0 (D : DefOkX X.prog X.w X.K X.mg X.base x st ps k sp) (hr : Room k X.A) (ha : PA X (e :: es) t) (hg : Gl X x := by rfl)
    (hdb : (x == ("__debug__" : Str)) = false := by decide) (he : starEach (e :: es) X.env = (false, eval e X.env) :: starEach es X.env := by rfl) (hpl : (backTo pos (starEach es X.env)).any (·.1) = false := by rfl) :
    PE X (.Call (.Name x p) (e :: es) [] pos) (tCall sp [] E0 t) := by
  obtain ⟨f, fd, hm, hk, hb, F⟩ := D.ex
  exact pe_call F hr hg hm hk.kp hb .nil passL ha hdb he hpl
end
/-! ### error classes of the text -/
structure ErrDef (K : PySem.W.Frag) (mg : Str → Option Value) (x q : Str) (C : Addr) (st : Stmt) (ps : List Str) : Prop where
  g : mg x = some (.ref C)
  ae : AeC K C
  init : ∃ f fd, PySem.W.findIn K (.ref C) "__init__" = some (some (.ref f)) ∧ PySem.W.typeIn K (.ref f) = some (.type "function") ∧ Fun K "__init__" q st f fd ∧ Binds K fd ps []
/-- its __init__ keeps sp -/
structure ErrOk (P : Program) (w : World) (K : PySem.W.Frag) (mg : Str → Option Value) (base : Heap) (x : Str) (C : Addr) (ps : List Str) (k : Nat) (sp : Sp) : Prop where
  g : mg x = some (.ref C)
  ae : AeC K C
  ex : ∃ f fd, PySem.W.findIn K (.ref C) "__init__" = some (some (.ref f)) ∧ PySem.W.typeIn K (.ref f) = some (.type "function") ∧ Binds K fd ps [] ∧ FnOk P w K mg base CX0 k f fd ps sp
theorem ErrDef.ok {P : Program} {w : World} {K : PySem.W.Frag} {mg : Str → Option Value} {base : Heap} {x q : Str} {C : Addr} {st : Stmt} {N ps : List Str} {k : Nat} {sp : Sp} (T : ErrDef K mg x q C st ps) (S : FnScope N ps (defScope st)) (len : ∀ vs H Q E, sp vs H Q E → vs.length = ps.length)
    (hbody : ∀ (f : Addr) (cdv : Value) (A : Around) (outer : List Env) (s : Shared) (H : Hp) (vs : List V) (Q : VK) (E : XK), Room k (A.deeper (envOfC q (defScope st) s.heap.objs.size f cdv)) → sp vs H Q E →
      ∃ t, PSs (cxOf CX0 P w K mg base N q (defScope st) f cdv A outer s H E).nox (defBody st) t ∧ t { nx := fun _ H' => Q .non H', rt := Q } (start N vs) H) : ErrOk P w K mg base x C ps (k + 1) sp := by
  obtain ⟨f, fd, h1, h2, F, hb⟩ := T.init
  exact ⟨T.g, T.ae, f, fd, h1, h2, hb, F.ok S len (hbody f)⟩
theorem pmk_err {X : Cx} {x : Str} {C : Addr} {ps : List Str} {k : Nat} {sp : Sp} {e : Expr} {es : List Expr} {ta : TA} {p pos : Pos} (D : ErrOk X.prog X.w X.K X.mg X.base x C ps k sp) (hr : Room (k + 1) X.A) (ha : PA X (e :: es) ta) (hg : Gl X x := by rfl)
    (hdb : (x == ("__debug__" : Str)) = false := by decide) (he : starEach (e :: es) X.env = (false, eval e X.env) :: starEach es X.env := by rfl) (hpl : (backTo pos (starEach es X.env)).any (·.1) = false := by rfl) :
    PMk X (.Call (.Name x p) (e :: es) [] pos) (tMkO C sp [] ta) := by
  obtain ⟨f, fd, h1, h2, hb, F⟩ := D.ex
  exact pmk_over D.ae h1 h2 F hr hb pass0 D.g ha hg hdb he hpl
/-- what a made error leaves: its fields at d; what was there stands -/
def made1 (C e : Addr) (f : Str) (v : V) (H : Hp) (Q : VK) : Prop := ∀ (H1 : Hp) (d : Addr), Same H H1 → H1 d = none → d ≠ e → Q .non (upd (upd H1 d (exd d [(f, v)])) e (exo e C (some d)))
def spErr1 (C : Addr) (f : Str) (ok : V → Prop) : Sp := fun vs H Q _ => ∃ (e : Addr) (v : V), vs = [.ref e, v] ∧ H e = some (exo e C none) ∧ ok v ∧ made1 C e f v H Q
def spErr2 (C : Addr) (f g : Str) (ok : V → Prop) : Sp := fun vs H Q _ => ∃ (e : Addr) (u v : V), vs = [.ref e, u, v] ∧ H e = some (exo e C none) ∧ ok u ∧ ok v ∧
  ∀ (H1 : Hp) (d : Addr), Same H H1 → H1 d = none → d ≠ e → Q .non (upd (upd H1 d (exd d [(g, v), (f, u)])) e (exo e C (some d)))
theorem exo_new {H : Hp} {e : Addr} {o : HO} (h : H e = none) : Same H (upd H e o) := fun b u q => by rw [upd_ne (ne_of_none q h)]; exact q
/-- the reading of raise C(v) -/
theorem raise_core {C e d : Addr} {fs : List (Str × V)} {H H1 : Hp} (he : H e = none) (s : Same (upd H e (exo e C none)) H1) (hd : H1 d = none) (ne : d ≠ e) :
    Same H (upd (del (upd (upd H1 d (exd d fs)) e (exo e C (some d))) e) d (.xd fs)) ∧ H d = none ∧ (upd (del (upd (upd H1 d (exd d fs)) e (exo e C (some d))) e) d (.xd fs)) d = some (.xd fs) := by
  have free : H d = none := by
    cases q : H d with
    | none => rfl
    | some o =>
      have := s d o (by rw [upd_ne ne]; exact q)
      rw [hd] at this
      cases this
  refine ⟨fun b o q => ?_, free, upd_same⟩
  have hb : b ≠ e := ne_of_none q he
  have hbd : b ≠ d := ne_of_none q free
  rw [upd_ne hbd, del_ne hb, upd_ne hb, upd_ne hbd]
  exact s b o (by rw [upd_ne hb]; exact q)
theorem raise1 {C e : Addr} {f : Str} {ok : V → Prop} {v : V} {H : Hp} {R : Value → Option Addr → Hp → Prop} {E : XK} (he : H e = none) (hv : ok v) (k : ∀ (d : Addr) (H' : Hp), Same H H' → H d = none → H' d = some (.xd [(f, v)]) → R (.ref C) (some d) H') :
    spErr1 C f ok [.ref e, v] (upd H e (exo e C none)) (fun w H2 => w = .non ∧ ∃ (d : Addr) (fs : List (Str × V)), H2 e = some (exo e C (some d)) ∧ H2 d = some (exd d fs) ∧ H d = none ∧ R (.ref C) (some d) (upd (del H2 e) d (.xd fs))) E := by
  refine ⟨e, v, rfl, upd_same, hv, fun H1 d s hd ne => ⟨rfl, d, [(f, v)], upd_same, by rw [upd_ne ne]; exact upd_same, ?_⟩⟩
  obtain ⟨a, b, c⟩ := raise_core (fs := [(f, v)]) he s hd ne
  exact ⟨b, k d _ a b c⟩
theorem raise2 {C e : Addr} {f g : Str} {ok : V → Prop} {u v : V} {H : Hp} {R : Value → Option Addr → Hp → Prop} {E : XK} (he : H e = none) (hu : ok u) (hv : ok v) (k : ∀ (d : Addr) (H' : Hp), Same H H' → H d = none → H' d = some (.xd [(g, v), (f, u)]) → R (.ref C) (some d) H') :
    spErr2 C f g ok [.ref e, u, v] (upd H e (exo e C none)) (fun w H2 => w = .non ∧ ∃ (d : Addr) (fs : List (Str × V)), H2 e = some (exo e C (some d)) ∧ H2 d = some (exd d fs) ∧ H d = none ∧ R (.ref C) (some d) (upd (del H2 e) d (.xd fs))) E := by
  refine ⟨e, u, v, rfl, upd_same, hu, hv, fun H1 d s hd ne => ⟨rfl, d, [(g, v), (f, u)], upd_same, by rw [upd_ne ne]; exact upd_same, ?_⟩⟩
  obtain ⟨a, b, c⟩ := raise_core (fs := [(g, v), (f, u)]) he s hd ne
  exact ⟨b, k d _ a b c⟩
/-- a text or a number that is not too great: it can be shown -/
def Shows (v : V) : Prop := (∃ z : Str, v = .str z ∧ z.length ≤ 1000) ∨ ∃ i : Int, v = .int i ∧ i.natAbs < 2 ^ 64 ∧ (toString i : Str).length ≤ 1000
/-! ### a law's def whose code object is known -/
structure LawDef (K : PySem.W.Frag) (mg : Str → Option Value) (x : Str) (st : Stmt) (ps : List Str) (c P : Addr) : Prop where
  ex : ∃ f fd, mg x = some (.ref f) ∧ Fun K x x st f fd ∧ Binds K fd ps [] ∧ fd.code = .ref c
  code : PySem.W.codeHdIn K c P = true
  no : K.lookup P = none
theorem Fun.okC {P : Program} {w : World} {K : PySem.W.Frag} {mg : Str → Option Value} {base : Heap} {x q : Str} {st : Stmt} {f c : Addr} {fd : FuncData} {N ps : List Str} {k : Nat} {sp : Sp} (F : Fun K x q st f fd) (hc : fd.code = .ref c) (S : FnScope N ps (defScope st)) (len : ∀ vs H Q E, sp vs H Q E → vs.length = ps.length)
    (hbody : ∀ (A : Around) (outer : List Env) (s : Shared) (H : Hp) (vs : List V) (Q : VK) (E : XK), Room k (A.deeper (envOfC q (defScope st) s.heap.objs.size f (.ref c))) → sp vs H Q E →
      ∃ t, PSs (cxOf CX0 P w K mg base N q (defScope st) f (.ref c) A outer s H E).nox (defBody st) t ∧ t { nx := fun _ H' => Q .non H', rt := Q } (start N vs) H) : FnOk P w K mg base CX0 (k + 1) f fd ps sp := by
  obtain ⟨oc, od, kV, doc, pm, an, cdv, ct, osl, rfl, lk, hcd⟩ := F.ex
  obtain rfl : cdv = .ref c := hc
  exact fn_of lk hcd S len fun A outer s H vs Q E hr hsp => by
    obtain ⟨t, h, z⟩ := hbody A outer s H vs Q E hr hsp
    exact ⟨t, h.nox, z⟩
/-- the slots are as many as the names -/
theorem Takes.len {X : Cx} {W : WX} (tk : Takes X W) : Takes X (fun cls d σ H => σ.length = X.N.length → W cls d σ H) := fun u s' ⟨a, B, sI, pins, σ, H, cls, d, e, I, nb, up, sky, na, os, ag, w⟩ => tk u s' ⟨a, B, sI, pins, σ, H, cls, d, e, I, nb, up, sky, na, os, ag, w I.len⟩
/-- a method of a built-in type, the written part named -/
theorem pe_bmK {X : Cx} {K : PySem.W.Frag} {T id : String} {name : Str} {r : V → List V → Hp → VK → Prop} {o e : Expr} {es : List Expr} {to : TE} {t : TA} {apos cpos : Pos} (pa : PlainAttrs T) (slot : Slot T name id) (hty : typeOf (.builtin id) = pure (.type "method_descriptor")) (hm : MtR X id r) (ho : PE X o to) (ha : PA X (e :: es) t)
    (hK : X.K = K := by rfl) (hbase : attributeBase o name X.env (eval o X.env) = eval o X.env := by rfl)
    (few : ((backTo cpos (starEach (e :: es) X.env)).all (fun x => !x.1) && (backToKw cpos (keywordEach [] X.env)).all (fun x => x.1.isSome) && decide ((e :: es).length + ([] : List Keyword).length + (if ([] : List Keyword).isEmpty then 0 else 1) < 30)) = true := by rfl)
    (one : (apos.endLine == cpos.line) = true := by rfl) (he : starEach (e :: es) X.env = (false, eval e X.env) :: starEach es X.env := by rfl) (pl : (backTo cpos (starEach es X.env)).any (·.1) = false := by rfl) :
    PE X (.Call (.Attribute o name apos) (e :: es) [] cpos) (tBM K T r to t) := by
  subst hK
  exact pe_bm pa slot hty hm ho ha hbase few one he pl
theorem mt_countTK {X : Cx} {K : PySem.W.Frag} (hK : X.K = K := by rfl) : MtR X "list.count" (fun x xs H Q => ∃ (p : Addr) (bs : List Bool), x = .ref p ∧ xs = [.bl true] ∧ SqL K H p (bs.map V.bl) ∧ Q (.int (bs.count true : Nat)) H) := by
  subst hK
  exact mt_countT
/-- an expression that is never asked -/
theorem pe_false {X : Cx} {e : Expr} : PE X e (fun _ _ _ => False) := ⟨fun _ _ _ _ _ _ h => h.elim⟩
theorem xfc {K : PySem.W.Frag} {C : Addr} (T : ExcC K C) : XfC K C := ⟨T.hg, T.hk, T.hs, T.hd⟩
/-! ### x(lambda: body) -/
structure Asks (X : Cx) (x a : Str) (st : Stmt) (TT : (XK → Hp → VK → Prop) → Hp → VK → Prop) : Prop where
  ex : ∃ (g : Addr) (oc kV doc pm cdv ct : Value) (od an : Option Addr) (osl : Array (Option Value)) (Ng : List Str), X.mg x = some (.ref g) ∧ PySem.W.keepIn X.K (.ref g) = true ∧
    X.K.lookup g = some ⟨oc, od, .func (PySem.W.fnOf x x (defArgs st) (defBody st) (defScope st) .none kV doc pm an cdv ct), osl⟩ ∧ PySem.W.codeIn X.K cdv x = true ∧ Binds X.K (PySem.W.fnOf x x (defArgs st) (defBody st) (defScope st) .none kV doc pm an cdv ct) [a] [] ∧
    FnScope Ng [a] (defScope st) ∧ Ng[0]? = some a ∧ ∀ q, GivesTo X Ng x (defScope st) g cdv (defBody st) a q TT
theorem pe_ask {X : Cx} {T : List (Addr × Str)} {TT : (XK → Hp → VK → Prop) → Hp → VK → Prop} {x a : Str} {st : Stmt} {c P : Addr} {k : Nat} {params : Arguments} {body : Expr} {scope : Scope} {t : XK → TE} {p lpos pos : Pos} (D : Asks X x a st TT) (TB : TabB X.base X.mg c P) (hcode : X.env.code = .ref c)
    (hmT : (P, X.env.qual ++ "<lambda>") ∈ T) (hu : ∀ p ∈ T, p.1 = P → p.2 = X.env.qual ++ "<lambda>") (hr : Room (k + 2) X.A) (L : LamS X.env.scope scope)
    (hbody : ∀ (A : Around) (outer : List Env) (s : Shared) (H : Hp) (E : XK) (f c' : Addr), Room k (A.deeper (lamEnv X scope s.heap.objs.size f c')) → PE (lamCx X A outer s H E scope f c') body (t E))
    (hva : Vis (defScope st) a := by exact Or.inl rfl) (hg : Gl X x := by rfl) (hdef : defaultsOf params X.env = ([], []) := by rfl)
    (hbind : ∀ (q : Str) (cl : List (Str × Addr)) (pm cv ctv : Value), bindArgs (PySem.W.kla_fn "<lambda>" q params body scope cl pm cv ctv) ⟨[], []⟩ = pure [] := by intros; rfl)
    (hdb : (x == ("__debug__" : Str)) = false := by decide) (hd : (a == ("__debug__" : Str)) = false := by decide) (hcd : (a == ("__classdict__" : Str)) = false := by decide) :
    PE X (.Call (.Name x p) [.Lambda params body scope lpos] [] pos) (tLam T TT t) := by
  obtain ⟨g, oc, kV, doc, pm, cdv, ct, od, an, osl, Ng, hm, hk, lk, hcg, hb, Sg, hNg, hG⟩ := D.ex
  exact pe_lamcall hg hm hk lk hcg hb Sg hNg hva (hG _) TB hcode hmT hu hr L hdef hbind hbody hdb hd hcd
end L2

set_option maxHeartbeats 2000000
/-! My.Dt: texts times a number; new data of written displays. -/
namespace L2
open PySem PySem.Spec PyProof.Rows VW TL
def repS (z : Str) (n : Nat) : Str := ⟨(List.replicate n z.cps).foldl (· ++ ·) #[]⟩
def rRepS : R2 := fun x y H Q => ∃ (z : Str) (k : Int), x = .str z ∧ y = .int k ∧ 1 < k ∧ k < 1000 ∧ 0 < z.length ∧ z.length ≤ 1000 ∧ (repS z k.toNat).length ≤ sizeLine ∧ Q (.str (repS z k.toNat)) H
theorem op_repS {X : Cx} : OpR X (binaryOp .Mult) rRepS := by
  intro pins s σ H x y v u Q I rx ry h
  obtain ⟨z, k, rfl, rfl, h1, h2, h3, h4, h5, q⟩ := h
  obtain ⟨t, rfl⟩ := rx
  obtain ⟨t', rfl⟩ := ry
  have n1 : ¬ k < 1 := by omega
  have n2 : ¬ (k == 1 || z.length == 0) = true := by
    simp only [Bool.or_eq_true, beq_iff_eq]
    omega
  have n3 : z.length * k.toNat ≤ 1000 * 1000 := Nat.mul_le_mul h4 (by omega)
  refine P.mul_str ?_ (fun _ _ => ?_) (fun _ _ => ?_) ?_
  · rw [decide_eq_false (by omega), decide_eq_false (by omega)] <;> rfl
  · have : (1000 : Int) ≤ (2 ^ 63 - 1) / k := (Int.le_ediv_iff_mul_le (by omega)).mpr (by omega)
    omega
  · simp [Builtin.Str.tooLong, sizeLine]
    omega
  · rw [if_neg n1, if_neg n2]
    exact ⟨h5, .str (repS z k.toNat), H, I.tok _, ⟨_, rfl⟩, q⟩
section
variable {K : PySem.W.Frag} {σ : L2.St} {U0 H0 U H : Hp} {Q : VK} {p : Addr} {ds es : List PyData} {d : PyData} {t u : TE} {ta : TA}
/-- t makes d -/
def Fr8 (K : PySem.W.Frag) (σ : L2.St) (t : TE) (d : PyData) : Prop := ∀ (U H : Hp) (Q : VK), Same U H → (∀ v U' H', Gr S0 U H U' H' → Dp K U' v d → Q v H') → t σ H Q
def MkA (K : PySem.W.Frag) (σ : L2.St) (t : TA) (ds : List PyData) : Prop := ∀ (U H : Hp) (Q : List V → Hp → Prop), Same U H → (∀ vs U' H', Gr S0 U H U' H' → DpAll K U' vs ds → Q vs H') → t σ H Q
/-- t makes a text -/
def MkS (σ : L2.St) (t : TE) (z : Str) : Prop := ∀ (U H : Hp) (Q : VK), Same U H → (∀ U' H', Gr S0 U H U' H' → Q (.str z) H') → t σ H Q
/-- t makes a list of texts -/
def MkL (σ : L2.St) (t : TE) (ys : List Str) : Prop := ∀ (U H : Hp) (Q : VK), Same U H → (∀ p U' H', Gr S0 U H U' H' → H' p = some (.lst (ys.map V.str)) → Q (.ref p) H') → t σ H Q
theorem mk_non : Fr8 K σ (tC .non) .none := fun U H Q s k => k _ U H (.refl s) .non
theorem mk_int {i : Int} : Fr8 K σ (tC (.int i)) (.int i) := fun U H Q s k => k _ U H (.refl s) (.int i)
theorem mk_bl {i : Bool} : Fr8 K σ (tC (.bl i)) (.bool i) := fun U H Q s k => k _ U H (.refl s) (.bl i)
theorem mk_str {z : Str} (h : MkS σ t z) : Fr8 K σ t (.str z) := fun U H Q s k => h U H Q s fun U' H' g => k _ U' H' g (.str z)
theorem mks_c {z : Str} : MkS σ (tC (.str z)) z := fun U H Q s k => k U H (.refl s)
theorem mks_var {z : Str} {i : Nat} (h : σ[i]? = some (some (.str z))) : MkS σ (tVar i) z := fun U H Q s k => ⟨_, h, k U H (.refl s)⟩
theorem mks_add {y z : Str} (h : MkS σ t y) (h2 : MkS σ u z) (hl : y.length + z.length ≤ sizeLine) :
    MkS σ (tOp (fun x y H Q => ∃ i j : Str, x = V.str i ∧ y = V.str j ∧ i.length + j.length ≤ sizeLine ∧ Q (.str (i ++ j)) H) t u) (y ++ z) := fun U H Q s k =>
  h U H _ s fun U1 H1 g1 => h2 U1 H1 _ g1.s fun U2 H2 g2 => ⟨y, z, rfl, rfl, hl, k U2 H2 (g1.trans g2)⟩
theorem mks_rep {z : Str} {n : Int} (h : MkS σ t z) (h1 : 1 < n) (h2 : n < 1000) (h3 : 0 < z.length) (h4 : z.length ≤ 1000) (h5 : (repS z n.toNat).length ≤ sizeLine) : MkS σ (tOp rRepS t (tC (.int n))) (repS z n.toNat) := fun U H Q s k =>
  h U H _ s fun U1 H1 g1 => ⟨z, n, rfl, rfl, h1, h2, h3, h4, h5, k U1 H1 g1⟩
theorem mkl_one {z : Str} (h : MkS σ t z) : MkL σ (tLst (tCons t tNil)) [z] := fun U H Q s k =>
  h U H _ s fun U1 H1 g1 => ⟨Nat.le_of_ble_eq_true rfl, fun p hp => k p (upd U1 p (.lst [.str z])) _ (g1.new hp) upd_same⟩
theorem mkl_rep {z : Str} {n : Int} (h : MkL σ t [z]) (h1 : -(2 ^ 63) ≤ n) (h2 : n < 1000) : MkL σ (tOp rRep t (tC (.int n))) (List.replicate n.toNat z) := fun U H Q s k =>
  h U H _ s fun p U1 H1 g1 hp => ⟨p, n, [.str z], rfl, rfl, hp, h1, by omega, by rw [List.length_singleton]; exact Nat.le_trans (show 1 * n.toNat ≤ 1000 by omega) (by decide), fun q hq => by
    have e : (List.replicate n.toNat [V.str z]).flatten = (List.replicate n.toNat z).map V.str := by rw [List.flatten_replicate_singleton, List.map_replicate]
    refine k q (upd U1 q (.lst ((List.replicate n.toNat z).map V.str))) _ ?_ (by rw [e]; exact upd_same)
    rw [e]
    exact g1.new hq⟩
theorem mkl_cat {ys zs : List Str} (h : MkL σ t ys) (h2 : MkL σ u zs) (hl : ys.length + zs.length ≤ sizeLine) : MkL σ (tOp rCat t u) (ys ++ zs) := fun U H Q s k =>
  h U H _ s fun p U1 H1 g1 hp => h2 U1 H1 _ g1.s fun q U2 H2 g2 hq => ⟨p, q, _, _, rfl, rfl, g2.same _ _ hp, hq, by rw [List.length_map, List.length_map]; exact hl, fun r hr => by
    refine k r (upd U2 r (.lst ((ys ++ zs).map V.str))) _ ?_ (by rw [← List.map_append]; exact upd_same)
    rw [← List.map_append]
    exact (g1.trans g2).new hr⟩
theorem mks_join {z : Str} {ys : List Str} (h : MkL σ t ys) (hl : (List.map (fun x : Str => x.length) ys).sum + ys.length * z.length ≤ 16777216) :
    MkS σ (tM1 (fun x xs H Q => ∃ (a : Str) (p : Addr) (ys : List Str), x = V.str a ∧ xs = [V.ref p] ∧ (SqL K H p (ys.map V.str) ∨ SqT K H p (ys.map V.str)) ∧ (List.map (fun x : Str => x.length) ys).sum + ys.length * a.length ≤ 16777216 ∧ Q (.str (Txt.join a ys)) H) (tC (.str z)) t) (Txt.join z ys) := fun U H Q s k =>
  ⟨⟨z, rfl⟩, h U H _ s fun p U1 H1 g1 hp => ⟨z, p, ys, rfl, rfl, .inl (sqlO hp), hl, k U1 H1 g1⟩⟩
theorem mka_nil : MkA K σ tNil [] := fun U H Q s k => k [] U H (.refl s) .nil
theorem mka_cons (h : Fr8 K σ t d) (h2 : MkA K σ ta ds) : MkA K σ (tCons t ta) (d :: ds) := fun U H Q s k =>
  h U H _ s fun v U1 H1 g1 hd => h2 U1 H1 _ g1.s fun vs U2 H2 g2 hds => k (v :: vs) U2 H2 (g1.trans g2) (.cons (dpS g2.v hd) hds)
theorem mk_tup (h : MkA K σ ta ds) (hl : ds.length ≤ sizeLine) : Fr8 K σ (tTup ta) (.tuple ds) := fun U H Q s k =>
  h U H _ s fun vs U1 H1 g1 hd => ⟨by rw [dps_length hd]; exact hl, fun p hp => k (.ref p) (upd U1 p (.tup vs)) _ (g1.new hp) (.tup (sqtO upd_same) (dpsS (same_new (vfree g1.s hp)) hd))⟩
theorem mk_lst (h : MkA K σ ta ds) (hl : ds.length ≤ sizeLine) : Fr8 K σ (tLst ta) (.list ds) := fun U H Q s k =>
  h U H _ s fun vs U1 H1 g1 hd => ⟨by rw [dps_length hd]; exact hl, fun p hp => k (.ref p) (upd U1 p (.lst vs)) _ (g1.new hp) (.lst (sqlO upd_same) (dpsS (same_new (vfree g1.s hp)) hd))⟩
/-- a list that grows: p, new since H0, outside of the view -/
structure RowsAt (K : PySem.W.Frag) (U0 H0 U H : Hp) (p : Addr) (ds : List PyData) : Prop where
  g : Gr S0 U0 H0 U H
  n : H0 p = none
  o : U p = none
  h : ∃ vs, H p = some (.lst vs) ∧ DpAll K U vs ds
theorem rows_new (s : Gr S0 U0 H0 U H) (m : MkA K σ ta es) (hl : es.length ≤ sizeLine) (k : ∀ U' H' q, RowsAt K U0 H0 U' H' q es → Q (.ref q) H') : tLst ta σ H Q :=
  m U H _ s.s fun vs U1 H1 g1 hd => ⟨by rw [dps_length hd]; exact hl, fun p hp => k U1 _ p ⟨(s.trans g1).newH hp, (s.trans g1).free hp, vfree g1.s hp, vs, upd_same, hd⟩⟩
theorem rows_cat {i : Nat} (R : RowsAt K U0 H0 U H p ds) (hσ : σ[i]? = some (some (.ref p))) (m : MkA K σ ta es) (hl : ds.length + es.length ≤ sizeLine) (k : ∀ U' H' q, RowsAt K U0 H0 U' H' q (ds ++ es) → Q (.ref q) H') : tOp rCat (tVar i) (tLst ta) σ H Q := by
  obtain ⟨vs, hp, hv⟩ := R.h
  refine ⟨_, hσ, m U H _ R.g.s fun zs U1 H1 g1 hz => ⟨by rw [dps_length hz]; omega, fun b hb => ⟨p, b, vs, zs, rfl, rfl, by rw [upd_ne (ne_of_none (g1.same _ _ hp) hb)]; exact g1.same _ _ hp, upd_same, by rw [dps_length hz, dps_length hv]; exact hl, fun q hq => ?_⟩⟩⟩
  have G := ((R.g.trans g1).newH (o := .lst zs) hb)
  exact k U1 _ q ⟨G.newH hq, G.free hq, vfree G.s hq, _, upd_same, dps_append (dpsS g1.v hv) hz⟩
theorem rows_app {i : Nat} (R : RowsAt K U0 H0 U H p ds) (hσ : σ[i]? = some (some (.ref p))) (m : Fr8 K σ t d) (hl : ds.length < sizeLine) (k : ∀ U' H', RowsAt K U0 H0 U' H' p (ds ++ [d]) → Q .non H') : tBM K "list" rAppend (tVar i) (tCons t tNil) σ H Q := by
  obtain ⟨vs, hp, hv⟩ := R.h
  refine ⟨_, hσ, .inl ⟨rfl, vs, sqlO hp⟩, m U H _ R.g.s fun v U1 H1 g1 hd => ⟨p, vs, v, rfl, rfl, g1.same _ _ hp, by rw [dps_length hv]; exact hl, ?_⟩⟩
  have o1 : U1 p = none := g1.out (some_ne hp) R.o
  exact k U1 _ ⟨(R.g.trans g1).mut (.inr R.n) o1, R.n, o1, _, upd_same, dps_append (dpsS g1.v hv) (.cons hd .nil)⟩
end
end L2

set_option maxHeartbeats 2000000
/-! My.Mx: methods that may raise; makers C(..) that may raise. -/
namespace L2
open PySem PySem.Spec PyProof.Rows LamX
structure MethOkX (P : Program) (w : World) (K : PySem.W.Frag) (mg : Str → Option Value) (base : Heap) (C : Addr) (m q : Str) (st : Stmt) (ps : List Str) (k : Nat) (sp : Sp) : Prop where
  ex : ∃ f fd, PySem.W.findIn K (.ref C) m = some (some (.ref f)) ∧ PySem.W.isFn K (.ref f) = true ∧ Fun K m q st f fd ∧ Binds K fd ps [] ∧ FnOk P w K mg base (L2.CX P w) k f fd ps sp
theorem MethDef.okX {P : Program} {w : World} {K : PySem.W.Frag} {mg : Str → Option Value} {base : Heap} {C : Addr} {m q : Str} {st : Stmt} {N ps : List Str} {k : Nat} {sp : Sp} (T : MethDef K C m q st ps) (S : FnScope N ps (defScope st)) (len : ∀ vs H Q E, sp vs H Q E → vs.length = ps.length)
    (hbody : ∀ (f : Addr) (cdv : Value) (A : Around) (outer : List Env) (s : Shared) (H : Hp) (vs : List V) (Q : VK) (E : XK), Room k (A.deeper (envOfC q (defScope st) s.heap.objs.size f cdv)) → sp vs H Q E →
      ∃ t, PSs (cxOf (L2.CX P w) P w K mg base N q (defScope st) f cdv A outer s H E) (defBody st) t ∧ t { nx := fun _ H' => Q .non H', rt := Q } (start N vs) H) : MethOkX P w K mg base C m q st ps (k + 1) sp := by
  obtain ⟨f, fd, h1, h2, F, hb⟩ := T.ex
  exact ⟨f, fd, h1, h2, F, hb, F.okX S len (hbody f)⟩
section
variable {X : Cx} {C : Addr} {q : Str} {st : Stmt} {ps : List Str} {k : Nat} {sp : Sp} {e : Expr} {es : List Expr} {t tk : TA} {pos p : Pos} {x : Str} {E : XK} {W : WX}
/-- C(e, ..) that may raise: what it raises is wished for by E -/
theorem pe_makeX (D : MethOkX X.prog X.w X.K X.mg X.base C "__init__" q st ps k sp) (hmk : PySem.W.makesIn X.K C = true ∧ PySem.W.keepIn X.K (.ref C) = true) (hm : X.mg x = some (.ref C)) (hr : Room (k + 1) X.A) (tk : Takes X W) (hW : ∀ cls d σ H, E cls d H → W cls d σ H) (ha : PA X (e :: es) t) (hg : Gl X x := by rfl)
    (hdb : (x == ("__debug__" : Str)) = false := by decide) (he : starEach (e :: es) X.env = (false, eval e X.env) :: starEach es X.env := by rfl) (hpl : (backTo pos (starEach es X.env)).any (·.1) = false := by rfl) :
    PE X (.Call (.Name x p) (e :: es) [] pos) (tMake C sp [] E t) := by
  obtain ⟨f, fd, h1, h2, h3, hb, F⟩ := D.ex
  exact pe_make ⟨hmk.1, h1, h2, hmk.2⟩ F hr hg hm hb .nil (passes_call tk hW) ha hdb he hpl
/-- C(k = e, ..) that may raise -/
theorem pe_makeX_kw {kws : List Keyword} {ks : List Str} {tkk : TA} (D : MethOkX X.prog X.w X.K X.mg X.base C "__init__" q st ps k sp) (hmk : PySem.W.makesIn X.K C = true ∧ PySem.W.keepIn X.K (.ref C) = true) (hm : X.mg x = some (.ref C)) (hr : Room (k + 1) X.A) (tk : Takes X W) (hW : ∀ cls d σ H, E cls d H → W cls d σ H)
    (h : ∀ (kV doc pm : Value) (an : Option Addr) (cdv ct : Value) (us ws : List Value), us.length = 1 → ws.length = ks.length → bindArgs (PySem.W.fnOf "__init__" q (defArgs st) (defBody st) (defScope st) .none kV doc pm an cdv ct) ⟨us, ks.zip ws⟩ = pure (ps.zip (us ++ ws)))
    (hkw : PK X kws tkk) (hg : Gl X x := by rfl)
    (hall : (backToKw pos (keywordEach kws X.env)).all (·.1.isSome) = true := by rfl) (hks : (backToKw pos (keywordEach kws X.env)).filterMap (·.1) = ks := by rfl) (hdb : (x == ("__debug__" : Str)) = false := by decide)
    (hpl : ((backTo pos (starEach [] X.env)).any (·.1) || (backToKw pos (keywordEach kws X.env)).any (·.1.isNone)) = false := by rfl) :
    PE X (.Call (.Name x p) [] kws pos) (tMakeK C 0 ks.length sp (fun vs zs => vs ++ zs) E tNil tkk) := by
  obtain ⟨f, fd, h1, h2, h3, hb, F⟩ := D.ex
  exact pe_makeK0 ⟨hmk.1, h1, h2, hmk.2⟩ F hr hg hm (h3.kbn h) (passes_call tk hW) hkw hall hks hdb hpl
end
end L2

set_option maxHeartbeats 2000000
/-! My.Ky: a written tuple of numbers of a module as the key of an entry; what the dict holds behind is not told. -/
namespace L2
open PySem PySem.Spec PyProof.Rows
def KTup (K : PySem.W.Frag) (b : Addr) (ks : List Key) : Prop := ∃ o its n, K.lookup b = some o ∧ o.cls = Value.type "tuple" ∧ o.data = Data.seq its n ∧ ∀ (P : Program) (w : World), ItemsAre (mixKind P w) ks its.toList
/-- something stands there -/
abbrev anyO : HO := .ext fun _ => True
def sPutX (K : PySem.W.Frag) (ks : List Key) (td ty tv : TE) : TS := fun D σ H => tv σ H fun _ H1 => td σ H1 fun x H2 => ty σ H2 fun y H3 => ∃ a b, x = .ref a ∧ H3 a = some (.dT []) ∧ y = .ref b ∧ KTup K b ks ∧ D.nx σ (upd H3 a anyO)
section
variable {X : Cx} {o i value : Expr} {pos pos' : Pos} {td ty tv : TE} {ks : List Key}
theorem ps_dputX (hu : X.A.units + 1 < cLine) (ho : PE X o td) (hi : PE X i ty) (hv : PE X value tv) (sw : swapsWith value (some (o.Subscript i pos')) pos.line X.env = pure false := by rfl) : PS X (.Assign [o.Subscript i pos'] value pos) (sPutX X.K ks td ty tv) := by
  refine ⟨fun pins s σ H D I h => wpAny_Assign_Subscript ?_ sw⟩
  refine thn (hv.run pins s σ H _ I h) fun v s1 hq1 => ?_
  obtain ⟨v', H1, I1, rv, h1⟩ := hq1
  refine thn (ho.run pins s1 σ H1 _ I1 h1) fun ov s2 hq2 => ?_
  obtain ⟨x, H2, I2, rx, h2⟩ := hq2
  refine thn (hi.run pins s2 σ H2 _ I2 h2) fun iv s3 hq3 => ?_
  obtain ⟨y, H3, I3, ry, h3⟩ := hq3
  obtain ⟨a, b, rfl, ha, rfl, ⟨ob, its, n, hk, hc, hd, hi⟩, k⟩ := h3
  cases rx
  cases ry
  obtain ⟨_, hs, xs, kt, di⟩ := dt_of I3.hok ha
  cases kt
  have hb : (tupleKind (mixKind X.prog X.w)).is s3.heap ks b := ⟨ob, its, n, I3.kIn _ _ hk, hc, hd, hi _ _⟩
  refine wpAny_setItem_heap (knd := tupleKind (mixKind X.prog X.w)) (tupleKind_room_in1 hu) hb di (fun h' d' sb => ?_) (Nat.zero_le _)
  refine ⟨σ, upd H3 a anyO, ?_, k⟩
  have hsome : ∃ q, h'.get? a = some q := by
    obtain ⟨o, _, _, e, _⟩ := d'
    exact ⟨o, e⟩
  exact d_write I3 (by rw [ha]; trivial) sb hsome ⟨trivial, hsome, fun _ _ _ _ => trivial⟩
theorem pe_globS {x z : Str} {pos : Pos} (h : ∃ t, X.mg x = some (.str z t)) (hg : Gl X x := by rfl) (hd : (x == ("__debug__" : Str)) = false := by decide) : PE X (.Name x pos) (tC (.str z)) := by
  obtain ⟨t, h⟩ := h
  exact pe_glob (v := .str z) hg h ⟨t, rfl⟩ hd
def gFld (K : PySem.W.Frag) (ta : TE) (f : Str) : TG := fun v σ H Q => ta σ H fun x H1 => ∃ a C dx fs, x = .ref a ∧ H1 a = some (.ins C dx fs) ∧ Cls K C ∧ NoAttr K C f ∧ fs.length < 1000 ∧ Q σ (upd H1 a (.ins C dx (putF f v fs)))
/-- o.f as a target among several -/
theorem pg_fld {f : Str} {ta : TE} (ho : PE X o ta) : PG X (.Attribute o f pos) (gFld X.K ta f) := by
  refine ⟨fun pins s σ H v u Q I rv h => ?_⟩
  rw [arm_assign_Attribute]
  refine wpAny_bind (wpAny_holding (thn (ho.run pins s σ H _ I h) fun ov s1 hq => ?_))
  obtain ⟨x, H1, I1, rx, a, C, dx, fs, rfl, ha, hc, hn, hl, k⟩ := hq
  cases rx
  refine wpAny_bind (wpAny_standAt ?_)
  refine wpAny_bind (wpAny_holding (setattr_ok I1 ha hc hn hl rv fun s' I' => ?_))
  exact wpAny_release ⟨σ, _, I', k⟩
end
/-! a written dict of a module: k in w, w[k] -/
def tKIn (K : PySem.W.Frag) (w : World) (ty td : TE) : TE := fun σ H Q => ty σ H fun y H1 => td σ H1 fun x H2 => ∃ a es n, x = .ref a ∧ K.lookup a = some ⟨.type "dict", none, .dict es n, #[]⟩ ∧ PySem.W.KeysLit w.params es.toList ∧ (a == sysModules) = false ∧
  ∃ z r, y = .str z ∧ PySem.W.nsIn K a z = some r ∧ Q (.bl r.isSome) H2
def tKIx (K : PySem.W.Frag) (w : World) (td ty : TE) : TE := fun σ H Q => td σ H fun x H1 => ty σ H1 fun y H2 => ∃ a es n, x = .ref a ∧ K.lookup a = some ⟨.type "dict", none, .dict es n, #[]⟩ ∧ PySem.W.KeysLit w.params es.toList ∧ (a == sysModules) = false ∧
  ∃ z u v, y = .str z ∧ PySem.W.nsIn K a z = some (some u) ∧ RelV v u ∧ Q v H2
section
variable {X : Cx} {o i : Expr} {pos : Pos} {td ty : TE}
theorem pc_dinK (hi : PE X i ty) (ho : PE X o td) : PC X CmpOp.In i o (tKIn X.K X.w ty td) := by
  refine ⟨fun pins s σ H Q I h => thn (hi.run pins s σ H _ I h) fun iv s1 hq1 => ?_⟩
  obtain ⟨y, H1, I1, ry, h1⟩ := hq1
  refine thn (ho.run pins s1 σ H1 _ I1 h1) fun ov s2 hq2 => ?_
  obtain ⟨x, H2, I2, rx, a, es, n, rfl, hl, hk, low, z, r, rfl, e, k⟩ := hq2
  cases rx
  obtain ⟨t, rfl⟩ := (show ∃ t, iv = Value.str z t from ry)
  have hm := PySem.W.mapOf_K (prog := X.prog) (w := X.w) I2.kIn hl hk
  refine wpAny_in_of (knd := strKind X.prog X.w) (strKind_is X.prog X.w z t) low hm ?_
  rw [PySem.W.find_K hl e]
  exact ⟨.bl r.isSome, H2, I2.tok _, rfl, k⟩
theorem pe_dixK (ho : PE X o td) (hi : PE X i ty) (hn : NoSl i) : PE X (o.Subscript i pos) (tKIx X.K X.w td ty) := by
  refine ⟨fun pins s σ H Q I h => subD_of (T := "dict") (PySem.Slot.lookup PySem.F.slot_dict_getitem) hn (thn (ho.run pins s σ H _ I h) fun ov s1 hq1 => ?_)⟩
  obtain ⟨x, H1, I1, rx, h1⟩ := hq1
  refine thn (hi.run pins s1 σ H1 _ I1 h1) fun iv s2 hq2 => ?_
  obtain ⟨y, H2, I2, ry, a, es, n, rfl, hl, hk, low, z, u, v, rfl, e, rv, k⟩ := hq2
  cases rx
  obtain ⟨t, rfl⟩ := (show ∃ t, iv = Value.str z t from ry)
  have hm := PySem.W.mapOf_K (prog := X.prog) (w := X.w) I2.kIn hl hk
  refine ⟨hm.typeIs, wpAny_getItem_of (knd := strKind X.prog X.w) (strKind_is X.prog X.w z t) hm (PySem.W.find_K hl e) ?_⟩
  exact ⟨v, H2, I2.tok _, rv, k⟩
theorem pe_fldK {e : Expr} {f : Str} {ta : TE} {K : PySem.W.Frag} (he : PE X e ta) (hb : attributeBase e f X.env (eval e X.env) = eval e X.env) (hK : X.K = K := by rfl) : PE X (e.Attribute f pos) (tFld K ta f) := by
  subst hK
  exact pe_fld he hb
theorem pe_revLK {e : Expr} {te : TE} {k : Nat} {p1 p2 p3 pos : Pos} {K : PySem.W.Frag} (he : PE X e te) (hK : X.K = K := by rfl) : PE X (e.Subscript (Expr.Slice none none (some (Expr.UnaryOp UnaryOp.USub (Expr.Constant (Const.int 1) k p1) p2)) p3) pos) (tRevL K te) := by
  subst hK
  exact pe_revL he
end
end L2

set_option maxHeartbeats 2000000
/-! My.Kt: t + u of tuples, whichever is empty. -/
namespace L2
open PySem PySem.Spec PyProof.Rows
theorem tuple_addW0 (l b : Addr) (items items2 : Array Value) (n n2 : Nat) (dd dd2 : Option Addr) (sl sl2 : Array (Option Value)) (h : items.isEmpty = true) :
    Meets (Builtin.«tuple.__add__» { pos := [Value.ref l, Value.ref b] }) fun x R s =>
      s.heap.get? l = some { cls := Value.type "tuple", dict := dd, data := Data.seq items n, slots := sl } ∧
        s.heap.get? b = some { cls := Value.type "tuple", dict := dd2, data := Data.seq items2 n2, slots := sl2 } ∧ R (Except.ok (Flow.ret (Value.ref b))) s := by
  refine Meets.of_wp fun prog w A R s ⟨h1, h2, hR⟩ => ?_
  unfold Builtin.«tuple.__add__»
  refine wpAny_bind (wpAny_pure ?_)
  refine wpAny_bind (wpAny_isInstance (T := "tuple") ⟨_, h2, rfl⟩ PySem.AutoSeq1.sub_tuple_tuple ?_)
  refine wpAny_bind ?_
  unfold Builtin.Tuple.tupleItemsOf
  refine wpAny_bind (wpAny_seqItems h1 rfl ?_)
  refine wpAny_pure ?_
  refine wpAny_bind (wpAny_bind (wpAny_seqItems h2 rfl (wpAny_pure ?_)))
  refine wpAny_ite_true (decide_eq_true h) ?_
  refine wpAny_bind ?_
  unfold Builtin.Tuple.tupleIsExact
  refine wpAny_bind (wpAny_typeOf (T := "tuple") ⟨_, h2, rfl⟩ (wpAny_pure ?_))
  refine wpAny_ite_true rfl ?_
  exact wpAny_bind (wpAny_rule (wpAny_pure ⟨_, rfl, hR⟩))
def rCatT0 (K : PySem.W.Frag) : R2 := fun x y H Q => ∃ a b xs ys, x = .ref a ∧ y = .ref b ∧ SqT K H a xs ∧ SqT K H b ys ∧ xs.length + ys.length ≤ sizeLine ∧ (xs = [] → Q (.ref b) H) ∧ (xs ≠ [] → ys = [] → Q (.ref a) H) ∧ (xs ≠ [] → ys ≠ [] → ∀ (p : Addr), H p = none → Q (.ref p) (upd H p (.tup (xs ++ ys))))
/-- t + u, whichever is empty -/
theorem op_catT0 {X : Cx} : OpR X (binaryOp .Add) (rCatT0 X.K) := by
  intro pins s σ H x y v u Q I rx ry ⟨a, b, xs, ys, ex, ey, ha, hb, hl, k0, k1, k2⟩
  by_cases h : xs = []
  · subst ex
    subst ey
    cases rx
    cases ry
    obtain ⟨its, v1, ⟨⟨c1, dd, da, sl⟩, e1, c1', n1, d1⟩, _⟩ := I.tuple ha
    obtain ⟨its2, v2, ⟨⟨c2, dd2, da2, sl2⟩, e2, c2', n2, d2⟩, _⟩ := I.tuple hb
    subst h
    cases v1
    have c1' : c1 = _ := c1'
    have c2' : c2 = _ := c2'
    have d1 : da = _ := d1
    have d2 : da2 = _ := d2
    subst c1' c2' d1 d2
    refine concat_meets ⟨_, e1, rfl⟩ ⟨_, e2, rfl⟩ noFill_tuple_add seq_tuple_add F.slot_tuple_add F.entry_tuple_add (F.args_tuple_add_2 _ _) (tuple_addW0 a b #[] _ _ _ _ _ _ _ rfl) ⟨e1, e2, ?_⟩
    exact ⟨.ref b, H, I, rfl, k0 rfl⟩
  · exact op_catT pins s σ H x y v u Q I rx ry ⟨a, b, xs, ys, ex, ey, ha, hb, h, hl, k1 h, k2 h⟩
theorem op_catT0K {X : Cx} {K : PySem.W.Frag} (hK : X.K = K := by rfl) : OpR X (binaryOp .Add) (rCatT0 K) := by
  subst hK
  exact op_catT0
end L2

set_option maxHeartbeats 4000000
/-! My.Zm: zip(xs, t) of a list and a tuple. -/
namespace RM
open PySem L2 RZ
section
variable {prog : Program} {w : World} {A : Around} {E : Value → Shared → Prop} {s : Shared} {z TI TO i1 i2 l1 l2 : Addr} {k1 k2 : Nat} {xs ys : Array Value} {x y a b : Value}
theorem zipM_next_item {Q : Value → Shared → Prop} (ap : ZipApart z TI TO i1 i2 l1 l2) (hz : IsZip s.heap z TI TO Value.none) (hTI : IsPair s.heap TI (Value.ref i1) (Value.ref i2)) (hTO : IsPair s.heap TO a b) (h1 : s.heap.IsListIter i1 l1 k1) (h2 : s.heap.IsTupleIter i2 l2 k2)
    (hx : s.heap.IsList l1 xs) (hy : s.heap.IsTuple l2 ys) (ex : xs[k1]? = some x) (ey : ys[k2]? = some y)
    (h : ∀ (h' : Heap), IsZip h' z TI TO (rawInt ↑s.heap.objs.size) → IsPair h' TO x y → h'.IsListIter i1 l1 (k1 + 1) → h'.IsTupleIter i2 l2 (k2 + 1) → IsPair h' s.heap.objs.size x y → h'.objs.size = s.heap.objs.size + 1 →
      (∀ (c : Addr) (o : Obj), c ≠ z → c ≠ TO → c ≠ i1 → c ≠ i2 → s.heap.get? c = some o → h'.get? c = some o) → Q (Value.ref s.heap.objs.size) { heap := h', gens := s.gens, drawn := s.drawn, toks := s.toks, os := s.os }) :
    wpAny (model prog w) A (Builtin.«zip.__next__» { pos := [Value.ref z] }) (fun fin s' => ∃ v, fin = Fin.done (Flow.ret v) ∧ Q v s') E s := by
  unfold Builtin.«zip.__next__»
  refine wpAny_bind (wpAny_pure ?_)
  refine wpAny_bind (wpAny_field hz rfl rfl ?_)
  refine wpAny_bind (wpAny_field hz rfl rfl ?_)
  refine wpAny_bind (wpAny_seqItems hTI rfl ?_)
  refine wpAny_bind ?_
  unfold Builtin.SmallTypes.ownedTupleIsFree
  refine wpAny_bind (wpAny_field hz rfl rfl ?_)
  refine wpAny_pure ?_
  refine wpAny_bind (wpAny_rule ?_)
  refine wpAny_bind (wpAny_field hz rfl rfl ?_)
  refine wpAny_bind (wpAny_setField_rec hz (Nat.lt_of_lt_of_eq (by decide : 0 < 5) rfl) fun ha ea sa => ?_)
  refine wpAny_bind ?_
  rw [show (#[Value.ref i1, Value.ref i2] : Array Value).toList.zipIdx = [(Value.ref i1, 0), (Value.ref i2, 1)] from rfl, List.forIn_cons]
  refine wpAny_bind ?_
  refine wpAny_bind (wpAny_onRaise ?_)
  have e0 : (#[Value.none, Value.bool false, Value.bool false, Value.ref TI, Value.ref TO][2] == Value.bool true) = false := rfl
  refine wpAny_bind (M := model prog w) (wpAny_nextOf_list_item (h1.extBut sa.extBut ap.i1z) (hx.extBut sa.extBut ap.l1z) ex fun hb i1b sb => ?_)
  refine wpAny_pure ?_
  have tob : IsPair hb TO a b := sb.extBut _ _ ap.TOi1 (sa.extBut _ _ ap.TOz hTO)
  refine wpAny_bind (wpAny_seqItems tob rfl ?_)
  refine wpAny_bind (wpAny_updateSeq_pair (a := a) (b := b) tob fun hc ec sc => ?_)
  refine wpAny_bind (wpAny_letGo ?_)
  refine wpAny_pure ?_
  show wpAny _ _ (forIn [(Value.ref i2, 1)] (none, ()) _) _ _ _
  rw [List.forIn_cons]
  refine wpAny_bind ?_
  refine wpAny_bind (wpAny_onRaise ?_)
  have i2c : hc.IsTupleIter i2 l2 k2 := ((h2.extBut sa.extBut ap.i2z).extBut sb.extBut ap.i12.symm).extBut sc.extBut ap.TOi2.symm
  have l2c : hc.IsTuple l2 ys := ((hy.extBut sa.extBut ap.l2z).extBut sb.extBut ap.l2i1).extBut sc.extBut ap.l2TO
  refine wpAny_bind (M := model prog w) (nextOf_tuple_item i2c l2c ey fun hd i2d sd => ?_)
  refine wpAny_pure ?_
  have tod : IsPair hd TO x b := sd.extBut _ _ ap.TOi2 ec
  refine wpAny_bind (wpAny_seqItems tod rfl ?_)
  refine wpAny_bind (wpAny_updateSeq_pair (a := x) (b := b) tod fun he ee se => ?_)
  refine wpAny_bind (wpAny_letGo ?_)
  refine wpAny_pure ?_
  show wpAny _ _ (forIn [] (none, ()) _) _ _ _
  refine wpAny_pure ?_
  refine wpAny_bind (wpAny_seqItems ee rfl ?_)
  refine wpAny_bind (wpAny_newTuple ?_ (Nat.le_of_ble_eq_true rfl))
  unfold Builtin.SmallTypes.ownedTupleHandOut
  have ez : he.get? z = some { cls := Value.type "zip", data := Data.fields #[Value.ellipsis, Value.bool false, Value.bool false, Value.ref TI, Value.ref TO] } := se.extBut _ _ ap.TOz.symm (sd.extBut _ _ ap.i2z.symm (sc.extBut _ _ ap.TOz.symm (sb.extBut _ _ ap.i1z.symm ea)))
  refine wpAny_bind (wpAny_bind (wpAny_setField_rec (Heap.get?_push_of_some _ ez) (Nat.lt_of_lt_of_eq (by decide : 0 < 5) rfl) fun hf ef sf => ?_))
  refine wpAny_setField_rec ef (Nat.lt_of_lt_of_eq (by decide : 1 < 5) rfl) fun hg eg sg => ?_
  have sa : Heap.SameBut z s.heap ha := sa
  have sb : Heap.SameBut i1 ha hb := sb
  have sc : Heap.SameBut TO hb hc := sc
  have sd : Heap.SameBut i2 hc hd := sd
  have se : Heap.SameBut TO hd he := se
  have ee : IsPair he TO x y := ee
  have hsz : he.objs.size = s.heap.objs.size := by rw [se.1, sd.1, sc.1, sb.1, sa.1]
  have sf : Heap.SameBut z (he.push { cls := Value.type "tuple", data := Data.seq #[x, y] }) hf := sf
  have sg : Heap.SameBut z hf hg := sg
  have eg : IsZip hg z TI TO (rawInt ↑he.objs.size) := eg
  have kg : ∀ (c : Addr) (o : Obj), c ≠ z → he.get? c = some o → hg.get? c = some o := fun c o hc e => sg.extBut _ _ hc (sf.extBut _ _ hc (Heap.get?_push_of_some _ e))
  have kb : ∀ (c : Addr) (o : Obj), c ≠ z → c ≠ TO → c ≠ i2 → hb.get? c = some o → hg.get? c = some o := fun c o h1 h2 h3 e => kg c o h1 (se.extBut _ _ h2 (sd.extBut _ _ h3 (sc.extBut _ _ h2 e)))
  have i1b : hb.IsListIter i1 l1 (k1 + 1) := i1b
  have i2d : hd.IsTupleIter i2 l2 (k2 + 1) := i2d
  have hzs : he.objs.size ≠ z := Nat.ne_of_gt (Heap.lt_size ez)
  refine wpAny_pure ⟨_, rfl, ?_⟩
  have := h hg (by rw [← hsz]; exact eg) (kg _ _ ap.TOz ee) (by obtain ⟨o, e, r⟩ := i1b; exact ⟨o, kb _ _ ap.i1z ap.TOi1.symm ap.i12 e, r⟩) (by obtain ⟨o, e, r⟩ := i2d; exact ⟨o, kg _ _ ap.i2z (se.extBut _ _ ap.TOi2.symm e), r⟩)
    (by rw [← hsz]; exact sg.extBut _ _ hzs (sf.extBut _ _ hzs (Heap.get?_push_size he rfl))) (by rw [sg.1, sf.1, Heap.size_push, hsz]) (fun c o h1 h2 h3 h4 e => kb c o h1 h2 h4 (sb.extBut _ _ h3 (sa.extBut _ _ h1 e)))
  rw [← hsz] at this
  exact this
theorem zipM_next_end {Q : PySem.Fin → Shared → Prop} (hA : A.handled = none) (ap : ZipApart z TI TO i1 i2 l1 l2) (hz : IsZip s.heap z TI TO Value.none) (hTI : IsPair s.heap TI (Value.ref i1) (Value.ref i2)) (hTO : IsPair s.heap TO a b) (h1 : s.heap.IsListIter i1 l1 k1) (h2 : s.heap.IsTupleIter i2 l2 k2)
    (hx : s.heap.IsList l1 xs) (hy : s.heap.IsTuple l2 ys) (ex : xs[k1]? = some x) (ey : ys[k2]? = none)
    (h : ∀ (h' : Heap) (e : Addr), (∀ (c : Addr) (o : Obj), c ≠ z → c ≠ TO → c ≠ i1 → c ≠ i2 → s.heap.get? c = some o → h'.get? c = some o) → (∃ o, h'.get? e = some o ∧ o.cls = Value.type "StopIteration") →
      E (Value.ref e) { heap := h', gens := s.gens, drawn := s.drawn, toks := s.toks, os := s.os }) :
    wpAny (model prog w) A (Builtin.«zip.__next__» { pos := [Value.ref z] }) Q E s := by
  unfold Builtin.«zip.__next__»
  refine wpAny_bind (wpAny_pure ?_)
  refine wpAny_bind (wpAny_field hz rfl rfl ?_)
  refine wpAny_bind (wpAny_field hz rfl rfl ?_)
  refine wpAny_bind (wpAny_seqItems hTI rfl ?_)
  refine wpAny_bind ?_
  unfold Builtin.SmallTypes.ownedTupleIsFree
  refine wpAny_bind (wpAny_field hz rfl rfl ?_)
  refine wpAny_pure ?_
  refine wpAny_bind (wpAny_rule ?_)
  refine wpAny_bind (wpAny_field hz rfl rfl ?_)
  refine wpAny_bind (wpAny_setField_rec hz (Nat.lt_of_lt_of_eq (by decide : 0 < 5) rfl) fun ha ea sa => ?_)
  refine wpAny_bind ?_
  rw [show (#[Value.ref i1, Value.ref i2] : Array Value).toList.zipIdx = [(Value.ref i1, 0), (Value.ref i2, 1)] from rfl, List.forIn_cons]
  refine wpAny_bind ?_
  refine wpAny_bind (wpAny_onRaise ?_)
  refine wpAny_bind (M := model prog w) (wpAny_nextOf_list_item (h1.extBut sa.extBut ap.i1z) (hx.extBut sa.extBut ap.l1z) ex fun hb i1b sb => ?_)
  refine wpAny_pure ?_
  have tob : IsPair hb TO a b := sb.extBut _ _ ap.TOi1 (sa.extBut _ _ ap.TOz hTO)
  refine wpAny_bind (wpAny_seqItems tob rfl ?_)
  refine wpAny_bind (wpAny_updateSeq_pair (a := a) (b := b) tob fun hc ec sc => ?_)
  refine wpAny_bind (wpAny_letGo ?_)
  refine wpAny_pure ?_
  show wpAny _ _ (forIn [(Value.ref i2, 1)] (none, ()) _) _ _ _
  rw [List.forIn_cons]
  refine wpAny_bind ?_
  refine wpAny_bind (wpAny_onRaise ?_)
  have i2c : hc.IsTupleIter i2 l2 k2 := ((h2.extBut sa.extBut ap.i2z).extBut sb.extBut ap.i12.symm).extBut sc.extBut ap.TOi2.symm
  have l2c : hc.IsTuple l2 ys := ((hy.extBut sa.extBut ap.l2z).extBut sb.extBut ap.l2i1).extBut sc.extBut ap.l2TO
  have ez : hc.get? z = some { cls := Value.type "zip", data := Data.fields #[Value.ellipsis, Value.bool false, Value.bool false, Value.ref TI, Value.ref TO] } := sc.extBut _ _ ap.TOz.symm (sb.extBut _ _ ap.i1z.symm ea)
  refine wpAny_bind (M := model prog w) (nextOf_tuple_end hA i2c l2c ey fun hd e sd st => ?_)
  refine wpAny_setField_rec (sd _ _ ap.i2z.symm ez) (Nat.lt_of_lt_of_eq (by decide : 0 < 5) rfl) fun he ee se => ?_
  have sa : Heap.SameBut z s.heap ha := sa
  have sb : Heap.SameBut i1 ha hb := sb
  have sc : Heap.SameBut TO hb hc := sc
  have sd : Heap.ExtBut i2 hc hd := sd
  have se : Heap.SameBut z hd he := se
  refine h he e (fun c o h1 h2 h3 h4 q => se.extBut _ _ h1 (sd _ _ h4 (sc.extBut _ _ h2 (sb.extBut _ _ h3 (sa.extBut _ _ h1 q))))) ?_
  obtain ⟨o, e1, e2⟩ := st
  by_cases hez : e = z
  · exfalso
    rw [hez] at e1
    have e1 : hd.get? z = some o := e1
    rw [sd _ _ ap.i2z.symm ez] at e1
    cases e1
    have e2 : Value.type "zip" = Value.type "StopIteration" := e2
    injection e2 with e2
    exact absurd e2 (by decide)
  · exact ⟨o, se.extBut _ _ hez e1, e2⟩
theorem pyNext_zipM_item {Q : Option Value → Shared → Prop} (ap : ZipApart z TI TO i1 i2 l1 l2) (hz : IsZip s.heap z TI TO Value.none) (hTI : IsPair s.heap TI (Value.ref i1) (Value.ref i2)) (hTO : IsPair s.heap TO a b) (h1 : s.heap.IsListIter i1 l1 k1) (h2 : s.heap.IsTupleIter i2 l2 k2)
    (hx : s.heap.IsList l1 xs) (hy : s.heap.IsTuple l2 ys) (ex : xs[k1]? = some x) (ey : ys[k2]? = some y)
    (h : ∀ (h' : Heap), IsZip h' z TI TO (rawInt ↑s.heap.objs.size) → IsPair h' TO x y → h'.IsListIter i1 l1 (k1 + 1) → h'.IsTupleIter i2 l2 (k2 + 1) → IsPair h' s.heap.objs.size x y → h'.objs.size = s.heap.objs.size + 1 →
      (∀ (c : Addr) (o : Obj), c ≠ z → c ≠ TO → c ≠ i1 → c ≠ i2 → s.heap.get? c = some o → h'.get? c = some o) → Q (some (Value.ref s.heap.objs.size)) { heap := h', gens := s.gens, drawn := s.drawn, toks := s.toks, os := s.os }) :
    wpAny (model prog w) A (pyNext (Value.ref z)) Q E s := by
  have hty : s.TypeIs (Value.ref z) "zip" := ⟨_, hz, rfl⟩
  unfold pyNext
  refine wpAny_bind (wpAny_attempt (wpAny_callSpecial?_slot hty F.slot_zip_next (wpAny_call_entry F.slot_zip_next hty F.entry_zip_next (zipM_next_item ap hz hTI hTO h1 h2 hx hy ex ey fun h' q1 q2 q3 q4 q5 q6 q7 => ?_) (F.args_zip_next_1 _))))
  exact wpAny_pure (h h' q1 q2 q3 q4 q5 q6 q7)
theorem pyNext_zipM_end {Q : Option Value → Shared → Prop} (hA : A.handled = none) (ap : ZipApart z TI TO i1 i2 l1 l2) (hz : IsZip s.heap z TI TO Value.none) (hTI : IsPair s.heap TI (Value.ref i1) (Value.ref i2)) (hTO : IsPair s.heap TO a b) (h1 : s.heap.IsListIter i1 l1 k1) (h2 : s.heap.IsTupleIter i2 l2 k2)
    (hx : s.heap.IsList l1 xs) (hy : s.heap.IsTuple l2 ys) (ex : xs[k1]? = some x) (ey : ys[k2]? = none)
    (h : ∀ (h' : Heap), (∀ (c : Addr) (o : Obj), c ≠ z → c ≠ TO → c ≠ i1 → c ≠ i2 → s.heap.get? c = some o → h'.get? c = some o) → Q none { heap := h', gens := s.gens, drawn := s.drawn, toks := s.toks, os := s.os }) :
    wpAny (model prog w) A (pyNext (Value.ref z)) Q E s := by
  have hty : s.TypeIs (Value.ref z) "zip" := ⟨_, hz, rfl⟩
  unfold pyNext
  refine wpAny_bind (wpAny_attempt (wpAny_callSpecial?_slot hty F.slot_zip_next (wpAny_call_entry F.slot_zip_next hty F.entry_zip_next (zipM_next_end hA ap hz hTI hTO h1 h2 hx hy ex ey fun h' e q1 q2 => ?_) (F.args_zip_next_1 _))))
  obtain ⟨o, e1, e2⟩ := q2
  refine wpAny_bind (wpAny_isInstance (T := "StopIteration") ⟨_, e1, e2⟩ isSubtype_stop ?_)
  exact wpAny_pure (h h' q1)
end
def ItzM (K : PySem.W.Frag) (a b : Addr) : It where
  go := fun i H => ∃ xs ys x y, SqL K H a xs ∧ SqT K H b ys ∧ xs[i]? = some x ∧ ys[i]? = some y
  yld := fun i H v H' => ∃ T x y, v = V.ref T ∧ H T = none ∧ H' = upd H T (HO.tup [x, y]) ∧ (∀ (xs : List V), SqL K H a xs → xs[i]? = some x) ∧ ∀ (ys : List V), SqT K H b ys → ys[i]? = some y
  stop := fun i H => ∃ xs ys x, SqL K H a xs ∧ SqT K H b ys ∧ xs[i]? = some x ∧ ys.length ≤ i
theorem turn_zipM {P : Program} {w : World} {K : PySem.W.Frag} {elts : List Expr} {kk : Nat} {tpos : Pos} {a b z TI TO i1 i2 : Addr} (ap : ZipApart z TI TO i1 i2 a b) :
    Turn P w K (Expr.Tuple elts kk tpos) (ItzM K a b) [z, TI, TO, i1, i2] z fun i h =>
      IsZip h z TI TO Value.none ∧ IsPair h TI (Value.ref i1) (Value.ref i2) ∧ (∃ x y, IsPair h TO x y) ∧ h.IsListIter i1 a i ∧ h.IsTupleIter i2 b i := by
  refine ⟨List.mem_cons_self, ?_, ?_, ?_, ?_, ?_⟩
  · rintro i h ⟨h1, h2, ⟨x, y, h3⟩, ⟨o4, e4, c4, d4⟩, ⟨o5, e5, c5, d5⟩⟩ b' hb
    simp only [List.mem_cons, List.not_mem_nil, or_false] at hb
    rcases hb with rfl | rfl | rfl | rfl | rfl
    · exact ⟨_, h1, fun v e => nomatch e⟩
    · exact ⟨_, h2, fun v e => nomatch e⟩
    · exact ⟨_, h3, fun v e => nomatch e⟩
    · exact ⟨_, e4, fun v e => by rw [d4] at e; cases e⟩
    · exact ⟨_, e5, fun v e => by rw [d5] at e; cases e⟩
  · rintro i h h' ⟨h1, h2, ⟨x, y, h3⟩, ⟨o4, e4, r4⟩, ⟨o5, e5, r5⟩⟩ hk
    exact ⟨hk z (by simp) _ h1, hk TI (by simp) _ h2, ⟨x, y, hk TO (by simp) _ h3⟩, ⟨o4, hk i1 (by simp) _ e4, r4⟩, ⟨o5, hk i2 (by simp) _ e5, r5⟩⟩
  · rintro X rfl rfl rfl hc i pins s σ H E I hfp ⟨h1, h2, ⟨x0, y0, h3⟩, h4, h5⟩ ⟨xs, ys, x, y, hl, ht, ex, ey⟩
    obtain ⟨its, v1, p1, _⟩ := I.list hl
    obtain ⟨its2, v2, p2, _⟩ := I.tuple ht
    obtain ⟨u, eu, ru⟩ := v1.get ex
    obtain ⟨u2, eu2, ru2⟩ := v2.get ey
    refine pyNext_zipM_item ap h1 h2 h3 h4 h5 p1.isList p2 (x := u) (y := u2) (by rw [List.getElem?_toArray]; exact eu) (by rw [List.getElem?_toArray]; exact eu2) fun h' q1 q2 q3 q4 q5 q6 q7 => ⟨_, rfl, ?_⟩
    refine wpAny_letOwnedTupleGo_zip q1 fun h'' r1 r2 => ?_
    have hT : H s.heap.objs.size = none := I.hok.fresh (Nat.le_refl _)
    have r2 : Heap.SameBut z h' h'' := r2
    have nz : s.heap.objs.size ≠ z := Nat.ne_of_gt (Heap.lt_size h1)
    have I2 := I.turnedNew (h' := h'') (t' := s.toks) (ch := [z, TI, TO, i1, i2]) (T := s.heap.objs.size) (ob := .tup [x, y]) (fun b o hb e => by
      simp only [List.mem_cons, List.not_mem_nil, or_false, not_or] at hb
      exact r2.extBut _ _ hb.1 (q7 b o hb.1 hb.2.2.1 hb.2.2.2.1 hb.2.2.2.2 e)) hfp (Nat.le_refl _) ⟨Nat.le_of_ble_eq_true rfl, [u, u2], .cons ru (.cons ru2 .nil), ⟨_, r2.extBut _ _ nz q5, rfl, _, rfl⟩⟩
    refine ⟨.ref s.heap.objs.size, _, I2, rfl, ⟨_, x, y, rfl, hT, rfl, fun xs' e => ?_, fun ys' e => ?_⟩, ?_, fun b hb => ?_⟩
    · rw [← I.list_inj hl e]; exact ex
    · rw [← I.tuple_inj ht e]; exact ey
    · obtain ⟨o3, e3, r3⟩ := q3
      obtain ⟨o4, e4, r4⟩ := q4
      have hTI : h'.get? TI = _ := q7 TI _ ap.TIz ap.TITO ap.TIi1 ap.TIi2 h2
      exact ⟨r1, r2.extBut _ _ ap.TIz hTI, ⟨u, u2, r2.extBut _ _ ap.TOz q2⟩, ⟨o3, r2.extBut _ _ ap.i1z e3, r3⟩, ⟨o4, r2.extBut _ _ ap.i2z e4, r4⟩⟩
    · have hb' := (hfp b hb).1
      have hbl : b < s.heap.objs.size := by
        simp only [List.mem_cons, List.not_mem_nil, or_false] at hb
        rcases hb with rfl | rfl | rfl | rfl | rfl
        · exact Heap.lt_size h1
        · exact Heap.lt_size h2
        · exact Heap.lt_size h3
        · obtain ⟨o, e, _⟩ := h4; exact Heap.lt_size e
        · obtain ⟨o, e, _⟩ := h5; exact Heap.lt_size e
      rw [upd_ne (Nat.ne_of_lt hbl)]
      exact hb'
  · rintro X rfl rfl rfl hc i pins s σ H E I hfp ⟨h1, h2, ⟨x0, y0, h3⟩, h4, h5⟩ ⟨xs, ys, x, hl, ht, ex, ey⟩
    obtain ⟨its, v1, p1, _⟩ := I.list hl
    obtain ⟨its2, v2, p2, _⟩ := I.tuple ht
    obtain ⟨u, eu, ru⟩ := v1.get ex
    refine pyNext_zipM_end (I.ok.hd hc) ap h1 h2 h3 h4 h5 p1.isList p2 (x := u) (by rw [List.getElem?_toArray]; exact eu) (by rw [List.getElem?_toArray, List.getElem?_eq_none_iff, ← v2.length]; exact ey) fun h' q7 => ⟨rfl, ?_⟩
    refine I.turnedL (t' := s.toks) (ch := [z, TI, TO, i1, i2]) (fun b o hb e => ?_) hfp
    simp only [List.mem_cons, List.not_mem_nil, or_false, not_or] at hb
    exact q7 b o hb.1 hb.2.2.1 hb.2.2.2.1 hb.2.2.2.2 e
  · rintro A i s Q E ⟨h1, _⟩ hq
    exact wpAny_pyIter_zip h1 hq
abbrev zmH1 (h : Heap) (l1 : Addr) : Heap := h.push { cls := Value.type "list_iterator", data := Data.fields #[Value.ref l1, Value.int 0 0] }
abbrev zmH2 (h : Heap) (l1 l2 : Addr) : Heap := (zmH1 h l1).push { cls := Value.type "tuple_iterator", data := Data.fields #[Value.ref l2, Value.int 0 0] }
abbrev zmH3 (h : Heap) (l1 l2 : Addr) : Heap := (zmH2 h l1 l2).push { cls := Value.type "tuple", data := Data.seq #[Value.ref h.objs.size, Value.ref (zmH1 h l1).objs.size] }
abbrev zmH4 (h : Heap) (l1 l2 : Addr) : Heap := (zmH3 h l1 l2).push { cls := Value.type "tuple", data := Data.seq #[Value.none, Value.none] }
abbrev zmH5 (h : Heap) (l1 l2 : Addr) : Heap := (zmH4 h l1 l2).push { cls := Value.type "zip", data := Data.fields #[Value.none, Value.bool false, Value.bool false, Value.ref (zmH2 h l1 l2).objs.size, Value.ref (zmH3 h l1 l2).objs.size] }
theorem meets_zipM_new (l1 l2 : Addr) (xs ys : Array Value) : Meets (Builtin.«zip.__new__» { pos := [Value.type "zip", Value.ref l1, Value.ref l2] }) fun x R s =>
    s.heap.IsList l1 xs ∧ s.heap.IsTuple l2 ys ∧ R (Except.ok (Flow.ret (Value.ref (zmH4 s.heap l1 l2).objs.size))) { heap := zmH5 s.heap l1 l2, gens := s.gens, drawn := s.drawn, toks := s.toks, os := s.os } := by
  refine Meets.of_wp fun prog w A R s ⟨h1, h2, hR⟩ => ?_
  unfold Builtin.«zip.__new__»
  refine wpAny_bind ?_
  unfold Builtin.SmallTypes.newClass
  refine wpAny_bind (wpAny_pure ?_)
  refine wpAny_bind (wpAny_of_eq sub_zip ?_)
  refine wpAny_pure ?_
  refine wpAny_ite_false rfl ?_
  refine wpAny_bind ?_
  unfold Builtin.SmallTypes.iterAll
  show wpAny _ _ (do let its ← forIn [Value.ref l1, Value.ref l2] #[] _; pure its.toList) _ _ _
  refine wpAny_bind ?_
  rw [List.forIn_cons]
  refine wpAny_bind (wpAny_bind (wpAny_holding (wpAny_pyIter_list h1 ?_)))
  refine wpAny_pure ?_
  show wpAny _ _ (forIn [Value.ref l2] _ _) _ _ _
  rw [List.forIn_cons]
  refine wpAny_bind (wpAny_bind (wpAny_holding (wpAny_pyIter_tuple (items := ys) ?_ ?_)))
  · obtain ⟨o, e, r⟩ := h2
    exact ⟨o, Heap.get?_push_of_some _ e, r⟩
  refine wpAny_pure ?_
  show wpAny _ _ (forIn [] _ _) _ _ _
  refine wpAny_pure (wpAny_pure ?_)
  refine wpAny_bind (wpAny_newTuple ?_ (Nat.le_of_ble_eq_true rfl))
  refine wpAny_bind (wpAny_newTuple ?_ (Nat.le_of_ble_eq_true rfl))
  unfold Builtin.SmallTypes.newRecord
  refine wpAny_bind (wpAny_newObj_type ?_ (hd := (Nat.le_of_ble_eq_true rfl : 5 ≤ sizeLine + 2)))
  exact wpAny_pure ⟨_, rfl, hR⟩
theorem call_zipM {prog : Program} {w : World} {A : Around} {E : Value → Shared → Prop} {s : Shared} {l1 l2 : Addr} {xs ys : Array Value} {Q : Value → Shared → Prop} (h1 : s.heap.IsList l1 xs) (h2 : s.heap.IsTuple l2 ys)
    (h : ∀ (h' : Heap), IsZip h' (s.heap.objs.size + 4) (s.heap.objs.size + 2) (s.heap.objs.size + 3) Value.none → IsPair h' (s.heap.objs.size + 2) (Value.ref s.heap.objs.size) (Value.ref (s.heap.objs.size + 1)) → IsPair h' (s.heap.objs.size + 3) Value.none Value.none →
      h'.IsListIter s.heap.objs.size l1 0 → h'.IsTupleIter (s.heap.objs.size + 1) l2 0 → h'.objs.size = s.heap.objs.size + 5 → (∀ (c : Addr) (o : Obj), s.heap.get? c = some o → h'.get? c = some o) →
      Q (Value.ref (s.heap.objs.size + 4)) { heap := h', gens := s.gens, drawn := s.drawn, toks := s.toks, os := s.os }) :
    wpAny (model prog w) A (call (Value.type "zip") [Value.ref l1, Value.ref l2]) Q E s := by
  refine callType_new F.called_zip (by decide) (F.typeCall_zip_2 _ _) (F.newCall_zip_2 _ _) (fun _ => F.args_object_init_3 _ _ _) F.entry_zip_new (meets_zipM_new l1 l2 xs ys) ⟨h1, h2, ?_⟩
  have z1 : (zmH1 s.heap l1).objs.size = s.heap.objs.size + 1 := Heap.size_push _ _
  have z2 : (zmH2 s.heap l1 l2).objs.size = s.heap.objs.size + 2 := by rw [Heap.size_push, z1]
  have z3 : (zmH3 s.heap l1 l2).objs.size = s.heap.objs.size + 3 := by rw [Heap.size_push, z2]
  have z4 : (zmH4 s.heap l1 l2).objs.size = s.heap.objs.size + 4 := by rw [Heap.size_push, z3]
  have z5 : (zmH5 s.heap l1 l2).objs.size = s.heap.objs.size + 5 := by rw [Heap.size_push, z4]
  have g1 : (zmH1 s.heap l1).get? s.heap.objs.size = some _ := Heap.get?_push_size _ rfl
  have g2 : (zmH2 s.heap l1 l2).get? (zmH1 s.heap l1).objs.size = some _ := Heap.get?_push_size _ rfl
  have g3 : (zmH3 s.heap l1 l2).get? (zmH2 s.heap l1 l2).objs.size = some _ := Heap.get?_push_size _ rfl
  have g4 : (zmH4 s.heap l1 l2).get? (zmH3 s.heap l1 l2).objs.size = some _ := Heap.get?_push_size _ rfl
  have g5 : (zmH5 s.heap l1 l2).get? (zmH4 s.heap l1 l2).objs.size = some _ := Heap.get?_push_size _ rfl
  rw [z1] at g2
  rw [z2] at g3
  rw [z3] at g4
  rw [z4] at g5
  have up2 : ∀ (c : Addr) (o : Obj), (zmH1 s.heap l1).get? c = some o → (zmH5 s.heap l1 l2).get? c = some o := fun c o e => Heap.get?_push_of_some _ (Heap.get?_push_of_some _ (Heap.get?_push_of_some _ (Heap.get?_push_of_some _ e)))
  rw [z4]
  rw [z1] at g3
  rw [z2, z3] at g5
  show _ ∧ _
  refine ⟨⟨_, g5, rfl⟩, h _ g5 (Heap.get?_push_of_some _ (Heap.get?_push_of_some _ g3)) (Heap.get?_push_of_some _ g4) ⟨_, up2 _ _ g1, rfl, rfl⟩ ⟨_, Heap.get?_push_of_some _ (Heap.get?_push_of_some _ (Heap.get?_push_of_some _ g2)), rfl, rfl⟩ z5 fun c o e => up2 _ _ (Heap.get?_push_of_some _ e)⟩
def iZipM (K : PySem.W.Frag) (ta : TA) : TI := fun σ H R => ta σ H fun vs H1 => ∃ a b xs ys, vs = [.ref a, .ref b] ∧ SqL K H1 a xs ∧ SqT K H1 b ys ∧ R (ItzM K a b) H1
theorem pi_zipM {X : Cx} {e e2 : Expr} {ta : TA} {p pos tpos : Pos} {elts : List Expr} {kk : Nat} (hg : Gl X "zip") (hm : X.mg "zip" = none) (ha : PA X [e, e2] ta)
    (he : starEach [e, e2] X.env = (false, eval e X.env) :: starEach [e2] X.env := by rfl) (hpl : ((backTo pos (starEach [e2] X.env)).any fun x => x.fst) = false := by rfl) :
    PI X (Expr.Tuple elts kk tpos) ((Expr.Name "zip" p).Call [e, e2] [] pos) (iZipM X.K ta) := by
  refine ⟨fun pins s σ H R I h => ?_⟩
  refine PyProof.Rows.Call_ (ld_blt I hg hm PyProof.Rows.boot_zip (PyProof.Rows.callWith_type1 (thn (ha.run pos pins s σ H _ I h) fun us s1 hq => ?_) he hpl))
  obtain ⟨vs, H1, I1, r1, a, b, xs, ys, rfl, hl, ht, hR⟩ := hq
  cases r1 with
  | cons ra r1 =>
    cases r1 with
    | cons rb r1 =>
      cases r1
      cases ra
      cases rb
      obtain ⟨its, v1, p1, _⟩ := I1.list hl
      obtain ⟨its2, v2, p2, _⟩ := I1.tuple ht
      have la := p1.lt
      have lb : b < s1.heap.objs.size := by
        obtain ⟨o, e, _⟩ := p2
        exact Heap.lt_size e
      refine call_zipM p1.isList p2 fun h' q1 q2 q3 q4 q5 q6 q7 => ?_
      have I2 := I1.kept (t' := s1.toks) q7
      refine wpAny_pyIter_zip q1 ⟨_, _, _, _, H1, rfl, I2, turn_zipM (PySem.W.ktu_apart _ _ _ la lb), ⟨q1, q2, ⟨_, _, q3⟩, q4, q5⟩, fun b' hb => ?_, hR⟩
      have hbl : s1.heap.objs.size ≤ b' := by
        simp only [List.mem_cons, List.not_mem_nil, or_false] at hb
        rcases hb with rfl | rfl | rfl | rfl | rfl <;> omega
      exact I1.fpOk hbl (I1.hok.fresh hbl)
theorem for_zipM {K : PySem.W.Frag} {a b : Addr} {xs ys : List V} {g : TG} {tb : TS} {D : Ends} {σ : L2.St} {H : Hp} (hl : ys.length < xs.length) (Pv : Nat → L2.St → Hp → Prop) (h0 : Pv 0 σ H) (hq : ∀ i σ H, Pv i σ H → SqL K H a xs ∧ SqT K H b ys)
    (hs : ∀ (i : Nat) (x y : V) (T : Addr) (σ : L2.St) (H : Hp), xs[i]? = some x → ys[i]? = some y → Pv i σ H → H T = none → g (V.ref T) σ (upd H T (HO.tup [x, y])) fun σ2 H2 => tb { nx := Pv (i + 1), rt := D.rt, bk := D.nx, ct := Pv (i + 1) } σ2 H2)
    (hd : ∀ (σ : L2.St) (H : Hp), Pv ys.length σ H → D.nx σ H) :
    ∃ W : Nat → Nat → L2.St → Hp → Prop, (∃ m, W 0 m σ H) ∧ ∀ (i m : Nat) (σ : L2.St) (H : Hp), W i m σ H →
      (ItzM K a b).stop i H ∧ D.nx σ H ∨ (ItzM K a b).go i H ∧ ∃ N : L2.St → Hp → Prop, (∀ (σ' : L2.St) (H' : Hp), N σ' H' → ∃ m', m' < m ∧ W (i + 1) m' σ' H') ∧
        ∀ (v : V) (H' : Hp), (ItzM K a b).yld i H v H' → g v σ H' fun σ2 H2 => tb { nx := N, rt := D.rt, bk := D.nx, ct := N } σ2 H2 := by
  refine ⟨fun i m σ H => i ≤ ys.length ∧ m = ys.length - i ∧ Pv i σ H, ⟨_, Nat.zero_le _, rfl, h0⟩, fun i m σ H ⟨hi, hm, hp⟩ => ?_⟩
  obtain ⟨q1, q2⟩ := hq i σ H hp
  by_cases he : i = ys.length
  · subst he
    exact .inl ⟨⟨xs, ys, _, q1, q2, List.getElem?_eq_getElem hl, Nat.le_refl _⟩, hd σ H hp⟩
  · have hi2 : i < ys.length := by omega
    have hi3 : i < xs.length := by omega
    refine .inr ⟨⟨xs, ys, _, _, q1, q2, List.getElem?_eq_getElem hi3, List.getElem?_eq_getElem hi2⟩, Pv (i + 1), fun σ' H' h => ⟨ys.length - (i + 1), by omega, by omega, rfl, h⟩, ?_⟩
    rintro v H' ⟨T, x, y, rfl, hT, rfl, e1, e2⟩
    exact hs i x y T σ H (e1 xs q1) (e2 ys q2) hp hT
end RM

set_option maxHeartbeats 2000000
/-! My.Lc: xs + ys of lists, whichever stands in the module or is handed in. -/
namespace L2
open PySem PySem.Spec PyProof.Rows
def rCatL (K : PySem.W.Frag) : R2 := fun x y H Q => ∃ a b xs ys, x = .ref a ∧ y = .ref b ∧ SqL K H a xs ∧ SqL K H b ys ∧ xs.length + ys.length ≤ sizeLine ∧ ∀ (p : Addr), H p = none → Q (.ref p) (upd H p (.lst (xs ++ ys)))
theorem op_catL {X : Cx} : OpR X (binaryOp .Add) (rCatL X.K) := by
  intro pins s σ H x y v u Q I rx ry ⟨a, b, xs, ys, ex, ey, ha, hb, hl, k⟩
  subst ex
  subst ey
  cases rx
  cases ry
  obtain ⟨its, v1, ⟨⟨c1, dd, da, sl⟩, n1, e1, c1', hd1, d1⟩, _⟩ := I.list ha
  obtain ⟨its2, v2, ⟨⟨c2, dd2, da2, sl2⟩, n2, e2, c2', hd2, d2⟩, _⟩ := I.list hb
  have c1' : c1 = _ := c1'
  have c2' : c2 = _ := c2'
  have d1 : da = _ := d1
  have d2 : da2 = _ := d2
  subst c1' c2' d1 d2
  have hsz : its.toArray.size + its2.toArray.size ≤ sizeLine := by
    rw [List.size_toArray, List.size_toArray, ← v1.length, ← v2.length]
    exact hl
  refine concat_meets ⟨_, e1, rfl⟩ ⟨_, e2, rfl⟩ noFill_list_add seq_list_add F.slot_list_add F.entry_list_add (F.args_list_add_2 _ _) (list_addW a b _ _ _ _ _ _ _ _ hsz) ⟨e1, e2, ?_⟩
  rw [List.append_toArray]
  exact ⟨.ref s.heap.objs.size, _, I.lnew (v1.append v2) (by rw [List.length_append]; exact hl), rfl, k _ I.fresh⟩
theorem op_catLK {X : Cx} {K : PySem.W.Frag} (hK : X.K = K := by rfl) : OpR X (binaryOp .Add) (rCatL K) := by
  subst hK
  exact op_catL
end L2

set_option maxHeartbeats 2000000
/-! My.Kn: k not in w, w a written dict of a module. -/
namespace L2
open PySem PySem.Spec PyProof.Rows
def tKNotIn (K : PySem.W.Frag) (w : World) (ty td : TE) : TE := fun σ H Q => ty σ H fun y H1 => td σ H1 fun x H2 => ∃ a es n, x = .ref a ∧ K.lookup a = some ⟨.type "dict", none, .dict es n, #[]⟩ ∧ PySem.W.KeysLit w.params es.toList ∧ (a == sysModules) = false ∧
  ∃ z r, y = .str z ∧ PySem.W.nsIn K a z = some r ∧ Q (.bl (!r.isSome)) H2
section
variable {X : Cx} {o i : Expr} {pos : Pos} {td ty : TE}
theorem pc_dnotinK (hi : PE X i ty) (ho : PE X o td) : PC X CmpOp.NotIn i o (tKNotIn X.K X.w ty td) := by
  refine ⟨fun pins s σ H Q I h => thn (hi.run pins s σ H _ I h) fun iv s1 hq1 => ?_⟩
  obtain ⟨y, H1, I1, ry, h1⟩ := hq1
  refine thn (ho.run pins s1 σ H1 _ I1 h1) fun ov s2 hq2 => ?_
  obtain ⟨x, H2, I2, rx, a, es, n, rfl, hl, hk, low, z, r, rfl, e, k⟩ := hq2
  cases rx
  obtain ⟨t, rfl⟩ := (show ∃ t, iv = Value.str z t from ry)
  have hm := PySem.W.mapOf_K (prog := X.prog) (w := X.w) I2.kIn hl hk
  refine wpAny_notIn_of (knd := strKind X.prog X.w) (strKind_is X.prog X.w z t) low hm ?_
  rw [PySem.W.find_K hl e]
  exact ⟨.bl (!r.isSome), H2, I2.tok _, rfl, k⟩
end
end L2

set_option maxHeartbeats 2000000
/-! My.Dx: dicts whose keys are tuples (nested; of ints, texts, None), told or written in a module. -/
namespace L2
open PySem PySem.Spec PyProof.Rows
abbrev NK := PySem.NestedKey
def ofK : Key → NK
  | .inl i => .num i
  | .inr x => .text x
mutual
inductive KeyAt (K : PySem.W.Frag) (H : Hp) : NK → V → Prop
  | non : KeyAt K H .none .non
  | int (i : Int) : KeyAt K H (.num i) (.int i)
  | str (x : Str) : KeyAt K H (.text x) (.str x)
  | tup {a : Addr} {ks : List NK} {vs : List V} (h : Rd H a (.tup vs)) (h2 : KeyAll K H ks vs) : KeyAt K H (.tup ks) (.ref a)
  | ktup {a : Addr} {ks : List Key} (h : KTup K a ks) : KeyAt K H (.tup (ks.map ofK)) (.ref a)
inductive KeyAll (K : PySem.W.Frag) (H : Hp) : List NK → List V → Prop
  | nil : KeyAll K H [] []
  | cons {k : NK} {v : V} {ks : List NK} {vs : List V} (h : KeyAt K H k v) (h2 : KeyAll K H ks vs) : KeyAll K H (k :: ks) (v :: vs)
end
mutual
theorem KeyAt.mono {K : PySem.W.Frag} {H H' : Hp} (s : ∀ b vs, Rd H b (.tup vs) → Rd H' b (.tup vs)) : ∀ {k : NK} {v : V}, KeyAt K H k v → KeyAt K H' k v
  | .none, _, h => by cases h; exact .non
  | .num _, _, h => by cases h; exact .int _
  | .text _, _, h => by cases h; exact .str _
  | .tup _, _, h => by
    cases h with
    | tup h1 h2 => exact .tup (s _ _ h1) (KeyAll.mono s h2)
    | ktup h1 => exact .ktup h1
theorem KeyAll.mono {K : PySem.W.Frag} {H H' : Hp} (s : ∀ b vs, Rd H b (.tup vs) → Rd H' b (.tup vs)) : ∀ {ks : List NK} {vs : List V}, KeyAll K H ks vs → KeyAll K H' ks vs
  | [], _, h => by cases h; exact .nil
  | _ :: _, _, h => by
    cases h with
    | cons h1 h2 => exact .cons (KeyAt.mono s h1) (KeyAll.mono s h2)
end
theorem items_nested {P : Program} {w : World} {h : Heap} : ∀ {ks : List Key} {us : List Value}, ItemsAre (mixKind P w) ks us → NestedAll h (ks.map ofK) us
  | [], _, r => by cases r; exact .nil
  | k :: ks, _, r => by
    cases r with
    | cons h1 h2 =>
      rcases keyIs_shape h1 with ⟨i, t, e1, e2⟩ | ⟨x, t, e1, e2⟩
      · subst e1 e2
        exact .cons (.int _ _) (items_nested h2)
      · subst e1 e2
        exact .cons (.text _ _) (items_nested h2)
section
variable {P : Program} {w : World} {K : PySem.W.Frag} {H : Hp} {h : Heap}
mutual
theorem key_nested (ok : HOk P w H h) (kin : K.In h) : ∀ {k : NK} {v : V} {u : Value}, KeyAt K H k v → RelV v u → NestedIs h k u
  | .none, _, _, x, r => by
    cases x
    cases r
    exact .none
  | .num _, _, _, x, r => by
    cases x
    obtain ⟨t, rfl⟩ := r
    exact .int _ _
  | .text _, _, _, x, r => by
    cases x
    obtain ⟨t, rfl⟩ := r
    exact .text _ _
  | .tup _, _, _, x, r => by
    cases x with
    | tup h1 h2 =>
      cases r
      obtain ⟨_, its, rv, o, e1, e2, n, e3⟩ := (show ObjOk P w H h _ (.tup _) from h1.ok ok)
      exact .tup e1 e2 e3 (by rw [List.toList_toArray]; exact keys_nested ok kin h2 rv)
    | ktup h1 =>
      cases r
      obtain ⟨o, its, n, hk, hc, hd, hi⟩ := h1
      exact .tup (kin _ _ hk) hc hd (items_nested (hi P w))
theorem keys_nested (ok : HOk P w H h) (kin : K.In h) : ∀ {ks : List NK} {vs : List V} {us : List Value}, KeyAll K H ks vs → Vals vs us → NestedAll h ks us
  | [], _, _, x, r => by
    cases x
    cases r
    exact .nil
  | _ :: _, _, _, x, r => by
    cases x with
    | cons h1 h2 =>
      cases r with
      | cons r1 r2 => exact .cons (key_nested ok kin h1 r1) (keys_nested ok kin h2 r2)
end
end
/-! ### the dict -/
abbrev EX := List (NK × Addr × V)
def valX (es : EX) (k : NK) : Option V := (es.find? fun e => decide (e.1 = k)).map (·.2.2)
def putX (es : EX) (k : NK) (b : Addr) (v : V) : EX := if (valX es k).isSome then es.map (fun e => if e.1 = k then (e.1, e.2.1, v) else e) else es ++ [(k, b, v)]
abbrev RX : EX → List (NK × Addr × Value) → Prop := Paired fun p q => p.1 = q.1 ∧ p.2.1 = q.2.1 ∧ RelV p.2.2 q.2.2
def dxP (P : Program) (w : World) (a : Addr) (es : EX) : Heap → Prop := fun h => es.length ≤ sizeLine ∧ (a == sysModules) = false ∧ ∃ xs : List (NK × Addr × Value), RX es xs ∧
  ∃ o arr ep, h.get? a = some o ∧ o.ExactDict ∧ o.data = .dict arr ep ∧ arr.toList = xs.map (entryOfKey (nestedKind P w)) ∧ (xs.map (·.1)).Nodup
abbrev dxO (P : Program) (w : World) (a : Addr) (es : EX) : HO := .ext (dxP P w a es)
theorem valX_nil {k : NK} : valX [] k = none := rfl
theorem valX_pos {p : NK × Addr × V} {r : EX} {k : NK} (e : p.1 = k) : valX (p :: r) k = some p.2.2 := by simp [valX, List.find?_cons, e]
theorem valX_neg {p : NK × Addr × V} {r : EX} {k : NK} (e : ¬ p.1 = k) : valX (p :: r) k = valX r k := by simp [valX, List.find?_cons, e]
theorem valX_map (k j : NK) (y : V) : ∀ es : EX, valX (es.map fun e => if e.1 = k then (e.1, e.2.1, y) else e) j = (valX es j).map fun x => if j = k then y else x
  | [] => rfl
  | p :: r => by
    have ih := valX_map k j y r
    rw [List.map_cons]
    by_cases h : p.1 = k
    · rw [if_pos h]
      by_cases e : p.1 = j
      · rw [valX_pos (p := (p.1, p.2.1, y)) e, valX_pos e, Option.map_some, if_pos (e.symm.trans h)]
      · rw [valX_neg (p := (p.1, p.2.1, y)) e, valX_neg e, ih]
    · rw [if_neg h]
      by_cases e : p.1 = j
      · rw [valX_pos (p := p) e, valX_pos e, Option.map_some, if_neg (fun z => h (e.trans z))]
      · rw [valX_neg (p := p) e, valX_neg e, ih]
theorem valX_snoc (k j : NK) (b : Addr) (y : V) : ∀ es : EX, valX es k = none → valX (es ++ [(k, b, y)]) j = if j = k then some y else valX es j
  | [], _ => by
    by_cases e : k = j
    · rw [if_pos e.symm]; exact valX_pos (p := (k, b, y)) e
    · rw [if_neg (fun z => e z.symm)]; exact valX_neg (p := (k, b, y)) e
  | p :: r, hn => by
    rw [List.cons_append]
    have hk : ¬ p.1 = k := fun z => by rw [valX_pos z] at hn; cases hn
    rw [valX_neg hk] at hn
    have ih := valX_snoc k j b y r hn
    by_cases e : p.1 = j
    · rw [valX_pos e, valX_pos e, if_neg (fun z => hk (e.trans z))]
    · rw [valX_neg e, valX_neg e, ih]
theorem valX_put (es : EX) (k j : NK) (b : Addr) (y : V) : valX (putX es k b y) j = if j = k then some y else valX es j := by
  unfold putX
  by_cases a : (valX es k).isSome = true
  · rw [if_pos a, valX_map]
    by_cases e : j = k
    · obtain ⟨x, hx⟩ := Option.isSome_iff_exists.mp a
      rw [if_pos e, e, hx, Option.map_some, if_pos rfl]
    · rw [if_neg e]
      cases valX es j with
      | none => rfl
      | some x => rw [Option.map_some, if_neg e]
  · rw [if_neg a]
    refine valX_snoc k j b y es ?_
    cases q : valX es k with
    | none => rfl
    | some x => rw [q] at a; exact (a rfl).elim
theorem length_putX (es : EX) (k : NK) (b : Addr) (v : V) : (putX es k b v).length ≤ es.length + 1 := by
  unfold putX
  split
  · rw [List.length_map]; omega
  · rw [List.length_append, List.length_cons, List.length_nil]; omega
theorem mem_putX {es : EX} {k : NK} {b : Addr} {v : V} {e : NK × Addr × V} (h : e ∈ putX es k b v) : e = (k, b, v) ∨ (∃ e' ∈ es, e'.1 = e.1 ∧ e'.2.1 = e.2.1) := by
  unfold putX at h
  split at h
  · obtain ⟨e', h1, h2⟩ := List.mem_map.mp h
    refine .inr ⟨e', h1, ?_⟩
    rw [← h2]
    split <;> exact ⟨rfl, rfl⟩
  · rcases List.mem_append.mp h with h | h
    · exact .inr ⟨e, h, rfl, rfl⟩
    · exact .inl (List.mem_singleton.mp h)
theorem RX.val {es : EX} {xs : List (NK × Addr × Value)} (r : RX es xs) (k : NK) : RelO (valX es k) ((atKey xs k).map (·.2)) := by
  induction r with
  | nil => exact True.intro
  | @cons p q ps qs h t ih =>
    obtain ⟨h1, _, h2⟩ := h
    by_cases e : p.1 = k
    · have e' : q.1 = k := h1.symm.trans e
      have b : atKey (q :: qs) k = some q.2 := by simp [atKey, List.find?_cons, e']
      rw [valX_pos e, b]; exact h2
    · have e' : ¬ q.1 = k := fun z => e (h1.trans z)
      have b : atKey (q :: qs) k = atKey qs k := by simp [atKey, List.find?_cons, e']
      rw [valX_neg e, b]; exact ih
theorem RX.repl {es : EX} {xs : List (NK × Addr × Value)} (r : RX es xs) (k : NK) {y : V} {u : Value} (ry : RelV y u) : RX (es.map fun e => if e.1 = k then (e.1, e.2.1, y) else e) (xs.map (putAt k u)) := by
  induction r with
  | nil => exact .nil
  | @cons p q ps qs h t ih =>
    rw [List.map_cons, List.map_cons]
    refine .cons ?_ ih
    obtain ⟨h1, h2, h3⟩ := h
    unfold putAt
    by_cases e : p.1 = k
    · rw [if_pos e, if_pos (h1.symm.trans e)]; exact ⟨h1, h2, ry⟩
    · rw [if_neg e, if_neg (fun z => e (h1.trans z))]; exact ⟨h1, h2, h3⟩
theorem RX.put {es : EX} {xs : List (NK × Addr × Value)} (r : RX es xs) (k : NK) (b : Addr) {y : V} {u : Value} (ry : RelV y u) : RX (putX es k b y) (storedH xs k b u) := by
  have e : (valX es k).isSome = (atKey xs k).isSome := by rw [(r.val k).isSome_eq, Option.isSome_map]
  unfold putX storedH
  rw [e]
  by_cases q : (atKey xs k).isSome = true
  · rw [if_pos q, if_pos q]; exact r.repl k ry
  · rw [if_neg q, if_neg q]; exact Paired.snoc r ⟨rfl, rfl, ry⟩
/-- the keys are there -/
def KeysOk (K : PySem.W.Frag) (H : Hp) (es : EX) : Prop := ∀ e ∈ es, KeyAt K H e.1 (.ref e.2.1) ∧ e.1.depth ≤ 8
theorem KeysOk.mono {K : PySem.W.Frag} {H H' : Hp} {es : EX} (s : ∀ b vs, Rd H b (.tup vs) → Rd H' b (.tup vs)) (h : KeysOk K H es) : KeysOk K H' es := fun e he => ⟨(h e he).1.mono s, (h e he).2⟩
theorem KeysOk.put {K : PySem.W.Frag} {H : Hp} {es : EX} {k : NK} {b : Addr} {v : V} (h : KeysOk K H es) (hk : KeyAt K H k (.ref b)) (hd : k.depth ≤ 8) : KeysOk K H (putX es k b v) := fun e he => by
  rcases mem_putX he with rfl | ⟨e', h1, h2, h3⟩
  · exact ⟨hk, hd⟩
  · rw [← h2, ← h3]
    exact h e' h1
section
variable {X : Cx} {pins : List (Addr × Obj)} {σ : St} {H : Hp} {s : Shared} {a : Addr}
theorem dx_rd {es : EX} (I : Inv X pins σ H s) (e : H a = some (dxO X.prog X.w a es)) (ks : KeysOk X.K H es) : es.length ≤ sizeLine ∧ (a == sysModules) = false ∧ ∃ xs, RX es xs ∧ s.heap.DictOfH (nestedKind X.prog X.w) a xs := by
  obtain ⟨⟨z, y, xs, r, o, arr, ep, h1, h2, h3, h4, h5⟩, _, _⟩ := (show ObjOk X.prog X.w H s.heap a (dxO X.prog X.w a es) from I.hok a _ e)
  refine ⟨z, y, xs, r, o, arr, ep, h1, h2, h3, h4, fun x hx => ?_, h5⟩
  have all : ∀ {l : EX} {m : List (NK × Addr × Value)}, RX l m → (∀ e ∈ l, KeyAt X.K H e.1 (.ref e.2.1) ∧ e.1.depth ≤ 8) → ∀ x ∈ m, (nestedKind X.prog X.w).is s.heap x.1 x.2.1 := by
    intro l m q
    induction q with
    | nil => intro _ x hx; exact nomatch hx
    | @cons p q ps qs hq t ih =>
      intro hl x hx
      rcases List.mem_cons.mp hx with e | hx
      · subst e
        obtain ⟨k1, k2⟩ := hl p List.mem_cons_self
        rw [← hq.1, ← hq.2.1]
        exact ⟨key_nested I.hok I.kIn k1 rfl, k2⟩
      · exact ih (fun e he => hl e (List.mem_cons_of_mem _ he)) x hx
  exact all r ks x hx
theorem dx_new {P : Program} {w : World} {H' : Hp} {h' : Heap} {es : EX} (z : es.length ≤ sizeLine) (hd : (a == sysModules) = false) {xs : List (NK × Addr × Value)} (rel : RX es xs) (dd : h'.DictOfH (nestedKind P w) a xs) : ObjOk P w H' h' a (dxO P w a es) := by
  obtain ⟨o, arr, ep, h1, h2, h3, h4, h5, h6⟩ := dd
  refine ⟨⟨z, hd, xs, rel, o, arr, ep, h1, h2, h3, h4, h6⟩, ⟨o, h1⟩, fun g1 g2 hg k => ?_⟩
  obtain ⟨z, y, xs, r, o, arr, ep, e1, e2⟩ := hg
  exact ⟨z, y, xs, r, o, arr, ep, k _ e1, e2⟩
/-- what the dict at a holds at the key y -/
def XGet (P : Program) (w : World) (K : PySem.W.Frag) (H : Hp) (a : Addr) (y : V) (r : Option V) : Prop := ∃ es k b, H a = some (dxO P w a es) ∧ KeysOk K H es ∧ y = .ref b ∧ KeyAt K H k y ∧ k.depth ≤ 8 ∧ r = valX es k
def XPut (P : Program) (w : World) (K : PySem.W.Frag) (H : Hp) (a : Addr) (y v : V) (H' : Hp) : Prop := ∃ es k b, H a = some (dxO P w a es) ∧ KeysOk K H es ∧ y = .ref b ∧ KeyAt K H k y ∧ k.depth ≤ 8 ∧ es.length < sizeLine ∧ H' = upd H a (dxO P w a (putX es k b v))
variable {y v : V} {u r : Value} {o : Option V} {A : Around} {E : Value → Shared → Prop}
theorem room9 (hu : A.units + 9 < cLine) : (nestedKind X.prog X.w).room A.in1 := by
  show A.in1.units + 8 < cLine
  have : A.in1.units = A.units + 1 := rfl
  omega
theorem xd_typ (I : Inv X pins σ H s) (g : XGet X.prog X.w X.K H a y o) : s.TypeIs (.ref a) "dict" ∧ (∀ b, Value.ref a = .ref b → ∃ ob, s.heap.get? b = some ob ∧ ob.dict = none) := by
  obtain ⟨es, k, b, e, ks, _⟩ := g
  obtain ⟨_, _, xs, _, dd⟩ := dx_rd I e ks
  refine ⟨dd.typeIs, fun c q => ?_⟩
  cases q
  obtain ⟨ob, _, _, h1, h2, _⟩ := dd
  exact ⟨ob, h1, h2.2.1⟩
/-- d[y], there -/
theorem xd_getItem {Q : Value → Shared → Prop} (hu : A.units + 9 < cLine) (I : Inv X pins σ H s) (g : XGet X.prog X.w X.K H a y (some v)) (ry : RelV y u) (h : ∀ w' s', Inv X pins σ H s' → RelV v w' → Q w' s') : wpAny (model X.prog X.w) A (getItem (.ref a) u) Q E s := by
  obtain ⟨es, k, b, e, ks, rfl, hk, hd8, l⟩ := g
  cases (show u = Value.ref b from ry)
  obtain ⟨z, hd, xs, rel, dd⟩ := dx_rd I e ks
  obtain ⟨w', hw, rw'⟩ := RelO.some_of (v := v) (o := (atKey xs k).map (·.2)) (by rw [l]; exact rel.val k)
  obtain ⟨p, hp, hp2⟩ := Option.map_eq_some_iff.mp hw
  refine wpAny_getItem_heap (room9 hu) ⟨key_nested I.hok I.kIn hk rfl, hd8⟩ dd hp ?_
  rw [hp2]
  exact h w' _ (I.tok _) rw'
theorem xd_notIn {Q : Value → Shared → Prop} (hu : A.units + 9 < cLine) (I : Inv X pins σ H s) (g : XGet X.prog X.w X.K H a y o) (ry : RelV y u) (h : ∀ s', Inv X pins σ H s' → Q (.bool (!o.isSome)) s') : wpAny (model X.prog X.w) A (compareOp .NotIn u (.ref a)) Q E s := by
  obtain ⟨es, k, b, e, ks, rfl, hk, hd8, l⟩ := g
  cases (show u = Value.ref b from ry)
  obtain ⟨z, hd, xs, rel, dd⟩ := dx_rd I e ks
  refine wpAny_notIn_heap (room9 hu) ⟨key_nested I.hok I.kIn hk rfl, hd8⟩ hd dd ?_
  have q := (rel.val k).isSome_eq
  rw [Option.isSome_map] at q
  rw [← q, ← l]
  exact h _ (I.tok _)
theorem xd_get1 {Q : Value → Shared → Prop} (hu : A.units + 9 < cLine) (I : Inv X pins σ H s) (g : XGet X.prog X.w X.K H a y o) (ry : RelV y u) (h : ∀ w' s', Inv X pins σ H s' → RelV (o.getD .non) w' → Q w' s') : wpAny (model X.prog X.w) A (call (.builtin "dict.get") [.ref a, u]) Q E s := by
  obtain ⟨es, k, b, e, ks, rfl, hk, hd8, l⟩ := g
  cases (show u = Value.ref b from ry)
  obtain ⟨z, hd, xs, rel, dd⟩ := dx_rd I e ks
  refine call_meetsIn PySem.F.slot_dict_get dd.typeIs PySem.F.entry_dict_get (PySem.F.args_dict_get_2 _ _) (meetsH_dict_get (nestedKind X.prog X.w) a b hd) ⟨room9 hu, k, xs, ⟨key_nested I.hok I.kIn hk rfl, hd8⟩, dd, h _ _ (I.tok _) ?_⟩
  rw [l]
  exact (rel.val k).getD rfl
theorem xd_setItem {H' : Hp} {Q : Unit → Shared → Prop} (hu : A.units + 9 < cLine) (I : Inv X pins σ H s) (g : XPut X.prog X.w X.K H a y v H') (ry : RelV y u) (rv : RelV v r) (h : ∀ s', Inv X pins σ H' s' → Q () s') : wpAny (model X.prog X.w) A (setItem (.ref a) u r) Q E s := by
  obtain ⟨es, k, b, e, ks, rfl, hk, hd8, hl, rfl⟩ := g
  cases (show u = Value.ref b from ry)
  obtain ⟨z, hd, xs, rel, dd⟩ := dx_rd I e ks
  have hz : xs.length ≤ sizeLine := by rw [← Paired.length rel]; exact z
  have hl : (putX es k b v).length ≤ sizeLine := by have := length_putX es k b v; omega
  refine wpAny_setItem_heap (hsz := hz) (room9 hu) ⟨key_nested I.hok I.kIn hk rfl, hd8⟩ dd fun h' dd' hs => h _ ?_
  have he : ∃ q, h'.get? a = some q := let ⟨q, _, _, hq, _⟩ := dd'; ⟨q, hq⟩
  exact d_write I (by rw [e]; exact True.intro) hs he (dx_new hl hd (rel.put k b rv) dd')
end
/-! ### readings and rules -/
def tXNew (P : Program) (w : World) : TE := fun _ H Q => ∀ p, H p = none → Q (.ref p) (upd H p (dxO P w p []))
def tXGet (P : Program) (w : World) (K : PySem.W.Frag) (td ty : TE) : TE := fun σ H Q => td σ H fun x H1 => ty σ H1 fun y H2 => ∃ a v, x = .ref a ∧ XGet P w K H2 a y (some v) ∧ Q v H2
def tXNotIn (P : Program) (w : World) (K : PySem.W.Frag) (ty td : TE) : TE := fun σ H Q => ty σ H fun y H1 => td σ H1 fun x H2 => ∃ a o, x = .ref a ∧ XGet P w K H2 a y o ∧ Q (.bl (!o.isSome)) H2
def tXGet1 (P : Program) (w : World) (K : PySem.W.Frag) (td ty : TE) : TE := fun σ H Q => td σ H fun x H1 => ∃ a, x = .ref a ∧ (∃ es, H1 a = some (dxO P w a es) ∧ KeysOk K H1 es) ∧ ty σ H1 fun y H2 => ∃ o, XGet P w K H2 a y o ∧ Q (o.getD .non) H2
def sXPut (P : Program) (w : World) (K : PySem.W.Frag) (td ty tv : TE) : TS := fun D σ H => tv σ H fun v H1 => td σ H1 fun x H2 => ty σ H2 fun y H3 => ∃ a H4, x = .ref a ∧ XPut P w K H3 a y v H4 ∧ D.nx σ H4
def rSetX (P : Program) (w : World) (K : PySem.W.Frag) : V → V → V → Hp → (Hp → Prop) → Prop := fun o i v H Q => ∃ a H', o = .ref a ∧ XPut P w K H a i v H' ∧ Q H'
section
variable {X : Cx} {o i e value : Expr} {pos pos' : Pos} {td ty tv : TE} {apos cpos : Pos}
theorem pe_xnew : PE X (.Dict [] [] pos) (tXNew X.prog X.w) := ⟨fun pins s σ H Q I h => by
  refine wpAny_Dict_empty ⟨.ref s.heap.objs.size, _, I.laid (a := s.heap.objs.size) (o := dxO X.prog X.w s.heap.objs.size []) (t' := s.toks) (fun _ _ q => Heap.get?_push_of_some _ q) (Nat.le_refl _) ?_, rfl, h _ (I.hok.fresh (Nat.le_refl _))⟩
  have hb := I.big
  refine ⟨⟨Nat.zero_le _, beq_eq_false_iff_ne.mpr (Ne.symm (Nat.ne_of_lt hb)), [], .nil, _, #[], 0, Heap.get?_push_size _ rfl, ⟨rfl, rfl, rfl⟩, rfl, rfl, List.nodup_nil⟩, ⟨_, Heap.get?_push_size _ rfl⟩, fun g1 g2 hg k => ?_⟩
  obtain ⟨z, y, xs, r, o, arr, ep, e1, e2⟩ := hg
  exact ⟨z, y, xs, r, o, arr, ep, k _ e1, e2⟩⟩
theorem pe_xget (hu : X.A.units + 9 < cLine) (ho : PE X o td) (hi : PE X i ty) (hs : NoSl i) : PE X (.Subscript o i pos) (tXGet X.prog X.w X.K td ty) := by
  refine ⟨fun pins s σ H Q I h => ?_⟩
  refine subD_of PySem.F.slot_dict_getitem.lookup hs (thn (ho.run pins s σ H _ I h) fun u s1 ⟨x, H1, I1, rx, q1⟩ => thn (hi.run pins s1 σ H1 _ I1 q1) fun iv s2 ⟨y, H2, I2, ry, a, v, ex, g, q2⟩ => ?_)
  subst ex
  obtain rfl : u = Value.ref a := rx
  exact ⟨(xd_typ I2 g).1, xd_getItem hu I2 g ry fun w' s3 I3 rw' => ⟨v, H2, I3, rw', q2⟩⟩
theorem pc_xnotin (hu : X.A.units + 9 < cLine) (hi : PE X i ty) (ho : PE X o td) : PC X .NotIn i o (tXNotIn X.prog X.w X.K ty td) := by
  refine ⟨fun pins s σ H Q I h => ?_⟩
  refine thn (hi.run pins s σ H _ I h) fun iv s1 ⟨y, H1, I1, ry, q1⟩ => thn (ho.run pins s1 σ H1 _ I1 q1) fun u s2 ⟨x, H2, I2, rx, a, ov, ex, g, q2⟩ => ?_
  subst ex
  obtain rfl : u = Value.ref a := rx
  exact xd_notIn hu I2 g ry fun s3 I3 => ⟨.bl (!ov.isSome), H2, I3, rfl, q2⟩
theorem ps_xput (hu : X.A.units + 9 < cLine) (ho : PE X o td) (hi : PE X i ty) (hv : PE X value tv) (hs : swapsWith value (some (.Subscript o i pos')) pos.line X.env = pure false := by rfl) : PS X (.Assign [.Subscript o i pos'] value pos) (sXPut X.prog X.w X.K td ty tv) := by
  refine ⟨fun pins s σ H D I h => ?_⟩
  refine wpAny_Assign_Subscript (thn (hv.run pins s σ H _ I h) fun r s1 ⟨v, H1, I1, rv, q1⟩ => thn (ho.run pins s1 σ H1 _ I1 q1) fun u s2 ⟨x, H2, I2, rx, q2⟩ => thn (hi.run pins s2 σ H2 _ I2 q2) fun iv s3 ⟨y, H3, I3, ry, a, H4, ex, g, q3⟩ => ?_) hs
  subst ex
  obtain rfl : u = Value.ref a := rx
  exact xd_setItem hu I3 g ry rv fun s4 I4 => ⟨σ, H4, I4, q3⟩
theorem set_dx (hu : X.A.units + 9 < cLine) : PSet X (rSetX X.prog X.w X.K) := by
  intro pins s σ H o i v ov iv u Q I ro ri rv h
  obtain ⟨a, H', rfl, g, q⟩ := h
  cases ro
  exact xd_setItem hu I g ri rv fun s4 I4 => ⟨H', I4, q⟩
theorem pe_xget1 (hu : X.A.units + 9 < cLine) (ho : PE X o td) (he : PE X e ty) (hb : attributeBase o "get" X.env (eval o X.env) = eval o X.env := by rfl)
    (few : ((backTo cpos (starEach [e] X.env)).all (fun x => !x.1) && (backToKw cpos (keywordEach [] X.env)).all (fun x => x.1.isSome) && decide (([e] : List Expr).length + ([] : List Keyword).length + (if ([] : List Keyword).isEmpty then 0 else 1) < 30)) = true := by rfl)
    (hl : (apos.endLine == cpos.line) = true := by rfl) (ht : backTo cpos (starEach [e] X.env) = [(false, eval e X.env)] := by rfl) : PE X (.Call (.Attribute o "get" apos) [e] [] cpos) (tXGet1 X.prog X.w X.K td ty) := by
  refine ⟨fun pins s σ H Q I h => ?_⟩
  refine wpAny_Call_method hb few hl PySem.F.plainAttrs_dict PySem.F.slot_dict_get PySem.F.type_dict_get (thn (ho.run pins s σ H _ I h) fun u s1 ⟨x, H1, I1, rx, a, ex, ⟨es, hes, hks⟩, q1⟩ => ?_)
  subst ex
  obtain rfl : u = Value.ref a := rx
  obtain ⟨_, _, xs, _, dd⟩ := dx_rd I1 hes hks
  refine ⟨dd.typeIs, fun c q => ?_, ?_⟩
  · cases q
    obtain ⟨ob, _, _, h1, h2, _⟩ := dd
    exact ⟨ob, h1, h2.2.1⟩
  · rw [ht]
    refine Calls.callWith_builtin rfl (Calls.evalArgs_plain (Calls.spliced_cons (thn (he.run pins s1 σ H1 _ I1 q1) fun iv s2 ⟨y, H2, I2, ry, ov, g, q2⟩ => Calls.spliced_nil ?_)))
    exact xd_get1 hu I2 g ry fun w' s3 I3 rw' => ⟨_, H2, I3, rw', q2⟩
end
theorem hu9 {A : Around} {k : Nat} (hr : Room k A) : A.units + 9 < cLine := by
  have := hr.un
  omega
end L2

set_option maxHeartbeats 2000000
/-! My.Lx: five names set at once; len and clear of dicts whose keys are tuples. -/
namespace L2
open PySem PySem.Spec PyProof.Rows
def tAsg5 (te : TE) (g1 g2 g3 g4 g5 : TG) : TS := fun D σ H => te σ H fun x H1 => g1 x σ H1 fun σ1 H2 => g2 x σ1 H2 fun σ2 H3 => g3 x σ2 H3 fun σ3 H4 => g4 x σ3 H4 fun σ4 H5 => g5 x σ4 H5 D.nx
section
variable {X : Cx} {e : Expr} {te : TE} {pos : Pos} {t1 t2 t3 t4 t5 : Expr} {g1 g2 g3 g4 g5 : TG}
theorem ps_asg5 (he : PE X e te) (h1 : PG X t1 g1) (h2 : PG X t2 g2) (h3 : PG X t3 g3) (h4 : PG X t4 g4) (h5 : PG X t5 g5)
    (ha : (assignEach [t1, t2, t3, t4, t5] X.env).map (·.2) = [assign t1 X.env, assign t2 X.env, assign t3 X.env, assign t4 X.env, assign t5 X.env] := by rfl) (hw : swappedStores [t1, t2, t3, t4, t5] e X.env = pure none := by rfl) :
    PS X (.Assign [t1, t2, t3, t4, t5] e pos) (tAsg5 te g1 g2 g3 g4 g5) := by
  refine ⟨fun pins s σ H D I h => ?_⟩
  refine wpAny_Assign_stores (thn (he.run pins s σ H _ I h) fun v s1 ⟨x, H1, I1, r1, q1⟩ => ?_) rfl hw
  rw [ha]
  refine wpAny_bind (wpAny_holding (thn (h1.run pins s1 σ H1 x v _ I1 r1 q1) fun _ s2 ⟨σ2, H2, I2, q2⟩ => wpAny_bind (wpAny_holding ?_)))
  refine thn (h2.run pins s2 σ2 H2 x v _ I2 r1 q2) fun _ s3 ⟨σ3, H3, I3, q3⟩ => wpAny_bind (wpAny_holding ?_)
  refine thn (h3.run pins s3 σ3 H3 x v _ I3 r1 q3) fun _ s4 ⟨σ4, H4, I4, q4⟩ => wpAny_bind (wpAny_holding ?_)
  refine thn (h4.run pins s4 σ4 H4 x v _ I4 r1 q4) fun _ s5 ⟨σ5, H5, I5, q5⟩ => ?_
  exact thn (h5.run pins s5 σ5 H5 x v _ I5 r1 q5) fun _ s6 q => q
end
/-- len of a dict -/
def rLenD (P : Program) (w : World) (K : PySem.W.Frag) : List V → Hp → VK → Prop := fun xs H Q => ∃ p : Addr, xs = [.ref p] ∧
  ((∃ kvs : List (Key × V), H p = some (.dK kvs) ∧ Q (.int (kvs.length : Nat)) H) ∨ ∃ es : EX, H p = some (dxO P w p es) ∧ KeysOk K H es ∧ Q (.int (es.length : Nat)) H)
theorem call_lenDX {X : Cx} {P : Program} {w : World} {K : PySem.W.Frag} (h1 : X.prog = P := by rfl) (h2 : X.w = w := by rfl) (h3 : X.K = K := by rfl) : CallR X (.builtin "len") (rLenD P w K) := by
  subst h1 h2 h3
  intro pins s σ H xs us Q I r h
  obtain ⟨p, rfl, h⟩ := h
  rw [Vals.ref1 r]
  have hs : sizeLine = 16777216 := sizeLine_eq
  rcases h with ⟨kvs, e, q⟩ | ⟨es, e, ks, q⟩
  · exact d_len I (.inl e) fun t s' I' => ⟨.int _, H, I', ⟨_, rfl⟩, q⟩
  · obtain ⟨z, hd, xs, rel, dd⟩ := dx_rd I e ks
    have hl := Paired.length rel
    refine call_len_dictH hd dd (by rw [← hl]; omega) ?_
    rw [← hl]
    exact ⟨.int _, H, I.tok _, ⟨_, rfl⟩, q⟩
/-- d.clear() -/
def rClearX (P : Program) (w : World) : V → List V → Hp → VK → Prop := fun x vs H Q => ∃ (a : Addr) (es : EX), x = .ref a ∧ vs = [] ∧ H a = some (dxO P w a es) ∧ Q .non (upd H a (dxO P w a []))
theorem mtd_clearX {X : Cx} : MtR X "dict.clear" (rClearX X.prog X.w) := by
  intro pins s σ H x vs v us Q I rx rv h
  obtain ⟨a, es, rfl, rfl, e, q⟩ := h
  obtain rfl : v = Value.ref a := rx
  have hus := rv.zero
  subst hus
  obtain ⟨⟨z, hd, xs, rel, o, arr, ep, h1, h2, h3, h4, h5⟩, _, _⟩ := (show ObjOk X.prog X.w H s.heap a (dxO X.prog X.w a es) from I.hok a _ e)
  have hl : arr.size ≤ sizeLine := by
    have : arr.toList.length = xs.length := by rw [h4, List.length_map]
    rw [← Paired.length rel] at this
    simpa using (show arr.toList.length ≤ sizeLine by omega)
  refine call_meetsIn PySem.F.slot_dict_clear ⟨o, h1, h2.1⟩ PySem.F.entry_dict_clear (PySem.F.args_dict_clear_1 _) (meets_dict_clear_raw a) ⟨arr, ep, ⟨o, h1, h2, h3⟩, hl, fun h' dd' hs => ?_⟩
  obtain ⟨o', k1, k2, k3⟩ := dd'
  refine ⟨.non, _, d_write (t' := s.toks) I (by rw [e]; exact True.intro) hs ⟨o', k1⟩ ?_, rfl, q⟩
  refine ⟨⟨Nat.zero_le _, hd, [], .nil, o', #[], ep + 1, k1, k2, k3, rfl, List.nodup_nil⟩, ⟨o', k1⟩, fun g1 g2 hg k => ?_⟩
  obtain ⟨z, y, xs, r, o, arr, ep, e1, e2⟩ := hg
  exact ⟨z, y, xs, r, o, arr, ep, k _ e1, e2⟩
end L2

set_option maxHeartbeats 2000000
/-! My.Xc: d.clear() of a dict whose keys are tuples, as an expression. -/
namespace L2
open PySem PySem.Spec PyProof.Rows
def tXClear (P : Program) (w : World) (to : TE) : TE := fun σ H Q => to σ H fun x H1 => ∃ (a : Addr) (es : EX), x = .ref a ∧ H1 a = some (dxO P w a es) ∧ Q .non (upd H1 a (dxO P w a []))
theorem pe_xclear {X : Cx} {o : Expr} {to : TE} {apos cpos : Pos} (ho : PE X o to) (hbase : attributeBase o "clear" X.env (eval o X.env) = eval o X.env := by rfl) (hline : (apos.endLine == cpos.line) = true := by rfl) : PE X (.Call (.Attribute o "clear" apos) [] [] cpos) (tXClear X.prog X.w to) := by
  refine ⟨fun pins s σ H Q I h => ?_⟩
  refine wpAny_Call_method0_late hbase hline (thn (ho.run pins s σ H _ I h) fun v s1 ⟨x, H1, I1, r1, a, es, ex, e, q1⟩ => ?_)
  subst ex
  obtain rfl : v = Value.ref a := r1
  obtain ⟨⟨z, hd, xs, rel, o, arr, ep, h1, h2, h3, h4, h5⟩, _, _⟩ := (show ObjOk X.prog X.w H1 s1.heap a (dxO X.prog X.w a es) from I1.hok a _ e)
  refine ⟨"dict", "dict.clear", PySem.F.plainAttrs_dict, PySem.F.slot_dict_clear, PySem.F.type_dict_clear, ⟨o, h1, h2.1⟩, fun b q => ?_, Calls.callWith_builtin rfl (PySem.evalArgs_none (mtd_clearX pins s1 σ H1 (.ref a) [] _ [] Q I1 rfl .nil ⟨a, es, rfl, rfl, e, q1⟩))⟩
  cases q
  exact ⟨o, h1, h2.2.1⟩
end L2

set_option maxHeartbeats 2000000
/-! My.Du: new data of displays in which names are read, told in a view. -/
namespace L2
open PySem PySem.Spec PyProof.Rows VW TL
section
variable {K : PySem.W.Frag} {σ : L2.St} {U0 H0 B0 U H : Hp} {Q : VK} {p : Addr} {ds es : List PyData} {d : PyData} {t u : TE} {ta : TA}
def Fr9 (K : PySem.W.Frag) (σ : L2.St) (B0 : Hp) (t : TE) (d : PyData) : Prop := ∀ (U H : Hp) (Q : VK), Same B0 U → Same U H → (∀ v U' H', Gr S0 U H U' H' → Dp K U' v d → Q v H') → t σ H Q
def Mk9 (K : PySem.W.Frag) (σ : L2.St) (B0 : Hp) (t : TA) (ds : List PyData) : Prop := ∀ (U H : Hp) (Q : List V → Hp → Prop), Same B0 U → Same U H → (∀ vs U' H', Gr S0 U H U' H' → DpAll K U' vs ds → Q vs H') → t σ H Q
theorem fr9_int {i : Int} : Fr9 K σ B0 (tC (.int i)) (.int i) := fun U H Q s0 s k => k _ U H (.refl s) (.int i)
theorem fr9_str {z : Str} : Fr9 K σ B0 (tC (.str z)) (.str z) := fun U H Q s0 s k => k _ U H (.refl s) (.str z)
theorem fr9_var {i : Nat} {v : V} (h : σ[i]? = some (some v)) (hd : Dp K B0 v d) : Fr9 K σ B0 (tVar i) d := fun U H Q s0 s k => ⟨_, h, k v U H (.refl s) (dpS s0 hd)⟩
theorem mk9_nil : Mk9 K σ B0 tNil [] := fun U H Q s0 s k => k [] U H (.refl s) .nil
theorem mk9_cons (h : Fr9 K σ B0 t d) (h2 : Mk9 K σ B0 ta ds) : Mk9 K σ B0 (tCons t ta) (d :: ds) := fun U H Q s0 s k =>
  h U H _ s0 s fun v U1 H1 g1 hd => h2 U1 H1 _ (s0.trans g1.v) g1.s fun vs U2 H2 g2 hds => k (v :: vs) U2 H2 (g1.trans g2) (.cons (dpS g2.v hd) hds)
theorem fr9_tup (h : Mk9 K σ B0 ta ds) (hl : ds.length ≤ sizeLine) : Fr9 K σ B0 (tTup ta) (.tuple ds) := fun U H Q s0 s k =>
  h U H _ s0 s fun vs U1 H1 g1 hd => ⟨by rw [dps_length hd]; exact hl, fun p hp => k (.ref p) (upd U1 p (.tup vs)) _ (g1.new hp) (.tup (sqtO upd_same) (dpsS (same_new (vfree g1.s hp)) hd))⟩
theorem fr9_lst (h : Mk9 K σ B0 ta ds) (hl : ds.length ≤ sizeLine) : Fr9 K σ B0 (tLst ta) (.list ds) := fun U H Q s0 s k =>
  h U H _ s0 s fun vs U1 H1 g1 hd => ⟨by rw [dps_length hd]; exact hl, fun p hp => k (.ref p) (upd U1 p (.lst vs)) _ (g1.new hp) (.lst (sqlO upd_same) (dpsS (same_new (vfree g1.s hp)) hd))⟩
theorem fr9_cat {i : Nat} {vs : List V} (hσ : σ[i]? = some (some (.ref p))) (hp : B0 p = some (.lst vs)) (hv : DpAll K B0 vs ds) (m : Mk9 K σ B0 ta es) (hl : ds.length + es.length ≤ sizeLine) {cs : List PyData} (e : ds ++ es = cs) : Fr9 K σ B0 (tOp rCat (tVar i) (tLst ta)) (.list cs) := e ▸ fun U H Q s0 s k =>
  ⟨_, hσ, m U H _ s0 s fun zs U1 H1 g1 hz => ⟨by rw [dps_length hz]; omega, fun b hb => by
    have h1 : H1 p = some (.lst vs) := g1.s _ _ (g1.v _ _ (s0 _ _ hp))
    refine ⟨p, b, vs, zs, rfl, rfl, by rw [upd_ne (ne_of_none h1 hb)]; exact h1, upd_same, by rw [dps_length hz, dps_length hv]; exact hl, fun q hq => ?_⟩
    have G := g1.newH (o := .lst zs) hb
    exact k (.ref q) (upd U1 q (.lst (vs ++ zs))) _ (G.new hq) (.lst (sqlO upd_same) (dpsS (same_new (vfree G.s hq)) (dps_append (dpsS (s0.trans g1.v) hv) hz)))⟩⟩
theorem RowsAt.gr {U' H' : Hp} (R : RowsAt K U0 H0 U H p ds) (g : Gr S0 U H U' H') : RowsAt K U0 H0 U' H' p ds := by
  obtain ⟨vs, hp, hv⟩ := R.h
  exact ⟨R.g.trans g, R.n, g.out (some_ne hp) R.o, vs, g.same _ _ hp, dpsS g.v hv⟩
theorem rows_new9 (s : Gr S0 U0 H0 U H) (m : Mk9 K σ U ta es) (hl : es.length ≤ sizeLine) (k : ∀ U' H' q, RowsAt K U0 H0 U' H' q es → Same U U' → Q (.ref q) H') : tLst ta σ H Q :=
  m U H _ (Same.refl _) s.s fun vs U1 H1 g1 hd => ⟨by rw [dps_length hd]; exact hl, fun p hp => k U1 _ p ⟨(s.trans g1).newH hp, (s.trans g1).free hp, vfree g1.s hp, vs, upd_same, hd⟩ g1.v⟩
theorem rows_cat9 {i : Nat} (R : RowsAt K U0 H0 U H p ds) (hσ : σ[i]? = some (some (.ref p))) (m : Mk9 K σ U ta es) (hl : ds.length + es.length ≤ sizeLine) (k : ∀ U' H' q, RowsAt K U0 H0 U' H' q (ds ++ es) → Same U U' → Q (.ref q) H') : tOp rCat (tVar i) (tLst ta) σ H Q := by
  obtain ⟨vs, hp, hv⟩ := R.h
  refine ⟨_, hσ, m U H _ (Same.refl _) R.g.s fun zs U1 H1 g1 hz => ⟨by rw [dps_length hz]; omega, fun b hb => ⟨p, b, vs, zs, rfl, rfl, by rw [upd_ne (ne_of_none (g1.same _ _ hp) hb)]; exact g1.same _ _ hp, upd_same, by rw [dps_length hz, dps_length hv]; exact hl, fun q hq => ?_⟩⟩⟩
  have G := ((R.g.trans g1).newH (o := .lst zs) hb)
  exact k U1 _ q ⟨G.newH hq, G.free hq, vfree G.s hq, _, upd_same, dps_append (dpsS g1.v hv) hz⟩ g1.v
theorem rows_app9 {i : Nat} (R : RowsAt K U0 H0 U H p ds) (hσ : σ[i]? = some (some (.ref p))) (m : Fr9 K σ U t d) (hl : ds.length < sizeLine) (k : ∀ U' H', RowsAt K U0 H0 U' H' p (ds ++ [d]) → Same U U' → Q .non H') : tBM K "list" rAppend (tVar i) (tCons t tNil) σ H Q := by
  obtain ⟨vs, hp, hv⟩ := R.h
  refine ⟨_, hσ, .inl ⟨rfl, vs, sqlO hp⟩, m U H _ (Same.refl _) R.g.s fun v U1 H1 g1 hd => ⟨p, vs, v, rfl, rfl, g1.same _ _ hp, by rw [dps_length hv]; exact hl, ?_⟩⟩
  have o1 : U1 p = none := g1.out (some_ne hp) R.o
  exact k U1 _ ⟨(R.g.trans g1).mut (.inr R.n) o1, R.n, o1, _, upd_same, dps_append (dpsS g1.v hv) (.cons hd .nil)⟩ g1.v
theorem lst_new9 (s : Same U H) (m : Mk9 K σ U ta es) (hl : es.length ≤ sizeLine) (k : ∀ U' H' q vs, Gr S0 U H U' H' → U' q = some (.lst vs) → DpAll K U' vs es → Q (.ref q) H') : tLst ta σ H Q :=
  m U H _ (Same.refl _) s fun vs U1 H1 g1 hd => ⟨by rw [dps_length hd]; exact hl, fun p hp => k (upd U1 p (.lst vs)) _ p vs (g1.new hp) upd_same (dpsS (same_new (vfree g1.s hp)) hd)⟩
end
end L2
namespace L2
open PySem PySem.Spec PyProof.Rows VW TL
theorem go9 {K : PySem.W.Frag} {σ : L2.St} {B0 U H : Hp} {Q : VK} {t : TE} {d : PyData} (m : Fr9 K σ B0 t d) (s0 : Same B0 U) (s : Same U H) (k : ∀ v U' H', Gr S0 U H U' H' → Dp K U' v d → Q v H') : t σ H Q := m U H Q s0 s k
theorem go9s {K : PySem.W.Frag} {σ : L2.St} {B0 U H : Hp} {Q : List V → Hp → Prop} {t : TA} {d : List PyData} (m : Mk9 K σ B0 t d) (s0 : Same B0 U) (s : Same U H) (k : ∀ v U' H', Gr S0 U H U' H' → DpAll K U' v d → Q v H') : t σ H Q := m U H Q s0 s k
end L2
namespace L2
open PySem PySem.Spec PyProof.Rows VW TL
theorem yes9 {σ : L2.St} {H : Hp} {A B : Hp → Prop} (h : A H) : tYes σ H (fun b H3 => if b = true then A H3 else B H3) := by
  exact iteT (B := B H) h
end L2
namespace L2
open PySem PySem.Spec PyProof.Rows VW TL
theorem sl_tupK {X : Cx} {K : PySem.W.Frag} (h : X.K = K := by rfl) : SlR X (rSlT K) := by
  subst h
  exact sl_tup
theorem op_catTK {X : Cx} {K : PySem.W.Frag} (h : X.K = K := by rfl) : OpR X (binaryOp .Add) (rCatT K) := by
  subst h
  exact op_catT
end L2

namespace Lw
open PySem PySem.Spec PyProof.Rows L2 VW TL
def top (i : Nat) : Stmt := PySem.Challenge.pw_farlayout_k61_known_rewritings.main.body.getD i (.Pass ⟨0, 0, 0, 0⟩)
abbrev s_InvalidDoc___init__ : Stmt := (inClass (top 2) 0)
abbrev s_InvalidBound___init__ : Stmt := (inClass (top 3) 0)
abbrev s__shown : Stmt := (top 4)
abbrev s_is_integer : Stmt := (top 6)
abbrev s_is_between : Stmt := (top 7)
abbrev s_Doc___init__ : Stmt := (inClass (top 15) 0)
abbrev s_Doc___eq__ : Stmt := (inClass (top 15) 1)
abbrev s_Doc_row_list : Stmt := (inClass (top 15) 2)
abbrev s_rows_in : Stmt := (top 16)
abbrev s_copied_row : Stmt := (top 17)
abbrev s_parts_of : Stmt := (top 18)
abbrev s_with_parts : Stmt := (top 19)
abbrev s_is_row : Stmt := (top 20)
abbrev s__checked_rows : Stmt := (top 21)
abbrev s__is_signs : Stmt := (top 22)
abbrev s__is_parts : Stmt := (top 23)
abbrev s_check_doc : Stmt := (top 25)
abbrev s_Pool___init__ : Stmt := (inClass (top 27) 0)
abbrev s_Pool_add : Stmt := (inClass (top 27) 1)
abbrev s_Pool_rows_below : Stmt := (inClass (top 27) 2)
abbrev s_Pool__add_new : Stmt := (inClass (top 27) 3)
abbrev s_simplified_doc : Stmt := (top 29)
abbrev s__replaced : Stmt := (top 30)
abbrev s__replaced_cat : Stmt := (top 31)
abbrev s__replaced_single : Stmt := (top 32)
abbrev s_simplified : Stmt := (top 34)
abbrev s_is_simple : Stmt := (top 35)
abbrev s__law_cell_at : Stmt := (top 37)
abbrev s__law_source_of : Stmt := (top 38)
abbrev s__law_next : Stmt := (top 39)
abbrev s__law_one : Stmt := (top 40)
abbrev s__law_known : Stmt := (top 41)
abbrev s_law : Stmt := (top 42)
structure Wd where
  c_LayoutError : Addr
  c_InvalidDoc : Addr
  c_InvalidBound : Addr
  c_Doc : Addr
  c_Pool : Addr
  ROW_LENGTHS : Addr
  none_ : Unit := ()
structure Txt (w : World) (K : PySem.W.Frag) (mg : Str → Option Value) (W : Wd) : Prop where
  n_all : mg "all" = none
  n_any : mg "any" = none
  n_bool : mg "bool" = none
  n_enumerate : mg "enumerate" = none
  n_int : mg "int" = none
  n_isinstance : mg "isinstance" = none
  n_len : mg "len" = none
  n_list : mg "list" = none
  n_range : mg "range" = none
  n_str : mg "str" = none
  n_sum : mg "sum" = none
  n_tuple : mg "tuple" = none
  g_MOST_ROWS : ∃ t, mg "MOST_ROWS" = some (.int (200) t)
  g_MOST_PARTS : ∃ t, mg "MOST_PARTS" = some (.int (8) t)
  g_MOST_NEST : ∃ t, mg "MOST_NEST" = some (.int (8) t)
  g_MOST_TEXT_SIGNS : ∃ t, mg "MOST_TEXT_SIGNS" = some (.int (20) t)
  g_MOST_LINE_SIGNS : ∃ t, mg "MOST_LINE_SIGNS" = some (.int (3) t)
  g_ROW_LENGTHS : mg "ROW_LENGTHS" = some (.ref W.ROW_LENGTHS)
  k_ROW_LENGTHS : ∃ es n, K.lookup W.ROW_LENGTHS = some ⟨.type "dict", none, .dict es n, #[]⟩ ∧ PySem.W.KeysLit w.params es.toList ∧ (W.ROW_LENGTHS == sysModules) = false
  kt_ROW_LENGTHS : ∃ es n, K.lookup W.ROW_LENGTHS = some ⟨.type "dict", none, .dict es n, #[]⟩ ∧ (W.ROW_LENGTHS == sysModules) = false ∧ L2.keysL es.toList = some (["text", "line", "hard", "cat", "nest", "align", "group"] : List Str)
  k_ROW_LENGTHS_text : ∃ t, PySem.W.nsIn K W.ROW_LENGTHS "text" = some (some (.int 2 t))
  k_ROW_LENGTHS_line : ∃ t, PySem.W.nsIn K W.ROW_LENGTHS "line" = some (some (.int 2 t))
  k_ROW_LENGTHS_hard : ∃ t, PySem.W.nsIn K W.ROW_LENGTHS "hard" = some (some (.int 1 t))
  k_ROW_LENGTHS_cat : ∃ t, PySem.W.nsIn K W.ROW_LENGTHS "cat" = some (some (.int 2 t))
  k_ROW_LENGTHS_nest : ∃ t, PySem.W.nsIn K W.ROW_LENGTHS "nest" = some (some (.int 3 t))
  k_ROW_LENGTHS_align : ∃ t, PySem.W.nsIn K W.ROW_LENGTHS "align" = some (some (.int 2 t))
  k_ROW_LENGTHS_group : ∃ t, PySem.W.nsIn K W.ROW_LENGTHS "group" = some (some (.int 2 t))
  c_LayoutError : mg "LayoutError" = some (.ref W.c_LayoutError)
  c_InvalidDoc : mg "InvalidDoc" = some (.ref W.c_InvalidDoc)
  c_InvalidBound : mg "InvalidBound" = some (.ref W.c_InvalidBound)
  c_Doc : mg "Doc" = some (.ref W.c_Doc)
  c_Pool : mg "Pool" = some (.ref W.c_Pool)
  cl_Doc : Cls K W.c_Doc
  i_Doc : ClsIsi K W.c_Doc
  na_Doc__rows : NoAttr K W.c_Doc "_rows"
  na_Doc_facts : NoAttr K W.c_Doc "facts"
  na_Doc_group_facts : NoAttr K W.c_Doc "group_facts"
  f_Doc___init__ : MethDef K W.c_Doc "__init__" "Doc.__init__" s_Doc___init__ ["self", "rows"]
  f_Doc___eq__ : MethDef K W.c_Doc "__eq__" "Doc.__eq__" s_Doc___eq__ ["self", "other"]
  f_Doc_row_list : MethDef K W.c_Doc "row_list" "Doc.row_list" s_Doc_row_list ["self"]
  mk_Doc : PySem.W.makesIn K W.c_Doc = true ∧ PySem.W.keepIn K (.ref W.c_Doc) = true
  cl_Pool : Cls K W.c_Pool
  i_Pool : ClsIsi K W.c_Pool
  na_Pool_rows : NoAttr K W.c_Pool "rows"
  na_Pool_are_bare : NoAttr K W.c_Pool "are_bare"
  na_Pool_are_hard : NoAttr K W.c_Pool "are_hard"
  na_Pool_are_direct : NoAttr K W.c_Pool "are_direct"
  na_Pool_wides : NoAttr K W.c_Pool "wides"
  na_Pool__numbers : NoAttr K W.c_Pool "_numbers"
  f_Pool___init__ : MethDef K W.c_Pool "__init__" "Pool.__init__" s_Pool___init__ ["self"]
  f_Pool_add : MethDef K W.c_Pool "add" "Pool.add" s_Pool_add ["self", "row"]
  f_Pool_rows_below : MethDef K W.c_Pool "rows_below" "Pool.rows_below" s_Pool_rows_below ["self", "last"]
  f_Pool__add_new : MethDef K W.c_Pool "_add_new" "Pool._add_new" s_Pool__add_new ["self", "row"]
  mk_Pool : PySem.W.makesIn K W.c_Pool = true ∧ PySem.W.keepIn K (.ref W.c_Pool) = true
  f__shown : TopDef K mg "_shown" s__shown ["field"]
  f_is_integer : TopDef K mg "is_integer" s_is_integer ["value"]
  f_is_between : TopDef K mg "is_between" s_is_between ["value", "least", "most"]
  f_rows_in : TopDef K mg "rows_in" s_rows_in ["doc"]
  f_copied_row : TopDef K mg "copied_row" s_copied_row ["row"]
  f_parts_of : TopDef K mg "parts_of" s_parts_of ["row"]
  f_with_parts : TopDef K mg "with_parts" s_with_parts ["row", "parts"]
  f_is_row : TopDef K mg "is_row" s_is_row ["row", "k"]
  f__checked_rows : TopDef K mg "_checked_rows" s__checked_rows ["rows"]
  f__is_signs : TopDef K mg "_is_signs" s__is_signs ["value", "most"]
  f__is_parts : TopDef K mg "_is_parts" s__is_parts ["value", "k"]
  f_check_doc : TopDef K mg "check_doc" s_check_doc ["doc"]
  f_simplified_doc : TopDef K mg "simplified_doc" s_simplified_doc ["doc"]
  f__replaced : TopDef K mg "_replaced" s__replaced ["pool", "row"]
  f__replaced_cat : TopDef K mg "_replaced_cat" s__replaced_cat ["pool", "row"]
  f__replaced_single : TopDef K mg "_replaced_single" s__replaced_single ["pool", "row"]
  f_simplified : TopDef K mg "simplified" s_simplified ["doc"]
  f_is_simple : TopDef K mg "is_simple" s_is_simple ["doc"]
  f__law_cell_at : TopDef K mg "_law_cell_at" s__law_cell_at ["_law_script", "_law_k"]
  f__law_source_of : TopDef K mg "_law_source_of" s__law_source_of ["_law_cell"]
  f__law_next : TopDef K mg "_law_next" s__law_next ["_law_source", "_law_many"]
  f__law_one : TopDef K mg "_law_one" s__law_one ["_law_source", "_law_some"]
  f__law_known : TopDef K mg "_law_known" s__law_known []
  f_law : TopDef K mg "law" s_law ["_law_script"]
local macro_rules | `(tactic| walk_at "rdc") => `(tactic| first | assumption | rfl | decide | omega | exact Or.inr ⟨by decide, by decide⟩ | exact ⟨by decide, by decide⟩ | exact ⟨by decide, by decide, by decide⟩ | (show (0 : Int) < _; omega) | (show (0 : Int) < _ ∧ _ < (1073741824 : Int); omega) | (show (-(2 ^ 64) < _ ∧ _ < 2 ^ 64) ∨ (-(2 ^ 64) < _ ∧ _ < 2 ^ 64); omega) | (show (-(2 ^ 64) < _ ∧ _ < 2 ^ 64) ∨ (-(2 ^ 64) < _ ∧ _ < 2 ^ 64); right; split <;> decide) | exact Nat.le_of_ble_eq_true rfl)
local macro_rules | `(tactic| walk_at "rd1") => `(tactic| first | refine ⟨_, rfl, ?_⟩ | refine And.intro (by walk_at "rdc") ?_ | refine ⟨_, _, rfl, rfl, ?_⟩ | refine Or.inl ⟨_, rfl, ?_⟩ | refine Or.inr ⟨_, rfl, ?_⟩ | refine ⟨_, _, _, _, rfl, rfl, sqlO (by first | assumption | exact upd_same), rfl, ?_⟩ | refine ⟨_, _, _, _, rfl, rfl, (by first | assumption | exact upd_same), rfl, ?_⟩)
local macro_rules | `(tactic| walk_at "rd") => `(tactic| repeat (walk_at "rd1"))

/-! ### the source of what is drawn -/
structure Src (U H : Hp) (s : Addr) : Prop where
  v : Same U H
  o : U s = none
  h : ∃ a b c : Int, H s = some (.lst [.int a, .int b, .int c])
abbrev G1 (s : Addr) : Addr → Prop := fun b => b = s
theorem Src.put {U H : Hp} {s : Addr} (S : Src U H s) (a b c : Int) : Gr (G1 s) U H U (upd H s (.lst [.int a, .int b, .int c])) ∧ Src U (upd H s (.lst [.int a, .int b, .int c])) s :=
  have g := (Gr.refl (S := G1 s) S.v).mut (o := .lst [.int a, .int b, .int c]) (.inl rfl) S.o
  ⟨g, g.s, S.o, a, b, c, upd_same⟩
theorem Src.new {U H : Hp} {s p : Addr} {o : HO} (S : Src U H s) (h : H p = none) : Gr (G1 s) U H (upd U p o) (upd H p o) ∧ Src (upd U p o) (upd H p o) s := by
  obtain ⟨a, b, c, e⟩ := S.h
  have g := (Gr.refl (S := G1 s) S.v).new (o := o) h
  have hne : s ≠ p := ne_of_none e h
  exact ⟨g, g.s, by rw [upd_ne hne]; exact S.o, a, b, c, by rw [upd_ne hne]; exact e⟩
theorem Src.mut {U H : Hp} {s p : Addr} {o : HO} (S : Src U H s) (hne : p ≠ s) (h : U p = none) : Src U (upd H p o) s := by
  obtain ⟨a, b, c, e⟩ := S.h
  refine ⟨fun b u q => ?_, S.o, a, b, c, by rw [upd_ne (Ne.symm hne)]; exact e⟩
  have hb : b ≠ p := fun z => by
    rw [z, h] at q
    cases q
  rw [upd_ne hb]
  exact S.v b u q
theorem Src.newH {U H : Hp} {s p : Addr} {o : HO} (S : Src U H s) (h : H p = none) : Gr (G1 s) U H U (upd H p o) ∧ Src U (upd H p o) s := by
  obtain ⟨a, b, c, e⟩ := S.h
  have g := (Gr.refl (S := G1 s) S.v).newH (o := o) h
  have hne : s ≠ p := ne_of_none e h
  exact ⟨g, g.s, S.o, a, b, c, by rw [upd_ne hne]; exact e⟩
section
variable {P : Program} {w : World} {K : PySem.W.Frag} {mg : Str → Option Value} {base : Heap} {W : Wd}
theorem sc__law_next : FnScope ["_law_source", "_law_many", "_law_found", "_law_prime", "_law_number"] ["_law_source", "_law_many"] (defScope s__law_next) := ⟨rfl, rfl, rfl, by decide +kernel, rfl, by decide +kernel, by decide +kernel⟩
def sp_next : Sp := fun vs H Q _ => ∃ (s : Addr) (U : Hp) (m : Int), vs = [.ref s, .int m] ∧ Src U H s ∧ 0 < m ∧ m < 1073741824 ∧
  ∀ (r : Int) (H' : Hp), Gr (G1 s) U H U H' → Src U H' s → 0 ≤ r → r < m → Q (.int r) H'
theorem d__law_next (T : Txt w K mg W) : DefOk P w K mg base "_law_next" s__law_next ["_law_source", "_law_many"] 1 sp_next := by
  refine T.f__law_next.ok sc__law_next (fun vs H Q E h => ?_) (fun f cdv A outer s H vs Q E hr h => ?_)
  · obtain ⟨s, U, m, rfl, _⟩ := h
    rfl
  · obtain ⟨s, U, m, rfl, S, h2, h3, k⟩ := h
    obtain ⟨a, b, c, h1⟩ := S.h
    refine ⟨_, (pss_cons (ps_if (pt_cmpR op_gt (pe_ix ix_list (pv 0) pe_int (fun _ _ => rfl)) pe_int (nomark _)) (pss_cons (ps_set (i := 2) sc__law_next.nd rfl (Or.inl rfl) (pe_op op_mod (pe_callTy (T := "int") call_int1 (by rfl) T.n_int (by decide +kernel) (pa_cons (pe_ix ix_list (pv 0) pe_int (fun _ _ => rfl)) pa_nil)) (pv 1)))
      (pss_cons (ps_asg (pe_op op_fdiv (pe_ix ix_list (pv 0) pe_int (fun _ _ => rfl)) (pv 1)) (pg_sub (pv 0) pe_int set_list))
      (pss_one (ps_ret (pv 2))))) pss_nil)
      (pss_cons (ps_asg (pe_op op_add (pe_ix ix_list (pv 0) pe_int (fun _ _ => rfl)) pe_int) (pg_sub (pv 0) pe_int set_list))
      (pss_cons (ps_set (i := 3) sc__law_next.nd rfl (Or.inl rfl) pe_int)
      (pss_cons (ps_set (i := 4) sc__law_next.nd rfl (Or.inl rfl) (pe_op op_mod (pe_callTy (T := "int") call_int1 (by rfl) T.n_int (by decide +kernel) (pa_cons (pe_op op_add (pe_op op_add (pe_ix ix_list (pv 0) pe_int (fun _ _ => rfl)) (pe_op op_mul pe_int (pe_ix ix_list (pv 0) pe_int (fun _ _ => rfl)))) pe_int) pa_nil)) (pv 3)))
      (pss_cons (ps_set (i := 4) sc__law_next.nd rfl (Or.inl rfl) (pe_op op_mod (pe_callTy (T := "int") call_int1 (by rfl) T.n_int (by decide +kernel) (pa_cons (pe_op op_mul (pv 4) pe_int) pa_nil)) (pv 3)))
      (pss_cons (ps_set (i := 4) sc__law_next.nd rfl (Or.inl rfl) (pe_op op_mod (pe_callTy (T := "int") call_int1 (by rfl) T.n_int (by decide +kernel) (pa_cons (pe_op op_mul (pv 4) (pe_op op_add (pe_op op_fdiv (pv 4) pe_int) pe_int)) pa_nil)) (pv 3)))
      (pss_cons (ps_set (i := 4) sc__law_next.nd rfl (Or.inl rfl) (pe_op op_mod (pe_callTy (T := "int") call_int1 (by rfl) T.n_int (by decide +kernel) (pa_cons (pe_op op_mul (pv 4) (pe_op op_add (pe_op op_fdiv (pv 4) pe_int) pe_int)) pa_nil)) pe_int))
      (pss_one (ps_ret (pe_op op_mod (pe_callTy (T := "int") call_int1 (by rfl) T.n_int (by decide +kernel) (pa_cons (pe_op op_fdiv (pv 4) pe_int) pa_nil)) (pv 1))))))))))), ?_⟩
    walk_at "rd"
    refine ite2 (fun hc => ?_) (fun hc => ?_)
    · walk_at "rd"
      exact k _ _ (S.put _ _ _).1 (S.put _ _ _).2 (Int.emod_nonneg _ (by omega)) (Int.emod_lt_of_pos _ h2)
    · walk_at "rd"
      exact k _ _ (S.put _ _ _).1 (S.put _ _ _).2 (Int.emod_nonneg _ (by omega)) (Int.emod_lt_of_pos _ h2)
theorem sc__law_cell_at : FnScope ["_law_script", "_law_k"] ["_law_script", "_law_k"] (defScope s__law_cell_at) := ⟨rfl, rfl, rfl, by decide +kernel, rfl, by decide +kernel, by decide +kernel⟩
def sp_cell (K : PySem.W.Frag) : Sp := fun vs H Q _ => ∃ (a : Addr) (ns : List Int) (i : Int), vs = [.ref a, .int i] ∧ SqL K H a (ns.map V.int) ∧ 0 ≤ i ∧ ∀ r : Int, Q (.int r) H
theorem d__law_cell_at (T : Txt w K mg W) : DefOk P w K mg base "_law_cell_at" s__law_cell_at ["_law_script", "_law_k"] 1 (sp_cell K) := by
  refine T.f__law_cell_at.ok sc__law_cell_at (fun vs H Q E h => ?_) (fun f cdv A outer s H vs Q E hr h => ?_)
  · obtain ⟨a, ns, i, rfl, _⟩ := h
    rfl
  · obtain ⟨a, ns, i, rfl, h1, h2, k⟩ := h
    refine ⟨_, (pss_cons (ps_if (pt_cmpR op_lt (pv 1) (pe_callB (id := "len") call_len (by rfl) T.n_len (by decide +kernel) (pa_cons (pv 0) pa_nil)) (nomark _)) (pss_one (ps_ret (pe_ix ix_list (pv 0) (pv 1) (fun _ _ => rfl)))) pss_nil)
      (pss_one (ps_ret pe_int))), ?_⟩
    refine ⟨_, rfl, _, rfl, _, _, rfl, .inl ⟨_, h1, rfl⟩, ?_⟩
    walk_at "rd"
    refine ite2 (fun hc => ?_) (fun hc => ?_)
    · have hc := of_decide_eq_true hc
      rw [List.length_map] at hc
      obtain ⟨j, rfl⟩ : ∃ j : Nat, i = (j : Int) := ⟨i.toNat, by omega⟩
      have hj : j < ns.length := by omega
      refine ⟨_, rfl, _, rfl, _, _, _, _, rfl, rfl, h1, atI_nat (v := V.int ns[j]) (by rw [List.getElem?_map, List.getElem?_eq_getElem hj] <;> rfl), ?_⟩
      exact k _
    · exact k _
theorem sc__law_source_of : FnScope ["_law_cell"] ["_law_cell"] (defScope s__law_source_of) := ⟨rfl, rfl, rfl, by decide +kernel, rfl, by decide +kernel, by decide +kernel⟩
def sp_src : Sp := fun vs H Q _ => ∃ i : Int, vs = [.int i] ∧ ∀ (p : Addr) (a b c : Int), H p = none → Q (.ref p) (upd H p (.lst [.int a, .int b, .int c]))
theorem d__law_source_of (T : Txt w K mg W) : DefOk P w K mg base "_law_source_of" s__law_source_of ["_law_cell"] 1 sp_src := by
  refine T.f__law_source_of.ok sc__law_source_of (fun vs H Q E h => ?_) (fun f cdv A outer s H vs Q E hr h => ?_)
  · obtain ⟨i, rfl, _⟩ := h
    rfl
  · obtain ⟨i, rfl, k⟩ := h
    refine ⟨_, (pss_cons (ps_set (i := 0) sc__law_source_of.nd rfl (Or.inl rfl) (pe_ifExp (pt_cmpR op_ge (pv 0) pe_int (nomark _)) (pv 0) (pe_op op_sub (pe_op op_sub pe_int (pe_op op_mul pe_int (pv 0))) pe_int)))
      (pss_one (ps_ret (pe_lst (pa_cons (pe_op op_mul (pv 0) (pe_callTy (T := "int") call_int1 (by rfl) T.n_int (by decide +kernel) (pa_cons (pe_cmpR op_ge (pv 0) (pe_op op_pow pe_int pe_int) (nomark _)) pa_nil))) (pa_cons (pe_op op_mod (pe_callTy (T := "int") call_int1 (by rfl) T.n_int (by decide +kernel) (pa_cons (pv 0) pa_nil)) pe_int) (pa_cons pe_int pa_nil))))))), ?_⟩
    walk_at "rd"
    refine ite2 (fun hc => ?_) (fun hc => ?_)
    · walk_at "rd"
      exact fun p hp => k _ _ _ _ hp
    · walk_at "rd"
      exact fun p hp => k _ _ _ _ hp
theorem sc__law_one : FnScope ["_law_source", "_law_some"] ["_law_source", "_law_some"] (defScope s__law_one) := ⟨rfl, rfl, rfl, by decide +kernel, rfl, by decide +kernel, by decide +kernel⟩
def sp_one (K : PySem.W.Frag) : Sp := fun vs H Q _ => ∃ (s l : Addr) (U : Hp) (xs : List V), vs = [.ref s, .ref l] ∧ Src U H s ∧ SqL K U l xs ∧ 0 < xs.length ∧ xs.length < 1000000 ∧
  ∀ (x : V) (H' : Hp), Gr (G1 s) U H U H' → Src U H' s → x ∈ xs → Q x H'
theorem d__law_one (T : Txt w K mg W) : DefOk P w K mg base "_law_one" s__law_one ["_law_source", "_law_some"] 2 (sp_one K) := by
  refine T.f__law_one.ok sc__law_one (fun vs H Q E h => ?_) (fun f cdv A outer s H vs Q E hr h => ?_)
  · obtain ⟨s, l, U, xs, rfl, _⟩ := h
    rfl
  · obtain ⟨s, l, U, xs, rfl, S, h1, h2, h3, k⟩ := h
    refine ⟨_, (pss_one (ps_ret (pe_ix ix_list (pv 1) (pe_callD (d__law_next T) (hr.mono (by decide)) (pa_cons (pv 0) (pa_cons (pe_callB (id := "len") call_len (by rfl) T.n_len (by decide +kernel) (pa_cons (pv 1) pa_nil)) pa_nil))) (fun _ _ => rfl)))), ?_⟩
    refine ⟨_, rfl, _, rfl, _, rfl, _, _, rfl, .inl ⟨_, sqlS S.v h1, rfl⟩, s, U, _, rfl, S, by omega, by omega, fun r H' g S' l0 l1 => ?_⟩
    obtain ⟨j, rfl⟩ : ∃ j : Nat, r = (j : Int) := ⟨r.toNat, by omega⟩
    have hj : j < xs.length := by omega
    exact ⟨_, _, _, _, rfl, rfl, sqlS S'.v h1, atI_nat (List.getElem?_eq_getElem hj), k _ _ g S' (List.getElem_mem hj)⟩
/-! ### rows -/
theorem dp_tup {K : PySem.W.Frag} {H : Hp} {p : Addr} {vs : List V} {ds : List PyData} (h : H p = some (.tup vs)) (hd : DpAll K H vs ds) : Dp K H (.ref p) (.tuple ds) := .tup (sqtO h) hd
theorem dp_lst {K : PySem.W.Frag} {H : Hp} {p : Addr} {vs : List V} {ds : List PyData} (h : H p = some (.lst vs)) (hd : DpAll K H vs ds) : Dp K H (.ref p) (.list ds) := .lst (sqlO h) hd
end
end Lw

namespace Lw
open PySem PySem.Spec PyProof.Rows L2 VW TL
local macro_rules | `(tactic| walk_at "rdc") => `(tactic| first | assumption | rfl | decide | omega | exact Or.inr ⟨by decide, by decide⟩ | exact ⟨by decide, by decide⟩ | exact ⟨by decide, by decide, by decide⟩ | (show (0 : Int) < _; omega) | (show (0 : Int) < _ ∧ _ < (1073741824 : Int); omega) | (show (-(2 ^ 64) < _ ∧ _ < 2 ^ 64) ∨ (-(2 ^ 64) < _ ∧ _ < 2 ^ 64); omega) | (show (-(2 ^ 64) < _ ∧ _ < 2 ^ 64) ∨ (-(2 ^ 64) < _ ∧ _ < 2 ^ 64); right; split <;> decide) | exact Nat.le_of_ble_eq_true rfl)
local macro_rules | `(tactic| walk_at "rd1") => `(tactic| first | refine ⟨_, rfl, ?_⟩ | refine And.intro (by walk_at "rdc") ?_ | refine ⟨_, _, rfl, rfl, ?_⟩ | refine Or.inl ⟨_, rfl, ?_⟩ | refine Or.inr ⟨_, rfl, ?_⟩ | refine ⟨_, _, _, _, rfl, rfl, sqlO (by first | assumption | exact upd_same), rfl, ?_⟩ | refine ⟨_, _, _, _, rfl, rfl, (by first | assumption | exact upd_same), rfl, ?_⟩)
local macro_rules | `(tactic| walk_at "rd") => `(tactic| repeat (walk_at "rd1"))

section
variable {P : Program} {w : World} {K : PySem.W.Frag} {mg : Str → Option Value} {base : Heap} {W : Wd}
/-! ### what is a row: for rows alone -/
theorem ty_of {K : PySem.W.Frag} {H : Hp} {v : V} {d : PyData} : Dp K H v d → ∃ t, TyX K H v (.type t) ∧ t = (match d with | .none => "NoneType" | .bool _ => "bool" | .int _ => "int" | .str _ => "str" | .list _ => "list" | .tuple _ => "tuple" | .dict _ => "dict") := by
  intro h
  cases h with
  | non => exact ⟨_, .base .non, rfl⟩
  | bl b => exact ⟨_, .base (.bl b), rfl⟩
  | int i => exact ⟨_, .base (.int i), rfl⟩
  | str x => exact ⟨_, .base (.str x), rfl⟩
  | lst hs _ =>
    rcases hs with (h | ⟨o, h⟩) | ⟨o, its, n, h1, h2, _⟩
    · exact ⟨_, .base (.lst h), rfl⟩
    · exact ⟨_, .base (.frz h), rfl⟩
    · exact ⟨_, .kList h1 h2, rfl⟩
  | tup hs _ =>
    rcases hs with (h | ⟨o, h⟩) | ⟨o, its, n, h1, h2, _⟩
    · exact ⟨_, .base (.tup h), rfl⟩
    · exact ⟨_, .fTuple h, rfl⟩
    · exact ⟨_, .kTuple h1 h2, rfl⟩
theorem sc_is_integer : FnScope ["value"] ["value"] (defScope s_is_integer) := ⟨rfl, rfl, rfl, by decide +kernel, rfl, by decide +kernel, by decide +kernel⟩
def sp_isint (K : PySem.W.Frag) : Sp := fun vs H Q _ => ∃ (i : Int), vs = [.int i] ∧ Q (.bl true) H
theorem d_is_integer (T : Txt w K mg W) : DefOk P w K mg base "is_integer" s_is_integer ["value"] 1 (sp_isint K) := by
  refine T.f_is_integer.ok sc_is_integer (fun vs H Q E h => ?_) (fun f cdv A outer s H vs Q E hr h => ?_)
  · obtain ⟨i, rfl, _⟩ := h
    rfl
  · obtain ⟨i, rfl, k⟩ := h
    refine ⟨_, (pss_one (ps_ret (pe_and (pe_callB (id := "isinstance") call_isi (by rfl) T.n_isinstance (by decide +kernel) (pa_cons (pv 0) (pa_cons (pe_bltn (v := .ty "int") (by rfl) T.n_int (by decide +kernel) rfl) pa_nil))) (pe_one (pe_not (pe_callB (id := "isinstance") call_isi (by rfl) T.n_isinstance (by decide +kernel) (pa_cons (pv 0) (pa_cons (pe_bltn (v := .ty "bool") (by rfl) T.n_bool (by decide +kernel) rfl) pa_nil)))))))), ?_⟩
    refine ⟨_, rfl, ⟨_, _, _, _, true, rfl, .ty "int", .base (.int i), kit_ty (by decide +kernel), ?_⟩⟩
    refine ⟨_, rfl, iteT ?_⟩
    refine ⟨_, rfl, ⟨_, _, _, _, false, rfl, .ty "bool", .base (.int i), kit_ty (by decide +kernel), ?_⟩⟩
    exact ⟨_, rfl, k⟩
theorem sc_is_between : FnScope ["value", "least", "most"] ["value", "least", "most"] (defScope s_is_between) := ⟨rfl, rfl, rfl, by decide +kernel, rfl, by decide +kernel, by decide +kernel⟩
def sp_between (K : PySem.W.Frag) : Sp := fun vs H Q _ => ∃ (i a e : Int), vs = [.int i, .int a, .int e] ∧ a ≤ i ∧ i ≤ e ∧ Q (.bl true) H
theorem d_is_between (T : Txt w K mg W) : DefOk P w K mg base "is_between" s_is_between ["value", "least", "most"] 2 (sp_between K) := by
  refine T.f_is_between.ok sc_is_between (fun vs H Q E h => ?_) (fun f cdv A outer s H vs Q E hr h => ?_)
  · obtain ⟨i, a, e, rfl, _⟩ := h
    rfl
  · obtain ⟨i, a, e, rfl, h1, h2, k⟩ := h
    refine ⟨_, (pss_one (ps_ret (pe_and (pe_callD (d_is_integer T) (hr.mono (by decide)) (pa_cons (pv 0) pa_nil)) (pe_one (pe_chain op_le op_le (pv 1) (pv 0) (pv 2)))))), ?_⟩
    refine ⟨_, rfl, i, rfl, _, rfl, iteT ?_⟩
    walk_at "rd"
    rw [decide_eq_true h1]
    refine iteT ?_
    walk_at "rd"
    show Q (.bl (decide (i ≤ e))) H
    rw [decide_eq_true h2]
    exact k
theorem ifF {c : Bool} {A B : Prop} (hc : c = false) (h : B) : if c = true then A else B := by
  rw [hc]
  exact iteF h
theorem ifT {c : Bool} {A B : Prop} (hc : c = true) (h : A) : if c = true then A else B := by
  rw [hc]
  exact iteT h
theorem tyT {K : PySem.W.Frag} {H : Hp} {a : Addr} {vs : List V} (hs : SqT K H a vs) : TyX K H (.ref a) (.type "tuple") := by
  rcases hs with (h | ⟨o, h⟩) | ⟨o, its, n, h1, h2, _⟩
  · exact .base (.tup h)
  · exact .fTuple h
  · exact .kTuple h1 h2
theorem tyL {K : PySem.W.Frag} {H : Hp} {a : Addr} {vs : List V} (hs : SqL K H a vs) : TyX K H (.ref a) (.type "list") := by
  rcases hs with (h | ⟨o, h⟩) | ⟨o, its, n, h1, h2, _⟩
  · exact .base (.lst h)
  · exact .base (.frz h)
  · exact .kList h1 h2
theorem sc__is_signs : FnScope ["value", "most"] ["value", "most"] (defScope s__is_signs) := ⟨rfl, rfl, rfl, by decide +kernel, rfl, by decide +kernel, by decide +kernel⟩
theorem asc_of {n : Nat} {z : Str} (h : GoodS n z) : Txt.isascii z = true ∧ Txt.isprintable z = true := by
  have q : (List.range 128).all (fun c => decide (32 ≤ c ∧ c ≤ 126) == Unicode.isPrintable c) = true := by decide +kernel
  constructor
  · unfold Txt.isascii
    rw [Array.all_eq_true]
    intro i hi
    have := h.2 z.cps[i] (Array.mem_toList_iff.mpr (Array.getElem_mem hi))
    exact decide_eq_true (by omega)
  · unfold Txt.isprintable
    rw [Array.all_eq_true]
    intro i hi
    have h3 := h.2 z.cps[i] (Array.mem_toList_iff.mpr (Array.getElem_mem hi))
    have := List.all_eq_true.mp q z.cps[i] (List.mem_range.mpr (by omega))
    rw [beq_iff_eq] at this
    rw [← this]
    exact decide_eq_true h3
def sp_issigns (K : PySem.W.Frag) : Sp := fun vs H Q _ => ∃ (z : Str) (m : Nat), vs = [.str z, .int m] ∧ (GoodS m z ∧ m ≤ 1000) ∧ ∀ H', Same H H' → Q (.bl true) H'
theorem d__is_signs (T : Txt w K mg W) : DefOk P w K mg base "_is_signs" s__is_signs ["value", "most"] 1 (sp_issigns K) := by
  refine T.f__is_signs.ok sc__is_signs (fun vs H Q E h => ?_) (fun f cdv A outer s H vs Q E hr h => ?_)
  · obtain ⟨z, m, rfl, _⟩ := h
    rfl
  · obtain ⟨z, m, rfl, ⟨hz, hm⟩, k⟩ := h
    have hzl : z.length ≤ m := hz.1
    refine ⟨_, (pss_one (ps_ret (pe_and (pe_callB (id := "isinstance") call_isi (by rfl) T.n_isinstance (by decide +kernel) (pa_cons (pv 0) (pa_cons (pe_bltn (v := .ty "str") (by rfl) T.n_str (by decide +kernel) rfl) pa_nil))) (pe_and (pe_cmpR op_le (pe_callB (id := "len") call_len (by rfl) T.n_len (by decide +kernel) (pa_cons (pv 0) pa_nil)) (pv 1) (nomark _)) (pe_and (pe_bm0 PySem.F.plainAttrs_str PySem.F.slot_str_isascii PySem.F.type_str_isascii mt_isascii (pv 0)) (pe_one (pe_bm0 PySem.F.plainAttrs_str PySem.F.slot_str_isprintable PySem.F.type_str_isprintable mt_isprintable (pv 0)))))))), ?_⟩
    obtain ⟨ha, hp⟩ := asc_of hz
    refine ⟨_, rfl, _, _, _, _, true, rfl, .ty "str", .base (.str _), kit_ty (by decide +kernel), _, rfl, iteT ?_⟩
    refine ⟨_, rfl, _, z.length, rfl, ⟨Nat.le_trans hzl (Nat.le_of_lt (small1000 hm)), rfl⟩, ?_⟩
    refine ⟨_, rfl, _, _, rfl, rfl, _, rfl, ifT (decide_eq_true (by omega)) ?_⟩
    refine ⟨_, rfl, rfl, z, rfl, rfl, trivial, _, rfl, ifT ha ?_⟩
    refine ⟨_, rfl, rfl, z, rfl, rfl, trivial, ?_⟩
    rw [hp]
    exact k H (Same.refl _)
theorem sc__is_parts : FnScope ["value", "k", "part"] ["value", "k"] (defScope s__is_parts) := ⟨rfl, rfl, rfl, by decide +kernel, rfl, by decide +kernel, by decide +kernel⟩
def sp_isparts (K : PySem.W.Frag) : Sp := fun vs H Q _ => ∃ (l : Addr) (ns : List Int) (e : Nat), vs = [.ref l, .int e] ∧ SqL K H l (ns.map V.int) ∧ ns.length ≤ 8 ∧ (∀ j ∈ ns, 0 ≤ j ∧ j < (e : Int)) ∧ ∀ H', Same H H' → Q (.bl true) H'
theorem d__is_parts (T : Txt w K mg W) : DefOk P w K mg base "_is_parts" s__is_parts ["value", "k"] 1 (sp_isparts K) := by
  refine T.f__is_parts.ok sc__is_parts (fun vs H Q E h => ?_) (fun f cdv A outer s H vs Q E hr h => ?_)
  · obtain ⟨l, ns, e, rfl, _⟩ := h
    rfl
  · obtain ⟨l, ns, e, rfl, hl, h8, hj, k⟩ := h
    refine ⟨_, (pss_cons (ps_if (PW.pt (pw_or (pt_not (pt_val (pe_callB (id := "isinstance") call_isi (by rfl) T.n_isinstance (by decide +kernel) (pa_cons (pv 0) (pa_cons (pe_bltn (v := .ty "list") (by rfl) T.n_list (by decide +kernel) rfl) pa_nil))))) (pw_or1 (pt_cmpR op_gt (pe_callB (id := "len") call_len (by rfl) T.n_len (by decide +kernel) (pa_cons (pv 0) pa_nil)) (pe_globI T.g_MOST_PARTS) (nomark _))))) (pss_one (ps_ret pe_bl)) pss_nil)
      (pss_cons (ps_for PassesOwn.never rfl (pi_list (pv 0)) (pg_name (i := 2) sc__is_parts.nd rfl (Or.inl rfl))
      (pss_one (ps_if (PW.pt (pw_or (pt_not (pt_val (pe_callB (id := "isinstance") call_isi (by rfl) T.n_isinstance (by decide +kernel) (pa_cons (pv 2) (pa_cons (pe_bltn (v := .ty "int") (by rfl) T.n_int (by decide +kernel) rfl) pa_nil))))) (pw_or (pt_val (pe_callB (id := "isinstance") call_isi (by rfl) T.n_isinstance (by decide +kernel) (pa_cons (pv 2) (pa_cons (pe_bltn (v := .ty "bool") (by rfl) T.n_bool (by decide +kernel) rfl) pa_nil)))) (pw_or1 (pt_not (pt_chain op_le op_lt pe_int (pv 2) (pv 1))))))) (pss_one (ps_ret pe_bl)) pss_nil)))
      (pss_one (ps_ret pe_bl)))), ?_⟩
    refine ⟨_, rfl, _, _, _, _, true, rfl, .ty "list", tyL hl, kit_ty (by decide +kernel), true, rfl, iteF ?_⟩
    refine ⟨_, rfl, _, _, rfl, .inl ⟨_, hl, rfl⟩, _, _, rfl, rfl, _, rfl, ifF (decide_eq_false (by rw [List.length_map]; omega)) ?_⟩
    refine ⟨_, rfl, l, rfl, ⟨_, hl⟩, ?_⟩
    refine for_list (xs := ns.map V.int) (fun i σ H' => Same H H' ∧ ∃ v, σ = [some (.ref l), some (.int e), v]) ⟨Same.refl _, _, rfl⟩ (fun i σ H' _ z => sqlS z.1 hl) ?_ ?_
    · rintro i x σ H2 hx ⟨sm, v, rfl⟩
      rw [List.getElem?_map] at hx
      obtain ⟨j, hj1, rfl⟩ := Option.map_eq_some_iff.mp hx
      obtain ⟨j0, j1⟩ := hj j (List.mem_of_getElem? hj1)
      refine ⟨_, rfl, _, _, _, _, true, rfl, .ty "int", .base (.int _), kit_ty (by decide +kernel), true, rfl, iteF ?_⟩
      refine ⟨_, rfl, _, _, _, _, false, rfl, .ty "bool", .base (.int _), kit_ty (by decide +kernel), false, rfl, iteF ?_⟩
      refine ⟨_, rfl, _, _, rfl, rfl, _, rfl, ifT (decide_eq_true j0) ?_⟩
      refine ⟨_, rfl, _, _, rfl, rfl, _, rfl, ifF (by rw [decide_eq_true j1]; rfl) ?_⟩
      exact ⟨sm, _, rfl⟩
    · rintro σ H2 ⟨sm, v, rfl⟩
      exact k H2 sm
theorem sc_is_row : FnScope ["row", "k", "kind"] ["row", "k"] (defScope s_is_row) := ⟨rfl, rfl, rfl, by decide +kernel, rfl, by decide +kernel, by decide +kernel⟩
def sp_isrow (K : PySem.W.Frag) : Sp := fun vs H Q _ => ∃ (v : V) (r : Row) (n : Nat), vs = [v, .int n] ∧ Dp K H v r.data ∧ r.ok n ∧ ∀ H', Same H H' → Q (.bl true) H'
theorem d_is_row (T : Txt w K mg W) : DefOk P w K mg base "is_row" s_is_row ["row", "k"] 3 (sp_isrow K) := by
  refine T.f_is_row.ok sc_is_row (fun vs H Q E h => ?_) (fun f cdv A outer s H vs Q E hr h => ?_)
  · obtain ⟨v, r, n, rfl, _⟩ := h
    rfl
  · obtain ⟨v, r, nn, rfl, hd, hok, k⟩ := h
    refine ⟨_, (pss_cons (ps_if (PW.pt (pw_or (pt_not (pt_val (pe_callB (id := "isinstance") call_isi (by rfl) T.n_isinstance (by decide +kernel) (pa_cons (pv 0) (pa_cons (pe_bltn (v := .ty "tuple") (by rfl) T.n_tuple (by decide +kernel) rfl) pa_nil))))) (pw_or (pt_cmpR op_eq (pe_callB (id := "len") call_len (by rfl) T.n_len (by decide +kernel) (pa_cons (pv 0) pa_nil)) pe_int (nomark _)) (pw_or1 (pt_not (pt_val (pe_callB (id := "isinstance") call_isi (by rfl) T.n_isinstance (by decide +kernel) (pa_cons (pe_ix ix_tup (pv 0) pe_int (fun _ _ => rfl)) (pa_cons (pe_bltn (v := .ty "str") (by rfl) T.n_str (by decide +kernel) rfl) pa_nil))))))))) (pss_one (ps_ret pe_bl)) pss_nil)
      (pss_cons (ps_set (i := 2) sc_is_row.nd rfl (Or.inl rfl) (pe_ix ix_tup (pv 0) pe_int (fun _ _ => rfl)))
      (pss_cons (ps_if (pt_cmpR op_eq (pv 2) pe_str (nomark _)) (pss_one (ps_ret (pe_and (pe_cmpR op_eq (pe_callB (id := "len") call_len (by rfl) T.n_len (by decide +kernel) (pa_cons (pv 0) pa_nil)) pe_int (nomark _)) (pe_one (pe_callD (d__is_parts T) (hr.mono (by decide)) (pa_cons (pe_ix ix_tup (pv 0) pe_int (fun _ _ => rfl)) (pa_cons (pv 1) pa_nil))))))) pss_nil)
      (pss_cons (ps_if (pt_cmpR op_ne (pe_dgetK (pe_glob (v := .ref W.ROW_LENGTHS) (by rfl) T.g_ROW_LENGTHS rfl) (pv 2) ⟨rfl, rfl, rfl, rfl⟩) (pe_callB (id := "len") call_len (by rfl) T.n_len (by decide +kernel) (pa_cons (pv 0) pa_nil)) (nomark _)) (pss_one (ps_ret pe_bl)) pss_nil)
      (pss_cons (ps_if (pt_cmpR op_eq (pv 2) pe_str (nomark _)) (pss_one (ps_ret (pe_callD (d__is_signs T) (hr.mono (by decide)) (pa_cons (pe_ix ix_tup (pv 0) pe_int (fun _ _ => rfl)) (pa_cons (pe_globI T.g_MOST_TEXT_SIGNS) pa_nil))))) pss_nil)
      (pss_cons (ps_if (pt_cmpR op_eq (pv 2) pe_str (nomark _)) (pss_one (ps_ret (pe_callD (d__is_signs T) (hr.mono (by decide)) (pa_cons (pe_ix ix_tup (pv 0) pe_int (fun _ _ => rfl)) (pa_cons (pe_globI T.g_MOST_LINE_SIGNS) pa_nil))))) pss_nil)
      (pss_cons (ps_if (pt_cmpR op_eq (pv 2) pe_str (nomark _)) (pss_one (ps_ret pe_bl)) pss_nil)
      (pss_cons (ps_if (pt_cmpR op_eq (pv 2) pe_str (nomark _)) (pss_one (ps_ret (pe_and (pe_callD (d_is_between T) (hr.mono (by decide)) (pa_cons (pe_ix ix_tup (pv 0) pe_int (fun _ _ => rfl)) (pa_cons pe_int (pa_cons (pe_globI T.g_MOST_NEST) pa_nil)))) (pe_one (pe_callD (d_is_between T) (hr.mono (by decide)) (pa_cons (pe_ix ix_tup (pv 0) pe_int (fun _ _ => rfl)) (pa_cons pe_int (pa_cons (pe_op op_sub (pv 1) pe_int) pa_nil)))))))) pss_nil)
      (pss_one (ps_ret (pe_callD (d_is_between T) (hr.mono (by decide)) (pa_cons (pe_ix ix_tup (pv 0) pe_int (fun _ _ => rfl)) (pa_cons pe_int (pa_cons (pe_op op_sub (pv 1) pe_int) pa_nil)))))))))))))), ?_⟩
    cases r with
    | text z =>
      cases hd with
      | tup ht hs =>
      cases hs with | cons a1 hs =>
      cases a1
      cases hs with | cons a2 hs =>
      cases a2
      cases hs
      -- text
      obtain ⟨es, n, kl, kk, ko⟩ := T.k_ROW_LENGTHS
      obtain ⟨t, hk⟩ := T.k_ROW_LENGTHS_text
      refine ⟨_, rfl, _, _, _, _, true, rfl, .ty "tuple", tyT ht, kit_ty (by decide +kernel), true, rfl, iteF ?_⟩
      refine ⟨_, rfl, _, 2, rfl, .inr ⟨_, ht, rfl⟩, rfl, _, rfl, ifF (by decide +kernel) ?_⟩
      refine ⟨_, rfl, _, _, _, _, rfl, rfl, ht, rfl, _, _, _, _, true, rfl, .ty "str", .base (.str _), kit_ty (by decide +kernel), true, rfl, iteF ?_⟩
      refine ⟨_, rfl, _, _, _, _, rfl, rfl, ht, rfl, ?_⟩
      refine ⟨_, rfl, rfl, _, rfl, ifF (by decide +kernel) ?_⟩
      refine ⟨W.ROW_LENGTHS, es, n, rfl, kl, kk, ko, _, rfl, "text", _, .int 2, rfl, hk, ⟨t, rfl⟩, ?_⟩
      refine ⟨_, rfl, _, 2, rfl, .inr ⟨_, ht, rfl⟩, rfl, _, rfl, ifF (by decide +kernel) ?_⟩
      refine ⟨_, rfl, rfl, _, rfl, ifT (by decide +kernel) ?_⟩
      refine ⟨_, rfl, _, _, _, _, rfl, rfl, ht, rfl, ?_⟩
      exact ⟨_, 20, rfl, ⟨hok, by omega⟩, fun H' e => k H' e⟩
    | line z =>
      cases hd with
      | tup ht hs =>
      cases hs with | cons a1 hs =>
      cases a1
      cases hs with | cons a2 hs =>
      cases a2
      cases hs
      -- line
      obtain ⟨es, n, kl, kk, ko⟩ := T.k_ROW_LENGTHS
      obtain ⟨t, hk⟩ := T.k_ROW_LENGTHS_line
      refine ⟨_, rfl, _, _, _, _, true, rfl, .ty "tuple", tyT ht, kit_ty (by decide +kernel), true, rfl, iteF ?_⟩
      refine ⟨_, rfl, _, 2, rfl, .inr ⟨_, ht, rfl⟩, rfl, _, rfl, ifF (by decide +kernel) ?_⟩
      refine ⟨_, rfl, _, _, _, _, rfl, rfl, ht, rfl, _, _, _, _, true, rfl, .ty "str", .base (.str _), kit_ty (by decide +kernel), true, rfl, iteF ?_⟩
      refine ⟨_, rfl, _, _, _, _, rfl, rfl, ht, rfl, ?_⟩
      refine ⟨_, rfl, rfl, _, rfl, ifF (by decide +kernel) ?_⟩
      refine ⟨W.ROW_LENGTHS, es, n, rfl, kl, kk, ko, _, rfl, "line", _, .int 2, rfl, hk, ⟨t, rfl⟩, ?_⟩
      refine ⟨_, rfl, _, 2, rfl, .inr ⟨_, ht, rfl⟩, rfl, _, rfl, ifF (by decide +kernel) ?_⟩
      refine ⟨_, rfl, rfl, _, rfl, ifF (by decide +kernel) ?_⟩
      refine ⟨_, rfl, rfl, _, rfl, ifT (by decide +kernel) ?_⟩
      refine ⟨_, rfl, _, _, _, _, rfl, rfl, ht, rfl, ?_⟩
      exact ⟨_, 3, rfl, ⟨hok, by omega⟩, fun H' e => k H' e⟩
    | hard =>
      cases hd with
      | tup ht hs =>
      cases hs with | cons a1 hs =>
      cases a1
      cases hs
      -- hard
      obtain ⟨es, n, kl, kk, ko⟩ := T.k_ROW_LENGTHS
      obtain ⟨t, hk⟩ := T.k_ROW_LENGTHS_hard
      refine ⟨_, rfl, _, _, _, _, true, rfl, .ty "tuple", tyT ht, kit_ty (by decide +kernel), true, rfl, iteF ?_⟩
      refine ⟨_, rfl, _, 1, rfl, .inr ⟨_, ht, rfl⟩, rfl, _, rfl, ifF (by decide +kernel) ?_⟩
      refine ⟨_, rfl, _, _, _, _, rfl, rfl, ht, rfl, _, _, _, _, true, rfl, .ty "str", .base (.str _), kit_ty (by decide +kernel), true, rfl, iteF ?_⟩
      refine ⟨_, rfl, _, _, _, _, rfl, rfl, ht, rfl, ?_⟩
      refine ⟨_, rfl, rfl, _, rfl, ifF (by decide +kernel) ?_⟩
      refine ⟨W.ROW_LENGTHS, es, n, rfl, kl, kk, ko, _, rfl, "hard", _, .int 1, rfl, hk, ⟨t, rfl⟩, ?_⟩
      refine ⟨_, rfl, _, 1, rfl, .inr ⟨_, ht, rfl⟩, rfl, _, rfl, ifF (by decide +kernel) ?_⟩
      refine ⟨_, rfl, rfl, _, rfl, ifF (by decide +kernel) ?_⟩
      refine ⟨_, rfl, rfl, _, rfl, ifF (by decide +kernel) ?_⟩
      refine ⟨_, rfl, rfl, _, rfl, ifT (by decide +kernel) ?_⟩
      exact k _ (Same.refl _)
    | cat ps =>
      cases hd with
      | tup ht hs =>
      cases hs with | cons a1 hs =>
      cases a1
      cases hs with | cons a2 hs =>
      cases hs
      cases a2 with | lst hl ha =>
      rw [dps_of_ints ha] at hl
      -- cat
      obtain ⟨es, n, kl, kk, ko⟩ := T.k_ROW_LENGTHS
      obtain ⟨t, hk⟩ := T.k_ROW_LENGTHS_cat
      refine ⟨_, rfl, _, _, _, _, true, rfl, .ty "tuple", tyT ht, kit_ty (by decide +kernel), true, rfl, iteF ?_⟩
      refine ⟨_, rfl, _, 2, rfl, .inr ⟨_, ht, rfl⟩, rfl, _, rfl, ifF (by decide +kernel) ?_⟩
      refine ⟨_, rfl, _, _, _, _, rfl, rfl, ht, rfl, _, _, _, _, true, rfl, .ty "str", .base (.str _), kit_ty (by decide +kernel), true, rfl, iteF ?_⟩
      refine ⟨_, rfl, _, _, _, _, rfl, rfl, ht, rfl, ?_⟩
      refine ⟨_, rfl, rfl, _, rfl, ifT (by decide +kernel) ?_⟩
      refine ⟨_, rfl, _, 2, rfl, .inr ⟨_, ht, rfl⟩, rfl, _, rfl, ifT (by decide +kernel) ?_⟩
      refine ⟨_, rfl, _, _, _, _, rfl, rfl, ht, rfl, ?_⟩
      exact ⟨_, rfl, _, ps, _, rfl, hl, hok.1, hok.2, fun H' e => k H' e⟩
    | nest m j =>
      cases hd with
      | tup ht hs =>
      cases hs with | cons a1 hs =>
      cases a1
      cases hs with | cons a2 hs =>
      cases a2
      cases hs with | cons a3 hs =>
      cases a3
      cases hs
      -- nest
      obtain ⟨es, n, kl, kk, ko⟩ := T.k_ROW_LENGTHS
      obtain ⟨t, hk⟩ := T.k_ROW_LENGTHS_nest
      refine ⟨_, rfl, _, _, _, _, true, rfl, .ty "tuple", tyT ht, kit_ty (by decide +kernel), true, rfl, iteF ?_⟩
      refine ⟨_, rfl, _, 3, rfl, .inr ⟨_, ht, rfl⟩, rfl, _, rfl, ifF (by decide +kernel) ?_⟩
      refine ⟨_, rfl, _, _, _, _, rfl, rfl, ht, rfl, _, _, _, _, true, rfl, .ty "str", .base (.str _), kit_ty (by decide +kernel), true, rfl, iteF ?_⟩
      refine ⟨_, rfl, _, _, _, _, rfl, rfl, ht, rfl, ?_⟩
      refine ⟨_, rfl, rfl, _, rfl, ifF (by decide +kernel) ?_⟩
      refine ⟨W.ROW_LENGTHS, es, n, rfl, kl, kk, ko, _, rfl, "nest", _, .int 3, rfl, hk, ⟨t, rfl⟩, ?_⟩
      refine ⟨_, rfl, _, 3, rfl, .inr ⟨_, ht, rfl⟩, rfl, _, rfl, ifF (by decide +kernel) ?_⟩
      refine ⟨_, rfl, rfl, _, rfl, ifF (by decide +kernel) ?_⟩
      refine ⟨_, rfl, rfl, _, rfl, ifF (by decide +kernel) ?_⟩
      refine ⟨_, rfl, rfl, _, rfl, ifF (by decide +kernel) ?_⟩
      refine ⟨_, rfl, rfl, _, rfl, ifT (by decide +kernel) ?_⟩
      refine ⟨_, rfl, _, _, _, _, rfl, rfl, ht, rfl, ?_⟩
      refine ⟨_, _, _, rfl, hok.1, hok.2.1, _, rfl, iteT ?_⟩
      refine ⟨_, rfl, _, _, _, _, rfl, rfl, ht, rfl, ?_⟩
      exact ⟨_, rfl, _, _, rfl, rfl, _, _, _, rfl, hok.2.2.1, by have := hok.2.2.2; omega, k _ (Same.refl _)⟩
    | align j =>
      cases hd with
      | tup ht hs =>
      cases hs with | cons a1 hs =>
      cases a1
      cases hs with | cons a2 hs =>
      cases a2
      cases hs
      -- align
      obtain ⟨es, n, kl, kk, ko⟩ := T.k_ROW_LENGTHS
      obtain ⟨t, hk⟩ := T.k_ROW_LENGTHS_align
      refine ⟨_, rfl, _, _, _, _, true, rfl, .ty "tuple", tyT ht, kit_ty (by decide +kernel), true, rfl, iteF ?_⟩
      refine ⟨_, rfl, _, 2, rfl, .inr ⟨_, ht, rfl⟩, rfl, _, rfl, ifF (by decide +kernel) ?_⟩
      refine ⟨_, rfl, _, _, _, _, rfl, rfl, ht, rfl, _, _, _, _, true, rfl, .ty "str", .base (.str _), kit_ty (by decide +kernel), true, rfl, iteF ?_⟩
      refine ⟨_, rfl, _, _, _, _, rfl, rfl, ht, rfl, ?_⟩
      refine ⟨_, rfl, rfl, _, rfl, ifF (by decide +kernel) ?_⟩
      refine ⟨W.ROW_LENGTHS, es, n, rfl, kl, kk, ko, _, rfl, "align", _, .int 2, rfl, hk, ⟨t, rfl⟩, ?_⟩
      refine ⟨_, rfl, _, 2, rfl, .inr ⟨_, ht, rfl⟩, rfl, _, rfl, ifF (by decide +kernel) ?_⟩
      refine ⟨_, rfl, rfl, _, rfl, ifF (by decide +kernel) ?_⟩
      refine ⟨_, rfl, rfl, _, rfl, ifF (by decide +kernel) ?_⟩
      refine ⟨_, rfl, rfl, _, rfl, ifF (by decide +kernel) ?_⟩
      refine ⟨_, rfl, rfl, _, rfl, ifF (by decide +kernel) ?_⟩
      refine ⟨_, rfl, _, _, _, _, rfl, rfl, ht, rfl, ?_⟩
      exact ⟨_, rfl, _, _, rfl, rfl, _, _, _, rfl, hok.1, by have := hok.2; omega, k _ (Same.refl _)⟩
    | group j =>
      cases hd with
      | tup ht hs =>
      cases hs with | cons a1 hs =>
      cases a1
      cases hs with | cons a2 hs =>
      cases a2
      cases hs
      -- group
      obtain ⟨es, n, kl, kk, ko⟩ := T.k_ROW_LENGTHS
      obtain ⟨t, hk⟩ := T.k_ROW_LENGTHS_group
      refine ⟨_, rfl, _, _, _, _, true, rfl, .ty "tuple", tyT ht, kit_ty (by decide +kernel), true, rfl, iteF ?_⟩
      refine ⟨_, rfl, _, 2, rfl, .inr ⟨_, ht, rfl⟩, rfl, _, rfl, ifF (by decide +kernel) ?_⟩
      refine ⟨_, rfl, _, _, _, _, rfl, rfl, ht, rfl, _, _, _, _, true, rfl, .ty "str", .base (.str _), kit_ty (by decide +kernel), true, rfl, iteF ?_⟩
      refine ⟨_, rfl, _, _, _, _, rfl, rfl, ht, rfl, ?_⟩
      refine ⟨_, rfl, rfl, _, rfl, ifF (by decide +kernel) ?_⟩
      refine ⟨W.ROW_LENGTHS, es, n, rfl, kl, kk, ko, _, rfl, "group", _, .int 2, rfl, hk, ⟨t, rfl⟩, ?_⟩
      refine ⟨_, rfl, _, 2, rfl, .inr ⟨_, ht, rfl⟩, rfl, _, rfl, ifF (by decide +kernel) ?_⟩
      refine ⟨_, rfl, rfl, _, rfl, ifF (by decide +kernel) ?_⟩
      refine ⟨_, rfl, rfl, _, rfl, ifF (by decide +kernel) ?_⟩
      refine ⟨_, rfl, rfl, _, rfl, ifF (by decide +kernel) ?_⟩
      refine ⟨_, rfl, rfl, _, rfl, ifF (by decide +kernel) ?_⟩
      refine ⟨_, rfl, _, _, _, _, rfl, rfl, ht, rfl, ?_⟩
      exact ⟨_, rfl, _, _, rfl, rfl, _, _, _, rfl, hok.1, by have := hok.2; omega, k _ (Same.refl _)⟩
end
end Lw

namespace Lw
open PySem PySem.Spec PyProof.Rows L2 VW TL
local macro_rules | `(tactic| walk_at "rdc") => `(tactic| first | assumption | rfl | decide | omega | exact Or.inr ⟨by decide, by decide⟩ | exact ⟨by decide, by decide⟩ | exact ⟨by decide, by decide, by decide⟩ | (show (0 : Int) < _; omega) | (show (0 : Int) < _ ∧ _ < (1073741824 : Int); omega) | (show (-(2 ^ 64) < _ ∧ _ < 2 ^ 64) ∨ (-(2 ^ 64) < _ ∧ _ < 2 ^ 64); omega) | (show (-(2 ^ 64) < _ ∧ _ < 2 ^ 64) ∨ (-(2 ^ 64) < _ ∧ _ < 2 ^ 64); right; split <;> decide) | exact Nat.le_of_ble_eq_true rfl)
local macro_rules | `(tactic| walk_at "rd1") => `(tactic| first | refine ⟨_, rfl, ?_⟩ | refine And.intro (by walk_at "rdc") ?_ | refine ⟨_, _, rfl, rfl, ?_⟩ | refine Or.inl ⟨_, rfl, ?_⟩ | refine Or.inr ⟨_, rfl, ?_⟩ | refine ⟨_, _, _, _, rfl, rfl, sqlO (by first | assumption | exact upd_same), rfl, ?_⟩ | refine ⟨_, _, _, _, rfl, rfl, (by first | assumption | exact upd_same), rfl, ?_⟩)
local macro_rules | `(tactic| walk_at "rd") => `(tactic| repeat (walk_at "rd1"))

section
variable {P : Program} {w : World} {K : PySem.W.Frag} {mg : Str → Option Value} {base : Heap} {W : Wd}
/-- a row that is read: its tuple in the view, the list of a cat in the heap -/
def RowIn (K : PySem.W.Frag) (U H : Hp) (v : V) : Row → Prop
  | .cat ps => ∃ a l, v = .ref a ∧ SqT K U a [.str "cat", .ref l] ∧ SqL K H l (ps.map V.int)
  | r => Dp K U v r.data
/-- a copied row: the new list of a cat stands outside of the view -/
def RowNew (K : PySem.W.Frag) (U H H' : Hp) (v : V) : Row → Prop
  | .cat ps => ∃ q l, v = .ref q ∧ U q = some (.tup [.str "cat", .ref l]) ∧ U l = none ∧ H l = none ∧ H' l = some (.lst (ps.map V.int))
  | r => Dp K U v r.data
theorem RowIn.of {U H : Hp} {v : V} {r : Row} (s : Same U H) (h : Dp K U v r.data) : RowIn K U H v r := by
  cases r with
  | cat ps =>
    cases h with
    | tup ht hs =>
      cases hs with | cons a1 hs =>
      cases a1
      cases hs with | cons a2 hs =>
      cases hs
      cases a2 with | lst hl ha =>
      rw [dps_of_ints ha] at hl
      exact ⟨_, _, rfl, ht, sqlS s hl⟩
  | _ => exact h
theorem RowIn.dp {U H : Hp} {v : V} {r : Row} (s : Same U H) (h : RowIn K U H v r) : Dp K H v r.data := by
  cases r with
  | cat ps =>
    obtain ⟨a, l, rfl, h1, h2⟩ := h
    exact .tup (sqtS s h1) (.cons (.str _) (.cons (.lst h2 (dps_ints ps)) .nil))
  | _ => exact dpS s h
theorem RowIn.mono {U H U' H' : Hp} {v : V} {r : Row} (s : Same U U') (s2 : Same H H') (h : RowIn K U H v r) : RowIn K U' H' v r := by
  cases r with
  | cat ps =>
    obtain ⟨a, l, rfl, h1, h2⟩ := h
    exact ⟨a, l, rfl, sqtS s h1, sqlS s2 h2⟩
  | _ => exact dpS s h
/-- the copy is told of -/
theorem RowNew.tell {S : Addr → Prop} {U0 H0 U H H' : Hp} {v : V} {r : Row} (g : Gr S U0 H0 U H') (h : RowNew K U H H' v r) (h0 : ∀ b, H b = none → H0 b = none) :
    ∃ U', Gr S U0 H0 U' H' ∧ Same U U' ∧ Dp K U' v r.data ∧ ∀ b, H b ≠ none → U' b = U b := by
  cases r with
  | cat ps =>
    obtain ⟨q, l, rfl, h1, h2, h3, h4⟩ := h
    have g' := g.tell (h0 l h3) h4 h2
    have nq : q ≠ l := ne_of_none h1 h2
    refine ⟨_, g', fun b o e => by rw [upd_ne (ne_of_none e h2)]; exact e, dp_tup (by rw [upd_ne nq]; exact h1) (.cons (.str _) (.cons (dp_lst upd_same (dps_ints ps)) .nil)), fun b hb => ?_⟩
    have : b ≠ l := fun e => hb (by rw [e]; exact h3)
    rw [upd_ne this]
  | _ => exact ⟨U, g, Same.refl _, h, fun _ _ => rfl⟩
theorem sc_copied_row : FnScope ["row"] ["row"] (defScope s_copied_row) := ⟨rfl, rfl, rfl, by decide +kernel, rfl, by decide +kernel, by decide +kernel⟩
def sp_copied (K : PySem.W.Frag) : Sp := fun vs H Q _ => ∃ (v : V) (r : Row) (U : Hp), vs = [v] ∧ Same U H ∧ RowIn K U H v r ∧ ∀ (v' : V) (U' H' : Hp), Gr S0 U H U' H' → RowNew K U' H H' v' r → Q v' H'
theorem d_copied_row (T : Txt w K mg W) : DefOk P w K mg base "copied_row" s_copied_row ["row"] 1 (sp_copied K) := by
  refine T.f_copied_row.ok sc_copied_row (fun vs H Q E h => ?_) (fun f cdv A outer s H vs Q E hr h => ?_)
  · obtain ⟨v, r, U, rfl, _⟩ := h
    rfl
  · obtain ⟨v, r, U, rfl, s1, hd, k⟩ := h
    refine ⟨_, (pss_cons (ps_if (pt_cmpR op_eq (pe_ix ix_tup (pv 0) pe_int (fun _ _ => rfl)) pe_str (nomark _)) (pss_one (ps_ret (pe_tup (pa_cons pe_str (pa_cons (pe_callTy (T := "list") call_list_of (by rfl) T.n_list (by decide +kernel) (pa_cons (pe_ix ix_tup (pv 0) pe_int (fun _ _ => rfl)) pa_nil)) pa_nil))))) pss_nil)
      (pss_one (ps_ret (pv 0)))), ?_⟩
    have plain : ∀ (kd : Str) (ds : List PyData), r.data = .tuple (.str kd :: ds) → decide (V.str kd = V.str "cat") = false → ∃ a xs, v = .ref a ∧ SqT K H a (.str kd :: xs) := fun kd ds e _ => by
      have q := hd.dp s1
      rw [e] at q
      cases q with
      | tup ht hs =>
        cases hs with | cons a1 hs =>
        cases a1
        exact ⟨_, _, rfl, ht⟩
    cases r with
    | cat ps =>
      obtain ⟨a, l, rfl, h1, h2⟩ := hd
      refine ⟨_, rfl, _, _, _, _, rfl, rfl, sqtS s1 h1, rfl, rfl, _, rfl, ifT (by decide +kernel) ?_⟩
      refine ⟨_, rfl, _, _, _, _, rfl, rfl, sqtS s1 h1, rfl, _, _, rfl, .inl h2, fun l' hl' => ?_⟩
      refine ⟨Nat.le_of_ble_eq_true rfl, fun q hq => ?_⟩
      have g1 := (Gr.refl (S := S0) s1).newH (o := .lst (ps.map V.int)) hl'
      have g2 := g1.new (o := .tup [.str "cat", .ref l']) hq
      have nlq : l' ≠ q := ne_of_none upd_same hq
      exact k _ _ _ g2 ⟨q, l', rfl, upd_same, by rw [upd_ne nlq]; exact vfree s1 hl', hl', by rw [upd_ne nlq]; exact upd_same⟩
    | _ =>
      obtain ⟨a, xs, rfl, ht⟩ := plain _ _ rfl (by decide +kernel)
      refine ⟨_, rfl, _, _, _, _, rfl, rfl, ht, at_of (j := 0) rfl rfl, ?_⟩
      refine ⟨rfl, _, rfl, ifF (by decide +kernel) ?_⟩
      exact ⟨_, rfl, k _ _ _ (Gr.refl s1) hd⟩
def RowsIn (K : PySem.W.Frag) (U H : Hp) (vs : List V) (rs : List Row) : Prop := vs.length = rs.length ∧ ∀ (i : Nat) (v : V) (r : Row), vs[i]? = some v → rs[i]? = some r → RowIn K U H v r
theorem RowsIn.dp {U H : Hp} {vs : List V} {rs : List Row} (s : Same U H) (h : RowsIn K U H vs rs) : DpAll K H vs (rs.map Row.data) := by
  induction vs generalizing rs with
  | nil =>
    cases rs with
    | nil => exact .nil
    | cons r rs => cases h.1
  | cons v vs ih =>
    cases rs with
    | nil => cases h.1
    | cons r rs => exact .cons ((h.2 0 v r rfl rfl).dp s) (ih ⟨by have := h.1; simpa using this, fun i a b e1 e2 => h.2 (i + 1) a b e1 e2⟩)
theorem RowsIn.of {U H : Hp} {vs : List V} {rs : List Row} (s : Same U H) (h : DpAll K U vs (rs.map Row.data)) : RowsIn K U H vs rs := by
  refine ⟨by rw [dps_length h, List.length_map], fun i v r e1 e2 => ?_⟩
  obtain ⟨d, h1, h2⟩ := dps_get h e1
  rw [List.getElem?_map, e2] at h1
  cases h1
  exact .of s h2
theorem RowsIn.mono {U H U' H' : Hp} {vs : List V} {rs : List Row} (s : Same U U') (s2 : Same H H') (h : RowsIn K U H vs rs) : RowsIn K U' H' vs rs := ⟨h.1, fun i v r e1 e2 => (h.2 i v r e1 e2).mono s s2⟩
theorem sc__checked_rows : FnScope ["rows", "checked", "k", "row"] ["rows"] (defScope s__checked_rows) := ⟨rfl, rfl, rfl, by decide +kernel, rfl, by decide +kernel, by decide +kernel⟩
def sp_checked (K : PySem.W.Frag) : Sp := fun vs H Q _ => ∃ (a : Addr) (xs : List V) (rs : List Row) (U : Hp), vs = [.ref a] ∧ Same U H ∧ SqL K H a xs ∧ RowsIn K U H xs rs ∧ OkRows rs ∧ 0 < rs.length ∧ rs.length ≤ 200 ∧
  ∀ (D : Addr) (ws : List V) (U' H' : Hp), Gr S0 U H U' H' → H D = none → U' D = some (.lst ws) → DpAll K U' ws (rs.map Row.data) → Q (.ref D) H'
theorem d__checked_rows (T : Txt w K mg W) : DefOk P w K mg base "_checked_rows" s__checked_rows ["rows"] 4 (sp_checked K) := by
  refine T.f__checked_rows.ok sc__checked_rows (fun vs H Q E h => ?_) (fun f cdv A outer s H vs Q E hr h => ?_)
  · obtain ⟨a, xs, rs, U, rfl, _⟩ := h
    rfl
  · obtain ⟨a, xs, rs, U, rfl, s1, hl, hin, hok, h0, h200, k⟩ := h
    have hlen : xs.length = rs.length := hin.1
    refine ⟨_, (pss_cons (ps_if (PW.pt (pw_or (pt_not (pt_val (pe_callB (id := "isinstance") call_isi (by rfl) T.n_isinstance (by decide +kernel) (pa_cons (pv 0) (pa_cons (pe_bltn (v := .ty "list") (by rfl) T.n_list (by decide +kernel) rfl) pa_nil))))) (pw_or1 (pt_not (pt_chain op_le op_le pe_int (pe_callB (id := "len") call_len (by rfl) T.n_len (by decide +kernel) (pa_cons (pv 0) pa_nil)) (pe_globI T.g_MOST_ROWS)))))) (pss_one ps_never) pss_nil)
      (pss_cons (ps_set (i := 1) sc__checked_rows.nd rfl (Or.inl rfl) (pe_lst pa_nil))
      (pss_cons (ps_for PassesOwn.never rfl (pi_enum (by rfl) T.n_enumerate (pa_cons (pv 0) pa_nil)) (pg_tup rfl (pgs_cons (pg_name (i := 2) sc__checked_rows.nd rfl (Or.inl rfl)) (pgs_cons (pg_name (i := 3) sc__checked_rows.nd rfl (Or.inl rfl)) pgs_nil)))
      (pss_cons (ps_if (pt_not (pt_val (pe_callD (d_is_row T) (hr.mono (by decide)) (pa_cons (pv 3) (pa_cons (pv 2) pa_nil))))) (pss_one ps_never) pss_nil)
      (pss_one (ps_expr (pe_bm PySem.F.plainAttrs_list PySem.F.slot_list_append PySem.F.type_list_append mt_append (pv 1) (pa_cons (pe_callD (d_copied_row T) (hr.mono (by decide)) (pa_cons (pv 3) pa_nil)) pa_nil))))))
      (pss_one (ps_ret (pv 1)))))), ?_⟩
    refine ⟨_, rfl, _, _, _, _, true, rfl, .ty "list", tyL hl, kit_ty (by decide +kernel), true, rfl, iteF ?_⟩
    refine ⟨_, rfl, _, _, rfl, .inl ⟨_, hl, rfl⟩, ?_⟩
    refine ⟨_, _, rfl, rfl, _, rfl, ifT (decide_eq_true (by omega)) ?_⟩
    refine ⟨_, _, rfl, rfl, _, rfl, ifF (by rw [decide_eq_true (show (xs.length : Int) ≤ 200 by omega)]; rfl) ?_⟩
    refine ⟨Nat.le_of_ble_eq_true rfl, fun D hD => ?_⟩
    have smD : Same H (upd H D (.lst [])) := fun b o e => by rw [upd_ne (ne_of_none e hD)]; exact e
    refine ⟨_, rfl, _, _, rfl, sqlS smD hl, ?_⟩
    refine for_it walk_enum (fun i σ H' => ∃ (v1 v2 : Option V) (U' : Hp) (ws : List V), σ = [some (.ref a), some (.ref D), v1, v2] ∧ Gr S0 U H U' H' ∧ U' D = none ∧ H' D = some (.lst ws) ∧ DpAll K U' ws ((rs.take i).map Row.data)) ⟨none, none, U, [], rfl, (Gr.refl s1).newH hD, vfree s1 hD, upd_same, .nil⟩ (fun i σ H' _ ⟨_, _, _, _, _, g, _⟩ => sqlS g.same hl) ?_ ?_
    · rintro i x σ H1 H2 hi ⟨v1, v2, U', ws, rfl, g, v0, hd, hdp⟩ ⟨t, y1, y2, rfl, ht, rfl, e1, e2⟩
      cases e1
      have hi : i < rs.length := by rw [← hlen]; exact (List.getElem?_eq_some_iff.mp e2).1
      have hr2 : rs[i]? = some rs[i] := List.getElem?_eq_getElem hi
      have hrow := hin.2 i y2 _ e2 hr2
      have nDt : D ≠ t := ne_of_none hd ht
      have g1 : Gr S0 U H U' (upd H1 t (.tup [.int (i : Nat), y2])) := g.newH ht
      refine ⟨t, _, rfl, sqtO upd_same, rfl, _, _, rfl, _, _, rfl, rfl, ?_⟩
      refine ⟨_, rfl, _, rfl, _, rs[i], i, rfl, (hrow.mono (Same.refl _) g1.same).dp (s1.trans g1.same), hok i _ hr2, fun H3 sm3 => ?_⟩
      have g2 : Gr S0 U H U' H3 := g1.grow sm3
      have hd2 : H3 D = some (.lst ws) := sm3 _ _ (by rw [upd_ne nDt]; exact hd)
      refine ⟨true, rfl, iteF ?_⟩
      refine ⟨_, rfl, .inl ⟨rfl, _, sqlO hd2⟩, ?_⟩
      refine ⟨_, rfl, y2, rs[i], U', rfl, g2.s, hrow.mono g2.v g2.same, fun v' U4 H4 g4 hnew => ?_⟩
      obtain ⟨U5, g5, s5, dp5, keep⟩ := hnew.tell (g2.trans g4) fun b e => g2.free e
      have hd4 : H4 D = some (.lst ws) := g4.same _ _ hd2
      have u5D : U5 D = none := (keep D (some_ne hd2)).trans (g4.out (some_ne hd2) v0)
      refine ⟨_, _, _, rfl, rfl, hd4, ?_, ?_⟩
      · rw [dps_length hdp, List.length_map, List.length_take]
        exact small1000 (by omega)
      · refine ⟨_, _, U5, ws ++ [v'], rfl, g5.mut (.inr hD) u5D, u5D, upd_same, ?_⟩
        rw [List.take_succ, hr2, List.map_append]
        exact dps_append (dpsS (g4.v.trans s5) hdp) (.cons dp5 .nil)
    · rintro σ H2 ⟨v1, v2, U', ws, rfl, g, v0, hd, hdp⟩
      rw [hlen, List.take_length] at hdp
      exact ⟨_, rfl, k D ws _ _ (g.tell hD hd v0) hD upd_same (dpsS (fun b o e => by rw [upd_ne (ne_of_none e v0)]; exact e) hdp)⟩
end
end Lw

namespace Lw
open PySem PySem.Spec PyProof.Rows L2 VW TL
local macro_rules | `(tactic| walk_at "rdc") => `(tactic| first | assumption | rfl | decide | omega | exact Or.inr ⟨by decide, by decide⟩ | exact ⟨by decide, by decide⟩ | exact ⟨by decide, by decide, by decide⟩ | (show (0 : Int) < _; omega) | (show (0 : Int) < _ ∧ _ < (1073741824 : Int); omega) | (show (-(2 ^ 64) < _ ∧ _ < 2 ^ 64) ∨ (-(2 ^ 64) < _ ∧ _ < 2 ^ 64); omega) | (show (-(2 ^ 64) < _ ∧ _ < 2 ^ 64) ∨ (-(2 ^ 64) < _ ∧ _ < 2 ^ 64); right; split <;> decide) | exact Nat.le_of_ble_eq_true rfl)
local macro_rules | `(tactic| walk_at "rd1") => `(tactic| first | refine ⟨_, rfl, ?_⟩ | refine And.intro (by walk_at "rdc") ?_ | refine ⟨_, _, rfl, rfl, ?_⟩ | refine Or.inl ⟨_, rfl, ?_⟩ | refine Or.inr ⟨_, rfl, ?_⟩ | refine ⟨_, _, _, _, rfl, rfl, sqlO (by first | assumption | exact upd_same), rfl, ?_⟩ | refine ⟨_, _, _, _, rfl, rfl, (by first | assumption | exact upd_same), rfl, ?_⟩)
local macro_rules | `(tactic| walk_at "rd") => `(tactic| repeat (walk_at "rd1"))

section
variable {P : Program} {w : World} {K : PySem.W.Frag} {mg : Str → Option Value} {base : Heap} {W : Wd}
abbrev docF (l : Addr) : List (Str × V) := [("_rows", .ref l), ("facts", .non), ("group_facts", .non)]
theorem lk_rows (l : Addr) : List.lookup ("_rows" : Str) (docF l) = some (.ref l) := by simp [List.lookup]
theorem lk_no {m : Str} (l : Addr) (h : ¬ m = "_rows") (h2 : ¬ m = "facts") (h3 : ¬ m = "group_facts") : List.lookup m (docF l) = none := by
  have q : (m == ("_rows" : Str)) = false := by simpa using h
  have q2 : (m == ("facts" : Str)) = false := by simpa using h2
  have q3 : (m == ("group_facts" : Str)) = false := by simpa using h3
  simp [List.lookup, q, q2, q3]
/-- a document in the view -/
def DocAt (K : PySem.W.Frag) (C : Addr) (U : Hp) (x : Addr) (rs : List Row) : Prop := ∃ (dx l : Addr) (ws : List V), U x = some (.ins C dx (docF l)) ∧ U l = some (.lst ws) ∧ DpAll K U ws (rs.map Row.data)
theorem DocAt.mono {C : Addr} {U U' : Hp} {x : Addr} {rs : List Row} (s : Same U U') (h : DocAt K C U x rs) : DocAt K C U' x rs := by
  obtain ⟨dx, l, ws, h1, h2, h3⟩ := h
  exact ⟨dx, l, ws, s _ _ h1, s _ _ h2, dpsS s h3⟩
theorem sc_Doc___init__ : FnScope ["self", "rows"] ["self", "rows"] (defScope s_Doc___init__) := ⟨rfl, rfl, rfl, by decide +kernel, rfl, by decide +kernel, by decide +kernel⟩
def sp_init (K : PySem.W.Frag) (C : Addr) : Sp := fun vs H Q _ => ∃ (x dx a : Addr) (xs : List V) (rs : List Row) (U : Hp), vs = [.ref x, .ref a] ∧ H x = some (.ins C dx []) ∧ Same U H ∧ U x = none ∧ SqL K H a xs ∧ RowsIn K U H xs rs ∧ OkRows rs ∧ 0 < rs.length ∧ rs.length ≤ 200 ∧
  ∀ (l : Addr) (ws : List V) (U' H' : Hp), Gr (fun b => b = x) U H U' H' → U' x = none → U' l = some (.lst ws) → DpAll K U' ws (rs.map Row.data) → H' x = some (.ins C dx (docF l)) → Q .non H'
theorem d_Doc___init__ (T : Txt w K mg W) : MethOk P w K mg base W.c_Doc "__init__" "Doc.__init__" s_Doc___init__ ["self", "rows"] 5 (sp_init K W.c_Doc) := by
  refine T.f_Doc___init__.ok sc_Doc___init__ (fun vs H Q E h => ?_) (fun f cdv A outer s H vs Q E hr h => ?_)
  · obtain ⟨x, dx, a, xs, rs, U, rfl, _⟩ := h
    rfl
  · obtain ⟨x, dx, a, xs, rs, U, rfl, hx, s1, ux, ha, hin, hok, h0, h200, k⟩ := h
    refine ⟨_, (pss_cons (ps_fld (pv 0) (pe_callD (d__checked_rows T) (hr.mono (by decide)) (pa_cons (pv 1) pa_nil)) rfl)
      (pss_cons (ps_fld (pv 0) pe_non rfl)
      (pss_one (ps_fld (pv 0) pe_non rfl)))), ?_⟩
    refine ⟨_, rfl, a, xs, rs, U, rfl, s1, ha, hin, hok, h0, h200, fun D ws U' H1 g hD hl hdp => ?_⟩
    have hx1 := g.same _ _ hx
    have ux1 : U' x = none := g.out (some_ne hx) ux
    refine ⟨_, rfl, x, W.c_Doc, dx, [], rfl, hx1, T.cl_Doc, T.na_Doc__rows, by decide, ?_⟩
    have g5 := (g.of0 (S := fun b => b = x)).mut (o := .ins W.c_Doc dx [("_rows", .ref D)]) (.inl rfl) ux1
    refine ⟨_, rfl, x, W.c_Doc, dx, _, rfl, upd_same, T.cl_Doc, T.na_Doc_facts, Nat.lt_of_lt_of_le (Nat.lt_succ_self 1) (by decide), ?_⟩
    have g6 := g5.mut (o := .ins W.c_Doc dx [("_rows", .ref D), ("facts", .non)]) (.inl rfl) ux1
    refine ⟨_, rfl, x, W.c_Doc, dx, _, rfl, upd_same, T.cl_Doc, T.na_Doc_group_facts, Nat.lt_of_lt_of_le (Nat.lt_succ_self 2) (by decide), ?_⟩
    exact k D ws _ _ (g6.mut (.inl rfl) ux1) ux1 hl hdp upd_same
end
end Lw

namespace Lw
open PySem PySem.Spec PyProof.Rows L2 VW TL
local macro_rules | `(tactic| walk_at "rdc") => `(tactic| first | assumption | rfl | decide | omega | exact Or.inr ⟨by decide, by decide⟩ | exact ⟨by decide, by decide⟩ | exact ⟨by decide, by decide, by decide⟩ | (show (0 : Int) < _; omega) | (show (0 : Int) < _ ∧ _ < (1073741824 : Int); omega) | (show (-(2 ^ 64) < _ ∧ _ < 2 ^ 64) ∨ (-(2 ^ 64) < _ ∧ _ < 2 ^ 64); omega) | (show (-(2 ^ 64) < _ ∧ _ < 2 ^ 64) ∨ (-(2 ^ 64) < _ ∧ _ < 2 ^ 64); right; split <;> decide) | exact Nat.le_of_ble_eq_true rfl)
local macro_rules | `(tactic| walk_at "rd1") => `(tactic| first | refine ⟨_, rfl, ?_⟩ | refine And.intro (by walk_at "rdc") ?_ | refine ⟨_, _, rfl, rfl, ?_⟩ | refine Or.inl ⟨_, rfl, ?_⟩ | refine Or.inr ⟨_, rfl, ?_⟩ | refine ⟨_, _, _, _, rfl, rfl, sqlO (by first | assumption | exact upd_same), rfl, ?_⟩ | refine ⟨_, _, _, _, rfl, rfl, (by first | assumption | exact upd_same), rfl, ?_⟩)
local macro_rules | `(tactic| walk_at "rd") => `(tactic| repeat (walk_at "rd1"))

section
variable {P : Program} {w : World} {K : PySem.W.Frag} {mg : Str → Option Value} {base : Heap} {W : Wd}
theorem RowNew.mono {U H H' U2 H2 : Hp} {v : V} {r : Row} (h : RowNew K U H H' v r) (g : Gr S0 U H' U2 H2) : RowNew K U2 H H2 v r := by
  cases r with
  | cat ps =>
    obtain ⟨q, l, rfl, h1, h2, h3, h4⟩ := h
    exact ⟨q, l, rfl, g.v _ _ h1, g.out (some_ne h4) h2, h3, g.same _ _ h4⟩
  | _ => exact dpS g.v h
def RowsNew (K : PySem.W.Frag) (U H H' : Hp) (vs : List V) (rs : List Row) : Prop := vs.length = rs.length ∧ ∀ (i : Nat) (v : V) (r : Row), vs[i]? = some v → rs[i]? = some r → RowNew K U H H' v r
theorem RowNew.put {U H H' : Hp} {v : V} {r : Row} {D : Addr} {o : HO} (h : RowNew K U H H' v r) (hD : H D ≠ none) : RowNew K U H (upd H' D o) v r := by
  cases r with
  | cat ps =>
    obtain ⟨q, l, rfl, h1, h2, h3, h4⟩ := h
    have hne : l ≠ D := fun e => hD (by rw [← e]; exact h3)
    exact ⟨q, l, rfl, h1, h2, h3, by rw [upd_ne hne]; exact h4⟩
  | _ => exact h
theorem RowNew.lower {U H Hd H' : Hp} {v : V} {r : Row} (h : RowNew K U Hd H' v r) (hb : ∀ b, Hd b = none → H b = none) : RowNew K U H H' v r := by
  cases r with
  | cat ps =>
    obtain ⟨q, l, rfl, h1, h2, h3, h4⟩ := h
    exact ⟨q, l, rfl, h1, h2, hb l h3, h4⟩
  | _ => exact h
theorem upd_none {H : Hp} {D b : Addr} {o : HO} (h : upd H D o b = none) : H b = none := by
  by_cases e : b = D
  · rw [e, upd_same] at h
    cases h
  · rw [upd_ne e] at h
    exact h
theorem sc_Doc_row_list : FnScope ["self", "row"] ["self"] (defScope s_Doc_row_list) := ⟨rfl, rfl, rfl, by decide +kernel, rfl, by decide +kernel, by decide +kernel⟩
def sp_rowlist (K : PySem.W.Frag) (C : Addr) : Sp := fun vs H Q _ => ∃ (x : Addr) (rs : List Row) (U : Hp), vs = [.ref x] ∧ Same U H ∧ DocAt K C U x rs ∧ rs.length ≤ 200 ∧
  ∀ (p : Addr) (ws : List V) (U' H' Hb : Hp), Gr S0 U H U' H' → H p = none → U' p = none → H' p = some (.lst ws) → (∀ b, Hb b = none → H b = none) → Hb p ≠ none → RowsNew K U' Hb H' ws rs → Q (.ref p) H'
theorem d_Doc_row_list (T : Txt w K mg W) : MethOk P w K mg base W.c_Doc "row_list" "Doc.row_list" s_Doc_row_list ["self"] 2 (sp_rowlist K W.c_Doc) := by
  refine T.f_Doc_row_list.ok sc_Doc_row_list (fun vs H Q E h => ?_) (fun f cdv A outer s H vs Q E hr h => ?_)
  · obtain ⟨x, rs, U, rfl, _⟩ := h
    rfl
  · obtain ⟨x, rs, U, rfl, s1, ⟨dx, l, ws, hx, hl, hd⟩, h200, k⟩ := h
    have hlen : ws.length = rs.length := by rw [dps_length hd, List.length_map]
    refine ⟨_, (pss_one (ps_ret (pe_lc (own := [("row", 1)]) (g := (gName 1)) (tt := tYes) rfl sc_Doc_row_list.nd (pi_list (pe_fld (pv 0) rfl)) (blkOk_by (own := [("row", 1)]) (N := ["self", "row"]) (sc := defScope s_Doc_row_list) (by decide +kernel)) (fun _ _ _ _ _ => (pg_name (i := 1) sc_Doc_row_list.nd rfl (Or.inl rfl))) (fun _ _ _ _ _ => pts_nil) (fun _ _ _ _ _ => (pe_callD (d_copied_row T) (hr.mono (by decide)) (pa_cons (pv 1) pa_nil)))))), ?_⟩
    refine ⟨_, rfl, x, W.c_Doc, dx, _, _, rfl, s1 _ _ hx, T.cl_Doc, T.na_Doc__rows, lk_rows _, l, rfl, ⟨_, sqlO (s1 _ _ hl)⟩, fun D hD => ?_⟩
    have hDn : (upd H D (.lst [])) D ≠ none := some_ne upd_same
    refine lc_list (xs := ws) (fun i H' => ∃ (U' : Hp) (vs : List V), Gr (fun b => b = D) U (upd H D (.lst [])) U' H' ∧ U' D = none ∧ H' D = some (.lst vs) ∧ RowsNew K U' (upd H D (.lst [])) H' vs (rs.take i)) ?_ (fun i H' _ ⟨U', vs, g, _⟩ => sqlO (g.s _ _ (g.v _ _ hl))) ?_ ?_
    · exact ⟨U, [], Gr.refl ((Gr.refl (S := S0) s1).newH hD).s, vfree s1 hD, upd_same, rfl, fun i v r e => by simp at e⟩
    · rintro i v H2 hv ⟨U', vs, g, v0, hdD, hn⟩
      have hi : i < rs.length := by rw [← hlen]; exact (List.getElem?_eq_some_iff.mp hv).1
      have hr2 : rs[i]? = some rs[i] := List.getElem?_eq_getElem hi
      obtain ⟨d, e1, e2⟩ := dps_get hd hv
      rw [List.getElem?_map, hr2] at e1
      cases e1
      refine ⟨rfl, ?_⟩
      refine ⟨_, rfl, v, rs[i], U', rfl, g.s, .of g.s (dpS g.v e2), fun v' U3 H3 g3 hnew => ?_⟩
      have hd3 : H3 D = some (.lst vs) := g3.same _ _ hdD
      have u3D : U3 D = none := g3.out (some_ne hdD) v0
      have vl : vs.length = i := by rw [hn.1, List.length_take]; omega
      refine ⟨vs, hd3, by rw [vl]; exact small1000 (by omega), U3, vs ++ [v'], (g.trans g3.of0).mut (.inl rfl) u3D, u3D, upd_same, ?_, fun j z r e1 e2 => ?_⟩
      · rw [List.length_append, List.length_take, vl, List.length_singleton]
        omega
      · by_cases hj : j < i
        · rw [List.getElem?_append_left (by omega)] at e1
          rw [List.getElem?_take_of_lt (by omega)] at e2
          exact RowNew.put (RowNew.mono (hn.2 j z r e1 (by rw [List.getElem?_take_of_lt hj]; exact e2)) g3) hDn
        · have ej : j = i := by
            have := (List.getElem?_eq_some_iff.mp e1).1
            rw [List.length_append, List.length_singleton, vl] at this
            omega
          subst ej
          rw [List.getElem?_append_right (by omega), vl, Nat.sub_self] at e1
          rw [List.getElem?_take_of_lt (by omega), hr2] at e2
          cases e1
          cases e2
          exact RowNew.put (RowNew.lower hnew fun b hb => g.free hb) hDn
    · rintro H2 ⟨U', vs, g, v0, hdD, hn⟩
      rw [hlen, List.take_length] at hn
      exact k D vs U' H2 _ (g.under hD) hD v0 hdD (fun b hb => upd_none hb) hDn hn
end
end Lw

namespace Lw
open PySem PySem.Spec PyProof.Rows L2 VW TL
local macro_rules | `(tactic| walk_at "rdc") => `(tactic| first | assumption | rfl | decide | omega | exact Or.inr ⟨by decide, by decide⟩ | exact ⟨by decide, by decide⟩ | exact ⟨by decide, by decide, by decide⟩ | (show (0 : Int) < _; omega) | (show (0 : Int) < _ ∧ _ < (1073741824 : Int); omega) | (show (-(2 ^ 64) < _ ∧ _ < 2 ^ 64) ∨ (-(2 ^ 64) < _ ∧ _ < 2 ^ 64); omega) | (show (-(2 ^ 64) < _ ∧ _ < 2 ^ 64) ∨ (-(2 ^ 64) < _ ∧ _ < 2 ^ 64); right; split <;> decide) | exact Nat.le_of_ble_eq_true rfl)
local macro_rules | `(tactic| walk_at "rd1") => `(tactic| first | refine ⟨_, rfl, ?_⟩ | refine And.intro (by walk_at "rdc") ?_ | refine ⟨_, _, rfl, rfl, ?_⟩ | refine Or.inl ⟨_, rfl, ?_⟩ | refine Or.inr ⟨_, rfl, ?_⟩ | refine ⟨_, _, _, _, rfl, rfl, sqlO (by first | assumption | exact upd_same), rfl, ?_⟩ | refine ⟨_, _, _, _, rfl, rfl, (by first | assumption | exact upd_same), rfl, ?_⟩)
local macro_rules | `(tactic| walk_at "rd") => `(tactic| repeat (walk_at "rd1"))

section
variable {P : Program} {w : World} {K : PySem.W.Frag} {mg : Str → Option Value} {base : Heap} {W : Wd}
/-! ### rows as data -/
abbrev dat (rs : List Row) : PyData := .list (rs.map Row.data)
theorem strOk_good {n : Nat} {z : Str} (h : GoodS n z) : PyData.strOk z = true := by
  unfold PyData.strOk
  rw [Array.all_eq_true]
  intro i hi
  have := h.2 z.cps[i] (Array.mem_toList_iff.mpr (Array.getElem_mem hi))
  exact decide_eq_true (by omega)
theorem ints_lay (ns : List Int) : PyData.canLayAll0 (ns.map PyData.int) = true ∧ PyData.depthAll (ns.map PyData.int) = 0 := by
  induction ns with
  | nil => exact ⟨rfl, rfl⟩
  | cons n ns ih =>
    refine ⟨?_, ?_⟩
    · show (true && PyData.canLayAll0 (ns.map PyData.int)) = true
      rw [ih.1]
      rfl
    · show max 0 (PyData.depthAll (ns.map PyData.int)) = 0
      rw [ih.2]
      rfl
theorem row_lay {k : Nat} {r : Row} (h : r.ok k) : r.data.canLay0 = true ∧ r.data.depth ≤ 2 := by
  cases r with
  | text z =>
    refine ⟨?_, by show max 0 (max 0 0) + 1 ≤ 2; decide⟩
    show (PyData.strOk _ && (PyData.strOk z && true)) = true
    rw [strOk_good h]
    decide +kernel
  | line z =>
    refine ⟨?_, by show max 0 (max 0 0) + 1 ≤ 2; decide⟩
    show (PyData.strOk _ && (PyData.strOk z && true)) = true
    rw [strOk_good h]
    decide +kernel
  | hard => exact ⟨by decide +kernel, by show max 0 0 + 1 ≤ 2; decide⟩
  | cat ps =>
    refine ⟨?_, ?_⟩
    · show (PyData.strOk _ && (PyData.canLayAll0 (ps.map PyData.int) && true)) = true
      rw [(ints_lay ps).1]
      decide +kernel
    · show max 0 (max (PyData.depthAll (ps.map PyData.int) + 1) 0) + 1 ≤ 2
      rw [(ints_lay ps).2]
      decide
  | nest n j => exact ⟨by show (PyData.strOk _ && (true && (true && true))) = true; decide +kernel, by show max 0 (max 0 (max 0 0)) + 1 ≤ 2; decide⟩
  | align j => exact ⟨by show (PyData.strOk _ && (true && true)) = true; decide +kernel, by show max 0 (max 0 0) + 1 ≤ 2; decide⟩
  | group j => exact ⟨by show (PyData.strOk _ && (true && true)) = true; decide +kernel, by show max 0 (max 0 0) + 1 ≤ 2; decide⟩
theorem rows_lay {rs : List Row} (h : ∀ r ∈ rs, ∃ k, r.ok k) : PyData.canLayAll0 (rs.map Row.data) = true ∧ PyData.depthAll (rs.map Row.data) ≤ 2 := by
  induction rs with
  | nil => exact ⟨rfl, Nat.zero_le _⟩
  | cons r rs ih =>
    obtain ⟨k, hk⟩ := h r List.mem_cons_self
    have q := ih fun r h' => h r (List.mem_cons_of_mem _ h')
    obtain ⟨a, b⟩ := row_lay hk
    refine ⟨?_, ?_⟩
    · show (r.data.canLay0 && PyData.canLayAll0 (rs.map Row.data)) = true
      rw [a, q.1]
      rfl
    · show max r.data.depth (PyData.depthAll (rs.map Row.data)) ≤ 2
      omega
theorem OkRows.mem {rs : List Row} (h : OkRows rs) : ∀ r ∈ rs, ∃ k, r.ok k := fun r hr => by
  obtain ⟨i, hi⟩ := List.mem_iff_getElem?.mp hr
  exact ⟨i, h i r hi⟩
theorem shaped_rows {rs : List Row} (h : OkRows rs) : SeqAt.shaped (dat rs) = true := by
  obtain ⟨a, b⟩ := rows_lay h.mem
  unfold SeqAt.shaped
  rw [Bool.and_eq_true]
  refine ⟨a, decide_eq_true ?_⟩
  show PyData.depthAll (rs.map Row.data) + 1 ≤ 64
  omega
theorem eqv_rows {rs : List Row} (h : OkRows rs) : PyData.eqv (dat rs) (dat rs) = true := SeqAt.eqv_refl _ (rows_lay h.mem).1
theorem eqvAll_len : ∀ {xs ys : List PyData}, xs.length ≠ ys.length → PyData.eqvAll xs ys = false
  | [], [], h => absurd rfl h
  | [], _ :: _, _ => by simp [PyData.eqvAll]
  | _ :: _, [], _ => by simp [PyData.eqvAll]
  | x :: xs, y :: ys, h => by
    simp only [PyData.eqvAll]
    rw [eqvAll_len (xs := xs) (ys := ys) (by simpa using h), Bool.and_false]
theorem eqv_len {rs qs : List Row} (h : rs.length ≠ qs.length) : PyData.eqv (dat rs) (dat qs) = false := by
  show PyData.eqv (.list _) (.list _) = false
  simp only [PyData.eqv]
  exact eqvAll_len (by rw [List.length_map, List.length_map]; exact h)
/-! ### == -/
def sp_eq (K : PySem.W.Frag) (C : Addr) : Sp := fun vs H Q _ => ∃ (x : Addr) (y : V) (rs : List Row) (U : Hp), vs = [.ref x, y] ∧ Same U H ∧ DocAt K C U x rs ∧ OkRows rs ∧
  ((∃ y' qs, y = .ref y' ∧ DocAt K C U y' qs ∧ OkRows qs ∧ Q (.bl (PyData.eqv (dat rs) (dat qs))) H) ∨ (((∃ i, y = .int i) ∨ y = .non ∨ ∃ a xs, y = .ref a ∧ SqL K H a xs) ∧ Q (.bl false) H))
theorem sc_Doc___eq__ : FnScope ["self", "other"] ["self", "other"] (defScope s_Doc___eq__) := ⟨rfl, rfl, rfl, by decide +kernel, rfl, by decide +kernel, by decide +kernel⟩
theorem d_Doc___eq__ (T : Txt w K mg W) : MethOk P w K mg base W.c_Doc "__eq__" "Doc.__eq__" s_Doc___eq__ ["self", "other"] 1 (sp_eq K W.c_Doc) := by
  refine T.f_Doc___eq__.ok sc_Doc___eq__ (fun vs H Q E h => ?_) (fun f cdv A outer s H vs Q E hr h => ?_)
  · obtain ⟨x, y, rs, U, rfl, _⟩ := h
    rfl
  · obtain ⟨x, y, rs, U, rfl, s1, ⟨dx, l, ws, hx, hl, hd⟩, hok, k⟩ := h
    refine ⟨_, (pss_one (ps_ret (pe_and (pe_callB (id := "isinstance") call_isi (by rfl) T.n_isinstance (by decide +kernel) (pa_cons (pv 1) (pa_cons (pe_glob (v := .ref W.c_Doc) (by rfl) T.c_Doc rfl) pa_nil))) (pe_one (pe_cmpR (op_eqD hr.units) (pe_fld (pv 0) rfl) (pe_fld (pv 1) rfl) (nomark _)))))), ?_⟩
    rcases k with ⟨y', qs, rfl, ⟨dy, m, us, hy, hm, he⟩, hok', k⟩ | ⟨k1, k⟩
    · refine ⟨_, rfl, _, _, _, _, true, rfl, .own W.c_Doc, .base (.ins (s1 _ _ hy) T.cl_Doc T.i_Doc.ha T.i_Doc.hn T.i_Doc.htk T.i_Doc.hm), T.i_Doc.self_, ?_⟩
      refine ⟨true, rfl, iteT ?_⟩
      refine ⟨_, rfl, x, W.c_Doc, dx, _, _, rfl, s1 _ _ hx, T.cl_Doc, T.na_Doc__rows, lk_rows _, _, rfl, y', W.c_Doc, dy, _, _, rfl, s1 _ _ hy, T.cl_Doc, T.na_Doc__rows, lk_rows _, ?_⟩
      exact ⟨dat rs, dat qs, dp_lst (s1 _ _ hl) (dpsS s1 hd), dp_lst (s1 _ _ hm) (dpsS s1 he), shaped_rows hok, shaped_rows hok', k⟩
    · have fin : ∀ (y : V) (t : String), TyX K H y (.type t) → PySem.W.kitOne K (.type t) (.ref W.c_Doc) = some false → y = y → True := fun _ _ _ _ _ => True.intro
      rcases k1 with ⟨i, rfl⟩ | rfl | ⟨a, xs, rfl, ha⟩
      · exact ⟨_, rfl, _, _, _, _, false, rfl, .own W.c_Doc, .base (.int i), T.i_Doc.int_, false, rfl, iteF k⟩
      · exact ⟨_, rfl, _, _, _, _, false, rfl, .own W.c_Doc, .base .non, T.i_Doc.non_, false, rfl, iteF k⟩
      · exact ⟨_, rfl, _, _, _, _, false, rfl, .own W.c_Doc, tyL ha, T.i_Doc.lst_, false, rfl, iteF k⟩
/-! ### a document is made -/
theorem Gr.made {S : Addr → Prop} {U H U' H' : Hp} {x dx C : Addr} {fs : List (Str × V)} (s1 : Same U H) (hx : H x = none) (hd : H dx = none) (hne : dx ≠ x) (g : Gr (fun b => b = x) U (upd (upd H dx (.own x)) x (.ins C dx [])) U' H') (ux : U' x = none)
    (e : H' x = some (.ins C dx fs)) : Gr S U H (upd U' x (.ins C dx fs)) H' := by
  refine ⟨fun b o q => ?_, fun b o q => ?_, fun b o _ q => ?_, fun b q => ?_⟩
  · rw [upd_ne (ne_of_none (s1 b o q) hx)]
    exact g.v b o q
  · by_cases hb : b = x
    · rw [hb, upd_same] at q
      rw [hb, e]
      exact q
    · rw [upd_ne hb] at q
      exact g.s b o q
  · have h1 := ne_of_none q hx
    have h2 := ne_of_none q hd
    exact g.k b o h1 (by rw [upd_ne h1, upd_ne h2]; exact q)
  · have h1 : b ≠ x := fun z => q (by rw [z]; exact hx)
    have h2 : b ≠ dx := fun z => q (by rw [z]; exact hd)
    have := g.n b (by rw [upd_ne h1, upd_ne h2]; exact q)
    exact ⟨this.1, by rw [upd_ne h1]; exact this.2⟩
/-- what Doc(rows) asks and tells -/
theorem made_doc {C x dx : Addr} {H U : Hp} {a : Addr} {xs : List V} {rs : List Row} {Q : VK} {E : XK} (hx : H x = none) (hd : H dx = none) (hne : dx ≠ x) (s1 : Same U H) (ha : SqL K H a xs) (hin : RowsIn K U H xs rs) (hok : OkRows rs) (h0 : 0 < rs.length) (h200 : rs.length ≤ 200)
    (k : ∀ (U' H' : Hp), Gr S0 U H U' H' → DocAt K C U' x rs → Q .non H') : sp_init K C [.ref x, .ref a] (upd (upd H dx (.own x)) x (.ins C dx [])) Q E := by
  have sm : Same H (upd (upd H dx (.own x)) x (.ins C dx [])) := fun b o e => by
    rw [upd_ne (ne_of_none e hx), upd_ne (ne_of_none e hd)]
    exact e
  refine ⟨x, dx, a, xs, rs, U, rfl, upd_same, s1.trans sm, vfree s1 hx, sqlS sm ha, hin.mono (Same.refl _) sm, hok, h0, h200, fun l ws U' H' g ux hl hdp e => ?_⟩
  have g' := Gr.made (S := S0) s1 hx hd hne g ux e
  have nlx : l ≠ x := fun z => by
    rw [z, ux] at hl
    cases hl
  refine k _ H' g' ⟨dx, l, ws, upd_same, by rw [upd_ne nlx]; exact hl, dpsS (fun b o e => ?_) hdp⟩
  have hb : b ≠ x := fun z => by
    rw [z, ux] at e
    cases e
  rw [upd_ne hb]
  exact e
section
variable {X : Cx}
theorem mk_Doc {W : Wd} {e : Expr} {t : TA} {p pos : Pos} (T : Txt X.w X.K X.mg W) (hr : Room 6 X.A) (ha : PA X [e] t) (hg : Gl X "Doc" := by rfl)
    (he : starEach [e] X.env = (false, eval e X.env) :: starEach [] X.env := by rfl) (hpl : (backTo pos (starEach [] X.env)).any (·.1) = false := by rfl) :
    PE X (.Call (.Name "Doc" p) [e] [] pos) (tMake W.c_Doc (sp_init X.K W.c_Doc) [] E0 t) :=
  pe_makeD (d_Doc___init__ T) T.mk_Doc T.c_Doc hr ha hg (by decide) he hpl
theorem mk_DocK {K : PySem.W.Frag} {W : Wd} {e : Expr} {t : TA} {p pos : Pos} (T : Txt X.w K X.mg W) (hr : Room 6 X.A) (ha : PA X [e] t) (hK : X.K = K := by rfl) (hg : Gl X "Doc" := by rfl)
    (he : starEach [e] X.env = (false, eval e X.env) :: starEach [] X.env := by rfl) (hpl : (backTo pos (starEach [] X.env)).any (·.1) = false := by rfl) :
    PE X (.Call (.Name "Doc" p) [e] [] pos) (tMake W.c_Doc (sp_init K W.c_Doc) [] E0 t) := by
  subst hK
  exact mk_Doc T hr ha hg he hpl
theorem mk_Doc_kw {W : Wd} {e : Expr} {tk : TA} {p pos q : Pos} (T : Txt X.w X.K X.mg W) (hr : Room 6 X.A) (ha : PK X [⟨some "rows", e, q⟩] tk) (hg : Gl X "Doc" := by rfl)
    (hall : (backToKw pos (keywordEach [⟨some "rows", e, q⟩] X.env)).all (·.1.isSome) = true := by rfl) (hks : (backToKw pos (keywordEach [⟨some "rows", e, q⟩] X.env)).filterMap (·.1) = (["rows"] : List Str) := by rfl)
    (hpl : ((backTo pos (starEach [] X.env)).any (·.1) || (backToKw pos (keywordEach [⟨some "rows", e, q⟩] X.env)).any (·.1.isNone)) = false := by rfl) :
    PE X (.Call (.Name "Doc" p) [] [⟨some "rows", e, q⟩] pos) (tMakeK W.c_Doc 0 1 (sp_init X.K W.c_Doc) (fun vs zs => vs ++ zs) E0 tNil tk) :=
  pe_makeD_kw (ks := ["rows"]) (d_Doc___init__ T) T.mk_Doc T.c_Doc hr (fun _ _ _ _ _ _ us ws h1 h2 => match us, ws, h1, h2 with | [_], [_], _, _ => rfl) ha hg hall hks (by decide) hpl
theorem call_Doc_row_list {W : Wd} {o : Expr} {ta : TE} {apos pos : Pos} {pl : Sem Bool} (T : Txt X.w X.K X.mg W) (hr : Room 2 X.A) (he : PE X o ta)
    (ht : eval (.Call (.Attribute o "row_list" apos) [] [] pos) X.env = (do
      let ov ← eval o X.env
      standAt apos.atName
      let (f, first) ← holding [ov] (getMethod ov "row_list" pl)
      callWith pos f first (backTo pos (starEach [] X.env)) (backToKw pos (keywordEach [] X.env))) := by rfl) :
    PE X (.Call (.Attribute o "row_list" apos) [] [] pos) (tMeth W.c_Doc "row_list" (sp_rowlist X.K W.c_Doc) [] E0 ta tNil) :=
  pe_methD0 (d_Doc_row_list T) T.cl_Doc hr he ht
end
end
end Lw

set_option maxHeartbeats 0
namespace Lw
open PySem PySem.Spec PyProof.Rows L2 VW TL
local macro_rules | `(tactic| walk_at "rdc") => `(tactic| first | assumption | rfl | decide | omega | exact Or.inr ⟨by decide, by decide⟩ | exact ⟨by decide, by decide⟩ | exact ⟨by decide, by decide, by decide⟩ | (show (0 : Int) < _; omega) | (show (0 : Int) < _ ∧ _ < (1073741824 : Int); omega) | (show (-(2 ^ 64) < _ ∧ _ < 2 ^ 64) ∨ (-(2 ^ 64) < _ ∧ _ < 2 ^ 64); omega) | (show (-(2 ^ 64) < _ ∧ _ < 2 ^ 64) ∨ (-(2 ^ 64) < _ ∧ _ < 2 ^ 64); right; split <;> decide) | exact Nat.le_of_ble_eq_true rfl)
local macro_rules | `(tactic| walk_at "rd1") => `(tactic| first | refine ⟨_, rfl, ?_⟩ | refine And.intro (by walk_at "rdc") ?_ | refine ⟨_, _, rfl, rfl, ?_⟩ | refine Or.inl ⟨_, rfl, ?_⟩ | refine Or.inr ⟨_, rfl, ?_⟩ | refine ⟨_, _, _, _, rfl, rfl, sqlO (by first | assumption | exact upd_same), rfl, ?_⟩ | refine ⟨_, _, _, _, rfl, rfl, (by first | assumption | exact upd_same), rfl, ?_⟩)
local macro_rules | `(tactic| walk_at "rd") => `(tactic| repeat (walk_at "rd1"))

/-! ### rows that are put together, equal ones once: the mirror -/
def pts : Row → List Nat
  | .cat ps => ps.map Int.toNat | .nest _ j => [j.toNat] | .align j => [j.toNat] | .group j => [j.toNat] | _ => []
def isLn : Row → Bool
  | .line _ => true | .hard => true | _ => false
def isHd : Row → Bool
  | .hard => true | _ => false
def isGr : Row → Bool
  | .group _ => true | _ => false
def ownW : Row → Int
  | .text z => (z.length : Int) | .line z => (z.length : Int) | _ => 0
structure Pl where
  rows : List Row
  bare : List Bool
  hard : List Bool
  direct : List Bool
  wides : List Int
def Pl.nil : Pl := ⟨[], [], [], [], []⟩
def Pl.new (p : Pl) (r : Row) : Pl :=
  ⟨p.rows ++ [r], p.bare ++ [!isLn r && (pts r).all fun j => p.bare.getD j false], p.hard ++ [isHd r || (pts r).any fun j => p.hard.getD j false],
   p.direct ++ [isLn r || (!isGr r && (pts r).any fun j => p.direct.getD j false)], p.wides ++ [ownW r + ((pts r).map fun j => p.wides.getD j 0).sum]⟩
/-- a row as a key -/
def keyR : Row → NK
  | .text z => .tup [.text "text", .text z]
  | .line z => .tup [.text "line", .text z]
  | .hard => .tup [.text "hard"]
  | .cat ps => .tup [.text "cat", .tup (ps.map .num)]
  | .nest n j => .tup [.text "nest", .num n, .num j]
  | .align j => .tup [.text "align", .num j]
  | .group j => .tup [.text "group", .num j]
section
variable {P : Program} {w : World} {K : PySem.W.Frag} {mg : Str → Option Value} {base : Heap} {W : Wd}
theorem dps_ints {H : Hp} : ∀ {ps : List Int} {ws : List V}, DpAll K H ws (ps.map PyData.int) → ws = ps.map V.int
  | [], _, h => by cases h; rfl
  | p :: ps, _, h => by
    cases h with
    | cons h1 h2 =>
      cases h1
      rw [dps_ints h2]
      rfl
theorem sc_parts_of : FnScope ["row"] ["row"] (defScope s_parts_of) := ⟨rfl, rfl, rfl, by decide +kernel, rfl, by decide +kernel, by decide +kernel⟩
def sp_partsof (K : PySem.W.Frag) : Sp := fun vs H Q _ => ∃ (v : V) (r : Row) (k : Nat) (U : Hp), vs = [v] ∧ Same U H ∧ Dp K U v r.data ∧ r.ok k ∧ ∀ (p : Addr) (U' H' : Hp), Gr S0 U H U' H' → U' p = some (.lst ((pts r).map fun j : Nat => V.int j)) → Q (.ref p) H'
theorem d_parts_of (T : Txt w K mg W) : DefOk P w K mg base "parts_of" s_parts_of ["row"] 1 (sp_partsof K) := by
  refine T.f_parts_of.ok sc_parts_of (fun vs H Q E h => ?_) (fun f cdv A outer s H vs Q E hr h => ?_)
  · obtain ⟨v, r, k, U, rfl, _⟩ := h
    rfl
  · obtain ⟨v, r, k0, U, rfl, hU, hd, hok, k⟩ := h
    refine ⟨_, (pss_cons (ps_if (pt_cmpR op_eq (pe_ix ix_tup (pv 0) pe_int (fun _ _ => rfl)) pe_str (nomark _)) (pss_one (ps_ret (pe_callTy (T := "list") call_list_of (by rfl) T.n_list (by decide +kernel) (pa_cons (pe_ix ix_tup (pv 0) pe_int (fun _ _ => rfl)) pa_nil)))) pss_nil)
      (pss_cons (ps_if (pt_cmpR op_in_seq (pe_ix ix_tup (pv 0) pe_int (fun _ _ => rfl)) (pe_tup (pa_cons pe_str (pa_cons pe_str (pa_cons pe_str pa_nil)))) (by rfl)) (pss_one (ps_ret (pe_lst (pa_cons (pe_ix ix_tup (pv 0) (pe_un un_neg pe_int) (fun _ _ => rfl)) pa_nil)))) pss_nil)
      (pss_one (ps_ret (pe_lst pa_nil))))), ?_⟩
    cases r with
    | cat ps =>
      cases hd with | tup ht hs =>
      cases hs with | cons h1 hs =>
      cases h1
      cases hs with | cons h2 hs =>
      cases h2 with | lst hl hls =>
      have e := dps_ints hls
      subst e
      refine ⟨_, rfl, _, _, _, _, rfl, rfl, sqtS hU ht, atI_nat (j := 0) rfl, rfl, _, rfl, ifT (by kernel_rfl) ?_⟩
      refine ⟨_, rfl, _, _, _, _, rfl, rfl, sqtS hU ht, atI_nat (j := 1) rfl, _, _, rfl, .inl (sqlS hU hl), fun l hl0 => ?_⟩
      refine k l _ _ ((Gr.refl hU).new hl0) ?_
      rw [upd_same]
      have : (pts (.cat ps)).map (fun j : Nat => V.int j) = ps.map V.int := by
        show (ps.map Int.toNat).map _ = _
        rw [List.map_map]
        refine List.map_congr_left fun j hj => ?_
        have := (hok.2 j hj).1
        show V.int (j.toNat : Int) = V.int j
        rw [Int.toNat_of_nonneg this]
      rw [this]
    | text z =>
      cases hd with | tup ht hs =>
      cases hs with | cons h1 hs =>
      cases h1
      refine ⟨_, rfl, _, _, _, _, rfl, rfl, sqtS hU ht, atI_nat (j := 0) rfl, rfl, _, rfl, ifF (by kernel_rfl) ?_⟩
      refine ⟨_, rfl, _, _, _, _, rfl, rfl, sqtS hU ht, atI_nat (j := 0) rfl, Nat.le_of_ble_eq_true rfl, fun p hp => ⟨p, _, rfl, .inr (sqtO upd_same), rfl, by decide +kernel, _, rfl, ifF (by kernel_rfl) ?_⟩⟩
      exact ⟨Nat.le_of_ble_eq_true rfl, fun l hl => k l _ _ (((Gr.refl hU).newH hp).new hl) upd_same⟩
    | line z =>
      cases hd with | tup ht hs =>
      cases hs with | cons h1 hs =>
      cases h1
      refine ⟨_, rfl, _, _, _, _, rfl, rfl, sqtS hU ht, atI_nat (j := 0) rfl, rfl, _, rfl, ifF (by kernel_rfl) ?_⟩
      refine ⟨_, rfl, _, _, _, _, rfl, rfl, sqtS hU ht, atI_nat (j := 0) rfl, Nat.le_of_ble_eq_true rfl, fun p hp => ⟨p, _, rfl, .inr (sqtO upd_same), rfl, by decide +kernel, _, rfl, ifF (by kernel_rfl) ?_⟩⟩
      exact ⟨Nat.le_of_ble_eq_true rfl, fun l hl => k l _ _ (((Gr.refl hU).newH hp).new hl) upd_same⟩
    | hard =>
      cases hd with | tup ht hs =>
      cases hs with | cons h1 hs =>
      cases h1
      refine ⟨_, rfl, _, _, _, _, rfl, rfl, sqtS hU ht, atI_nat (j := 0) rfl, rfl, _, rfl, ifF (by kernel_rfl) ?_⟩
      refine ⟨_, rfl, _, _, _, _, rfl, rfl, sqtS hU ht, atI_nat (j := 0) rfl, Nat.le_of_ble_eq_true rfl, fun p hp => ⟨p, _, rfl, .inr (sqtO upd_same), rfl, by decide +kernel, _, rfl, ifF (by kernel_rfl) ?_⟩⟩
      exact ⟨Nat.le_of_ble_eq_true rfl, fun l hl => k l _ _ (((Gr.refl hU).newH hp).new hl) upd_same⟩
    | nest n j =>
      cases hd with | tup ht hs =>
      cases hs with | cons h1 hs =>
      cases h1
      cases hs with | cons h2 hs =>
      cases h2
      cases hs with | cons h3 hs =>
      cases h3
      cases hs
      refine ⟨_, rfl, _, _, _, _, rfl, rfl, sqtS hU ht, atI_nat (j := 0) rfl, rfl, _, rfl, ifF (by kernel_rfl) ?_⟩
      refine ⟨_, rfl, _, _, _, _, rfl, rfl, sqtS hU ht, atI_nat (j := 0) rfl, Nat.le_of_ble_eq_true rfl, fun p hp => ⟨p, _, rfl, .inr (sqtO upd_same), rfl, by decide +kernel, _, rfl, ifT (by kernel_rfl) ?_⟩⟩
      refine ⟨_, rfl, 1, rfl, _, _, _, _, rfl, rfl, sqtS ((Gr.refl (S := S0) hU).newH hp).s ht, rfl, Nat.le_of_ble_eq_true rfl, fun l hl => k l _ _ (((Gr.refl hU).newH hp).new hl) ?_⟩
      have h0 : 0 ≤ j := hok.2.2.1
      rw [upd_same]
      show some (HO.lst [V.int j]) = some (HO.lst [V.int (j.toNat : Int)])
      rw [Int.toNat_of_nonneg h0]
    | align j =>
      cases hd with | tup ht hs =>
      cases hs with | cons h1 hs =>
      cases h1
      cases hs with | cons h2 hs =>
      cases h2
      cases hs
      refine ⟨_, rfl, _, _, _, _, rfl, rfl, sqtS hU ht, atI_nat (j := 0) rfl, rfl, _, rfl, ifF (by kernel_rfl) ?_⟩
      refine ⟨_, rfl, _, _, _, _, rfl, rfl, sqtS hU ht, atI_nat (j := 0) rfl, Nat.le_of_ble_eq_true rfl, fun p hp => ⟨p, _, rfl, .inr (sqtO upd_same), rfl, by decide +kernel, _, rfl, ifT (by kernel_rfl) ?_⟩⟩
      refine ⟨_, rfl, 1, rfl, _, _, _, _, rfl, rfl, sqtS ((Gr.refl (S := S0) hU).newH hp).s ht, rfl, Nat.le_of_ble_eq_true rfl, fun l hl => k l _ _ (((Gr.refl hU).newH hp).new hl) ?_⟩
      have h0 : 0 ≤ j := hok.1
      rw [upd_same]
      show some (HO.lst [V.int j]) = some (HO.lst [V.int (j.toNat : Int)])
      rw [Int.toNat_of_nonneg h0]
    | group j =>
      cases hd with | tup ht hs =>
      cases hs with | cons h1 hs =>
      cases h1
      cases hs with | cons h2 hs =>
      cases h2
      cases hs
      refine ⟨_, rfl, _, _, _, _, rfl, rfl, sqtS hU ht, atI_nat (j := 0) rfl, rfl, _, rfl, ifF (by kernel_rfl) ?_⟩
      refine ⟨_, rfl, _, _, _, _, rfl, rfl, sqtS hU ht, atI_nat (j := 0) rfl, Nat.le_of_ble_eq_true rfl, fun p hp => ⟨p, _, rfl, .inr (sqtO upd_same), rfl, by decide +kernel, _, rfl, ifT (by kernel_rfl) ?_⟩⟩
      refine ⟨_, rfl, 1, rfl, _, _, _, _, rfl, rfl, sqtS ((Gr.refl (S := S0) hU).newH hp).s ht, rfl, Nat.le_of_ble_eq_true rfl, fun l hl => k l _ _ (((Gr.refl hU).newH hp).new hl) ?_⟩
      have h0 : 0 ≤ j := hok.1
      rw [upd_same]
      show some (HO.lst [V.int j]) = some (HO.lst [V.int (j.toNat : Int)])
      rw [Int.toNat_of_nonneg h0]
theorem same_new0 {H : Hp} {p : Addr} {o : HO} (h : H p = none) : Same H (upd H p o) := fun b u e => by rw [upd_ne (ne_of_none e h)]; exact e
/-- a row with other parts -/
def withP : Row → List Nat → Row
  | .cat _, ns => .cat (ns.map fun n : Nat => (n : Int))
  | .nest n _, ns => .nest n (ns.getD 0 0 : Nat)
  | .align _, ns => .align (ns.getD 0 0 : Nat)
  | .group _, ns => .group (ns.getD 0 0 : Nat)
  | r, _ => r
theorem nats_dp {H : Hp} : ∀ ns : List Nat, DpAll K H (ns.map fun n : Nat => V.int n) ((ns.map fun n : Nat => (n : Int)).map PyData.int)
  | [] => .nil
  | n :: ns => .cons (.int _) (nats_dp ns)
theorem sc_with_parts : FnScope ["row", "parts"] ["row", "parts"] (defScope s_with_parts) := ⟨rfl, rfl, rfl, by decide +kernel, rfl, by decide +kernel, by decide +kernel⟩
def sp_withparts (K : PySem.W.Frag) : Sp := fun vs H Q _ => ∃ (v : V) (r : Row) (k : Nat) (L : Addr) (ns : List Nat) (U : Hp), vs = [v, .ref L] ∧ Same U H ∧ Dp K U v r.data ∧ r.ok k ∧ SqL K H L (ns.map fun n : Nat => V.int n) ∧ ns.length = (pts r).length ∧
  ∀ (v' : V) (U' H' : Hp), Gr S0 U H U' H' → Dp K U' v' (withP r ns).data → Q v' H'
theorem one_len {ns : List Nat} (h : ns.length = 1) : ns = [ns.getD 0 0] := by
  match ns, h with
  | [n], _ => rfl
theorem d_with_parts (T : Txt w K mg W) : DefOk P w K mg base "with_parts" s_with_parts ["row", "parts"] 1 (sp_withparts K) := by
  refine T.f_with_parts.ok sc_with_parts (fun vs H Q E h => ?_) (fun f cdv A outer s H vs Q E hr h => ?_)
  · obtain ⟨v, r, k, L, ns, U, rfl, _⟩ := h
    rfl
  · obtain ⟨v, r, k0, L, ns, U, rfl, hU, hd, hok, hL, hn, k⟩ := h
    refine ⟨_, (pss_cons (ps_if (pt_cmpR op_eq (pe_ix ix_tup (pv 0) pe_int (fun _ _ => rfl)) pe_str (nomark _)) (pss_one (ps_ret (pe_tup (pa_cons pe_str (pa_cons (pe_callTy (T := "list") call_list_of (by rfl) T.n_list (by decide +kernel) (pa_cons (pv 1) pa_nil)) pa_nil))))) pss_nil)
      (pss_cons (ps_if (pt_cmpR op_in_seq (pe_ix ix_tup (pv 0) pe_int (fun _ _ => rfl)) (pe_tup (pa_cons pe_str (pa_cons pe_str (pa_cons pe_str pa_nil)))) (by rfl)) (pss_one (ps_ret (pe_op op_catT (pe_slice sl_tup (pv 0) po_none (po_some (pe_un un_neg pe_int))) (pe_tup (pa_cons (pe_ix ix_list (pv 1) pe_int (fun _ _ => rfl)) pa_nil))))) pss_nil)
      (pss_one (ps_ret (pv 0))))), ?_⟩
    cases r with
    | cat ps =>
      cases hd with | tup ht hs =>
      cases hs with | cons h1 hs =>
      cases h1
      refine ⟨_, rfl, _, _, _, _, rfl, rfl, sqtS hU ht, atI_nat (j := 0) rfl, rfl, _, rfl, ifT (by kernel_rfl) ?_⟩
      refine ⟨_, rfl, _, _, rfl, .inl hL, fun l hl => ⟨Nat.le_of_ble_eq_true rfl, fun t ht' => ?_⟩⟩
      have n1 : l ≠ t := ne_of_none upd_same ht'
      refine k (.ref t) _ _ (((Gr.refl hU).new hl).new ht') ?_
      exact dp_tup upd_same (.cons (.str _) (.cons (dp_lst (by rw [upd_ne n1]; exact upd_same) (nats_dp ns)) .nil))
    | text z =>
      cases id hd with | tup ht hs =>
      cases hs with | cons h1 hs =>
      cases h1
      refine ⟨_, rfl, _, _, _, _, rfl, rfl, sqtS hU ht, atI_nat (j := 0) rfl, rfl, _, rfl, ifF (by kernel_rfl) ?_⟩
      refine ⟨_, rfl, _, _, _, _, rfl, rfl, sqtS hU ht, atI_nat (j := 0) rfl, Nat.le_of_ble_eq_true rfl, fun p hp => ⟨p, _, rfl, .inr (sqtO upd_same), rfl, by decide +kernel, _, rfl, ifF (by kernel_rfl) ?_⟩⟩
      exact ⟨_, rfl, k _ _ _ ((Gr.refl hU).newH hp) hd⟩
    | line z =>
      cases id hd with | tup ht hs =>
      cases hs with | cons h1 hs =>
      cases h1
      refine ⟨_, rfl, _, _, _, _, rfl, rfl, sqtS hU ht, atI_nat (j := 0) rfl, rfl, _, rfl, ifF (by kernel_rfl) ?_⟩
      refine ⟨_, rfl, _, _, _, _, rfl, rfl, sqtS hU ht, atI_nat (j := 0) rfl, Nat.le_of_ble_eq_true rfl, fun p hp => ⟨p, _, rfl, .inr (sqtO upd_same), rfl, by decide +kernel, _, rfl, ifF (by kernel_rfl) ?_⟩⟩
      exact ⟨_, rfl, k _ _ _ ((Gr.refl hU).newH hp) hd⟩
    | hard =>
      cases id hd with | tup ht hs =>
      cases hs with | cons h1 hs =>
      cases h1
      refine ⟨_, rfl, _, _, _, _, rfl, rfl, sqtS hU ht, atI_nat (j := 0) rfl, rfl, _, rfl, ifF (by kernel_rfl) ?_⟩
      refine ⟨_, rfl, _, _, _, _, rfl, rfl, sqtS hU ht, atI_nat (j := 0) rfl, Nat.le_of_ble_eq_true rfl, fun p hp => ⟨p, _, rfl, .inr (sqtO upd_same), rfl, by decide +kernel, _, rfl, ifF (by kernel_rfl) ?_⟩⟩
      exact ⟨_, rfl, k _ _ _ ((Gr.refl hU).newH hp) hd⟩
    | nest n j =>
      cases hd with | tup ht hs =>
      cases hs with | cons h1 hs =>
      cases h1
      cases hs with | cons h2 hs =>
      cases h2
      cases hs with | cons h3 hs =>
      cases h3
      cases hs
      rw [one_len hn] at hL
      refine ⟨_, rfl, _, _, _, _, rfl, rfl, sqtS hU ht, atI_nat (j := 0) rfl, rfl, _, rfl, ifF (by kernel_rfl) ?_⟩
      refine ⟨_, rfl, _, _, _, _, rfl, rfl, sqtS hU ht, atI_nat (j := 0) rfl, Nat.le_of_ble_eq_true rfl, fun p hp => ⟨p, _, rfl, .inr (sqtO upd_same), rfl, by decide +kernel, _, rfl, ifT (by kernel_rfl) ?_⟩⟩
      have g1 := (Gr.refl (S := S0) hU).newH (o := .tup [.str "nest", .str "align", .str "group"]) hp
      have hL1 := sqlS (same_new0 (o := .tup [.str "nest", .str "align", .str "group"]) hp) hL
      generalize upd H p (.tup [.str "nest", .str "align", .str "group"]) = H1 at g1 hL1 ⊢
      refine ⟨_, rfl, 1, rfl, _, rfl, _, _, rfl, sqtS g1.s ht, (show ¬ (HT.sIx 3 0 none = 0 ∧ HT.sIx 3 3 (some (-1)) = 3) by decide), fun t1 ht1 => ?_⟩
      have hL2 := sqlS (same_new0 (o := .tup (cutV [.str "nest", .int n, .int j] none (some (-1)))) ht1) hL1
      refine ⟨_, rfl, _, _, _, _, rfl, rfl, hL2, atI_nat (j := 0) rfl, Nat.le_of_ble_eq_true rfl, fun t2 ht2 => ?_⟩
      have n1 : t1 ≠ t2 := ne_of_none upd_same ht2
      refine ⟨t1, t2, _, _, rfl, rfl, sqtO (by rw [upd_ne n1]; exact upd_same), sqtO upd_same, (show ([.str "nest", .int n] : List V) ≠ [] from List.cons_ne_nil _ _), Nat.le_of_ble_eq_true rfl, (fun e => nomatch e), fun _ t3 ht3 => ?_⟩
      refine k (.ref t3) _ _ (((g1.newH ht1).newH ht2).new ht3) ?_
      exact dp_tup upd_same (.cons (.str _) (.cons (.int _) (.cons (.int _) .nil)))
    | align j =>
      cases hd with | tup ht hs =>
      cases hs with | cons h1 hs =>
      cases h1
      cases hs with | cons h2 hs =>
      cases h2
      cases hs
      rw [one_len hn] at hL
      refine ⟨_, rfl, _, _, _, _, rfl, rfl, sqtS hU ht, atI_nat (j := 0) rfl, rfl, _, rfl, ifF (by kernel_rfl) ?_⟩
      refine ⟨_, rfl, _, _, _, _, rfl, rfl, sqtS hU ht, atI_nat (j := 0) rfl, Nat.le_of_ble_eq_true rfl, fun p hp => ⟨p, _, rfl, .inr (sqtO upd_same), rfl, by decide +kernel, _, rfl, ifT (by kernel_rfl) ?_⟩⟩
      have g1 := (Gr.refl (S := S0) hU).newH (o := .tup [.str "nest", .str "align", .str "group"]) hp
      have hL1 := sqlS (same_new0 (o := .tup [.str "nest", .str "align", .str "group"]) hp) hL
      generalize upd H p (.tup [.str "nest", .str "align", .str "group"]) = H1 at g1 hL1 ⊢
      refine ⟨_, rfl, 1, rfl, _, rfl, _, _, rfl, sqtS g1.s ht, (show ¬ (HT.sIx 2 0 none = 0 ∧ HT.sIx 2 2 (some (-1)) = 2) by decide), fun t1 ht1 => ?_⟩
      have hL2 := sqlS (same_new0 (o := .tup (cutV [.str "align", .int j] none (some (-1)))) ht1) hL1
      refine ⟨_, rfl, _, _, _, _, rfl, rfl, hL2, atI_nat (j := 0) rfl, Nat.le_of_ble_eq_true rfl, fun t2 ht2 => ?_⟩
      have n1 : t1 ≠ t2 := ne_of_none upd_same ht2
      refine ⟨t1, t2, _, _, rfl, rfl, sqtO (by rw [upd_ne n1]; exact upd_same), sqtO upd_same, (show ([.str "align"] : List V) ≠ [] from List.cons_ne_nil _ _), Nat.le_of_ble_eq_true rfl, (fun e => nomatch e), fun _ t3 ht3 => ?_⟩
      refine k (.ref t3) _ _ (((g1.newH ht1).newH ht2).new ht3) ?_
      exact dp_tup upd_same (.cons (.str _) (.cons (.int _) .nil))
    | group j =>
      cases hd with | tup ht hs =>
      cases hs with | cons h1 hs =>
      cases h1
      cases hs with | cons h2 hs =>
      cases h2
      cases hs
      rw [one_len hn] at hL
      refine ⟨_, rfl, _, _, _, _, rfl, rfl, sqtS hU ht, atI_nat (j := 0) rfl, rfl, _, rfl, ifF (by kernel_rfl) ?_⟩
      refine ⟨_, rfl, _, _, _, _, rfl, rfl, sqtS hU ht, atI_nat (j := 0) rfl, Nat.le_of_ble_eq_true rfl, fun p hp => ⟨p, _, rfl, .inr (sqtO upd_same), rfl, by decide +kernel, _, rfl, ifT (by kernel_rfl) ?_⟩⟩
      have g1 := (Gr.refl (S := S0) hU).newH (o := .tup [.str "nest", .str "align", .str "group"]) hp
      have hL1 := sqlS (same_new0 (o := .tup [.str "nest", .str "align", .str "group"]) hp) hL
      generalize upd H p (.tup [.str "nest", .str "align", .str "group"]) = H1 at g1 hL1 ⊢
      refine ⟨_, rfl, 1, rfl, _, rfl, _, _, rfl, sqtS g1.s ht, (show ¬ (HT.sIx 2 0 none = 0 ∧ HT.sIx 2 2 (some (-1)) = 2) by decide), fun t1 ht1 => ?_⟩
      have hL2 := sqlS (same_new0 (o := .tup (cutV [.str "group", .int j] none (some (-1)))) ht1) hL1
      refine ⟨_, rfl, _, _, _, _, rfl, rfl, hL2, atI_nat (j := 0) rfl, Nat.le_of_ble_eq_true rfl, fun t2 ht2 => ?_⟩
      have n1 : t1 ≠ t2 := ne_of_none upd_same ht2
      refine ⟨t1, t2, _, _, rfl, rfl, sqtO (by rw [upd_ne n1]; exact upd_same), sqtO upd_same, (show ([.str "group"] : List V) ≠ [] from List.cons_ne_nil _ _), Nat.le_of_ble_eq_true rfl, (fun e => nomatch e), fun _ t3 ht3 => ?_⟩
      refine k (.ref t3) _ _ (((g1.newH ht1).newH ht2).new ht3) ?_
      exact dp_tup upd_same (.cons (.str _) (.cons (.int _) .nil))
end
end Lw

set_option maxHeartbeats 0
namespace Lw
open PySem PySem.Spec PyProof.Rows L2 VW TL
local macro_rules | `(tactic| walk_at "rdc") => `(tactic| first | assumption | rfl | decide | omega | exact Or.inr ⟨by decide, by decide⟩ | exact ⟨by decide, by decide⟩ | exact ⟨by decide, by decide, by decide⟩ | (show (0 : Int) < _; omega) | (show (0 : Int) < _ ∧ _ < (1073741824 : Int); omega) | (show (-(2 ^ 64) < _ ∧ _ < 2 ^ 64) ∨ (-(2 ^ 64) < _ ∧ _ < 2 ^ 64); omega) | (show (-(2 ^ 64) < _ ∧ _ < 2 ^ 64) ∨ (-(2 ^ 64) < _ ∧ _ < 2 ^ 64); right; split <;> decide) | exact Nat.le_of_ble_eq_true rfl)
local macro_rules | `(tactic| walk_at "rd1") => `(tactic| first | refine ⟨_, rfl, ?_⟩ | refine And.intro (by walk_at "rdc") ?_ | refine ⟨_, _, rfl, rfl, ?_⟩ | refine Or.inl ⟨_, rfl, ?_⟩ | refine Or.inr ⟨_, rfl, ?_⟩ | refine ⟨_, _, _, _, rfl, rfl, sqlO (by first | assumption | exact upd_same), rfl, ?_⟩ | refine ⟨_, _, _, _, rfl, rfl, (by first | assumption | exact upd_same), rfl, ?_⟩)
local macro_rules | `(tactic| walk_at "rd") => `(tactic| repeat (walk_at "rd1"))

section
variable {P : Program} {w : World} {K : PySem.W.Frag} {mg : Str → Option Value} {base : Heap} {W : Wd}
/-- the addresses of a pool -/
structure PA where
  x : Addr
  dx : Addr
  r : Addr
  b : Addr
  h : Addr
  d : Addr
  w : Addr
  n : Addr
abbrev PA.fs (A : PA) : List (Str × V) := [("rows", .ref A.r), ("are_bare", .ref A.b), ("are_hard", .ref A.h), ("are_direct", .ref A.d), ("wides", .ref A.w), ("_numbers", .ref A.n)]
abbrev PA.own (A : PA) : List Addr := [A.x, A.n, A.w, A.d, A.h, A.b, A.r]
/-- the numbers of the rows by their keys -/
structure NumOk (K : PySem.W.Frag) (U : Hp) (rows : List Row) (es : EX) : Prop where
  k : KeysOk K U es
  l : es.length = rows.length
  i : ∀ (i : Nat) (r : Row), rows[i]? = some r → valX es (keyR r) = some (.int i)
  o : ∀ (r : Row) (v : V), valX es (keyR r) = some v → ∃ i : Nat, rows[i]? = some r ∧ v = .int i
structure PoolSt (P : Program) (w : World) (K : PySem.W.Frag) (W : Wd) (U H : Hp) (A : PA) (p : Pl) (qs : List Row) : Prop where
  nd : A.own.Nodup
  u : ∀ b ∈ A.own, U b = none
  fx : H A.x = some (.ins W.c_Pool A.dx A.fs)
  fr : ∃ vs, H A.r = some (.lst vs) ∧ DpAll K U vs (p.rows.map Row.data)
  fb : H A.b = some (.lst (p.bare.map V.bl))
  fh : H A.h = some (.lst (p.hard.map V.bl))
  fd : H A.d = some (.lst (p.direct.map V.bl))
  fw : H A.w = some (.lst (p.wides.map V.int))
  fn : ∃ es, H A.n = some (dxO P w A.n es) ∧ NumOk K U qs es
/-- new objects beside the one that is made -/
structure NewOk (x : Addr) (U H0 H : Hp) (os : List (Addr × HO)) : Prop where
  nd : (os.map (·.1)).Nodup
  o : ∀ p ∈ os, p.1 ≠ x ∧ H0 p.1 = none ∧ U p.1 = none ∧ H p.1 = some p.2
theorem NewOk.step {x : Addr} {U H0 Hk : Hp} {os : List (Addr × HO)} {d C dx : Addr} {o : HO} {fs fs' : List (Str × V)} (D : NewOk x U H0 Hk os) (g : Gr (fun b => b = x) U H0 U Hk) (hx : Hk x = some (.ins C dx fs)) (ux : U x = none) (hd : Hk d = none) :
    NewOk x U H0 (upd (upd Hk d o) x (.ins C dx fs')) ((d, o) :: os) ∧ Gr (fun b => b = x) U H0 U (upd (upd Hk d o) x (.ins C dx fs')) ∧ (upd (upd Hk d o) x (.ins C dx fs')) x = some (.ins C dx fs') := by
  have ndx : d ≠ x := fun z => by rw [z, hx] at hd; cases hd
  refine ⟨⟨?_, fun a ha => ?_⟩, (g.newH hd).mut (.inl rfl) ux, upd_same⟩
  · rw [List.map_cons, List.nodup_cons]
    refine ⟨fun z => ?_, D.nd⟩
    obtain ⟨q, hq, e⟩ := List.mem_map.mp z
    have := (D.o q hq).2.2.2
    rw [e, hd] at this
    cases this
  · rcases List.mem_cons.mp ha with rfl | ha
    · exact ⟨ndx, g.free hd, g.s.free hd, by rw [upd_ne ndx]; exact upd_same⟩
    · obtain ⟨h1, h2, h3, h4⟩ := D.o a ha
      refine ⟨h1, h2, h3, ?_⟩
      rw [upd_ne h1, upd_ne (ne_of_none h4 hd)]
      exact h4
section
variable {a b c d e f : Addr}
theorem pp_rows : putF ("rows" : Str) (.ref a : V) [] = ([("rows", V.ref a)] : List (Str × V)) := by kernel_rfl
theorem pp_bare : putF ("are_bare" : Str) (.ref b : V) [("rows", V.ref a)] = ([("rows", V.ref a), ("are_bare", V.ref b)] : List (Str × V)) := by kernel_rfl
theorem pp_hard : putF ("are_hard" : Str) (.ref c : V) [("rows", V.ref a), ("are_bare", V.ref b)] = ([("rows", V.ref a), ("are_bare", V.ref b), ("are_hard", V.ref c)] : List (Str × V)) := by kernel_rfl
theorem pp_direct : putF ("are_direct" : Str) (.ref d : V) [("rows", V.ref a), ("are_bare", V.ref b), ("are_hard", V.ref c)] = ([("rows", V.ref a), ("are_bare", V.ref b), ("are_hard", V.ref c), ("are_direct", V.ref d)] : List (Str × V)) := by kernel_rfl
theorem pp_wides : putF ("wides" : Str) (.ref e : V) [("rows", V.ref a), ("are_bare", V.ref b), ("are_hard", V.ref c), ("are_direct", V.ref d)] = ([("rows", V.ref a), ("are_bare", V.ref b), ("are_hard", V.ref c), ("are_direct", V.ref d), ("wides", V.ref e)] : List (Str × V)) := by kernel_rfl
theorem pp_numbers : putF ("_numbers" : Str) (.ref f : V) [("rows", V.ref a), ("are_bare", V.ref b), ("are_hard", V.ref c), ("are_direct", V.ref d), ("wides", V.ref e)] = ([("rows", V.ref a), ("are_bare", V.ref b), ("are_hard", V.ref c), ("are_direct", V.ref d), ("wides", V.ref e), ("_numbers", V.ref f)] : List (Str × V)) := by kernel_rfl
end
theorem sc_Pool___init__ : FnScope ["self"] ["self"] (defScope s_Pool___init__) := ⟨rfl, rfl, rfl, by decide +kernel, rfl, by decide +kernel, by decide +kernel⟩
theorem d_Pool___init__ (T : Txt w K mg W) : MethOk P w K mg base W.c_Pool "__init__" "Pool.__init__" s_Pool___init__ ["self"] 1 (fun vs H Q E => ∃ (x dx : Addr) (U : Hp), vs = [.ref x] ∧ Same U H ∧ H x = some (.ins W.c_Pool dx []) ∧ U x = none ∧
  ∀ (A : PA) (H' : Hp), A.x = x → A.dx = dx → Gr (fun b => b = x) U H U H' → PoolSt P w K W U H' A Pl.nil [] → (∀ b ∈ A.own, b = x ∨ H b = none) → Q .non H') := by
  refine T.f_Pool___init__.ok sc_Pool___init__ (fun vs H Q E h => ?_) (fun f cdv A outer s H vs Q E hr h => ?_)
  · obtain ⟨x, dx, U, rfl, _⟩ := h
    rfl
  · obtain ⟨x, dx, U, rfl, hU, hx, ux, k⟩ := h
    refine ⟨_, (pss_cons (ps_fld (pv 0) (pe_lst pa_nil) rfl)
      (pss_cons (ps_fld (pv 0) (pe_lst pa_nil) rfl)
      (pss_cons (ps_fld (pv 0) (pe_lst pa_nil) rfl)
      (pss_cons (ps_fld (pv 0) (pe_lst pa_nil) rfl)
      (pss_cons (ps_fld (pv 0) (pe_lst pa_nil) rfl)
      (pss_one (ps_fld (pv 0) pe_xnew rfl))))))), ?_⟩
    have g0 : Gr (fun b => b = x) U H U H := Gr.refl hU
    have D0 : NewOk x U H H [] := ⟨List.nodup_nil, fun p hp => nomatch hp⟩
    refine ⟨Nat.le_of_ble_eq_true rfl, fun lr hlr => ?_⟩
    refine ⟨_, rfl, x, W.c_Pool, dx, _, rfl, (by rw [upd_ne (ne_of_none hx hlr)]; exact hx), T.cl_Pool, T.na_Pool_rows, Nat.le_of_ble_eq_true rfl, ?_⟩
    rw [pp_rows]
    obtain ⟨D1, g1, x1⟩ := D0.step (d := lr) (o := .lst []) (fs' := [("rows", .ref lr)]) g0 hx ux hlr
    generalize upd (upd _ lr _) x _ = H1 at D1 g1 x1 ⊢
    refine ⟨Nat.le_of_ble_eq_true rfl, fun lb hlb => ?_⟩
    refine ⟨_, rfl, x, W.c_Pool, dx, _, rfl, (by rw [upd_ne (ne_of_none x1 hlb)]; exact x1), T.cl_Pool, T.na_Pool_are_bare, Nat.le_of_ble_eq_true rfl, ?_⟩
    rw [pp_bare]
    obtain ⟨D2, g2, x2⟩ := D1.step (d := lb) (o := .lst []) (fs' := [("rows", .ref lr), ("are_bare", .ref lb)]) g1 x1 ux hlb
    generalize upd (upd _ lb _) x _ = H2 at D2 g2 x2 ⊢
    refine ⟨Nat.le_of_ble_eq_true rfl, fun lh hlh => ?_⟩
    refine ⟨_, rfl, x, W.c_Pool, dx, _, rfl, (by rw [upd_ne (ne_of_none x2 hlh)]; exact x2), T.cl_Pool, T.na_Pool_are_hard, Nat.le_of_ble_eq_true rfl, ?_⟩
    rw [pp_hard]
    obtain ⟨D3, g3, x3⟩ := D2.step (d := lh) (o := .lst []) (fs' := [("rows", .ref lr), ("are_bare", .ref lb), ("are_hard", .ref lh)]) g2 x2 ux hlh
    generalize upd (upd _ lh _) x _ = H3 at D3 g3 x3 ⊢
    refine ⟨Nat.le_of_ble_eq_true rfl, fun ld hld => ?_⟩
    refine ⟨_, rfl, x, W.c_Pool, dx, _, rfl, (by rw [upd_ne (ne_of_none x3 hld)]; exact x3), T.cl_Pool, T.na_Pool_are_direct, Nat.le_of_ble_eq_true rfl, ?_⟩
    rw [pp_direct]
    obtain ⟨D4, g4, x4⟩ := D3.step (d := ld) (o := .lst []) (fs' := [("rows", .ref lr), ("are_bare", .ref lb), ("are_hard", .ref lh), ("are_direct", .ref ld)]) g3 x3 ux hld
    generalize upd (upd _ ld _) x _ = H4 at D4 g4 x4 ⊢
    refine ⟨Nat.le_of_ble_eq_true rfl, fun lw hlw => ?_⟩
    refine ⟨_, rfl, x, W.c_Pool, dx, _, rfl, (by rw [upd_ne (ne_of_none x4 hlw)]; exact x4), T.cl_Pool, T.na_Pool_wides, Nat.le_of_ble_eq_true rfl, ?_⟩
    rw [pp_wides]
    obtain ⟨D5, g5, x5⟩ := D4.step (d := lw) (o := .lst []) (fs' := [("rows", .ref lr), ("are_bare", .ref lb), ("are_hard", .ref lh), ("are_direct", .ref ld), ("wides", .ref lw)]) g4 x4 ux hlw
    generalize upd (upd _ lw _) x _ = H5 at D5 g5 x5 ⊢
    intro nu hnu
    refine ⟨_, rfl, x, W.c_Pool, dx, _, rfl, (by rw [upd_ne (ne_of_none x5 hnu)]; exact x5), T.cl_Pool, T.na_Pool__numbers, Nat.le_of_ble_eq_true rfl, ?_⟩
    rw [pp_numbers]
    obtain ⟨D6, g6, x6⟩ := D5.step (d := nu) (o := dxO P w nu []) (fs' := [("rows", .ref lr), ("are_bare", .ref lb), ("are_hard", .ref lh), ("are_direct", .ref ld), ("wides", .ref lw), ("_numbers", .ref nu)]) g5 x5 ux hnu
    have qn := D6.o (nu, dxO P w nu []) (by simp only [List.mem_cons, true_or, or_true])
    have qw := D6.o (lw, .lst []) (by simp only [List.mem_cons, true_or, or_true])
    have qd := D6.o (ld, .lst []) (by simp only [List.mem_cons, true_or, or_true])
    have qh := D6.o (lh, .lst []) (by simp only [List.mem_cons, true_or, or_true])
    have qb := D6.o (lb, .lst []) (by simp only [List.mem_cons, true_or, or_true])
    have qr := D6.o (lr, .lst []) (by simp only [List.mem_cons, true_or, or_true])
    have all : ∀ (Z : Addr → Prop), Z x → Z lr → Z lb → Z lh → Z ld → Z lw → Z nu → ∀ b ∈ [x, nu, lw, ld, lh, lb, lr], Z b := by
      intro Z z1 z2 z3 z4 z5 z6 z7 b hb
      simp only [List.mem_cons, List.not_mem_nil, or_false] at hb
      rcases hb with rfl | rfl | rfl | rfl | rfl | rfl | rfl <;> assumption
    refine k ⟨x, dx, lr, lb, lh, ld, lw, nu⟩ _ rfl rfl g6 ⟨?_, all _ ux qr.2.2.1 qb.2.2.1 qh.2.2.1 qd.2.2.1 qw.2.2.1 qn.2.2.1, x6, ⟨[], qr.2.2.2, .nil⟩, qb.2.2.2, qh.2.2.2, qd.2.2.2, qw.2.2.2, [], qn.2.2.2, ⟨fun e he => (nomatch he), rfl, fun i r h => (nomatch h), fun r v h => (nomatch h)⟩⟩ (all (fun b => b = x ∨ H b = none) (.inl rfl) (.inr qr.2.1) (.inr qb.2.1) (.inr qh.2.1) (.inr qd.2.1) (.inr qw.2.1) (.inr qn.2.1))
    refine List.nodup_cons.mpr ⟨fun z => ?_, ?_⟩
    · simp only [List.mem_cons, List.not_mem_nil, or_false] at z
      rcases z with z | z | z | z | z | z
      · exact qn.1 z.symm
      · exact qw.1 z.symm
      · exact qd.1 z.symm
      · exact qh.1 z.symm
      · exact qb.1 z.symm
      · exact qr.1 z.symm
    · exact D6.nd
end
end Lw

set_option maxHeartbeats 0
namespace Lw
open PySem PySem.Spec PyProof.Rows L2 VW TL
local macro_rules | `(tactic| walk_at "rdc") => `(tactic| first | assumption | rfl | decide | omega | exact Or.inr ⟨by decide, by decide⟩ | exact ⟨by decide, by decide⟩ | exact ⟨by decide, by decide, by decide⟩ | (show (0 : Int) < _; omega) | (show (0 : Int) < _ ∧ _ < (1073741824 : Int); omega) | (show (-(2 ^ 64) < _ ∧ _ < 2 ^ 64) ∨ (-(2 ^ 64) < _ ∧ _ < 2 ^ 64); omega) | (show (-(2 ^ 64) < _ ∧ _ < 2 ^ 64) ∨ (-(2 ^ 64) < _ ∧ _ < 2 ^ 64); right; split <;> decide) | exact Nat.le_of_ble_eq_true rfl)
local macro_rules | `(tactic| walk_at "rd1") => `(tactic| first | refine ⟨_, rfl, ?_⟩ | refine And.intro (by walk_at "rdc") ?_ | refine ⟨_, _, rfl, rfl, ?_⟩ | refine Or.inl ⟨_, rfl, ?_⟩ | refine Or.inr ⟨_, rfl, ?_⟩ | refine ⟨_, _, _, _, rfl, rfl, sqlO (by first | assumption | exact upd_same), rfl, ?_⟩ | refine ⟨_, _, _, _, rfl, rfl, (by first | assumption | exact upd_same), rfl, ?_⟩)
local macro_rules | `(tactic| walk_at "rd") => `(tactic| repeat (walk_at "rd1"))

/-- the fields of a row behind its kind -/
def Row.fields : Row → List PyData
  | .text z => [.str z]
  | .line z => [.str z]
  | .hard => []
  | .cat ps => [.list (ps.map .int)]
  | .nest n j => [.int n, .int j]
  | .align j => [.int j]
  | .group j => [.int j]
theorem Row.data_fields (r : Row) : r.data = .tuple (.str r.kind :: r.fields) := by cases r <;> rfl
theorem row_at {K : PySem.W.Frag} {H : Hp} {v : V} {r : Row} (h : Dp K H v r.data) : ∃ a xs, v = .ref a ∧ SqT K H a (.str r.kind :: xs) ∧ DpAll K H xs r.fields := by
  rw [Row.data_fields] at h
  cases h with
  | tup ht hs =>
    cases hs with | cons a1 hs =>
    cases a1
    exact ⟨_, _, rfl, ht, hs⟩

section
variable {P : Program} {w : World} {K : PySem.W.Frag} {mg : Str → Option Value} {base : Heap} {W : Wd}
structure PlOk (p : Pl) : Prop where
  b : p.bare.length = p.rows.length
  h : p.hard.length = p.rows.length
  d : p.direct.length = p.rows.length
  w : p.wides.length = p.rows.length
theorem len1 {α β : Type} {l : List α} {m : List β} {a : α} {b : β} (h : l.length = m.length) : (l ++ [a]).length = (m ++ [b]).length := by
  rw [List.length_append, List.length_append, h]
  rfl
theorem PlOk.new {p : Pl} (h : PlOk p) (r : Row) : PlOk (p.new r) := ⟨len1 h.b, len1 h.h, len1 h.d, len1 h.w⟩
theorem pts_lt {r : Row} {k : Nat} (h : r.ok k) : ∀ j ∈ pts r, j < k := by
  intro j hj
  cases r with
  | cat ps =>
    obtain ⟨i, hi, rfl⟩ := List.mem_map.mp hj
    have := h.2 i hi
    omega
  | nest n i =>
    have hj := List.mem_singleton.mp hj
    have := h.2.2
    omega
  | align i =>
    have hj := List.mem_singleton.mp hj
    have h : 0 ≤ i ∧ i < k := h
    omega
  | group i =>
    have hj := List.mem_singleton.mp hj
    have h : 0 ≤ i ∧ i < k := h
    omega
  | _ => cases hj
theorem pts_len {r : Row} {k : Nat} (h : r.ok k) : (pts r).length ≤ 8 := by
  cases r with
  | cat ps => rw [show (pts (.cat ps)).length = ps.length from List.length_map _]; exact h.1
  | _ => first | exact Nat.zero_le _ | exact (by show 1 ≤ 8; decide)
section
variable {U H : Hp} {A : PA} {p : Pl} {qs : List Row}
theorem PoolSt.gr {S : Addr → Prop} {U' H' : Hp} (h : PoolSt P w K W U H A p qs) (g : Gr S U H U' H') (n : ∀ b ∈ A.own, ¬ S b) : PoolSt P w K W U' H' A p qs := by
  obtain ⟨vs, r1, r2⟩ := h.fr
  obtain ⟨es, n1, n2, n3, n4, n5⟩ := h.fn
  have m : A.x ∈ A.own ∧ A.n ∈ A.own ∧ A.w ∈ A.own ∧ A.d ∈ A.own ∧ A.h ∈ A.own ∧ A.b ∈ A.own ∧ A.r ∈ A.own := by simp only [List.mem_cons, true_or, or_true, and_self]
  obtain ⟨mx, mn, mw, md, mh, mb, mr⟩ := m
  refine ⟨h.nd, fun b hb => ?_, g.k _ _ (n _ mx) h.fx, ⟨vs, g.k _ _ (n _ mr) r1, dpsS g.v r2⟩, g.k _ _ (n _ mb) h.fb, g.k _ _ (n _ mh) h.fh, g.k _ _ (n _ md) h.fd, g.k _ _ (n _ mw) h.fw, es, g.k _ _ (n _ mn) n1, n2.mono fun _ _ z => rdS g.v z, n3, n4, n5⟩
  have : H b ≠ none := by
    simp only [List.mem_cons, List.not_mem_nil, or_false] at hb
    rcases hb with rfl | rfl | rfl | rfl | rfl | rfl | rfl
    · rw [h.fx]; exact fun z => nomatch z
    · rw [n1]; exact fun z => nomatch z
    · rw [h.fw]; exact fun z => nomatch z
    · rw [h.fd]; exact fun z => nomatch z
    · rw [h.fh]; exact fun z => nomatch z
    · rw [h.fb]; exact fun z => nomatch z
    · rw [r1]; exact fun z => nomatch z
  exact g.out this (h.u b hb)
end
/-- [self.f[part] for part in parts] -/
theorem lc_field {C a l : Addr} {f : Str} {dx pl : Addr} {fs : List (Str × V)} {ws : List V} {ns : List Nat} {σ : L2.St} {U H : Hp} {Q : VK} {vs : List Nat} (T : Cls K C) (N : NoAttr K C f) (h0 : ∀ v : V, ((wipe σ vs).set 6 (some v))[0]? = some (some (.ref a))) (h6 : ∀ v : V, ((wipe σ vs).set 6 (some v))[6]? = some (some v)) (h3 : σ[3]? = some (some (.ref pl))) (hw : ∀ v : V, wipe ((wipe σ vs).set 6 (some v)) vs = wipe σ vs)
    (hU : Same U H) (hx : H a = some (.ins C dx fs)) (hl : List.lookup f fs = some (.ref l)) (hws : H l = some (.lst ws)) (hpl : U pl = some (.lst (ns.map fun j : Nat => V.int j))) (hns : ∀ j ∈ ns, j < ws.length) (h8 : ns.length ≤ 8)
    (k : ∀ (D : Addr) (H' : Hp), H D = none → Gr S0 U H U H' → H' D = some (.lst (ns.map fun j => ws.getD j .non)) → Q (.ref D) H') : tLc (iList K (tVar 3)) (gName 6) tYes (tOp (rIxL K) (tFld K (tVar 0) f) (tVar 6)) vs σ H Q := by
  refine ⟨_, h3, pl, rfl, ⟨_, sqlO (hU _ _ hpl)⟩, fun D hD => ?_⟩
  refine lc_list (xs := ns.map fun j : Nat => V.int j) (fun i H' => Gr S0 U H U H' ∧ H' D = some (.lst ((ns.take i).map fun j => ws.getD j .non))) ⟨(Gr.refl hU).newH hD, upd_same⟩ (fun i H' _ z => sqlO (z.1.s _ _ hpl)) ?_ ?_
  · rintro i y H3 hy ⟨g3, hd3⟩
    rw [List.getElem?_map] at hy
    obtain ⟨j, hj, rfl⟩ := Option.map_eq_some_iff.mp hy
    have hjl := hns j (List.mem_of_getElem? hj)
    have hi := (List.getElem?_eq_some_iff.mp hj).1
    refine ⟨hw _, ⟨_, h0 _, a, C, dx, _, _, rfl, g3.same _ _ hx, T, N, hl, _, h6 _, l, ws, _, ws.getD j .non, rfl, rfl, sqlO (g3.same _ _ hws), atI_nat (by rw [List.getD_eq_getElem?_getD, List.getElem?_eq_getElem hjl]; rfl), _, hd3, ?_, g3.mut (.inr hD) (hU.free hD), ?_⟩⟩
    · rw [List.length_map, List.length_take]
      exact small1000 (by omega)
    · rw [upd_same, List.take_succ, hj, List.map_append]
      rfl
  · rintro H3 ⟨g3, hd3⟩
    rw [List.length_map, List.take_length] at hd3
    exact k D H3 hD g3 hd3
end
end Lw

set_option maxHeartbeats 0
namespace Lw
open PySem PySem.Spec PyProof.Rows L2 VW TL
local macro_rules | `(tactic| walk_at "rdc") => `(tactic| first | assumption | rfl | decide | omega | exact Or.inr ⟨by decide, by decide⟩ | exact ⟨by decide, by decide⟩ | exact ⟨by decide, by decide, by decide⟩ | (show (0 : Int) < _; omega) | (show (0 : Int) < _ ∧ _ < (1073741824 : Int); omega) | (show (-(2 ^ 64) < _ ∧ _ < 2 ^ 64) ∨ (-(2 ^ 64) < _ ∧ _ < 2 ^ 64); omega) | (show (-(2 ^ 64) < _ ∧ _ < 2 ^ 64) ∨ (-(2 ^ 64) < _ ∧ _ < 2 ^ 64); right; split <;> decide) | exact Nat.le_of_ble_eq_true rfl)
local macro_rules | `(tactic| walk_at "rd1") => `(tactic| first | refine ⟨_, rfl, ?_⟩ | refine And.intro (by walk_at "rdc") ?_ | refine ⟨_, _, rfl, rfl, ?_⟩ | refine Or.inl ⟨_, rfl, ?_⟩ | refine Or.inr ⟨_, rfl, ?_⟩ | refine ⟨_, _, _, _, rfl, rfl, sqlO (by first | assumption | exact upd_same), rfl, ?_⟩ | refine ⟨_, _, _, _, rfl, rfl, (by first | assumption | exact upd_same), rfl, ?_⟩)
local macro_rules | `(tactic| walk_at "rd") => `(tactic| repeat (walk_at "rd1"))

section
variable {P : Program} {w : World} {K : PySem.W.Frag} {mg : Str → Option Value} {base : Heap} {W : Wd}
section
variable {U H : Hp} {A : PA} {p : Pl} {qs : List Row}
theorem PoolSt.putR (h : PoolSt P w K W U H A p qs) {us : List V} {rs : List Row} (hd : DpAll K U us (rs.map Row.data)) : PoolSt P w K W U (upd H A.r (.lst us)) A { p with rows := rs } qs := by
  obtain ⟨vs, r1, r2⟩ := h.fr
  obtain ⟨es, n1, n2⟩ := h.fn
  have nd := h.nd
  simp only [PA.own, List.nodup_cons, List.mem_cons, List.not_mem_nil, or_false, not_or] at nd
  obtain ⟨⟨x_n, x_w, x_d, x_h, x_b, x_r⟩, ⟨n_w, n_d, n_h, n_b, n_r⟩, ⟨w_d, w_h, w_b, w_r⟩, ⟨d_h, d_b, d_r⟩, ⟨h_b, h_r⟩, b_r, _⟩ := nd
  exact ⟨h.nd, h.u, by rw [upd_ne x_r]; exact h.fx, ⟨us, upd_same, hd⟩, by rw [upd_ne b_r]; exact h.fb, by rw [upd_ne h_r]; exact h.fh, by rw [upd_ne d_r]; exact h.fd, by rw [upd_ne w_r]; exact h.fw, es, by rw [upd_ne n_r]; exact n1, n2⟩
theorem PoolSt.putB (h : PoolSt P w K W U H A p qs) (bs : List Bool) : PoolSt P w K W U (upd H A.b (.lst (bs.map V.bl))) A { p with bare := bs } qs := by
  obtain ⟨vs, r1, r2⟩ := h.fr
  obtain ⟨es, n1, n2⟩ := h.fn
  have nd := h.nd
  simp only [PA.own, List.nodup_cons, List.mem_cons, List.not_mem_nil, or_false, not_or] at nd
  obtain ⟨⟨x_n, x_w, x_d, x_h, x_b, x_r⟩, ⟨n_w, n_d, n_h, n_b, n_r⟩, ⟨w_d, w_h, w_b, w_r⟩, ⟨d_h, d_b, d_r⟩, ⟨h_b, h_r⟩, b_r, _⟩ := nd
  exact ⟨h.nd, h.u, by rw [upd_ne x_b]; exact h.fx, ⟨vs, by rw [upd_ne (Ne.symm b_r)]; exact r1, r2⟩, upd_same, by rw [upd_ne h_b]; exact h.fh, by rw [upd_ne d_b]; exact h.fd, by rw [upd_ne w_b]; exact h.fw, es, by rw [upd_ne n_b]; exact n1, n2⟩
theorem PoolSt.putH (h : PoolSt P w K W U H A p qs) (bs : List Bool) : PoolSt P w K W U (upd H A.h (.lst (bs.map V.bl))) A { p with hard := bs } qs := by
  obtain ⟨vs, r1, r2⟩ := h.fr
  obtain ⟨es, n1, n2⟩ := h.fn
  have nd := h.nd
  simp only [PA.own, List.nodup_cons, List.mem_cons, List.not_mem_nil, or_false, not_or] at nd
  obtain ⟨⟨x_n, x_w, x_d, x_h, x_b, x_r⟩, ⟨n_w, n_d, n_h, n_b, n_r⟩, ⟨w_d, w_h, w_b, w_r⟩, ⟨d_h, d_b, d_r⟩, ⟨h_b, h_r⟩, b_r, _⟩ := nd
  exact ⟨h.nd, h.u, by rw [upd_ne x_h]; exact h.fx, ⟨vs, by rw [upd_ne (Ne.symm h_r)]; exact r1, r2⟩, by rw [upd_ne (Ne.symm h_b)]; exact h.fb, upd_same, by rw [upd_ne d_h]; exact h.fd, by rw [upd_ne w_h]; exact h.fw, es, by rw [upd_ne n_h]; exact n1, n2⟩
theorem PoolSt.putD (h : PoolSt P w K W U H A p qs) (bs : List Bool) : PoolSt P w K W U (upd H A.d (.lst (bs.map V.bl))) A { p with direct := bs } qs := by
  obtain ⟨vs, r1, r2⟩ := h.fr
  obtain ⟨es, n1, n2⟩ := h.fn
  have nd := h.nd
  simp only [PA.own, List.nodup_cons, List.mem_cons, List.not_mem_nil, or_false, not_or] at nd
  obtain ⟨⟨x_n, x_w, x_d, x_h, x_b, x_r⟩, ⟨n_w, n_d, n_h, n_b, n_r⟩, ⟨w_d, w_h, w_b, w_r⟩, ⟨d_h, d_b, d_r⟩, ⟨h_b, h_r⟩, b_r, _⟩ := nd
  exact ⟨h.nd, h.u, by rw [upd_ne x_d]; exact h.fx, ⟨vs, by rw [upd_ne (Ne.symm d_r)]; exact r1, r2⟩, by rw [upd_ne (Ne.symm d_b)]; exact h.fb, by rw [upd_ne (Ne.symm d_h)]; exact h.fh, upd_same, by rw [upd_ne w_d]; exact h.fw, es, by rw [upd_ne n_d]; exact n1, n2⟩
theorem PoolSt.putW (h : PoolSt P w K W U H A p qs) (bs : List Int) : PoolSt P w K W U (upd H A.w (.lst (bs.map V.int))) A { p with wides := bs } qs := by
  obtain ⟨vs, r1, r2⟩ := h.fr
  obtain ⟨es, n1, n2⟩ := h.fn
  have nd := h.nd
  simp only [PA.own, List.nodup_cons, List.mem_cons, List.not_mem_nil, or_false, not_or] at nd
  obtain ⟨⟨x_n, x_w, x_d, x_h, x_b, x_r⟩, ⟨n_w, n_d, n_h, n_b, n_r⟩, ⟨w_d, w_h, w_b, w_r⟩, ⟨d_h, d_b, d_r⟩, ⟨h_b, h_r⟩, b_r, _⟩ := nd
  exact ⟨h.nd, h.u, by rw [upd_ne x_w]; exact h.fx, ⟨vs, by rw [upd_ne (Ne.symm w_r)]; exact r1, r2⟩, by rw [upd_ne (Ne.symm w_b)]; exact h.fb, by rw [upd_ne (Ne.symm w_h)]; exact h.fh, by rw [upd_ne (Ne.symm w_d)]; exact h.fd, upd_same, es, by rw [upd_ne n_w]; exact n1, n2⟩
end
section
variable {A : PA}
theorem lp_rows : List.lookup ("rows" : Str) A.fs = some (.ref A.r) := by kernel_rfl
theorem lp_bare : List.lookup ("are_bare" : Str) A.fs = some (.ref A.b) := by kernel_rfl
theorem lp_hard : List.lookup ("are_hard" : Str) A.fs = some (.ref A.h) := by kernel_rfl
theorem lp_direct : List.lookup ("are_direct" : Str) A.fs = some (.ref A.d) := by kernel_rfl
theorem lp_wides : List.lookup ("wides" : Str) A.fs = some (.ref A.w) := by kernel_rfl
theorem lp_numbers : List.lookup ("_numbers" : Str) A.fs = some (.ref A.n) := by kernel_rfl
theorem lp_add_new : List.lookup ("_add_new" : Str) A.fs = none := by kernel_rfl
theorem lp_add : List.lookup ("add" : Str) A.fs = none := by kernel_rfl
theorem lp_below : List.lookup ("rows_below" : Str) A.fs = none := by kernel_rfl
end
theorem line_or {σ : L2.St} {H : Hp} {Q : VK} {r : Row} (h : σ[2]? = some (some (.str r.kind))) (k : Q (.bl (isLn r)) H) : tOrV (tOp rEq (tVar 2) (tC (V.str "line"))) (tOp rEq (tVar 2) (tC (V.str "hard"))) σ H Q := by
  cases r with
  | line z => exact ⟨_, h, rfl, _, rfl, ifT (by kernel_rfl) k⟩
  | hard =>
    refine ⟨_, h, rfl, _, rfl, ifF (by kernel_rfl) ⟨_, h, rfl, ?_⟩⟩
    rw [show decide (V.str (Row.kind (.hard)) = V.str "hard") = true by kernel_rfl]
    exact k
  | text z =>
    refine ⟨_, h, rfl, _, rfl, ifF (by kernel_rfl) ⟨_, h, rfl, ?_⟩⟩
    rw [show decide (V.str (Row.kind (.text z)) = V.str "hard") = false by kernel_rfl]
    exact k
  | cat ps =>
    refine ⟨_, h, rfl, _, rfl, ifF (by kernel_rfl) ⟨_, h, rfl, ?_⟩⟩
    rw [show decide (V.str (Row.kind (.cat ps)) = V.str "hard") = false by kernel_rfl]
    exact k
  | nest n j =>
    refine ⟨_, h, rfl, _, rfl, ifF (by kernel_rfl) ⟨_, h, rfl, ?_⟩⟩
    rw [show decide (V.str (Row.kind (.nest n j)) = V.str "hard") = false by kernel_rfl]
    exact k
  | align j =>
    refine ⟨_, h, rfl, _, rfl, ifF (by kernel_rfl) ⟨_, h, rfl, ?_⟩⟩
    rw [show decide (V.str (Row.kind (.align j)) = V.str "hard") = false by kernel_rfl]
    exact k
  | group j =>
    refine ⟨_, h, rfl, _, rfl, ifF (by kernel_rfl) ⟨_, h, rfl, ?_⟩⟩
    rw [show decide (V.str (Row.kind (.group j)) = V.str "hard") = false by kernel_rfl]
    exact k
theorem getD_bl {bs : List Bool} {j : Nat} (h : j < bs.length) : (bs.map V.bl).getD j .non = .bl (bs.getD j false) := by
  rw [List.getD_eq_getElem?_getD, List.getD_eq_getElem?_getD, List.getElem?_map, List.getElem?_eq_getElem h]
  rfl
theorem getD_in {ws : List Int} {j : Nat} (h : j < ws.length) : (ws.map V.int).getD j .non = .int (ws.getD j 0) := by
  rw [List.getD_eq_getElem?_getD, List.getD_eq_getElem?_getD, List.getElem?_map, List.getElem?_eq_getElem h]
  rfl
theorem map_bl {bs : List Bool} {ns : List Nat} (h : ∀ j ∈ ns, j < bs.length) : (ns.map fun j => (bs.map V.bl).getD j .non) = (ns.map fun j => bs.getD j false).map V.bl := by
  rw [List.map_map]
  exact List.map_congr_left fun j hj => getD_bl (h j hj)
theorem map_in {ws : List Int} {ns : List Nat} (h : ∀ j ∈ ns, j < ws.length) : (ns.map fun j => (ws.map V.int).getD j .non) = (ns.map fun j => ws.getD j 0).map V.int := by
  rw [List.map_map]
  exact List.map_congr_left fun j hj => getD_in (h j hj)
/-- all, any and the sum of what a list holds for the parts -/
theorem all_f {C a l : Addr} {f : Str} {dx pl : Addr} {fs : List (Str × V)} {bs : List Bool} {ns : List Nat} {σ : L2.St} {U H : Hp} {Q : VK} {vs : List Nat} (T : Cls K C) (N : NoAttr K C f) (h0 : ∀ v : V, ((wipe σ vs).set 6 (some v))[0]? = some (some (.ref a))) (h6 : ∀ v : V, ((wipe σ vs).set 6 (some v))[6]? = some (some v)) (h3 : σ[3]? = some (some (.ref pl))) (hw : ∀ v : V, wipe ((wipe σ vs).set 6 (some v)) vs = wipe σ vs)
    (hU : Same U H) (hx : H a = some (.ins C dx fs)) (hl : List.lookup f fs = some (.ref l)) (hws : H l = some (.lst (bs.map V.bl))) (hpl : U pl = some (.lst (ns.map fun j : Nat => V.int j))) (hns : ∀ j ∈ ns, j < bs.length) (h8 : ns.length ≤ 8)
    (k : ∀ H', Gr S0 U H U H' → Q (.bl (ns.all fun j => bs.getD j false)) H') : tCB (rAll K) (tCons (tLc (iList K (tVar 3)) (gName 6) tYes (tOp (rIxL K) (tFld K (tVar 0) f) (tVar 6)) vs) tNil) σ H Q := by
  show tLc (iList K (tVar 3)) (gName 6) tYes (tOp (rIxL K) (tFld K (tVar 0) f) (tVar 6)) vs σ H (fun x H1 => rAll K [x] H1 Q)
  refine lc_field T N h0 h6 h3 hw hU hx hl hws hpl (by rw [List.length_map]; exact hns) h8 fun D H' _ g hd => ?_
  rw [map_bl hns] at hd
  refine ⟨D, _, rfl, sqlO hd, ?_⟩
  rw [List.all_map]
  exact k H' g
theorem any_f {C a l : Addr} {f : Str} {dx pl : Addr} {fs : List (Str × V)} {bs : List Bool} {ns : List Nat} {σ : L2.St} {U H : Hp} {Q : VK} {vs : List Nat} (T : Cls K C) (N : NoAttr K C f) (h0 : ∀ v : V, ((wipe σ vs).set 6 (some v))[0]? = some (some (.ref a))) (h6 : ∀ v : V, ((wipe σ vs).set 6 (some v))[6]? = some (some v)) (h3 : σ[3]? = some (some (.ref pl))) (hw : ∀ v : V, wipe ((wipe σ vs).set 6 (some v)) vs = wipe σ vs)
    (hU : Same U H) (hx : H a = some (.ins C dx fs)) (hl : List.lookup f fs = some (.ref l)) (hws : H l = some (.lst (bs.map V.bl))) (hpl : U pl = some (.lst (ns.map fun j : Nat => V.int j))) (hns : ∀ j ∈ ns, j < bs.length) (h8 : ns.length ≤ 8)
    (k : ∀ H', Gr S0 U H U H' → Q (.bl (ns.any fun j => bs.getD j false)) H') : tCB (rAny K) (tCons (tLc (iList K (tVar 3)) (gName 6) tYes (tOp (rIxL K) (tFld K (tVar 0) f) (tVar 6)) vs) tNil) σ H Q := by
  show tLc (iList K (tVar 3)) (gName 6) tYes (tOp (rIxL K) (tFld K (tVar 0) f) (tVar 6)) vs σ H (fun x H1 => rAny K [x] H1 Q)
  refine lc_field T N h0 h6 h3 hw hU hx hl hws hpl (by rw [List.length_map]; exact hns) h8 fun D H' _ g hd => ?_
  rw [map_bl hns] at hd
  refine ⟨D, _, rfl, sqlO hd, ?_⟩
  rw [List.any_map]
  exact k H' g
theorem sum_f {C a l : Addr} {f : Str} {dx pl : Addr} {fs : List (Str × V)} {ws : List Int} {ns : List Nat} {σ : L2.St} {U H : Hp} {Q : VK} {vs : List Nat} (T : Cls K C) (N : NoAttr K C f) (h0 : ∀ v : V, ((wipe σ vs).set 6 (some v))[0]? = some (some (.ref a))) (h6 : ∀ v : V, ((wipe σ vs).set 6 (some v))[6]? = some (some v)) (h3 : σ[3]? = some (some (.ref pl))) (hw : ∀ v : V, wipe ((wipe σ vs).set 6 (some v)) vs = wipe σ vs)
    (hU : Same U H) (hx : H a = some (.ins C dx fs)) (hl : List.lookup f fs = some (.ref l)) (hws : H l = some (.lst (ws.map V.int))) (hpl : U pl = some (.lst (ns.map fun j : Nat => V.int j))) (hns : ∀ j ∈ ns, j < ws.length) (h8 : ns.length ≤ 8)
    (k : ∀ H', Gr S0 U H U H' → Q (.int (ns.map fun j => ws.getD j 0).sum) H') : tCB (rSum K) (tCons (tLc (iList K (tVar 3)) (gName 6) tYes (tOp (rIxL K) (tFld K (tVar 0) f) (tVar 6)) vs) tNil) σ H Q := by
  show tLc (iList K (tVar 3)) (gName 6) tYes (tOp (rIxL K) (tFld K (tVar 0) f) (tVar 6)) vs σ H (fun x H1 => rSum K [x] H1 Q)
  refine lc_field T N h0 h6 h3 hw hU hx hl hws hpl (by rw [List.length_map]; exact hns) h8 fun D H' _ g hd => ?_
  rw [map_in hns] at hd
  exact ⟨D, _, rfl, sqlO hd, k H' g⟩
theorem nilA {σ : L2.St} {H : Hp} {Q : List V → Hp → Prop} (h : Q [] H) : tNil σ H Q := h
theorem bare_e {C a l : Addr} {f : Str} {dx pl : Addr} {fs : List (Str × V)} {bs : List Bool} {ns : List Nat} {σ : L2.St} {U H : Hp} {Q : VK} {vs : List Nat} {b : Bool} {r : Row} (T : Cls K C) (N : NoAttr K C f) (h0 : ∀ v : V, ((wipe σ vs).set 6 (some v))[0]? = some (some (.ref a))) (h6 : ∀ v : V, ((wipe σ vs).set 6 (some v))[6]? = some (some v)) (h3 : σ[3]? = some (some (.ref pl))) (hw : ∀ v : V, wipe ((wipe σ vs).set 6 (some v)) vs = wipe σ vs)
    (hU : Same U H) (hx : H a = some (.ins C dx fs)) (hl : List.lookup f fs = some (.ref l)) (hws : H l = some (.lst (bs.map V.bl))) (hpl : U pl = some (.lst (ns.map fun j : Nat => V.int j))) (hns : ∀ j ∈ ns, j < bs.length) (h8 : ns.length ≤ 8) (h4 : σ[4]? = some (some (.bl b)))
    (k : ∀ H', Gr S0 U H U H' → Q (.bl (!b && ns.all fun j => bs.getD j false)) H') : tAndV (tNotV (tVar 4)) (tCB (rAll K) (tCons (tLc (iList K (tVar 3)) (gName 6) tYes (tOp (rIxL K) (tFld K (tVar 0) f) (tVar 6)) vs) tNil)) σ H Q := by
  refine ⟨_, h4, _, rfl, _, rfl, ?_⟩
  cases b with
  | true => exact iteF (k H (Gr.refl hU))
  | false => exact iteT (all_f T N h0 h6 h3 hw hU hx hl hws hpl hns h8 fun H' g => by have := k H' g; rw [show (!false && ns.all fun j => bs.getD j false) = ns.all fun j => bs.getD j false from Bool.true_and _] at this; exact this)
theorem hard_dec (r : Row) : decide (V.str r.kind = V.str "hard") = isHd r := by cases r <;> kernel_rfl
theorem group_dec (r : Row) : decide (V.str r.kind = V.str "group") = isGr r := by cases r <;> kernel_rfl
theorem hard_e {C a l : Addr} {f : Str} {dx pl : Addr} {fs : List (Str × V)} {bs : List Bool} {ns : List Nat} {σ : L2.St} {U H : Hp} {Q : VK} {vs : List Nat} {b : Bool} {r : Row} (T : Cls K C) (N : NoAttr K C f) (h0 : ∀ v : V, ((wipe σ vs).set 6 (some v))[0]? = some (some (.ref a))) (h6 : ∀ v : V, ((wipe σ vs).set 6 (some v))[6]? = some (some v)) (h3 : σ[3]? = some (some (.ref pl))) (hw : ∀ v : V, wipe ((wipe σ vs).set 6 (some v)) vs = wipe σ vs)
    (hU : Same U H) (hx : H a = some (.ins C dx fs)) (hl : List.lookup f fs = some (.ref l)) (hws : H l = some (.lst (bs.map V.bl))) (hpl : U pl = some (.lst (ns.map fun j : Nat => V.int j))) (hns : ∀ j ∈ ns, j < bs.length) (h8 : ns.length ≤ 8) (h2 : σ[2]? = some (some (.str r.kind)))
    (k : ∀ H', Gr S0 U H U H' → Q (.bl (isHd r || ns.any fun j => bs.getD j false)) H') : tOrV (tOp rEq (tVar 2) (tC (V.str "hard"))) (tCB (rAny K) (tCons (tLc (iList K (tVar 3)) (gName 6) tYes (tOp (rIxL K) (tFld K (tVar 0) f) (tVar 6)) vs) tNil)) σ H Q := by
  refine ⟨_, h2, rfl, _, rfl, ?_⟩
  rw [hard_dec]
  cases hb : isHd r with
  | true =>
    have := k H (Gr.refl hU)
    rw [hb, Bool.true_or] at this
    exact iteT this
  | false =>
    rw [hb] at k
    exact iteF (any_f T N h0 h6 h3 hw hU hx hl hws hpl hns h8 fun H' g => by have := k H' g; rw [Bool.false_or] at this; exact this)
theorem direct_e {C a l : Addr} {f : Str} {dx pl : Addr} {fs : List (Str × V)} {bs : List Bool} {ns : List Nat} {σ : L2.St} {U H : Hp} {Q : VK} {vs : List Nat} {b : Bool} {r : Row} (T : Cls K C) (N : NoAttr K C f) (h0 : ∀ v : V, ((wipe σ vs).set 6 (some v))[0]? = some (some (.ref a))) (h6 : ∀ v : V, ((wipe σ vs).set 6 (some v))[6]? = some (some v)) (h3 : σ[3]? = some (some (.ref pl))) (hw : ∀ v : V, wipe ((wipe σ vs).set 6 (some v)) vs = wipe σ vs)
    (hU : Same U H) (hx : H a = some (.ins C dx fs)) (hl : List.lookup f fs = some (.ref l)) (hws : H l = some (.lst (bs.map V.bl))) (hpl : U pl = some (.lst (ns.map fun j : Nat => V.int j))) (hns : ∀ j ∈ ns, j < bs.length) (h8 : ns.length ≤ 8) (h2 : σ[2]? = some (some (.str r.kind))) (h4 : σ[4]? = some (some (.bl b)))
    (k : ∀ H', Gr S0 U H U H' → Q (.bl (b || (!isGr r && ns.any fun j => bs.getD j false))) H') : tOrV (tVar 4) (tAndV (tOp rNe (tVar 2) (tC (V.str "group"))) (tCB (rAny K) (tCons (tLc (iList K (tVar 3)) (gName 6) tYes (tOp (rIxL K) (tFld K (tVar 0) f) (tVar 6)) vs) tNil))) σ H Q := by
  refine ⟨_, h4, _, rfl, ?_⟩
  cases b with
  | true => exact iteT (k H (Gr.refl hU))
  | false =>
    refine iteF ⟨_, h2, rfl, _, rfl, ?_⟩
    rw [group_dec]
    cases hb : isGr r with
    | true =>
      have := k H (Gr.refl hU)
      rw [hb] at this
      exact iteF this
    | false =>
      rw [hb] at k
      exact iteT (any_f T N h0 h6 h3 hw hU hx hl hws hpl hns h8 fun H' g => by have := k H' g; rw [Bool.false_or, Bool.not_false, Bool.true_and] at this; exact this)
theorem own_e {σ : L2.St} {H : Hp} {Q : VK} {v : V} {r : Row} {k0 : Nat} (h1 : σ[1]? = some (some v)) (h2 : σ[2]? = some (some (.str r.kind))) (hd : Dp K H v r.data) (hok : r.ok k0) (k : Q (.int (ownW r)) H) :
    tIf (tOr (tTest (tOp rEq (tVar 2) (tC (V.str "text")))) (tTest (tOp rEq (tVar 2) (tC (V.str "line"))))) (tCB (fun xs H_1 Q => ∃ x n, xs = [x] ∧ LenV K x H_1 n ∧ Q (V.int ↑n) H_1) (tCons (tOp (rIxT K) (tVar 1) (tC (V.int 1))) tNil)) (tC (V.int 0)) σ H Q := by
  cases r with
  | text z =>
    cases hd with | tup ht hs =>
    cases hs with | cons e1 hs =>
    cases hs with | cons e2 hs =>
    cases e2
    refine ⟨_, h2, rfl, _, rfl, ifT (by kernel_rfl) (iteT ⟨_, h1, _, _, _, _, rfl, rfl, ht, atI_nat (j := 1) rfl, _, _, rfl, ⟨Nat.le_trans hok.1 (Nat.le_of_ble_eq_true rfl), rfl⟩, k⟩)⟩
  | line z =>
    cases hd with | tup ht hs =>
    cases hs with | cons e1 hs =>
    cases hs with | cons e2 hs =>
    cases e2
    refine ⟨_, h2, rfl, _, rfl, ifF (by kernel_rfl) ⟨_, h2, rfl, _, rfl, ifT (by kernel_rfl) ⟨_, h1, _, _, _, _, rfl, rfl, ht, atI_nat (j := 1) rfl, _, _, rfl, ⟨Nat.le_trans hok.1 (Nat.le_of_ble_eq_true rfl), rfl⟩, k⟩⟩⟩
  | hard => exact ⟨_, h2, rfl, _, rfl, ifF (by kernel_rfl) ⟨_, h2, rfl, _, rfl, ifF (by kernel_rfl) k⟩⟩
  | cat ps => exact ⟨_, h2, rfl, _, rfl, ifF (by kernel_rfl) ⟨_, h2, rfl, _, rfl, ifF (by kernel_rfl) k⟩⟩
  | nest n j => exact ⟨_, h2, rfl, _, rfl, ifF (by kernel_rfl) ⟨_, h2, rfl, _, rfl, ifF (by kernel_rfl) k⟩⟩
  | align j => exact ⟨_, h2, rfl, _, rfl, ifF (by kernel_rfl) ⟨_, h2, rfl, _, rfl, ifF (by kernel_rfl) k⟩⟩
  | group j => exact ⟨_, h2, rfl, _, rfl, ifF (by kernel_rfl) ⟨_, h2, rfl, _, rfl, ifF (by kernel_rfl) k⟩⟩
theorem sc_Pool__add_new : FnScope ["self", "row", "kind", "parts", "is_line", "own", "part"] ["self", "row"] (defScope s_Pool__add_new) := ⟨rfl, rfl, rfl, by decide +kernel, rfl, by decide +kernel, by decide +kernel⟩
def sp_addnew (P : Program) (w : World) (K : PySem.W.Frag) (W : Wd) : Sp := fun vs H Q _ => ∃ (A : PA) (p : Pl) (qs : List Row) (v : V) (r : Row) (U : Hp), vs = [.ref A.x, v] ∧ Same U H ∧ PoolSt P w K W U H A p qs ∧ PlOk p ∧ Dp K U v r.data ∧ r.ok p.rows.length ∧ p.rows.length ≤ 999 ∧
  ∀ (U' H' : Hp), Gr (fun b => b ∈ A.own) U H U' H' → PoolSt P w K W U' H' A (p.new r) qs → Q .non H'
theorem d_Pool__add_new (T : Txt w K mg W) : MethOk P w K mg base W.c_Pool "_add_new" "Pool._add_new" s_Pool__add_new ["self", "row"] 2 (sp_addnew P w K W) := by
  refine T.f_Pool__add_new.ok sc_Pool__add_new (fun vs H Q E h => ?_) (fun f cdv A outer s H vs Q E hr h => ?_)
  · obtain ⟨A, p, qs, v, r, U, rfl, _⟩ := h
    rfl
  · obtain ⟨A, p, qs, v, r, U, rfl, hU, hS, hP, hd, hok, h999, k⟩ := h
    refine ⟨_, (pss_cons (ps_set (i := 2) sc_Pool__add_new.nd rfl (Or.inl rfl) (pe_ix ix_tup (pv 1) pe_int (fun _ _ => rfl)))
      (pss_cons (ps_set (i := 3) sc_Pool__add_new.nd rfl (Or.inl rfl) (pe_callD (d_parts_of T) (hr.mono (by decide)) (pa_cons (pv 1) pa_nil)))
      (pss_cons (ps_set (i := 4) sc_Pool__add_new.nd rfl (Or.inl rfl) (pe_or (pe_cmpR op_eq (pv 2) pe_str (nomark _)) (pe_one (pe_cmpR op_eq (pv 2) pe_str (nomark _)))))
      (pss_cons (ps_expr (pe_bm PySem.F.plainAttrs_list PySem.F.slot_list_append PySem.F.type_list_append mt_append (pe_fld (pv 0) rfl) (pa_cons (pv 1) pa_nil)))
      (pss_cons (ps_expr (pe_bm PySem.F.plainAttrs_list PySem.F.slot_list_append PySem.F.type_list_append mt_append (pe_fld (pv 0) rfl) (pa_cons (pe_and (pe_not (pv 4)) (pe_one (pe_callB (id := "all") (cr_all rfl) (by rfl) T.n_all (by decide +kernel) (pa_cons (pe_lc (own := [("part", 6)]) (g := (gName 6)) (tt := tYes) rfl sc_Pool__add_new.nd (pi_list (pv 3)) (blkOk_by (own := [("part", 6)]) (N := ["self", "row", "kind", "parts", "is_line", "own", "part"]) (sc := defScope s_Pool__add_new) (by decide +kernel)) (fun _ _ _ _ _ => (pg_name (i := 6) sc_Pool__add_new.nd rfl (Or.inl rfl))) (fun _ _ _ _ _ => pts_nil) (fun _ _ _ _ _ => (pe_ix (ix_listK (K := K)) ((pe_fldK (K := K)) (pv 0) rfl) (pv 6) (fun _ _ => rfl)))) pa_nil)))) pa_nil)))
      (pss_cons (ps_expr (pe_bm PySem.F.plainAttrs_list PySem.F.slot_list_append PySem.F.type_list_append mt_append (pe_fld (pv 0) rfl) (pa_cons (pe_or (pe_cmpR op_eq (pv 2) pe_str (nomark _)) (pe_one (pe_callB (id := "any") (cr_any rfl) (by rfl) T.n_any (by decide +kernel) (pa_cons (pe_lc (own := [("part", 6)]) (g := (gName 6)) (tt := tYes) rfl sc_Pool__add_new.nd (pi_list (pv 3)) (blkOk_by (own := [("part", 6)]) (N := ["self", "row", "kind", "parts", "is_line", "own", "part"]) (sc := defScope s_Pool__add_new) (by decide +kernel)) (fun _ _ _ _ _ => (pg_name (i := 6) sc_Pool__add_new.nd rfl (Or.inl rfl))) (fun _ _ _ _ _ => pts_nil) (fun _ _ _ _ _ => (pe_ix (ix_listK (K := K)) ((pe_fldK (K := K)) (pv 0) rfl) (pv 6) (fun _ _ => rfl)))) pa_nil)))) pa_nil)))
      (pss_cons (ps_expr (pe_bm PySem.F.plainAttrs_list PySem.F.slot_list_append PySem.F.type_list_append mt_append (pe_fld (pv 0) rfl) (pa_cons (pe_or (pv 4) (pe_one (pe_and (pe_cmpR op_ne (pv 2) pe_str (nomark _)) (pe_one (pe_callB (id := "any") (cr_any rfl) (by rfl) T.n_any (by decide +kernel) (pa_cons (pe_lc (own := [("part", 6)]) (g := (gName 6)) (tt := tYes) rfl sc_Pool__add_new.nd (pi_list (pv 3)) (blkOk_by (own := [("part", 6)]) (N := ["self", "row", "kind", "parts", "is_line", "own", "part"]) (sc := defScope s_Pool__add_new) (by decide +kernel)) (fun _ _ _ _ _ => (pg_name (i := 6) sc_Pool__add_new.nd rfl (Or.inl rfl))) (fun _ _ _ _ _ => pts_nil) (fun _ _ _ _ _ => (pe_ix (ix_listK (K := K)) ((pe_fldK (K := K)) (pv 0) rfl) (pv 6) (fun _ _ => rfl)))) pa_nil)))))) pa_nil)))
      (pss_cons (ps_set (i := 5) sc_Pool__add_new.nd rfl (Or.inl rfl) (pe_ifExp (PW.pt (pw_or (pt_cmpR op_eq (pv 2) pe_str (nomark _)) (pw_or1 (pt_cmpR op_eq (pv 2) pe_str (nomark _))))) (pe_callB (id := "len") call_len (by rfl) T.n_len (by decide +kernel) (pa_cons (pe_ix ix_tup (pv 1) pe_int (fun _ _ => rfl)) pa_nil)) pe_int))
      (pss_one (ps_expr (pe_bm PySem.F.plainAttrs_list PySem.F.slot_list_append PySem.F.type_list_append mt_append (pe_fld (pv 0) rfl) (pa_cons (pe_op op_add (pv 5) (pe_callB (id := "sum") (cr_sum rfl) (by rfl) T.n_sum (by decide +kernel) (pa_cons (pe_lc (own := [("part", 6)]) (g := (gName 6)) (tt := tYes) rfl sc_Pool__add_new.nd (pi_list (pv 3)) (blkOk_by (own := [("part", 6)]) (N := ["self", "row", "kind", "parts", "is_line", "own", "part"]) (sc := defScope s_Pool__add_new) (by decide +kernel)) (fun _ _ _ _ _ => (pg_name (i := 6) sc_Pool__add_new.nd rfl (Or.inl rfl))) (fun _ _ _ _ _ => pts_nil) (fun _ _ _ _ _ => (pe_ix (ix_listK (K := K)) ((pe_fldK (K := K)) (pv 0) rfl) (pv 6) (fun _ _ => rfl)))) pa_nil))) pa_nil)))))))))))), ?_⟩
    obtain ⟨a, xs, rfl, ht, hxs⟩ := row_at hd
    refine ⟨_, rfl, _, _, _, _, rfl, rfl, sqtS hU ht, atI_nat (j := 0) rfl, ?_⟩
    refine ⟨_, rfl, _, r, _, U, rfl, hU, hd, hok, fun pl U1 H1 g1 hpl => ?_⟩
    have S1 := hS.gr g1 (fun _ _ z => z)
    refine line_or (r := r) rfl ?_
    obtain ⟨vs, r1, r2⟩ := S1.fr
    have hvl : vs.length = p.rows.length := by rw [dps_length r2, List.length_map]
    refine ⟨_, rfl, A.x, W.c_Pool, A.dx, _, _, rfl, S1.fx, T.cl_Pool, T.na_Pool_rows, lp_rows, .inl ⟨rfl, _, sqlO r1⟩, _, rfl, _, _, _, rfl, rfl, r1, by rw [hvl]; exact small1000 (by omega), ?_⟩
    have S2 := S1.putR (us := vs ++ [.ref a]) (rs := p.rows ++ [r]) (by rw [List.map_append]; exact dps_append r2 (.cons (dpS g1.v hd) .nil))
    have gr : A.r ∈ A.own ∧ A.b ∈ A.own ∧ A.h ∈ A.own ∧ A.d ∈ A.own ∧ A.w ∈ A.own := by simp only [List.mem_cons, true_or, or_true, and_self]
    obtain ⟨mr, mb, mh, md, mw⟩ := gr
    have g2 : Gr (fun b => b ∈ A.own) U H U1 _ := (g1.of0).mut (p := A.r) (o := .lst (vs ++ [.ref a])) (.inl mr) (S1.u _ mr)
    generalize upd _ A.r (.lst (vs ++ [.ref a])) = H2 at S2 g2 ⊢
    -- bare
    have hlt := pts_lt hok
    have h8 := pts_len hok
    have app : ∀ (Q' : VK) (l : Addr) (ws : List V) (y : V) (H' : Hp), H' l = some (.lst ws) → ws.length ≤ 999 → Q' .non (upd H' l (.lst (ws ++ [y]))) → rAppend (.ref l) [y] H' Q' := fun Q' l ws y H' e hl q => ⟨_, _, _, rfl, rfl, e, small1000 (by omega), q⟩
    have hpl2 : U1 pl = _ := hpl
    refine ⟨_, rfl, A.x, W.c_Pool, A.dx, _, _, rfl, S2.fx, T.cl_Pool, T.na_Pool_are_bare, lp_bare, .inl ⟨rfl, _, sqlO S2.fb⟩, ?_⟩
    refine bare_e (b := isLn r) (r := r) T.cl_Pool T.na_Pool_are_bare (fun _ => rfl) (fun _ => rfl) rfl (fun _ => rfl) g2.s S2.fx lp_bare (show H2 A.b = some (.lst (p.bare.map V.bl)) from S2.fb) hpl2 (fun j hj => by have := hlt j hj; have := hP.b; omega) h8 rfl fun H3 g3 => nilA ?_
    have S3 := S2.gr g3 (fun _ _ z => z)
    refine app _ _ _ _ _ (show H3 A.b = some (.lst (p.bare.map V.bl)) from S3.fb) (by rw [List.length_map]; have := hP.b; omega) ?_
    have S4 : PoolSt P w K W U1 (upd H3 A.b (.lst (p.bare.map V.bl ++ [V.bl (!isLn r && (pts r).all fun j => p.bare.getD j false)]))) A ⟨p.rows ++ [r], p.bare ++ [(!isLn r && (pts r).all fun j => p.bare.getD j false)], p.hard, p.direct, p.wides⟩ qs := by
      have := S3.putB (p.bare ++ [(!isLn r && (pts r).all fun j => p.bare.getD j false)])
      rw [List.map_append] at this
      exact this
    have g4 : Gr (fun b => b ∈ A.own) U H U1 _ := (g2.trans g3.of0).mut (p := A.b) (o := .lst (p.bare.map V.bl ++ [V.bl (!isLn r && (pts r).all fun j => p.bare.getD j false)])) (.inl mb) (S1.u _ mb)
    generalize upd H3 A.b (.lst (p.bare.map V.bl ++ [V.bl (!isLn r && (pts r).all fun j => p.bare.getD j false)])) = H4 at S4 g4 ⊢
    -- hard
    refine ⟨_, rfl, A.x, W.c_Pool, A.dx, _, _, rfl, S4.fx, T.cl_Pool, T.na_Pool_are_hard, lp_hard, .inl ⟨rfl, _, sqlO S4.fh⟩, ?_⟩
    refine hard_e (r := r) (b := false) T.cl_Pool T.na_Pool_are_hard (fun _ => rfl) (fun _ => rfl) rfl (fun _ => rfl) g4.s S4.fx lp_hard (show H4 A.h = some (.lst (p.hard.map V.bl)) from S4.fh) hpl2 (fun j hj => by have := hlt j hj; have := hP.h; omega) h8 rfl fun H5 g5 => nilA ?_
    have S5 := S4.gr g5 (fun _ _ z => z)
    refine app _ _ _ _ _ (show H5 A.h = some (.lst (p.hard.map V.bl)) from S5.fh) (by rw [List.length_map]; have := hP.h; omega) ?_
    have S6 : PoolSt P w K W U1 (upd H5 A.h (.lst (p.hard.map V.bl ++ [V.bl (isHd r || (pts r).any fun j => p.hard.getD j false)]))) A ⟨p.rows ++ [r], p.bare ++ [(!isLn r && (pts r).all fun j => p.bare.getD j false)], p.hard ++ [(isHd r || (pts r).any fun j => p.hard.getD j false)], p.direct, p.wides⟩ qs := by
      have := S5.putH (p.hard ++ [(isHd r || (pts r).any fun j => p.hard.getD j false)])
      rw [List.map_append] at this
      exact this
    have g6 : Gr (fun b => b ∈ A.own) U H U1 _ := (g4.trans g5.of0).mut (p := A.h) (o := .lst (p.hard.map V.bl ++ [V.bl (isHd r || (pts r).any fun j => p.hard.getD j false)])) (.inl mh) (S1.u _ mh)
    generalize upd H5 A.h (.lst (p.hard.map V.bl ++ [V.bl (isHd r || (pts r).any fun j => p.hard.getD j false)])) = H6 at S6 g6 ⊢
    -- direct
    refine ⟨_, rfl, A.x, W.c_Pool, A.dx, _, _, rfl, S6.fx, T.cl_Pool, T.na_Pool_are_direct, lp_direct, .inl ⟨rfl, _, sqlO S6.fd⟩, ?_⟩
    refine direct_e (r := r) (b := isLn r) T.cl_Pool T.na_Pool_are_direct (fun _ => rfl) (fun _ => rfl) rfl (fun _ => rfl) g6.s S6.fx lp_direct (show H6 A.d = some (.lst (p.direct.map V.bl)) from S6.fd) hpl2 (fun j hj => by have := hlt j hj; have := hP.d; omega) h8 rfl rfl fun H7 g7 => nilA ?_
    have S7 := S6.gr g7 (fun _ _ z => z)
    refine app _ _ _ _ _ (show H7 A.d = some (.lst (p.direct.map V.bl)) from S7.fd) (by rw [List.length_map]; have := hP.d; omega) ?_
    have S8 : PoolSt P w K W U1 (upd H7 A.d (.lst (p.direct.map V.bl ++ [V.bl (isLn r || (!isGr r && (pts r).any fun j => p.direct.getD j false))]))) A ⟨p.rows ++ [r], p.bare ++ [(!isLn r && (pts r).all fun j => p.bare.getD j false)], p.hard ++ [(isHd r || (pts r).any fun j => p.hard.getD j false)], p.direct ++ [(isLn r || (!isGr r && (pts r).any fun j => p.direct.getD j false))], p.wides⟩ qs := by
      have := S7.putD (p.direct ++ [(isLn r || (!isGr r && (pts r).any fun j => p.direct.getD j false))])
      rw [List.map_append] at this
      exact this
    have g8 : Gr (fun b => b ∈ A.own) U H U1 _ := (g6.trans g7.of0).mut (p := A.d) (o := .lst (p.direct.map V.bl ++ [V.bl (isLn r || (!isGr r && (pts r).any fun j => p.direct.getD j false))])) (.inl md) (S1.u _ md)
    generalize upd H7 A.d (.lst (p.direct.map V.bl ++ [V.bl (isLn r || (!isGr r && (pts r).any fun j => p.direct.getD j false))])) = H8 at S8 g8 ⊢
    -- the width
    refine own_e (v := .ref a) (r := r) rfl rfl (dpS (g8.v.trans g8.s) hd) hok ?_
    refine ⟨_, rfl, A.x, W.c_Pool, A.dx, _, _, rfl, S8.fx, T.cl_Pool, T.na_Pool_wides, lp_wides, .inl ⟨rfl, _, sqlO S8.fw⟩, ?_⟩
    refine ⟨_, rfl, sum_f T.cl_Pool T.na_Pool_wides (fun _ => rfl) (fun _ => rfl) rfl (fun _ => rfl) g8.s S8.fx lp_wides (show H8 A.w = some (.lst (p.wides.map V.int)) from S8.fw) hpl2 (fun j hj => by have := hlt j hj; have := hP.w; omega) h8 fun H9 g9 => ⟨_, _, rfl, rfl, nilA ?_⟩⟩
    have S9 := S8.gr g9 (fun _ _ z => z)
    refine app _ _ _ _ _ (show H9 A.w = some (.lst (p.wides.map V.int)) from S9.fw) (by rw [List.length_map]; have := hP.w; omega) ?_
    have S10 : PoolSt P w K W U1 (upd H9 A.w (.lst (p.wides.map V.int ++ [V.int (ownW r + ((pts r).map fun j => p.wides.getD j 0).sum)]))) A (p.new r) qs := by
      have := S9.putW (p.wides ++ [(ownW r + ((pts r).map fun j => p.wides.getD j 0).sum)])
      rw [List.map_append] at this
      exact this
    exact k _ _ ((g8.trans g9.of0).mut (.inl mw) (S1.u _ mw)) S10
end
end Lw

set_option maxHeartbeats 0
namespace Lw
open PySem PySem.Spec PyProof.Rows L2 VW TL
local macro_rules | `(tactic| walk_at "rdc") => `(tactic| first | assumption | rfl | decide | omega | exact Or.inr ⟨by decide, by decide⟩ | exact ⟨by decide, by decide⟩ | exact ⟨by decide, by decide, by decide⟩ | (show (0 : Int) < _; omega) | (show (0 : Int) < _ ∧ _ < (1073741824 : Int); omega) | (show (-(2 ^ 64) < _ ∧ _ < 2 ^ 64) ∨ (-(2 ^ 64) < _ ∧ _ < 2 ^ 64); omega) | (show (-(2 ^ 64) < _ ∧ _ < 2 ^ 64) ∨ (-(2 ^ 64) < _ ∧ _ < 2 ^ 64); right; split <;> decide) | exact Nat.le_of_ble_eq_true rfl)
local macro_rules | `(tactic| walk_at "rd1") => `(tactic| first | refine ⟨_, rfl, ?_⟩ | refine And.intro (by walk_at "rdc") ?_ | refine ⟨_, _, rfl, rfl, ?_⟩ | refine Or.inl ⟨_, rfl, ?_⟩ | refine Or.inr ⟨_, rfl, ?_⟩ | refine ⟨_, _, _, _, rfl, rfl, sqlO (by first | assumption | exact upd_same), rfl, ?_⟩ | refine ⟨_, _, _, _, rfl, rfl, (by first | assumption | exact upd_same), rfl, ?_⟩)
local macro_rules | `(tactic| walk_at "rd") => `(tactic| repeat (walk_at "rd1"))

theorem paired_items {P : Program} {w : World} {κ : Type} [DecidableEq κ] {knd : PySem.KeyKind P w κ} : ∀ {ks : List κ} {us : List Value}, Paired (fun k v => knd.is k v = true) ks us → ItemsAre knd ks us
  | _, _, .nil => .nil
  | _, _, .cons h t => .cons h (paired_items t)
theorem vals_are {P : Program} {w : World} {ks : List Key} {us : List Value} (h : Vals (ks.map kV) us) : ItemsAre (mixKind P w) ks us := paired_items (paired_keys h)
theorem key_all {K : PySem.W.Frag} {U : Hp} : ∀ ks : List Key, KeyAll K U (ks.map ofK) (ks.map kV)
  | [] => .nil
  | .inl i :: ks => .cons (.int i) (key_all ks)
  | .inr x :: ks => .cons (.str x) (key_all ks)
theorem sqt_key {K : PySem.W.Frag} {U : Hp} {a : Addr} {ks : List Key} (h : SqT K U a (ks.map kV)) : KeyAt K U (.tup (ks.map ofK)) (.ref a) := by
  rcases h with h | ⟨o, its, n, h1, h2, h3, _, h4⟩
  · exact .tup h (key_all ks)
  · exact .ktup ⟨o, its, n, h1, h2, h3, fun P w => vals_are h4⟩
theorem nums_inj : ∀ {a b : List Int}, a.map NestedKey.num = b.map NestedKey.num → a = b
  | [], [], _ => rfl
  | [], _ :: _, h => nomatch h
  | _ :: _, [], h => nomatch h
  | x :: a, y :: b, h => by
    rw [List.map_cons, List.map_cons] at h
    injection h with h1 h2
    injection h1 with h1
    rw [h1, nums_inj h2]
theorem keyR_inj {r s : Row} (h : keyR r = keyR s) : r = s := by
  have ne : ∀ {x y : Str} {a b : List NestedKey}, x ≠ y → NestedKey.tup (.text x :: a) = .tup (.text y :: b) → False := fun hn e => by
    injection e with e
    injection e with e _
    injection e with e
    exact hn e
  cases r <;> cases s <;> first
    | rfl
    | exact (ne (by decide +kernel) h).elim
    | (unfold keyR at h; injection h with h; injection h with h1 h; injection h with h2 h; injection h2 with h2; rw [h2]; done)
    | (unfold keyR at h; injection h with h; injection h with h1 h; injection h with h2 h; injection h2 with h2; injection h with h3 h; injection h3 with h3; rw [h2, h3]; done)
    | (unfold keyR at h; injection h with h; injection h with h1 h; injection h with h2 h; injection h2 with h2; rw [nums_inj h2]; done)
section
variable {P : Program} {w : World} {K : PySem.W.Frag} {mg : Str → Option Value} {base : Heap} {W : Wd}
theorem dps_ints0 {H : Hp} : ∀ {ps : List Int} {ws : List V}, DpAll K H ws (ps.map PyData.int) → ws = ps.map V.int
  | [], _, h => by cases h; rfl
  | p :: ps, _, h => by
    cases h with
    | cons h1 h2 =>
      cases h1
      rw [dps_ints0 h2]
      rfl
theorem key_ints {U : Hp} : ∀ ps : List Int, KeyAll K U (ps.map NestedKey.num) (ps.map V.int)
  | [] => .nil
  | p :: ps => .cons (.int p) (key_ints ps)
theorem key_e {σ : L2.St} {U H : Hp} {Q : VK} {v : V} {r : Row} (h1 : σ[1]? = some (some v)) (hU : Same U H) (hd : Dp K U v r.data) (k : ∀ (b : Addr) (U' H' : Hp), Gr S0 U H U' H' → KeyAt K U' (keyR r) (.ref b) → Q (.ref b) H') :
    tIf (tTest (tOp rEq (tOp (rIxT K) (tVar 1) (tC (V.int 0))) (tC (V.str "cat")))) (tTup (tCons (tOp (rIxT K) (tVar 1) (tC (V.int 0))) (tCons (tCB (fun xs H_1 Q => ∃ p ys, xs = [V.ref p] ∧ ((SqL K H_1 p ys ∧ ∀ (l : Addr), H_1 l = none → Q (V.ref l) (upd H_1 l (HO.tup ys))) ∨ SqT K H_1 p ys ∧ Q (V.ref p) H_1)) (tCons (tOp (rIxT K) (tVar 1) (tC (V.int 1))) tNil)) tNil))) (tVar 1) σ H Q := by
  cases r with
  | cat ps =>
    cases hd with | tup ht hs =>
    cases hs with | cons e1 hs =>
    cases e1
    cases hs with | cons e2 hs =>
    cases e2 with | lst hl hls =>
    cases hs
    have e := dps_ints0 hls
    subst e
    refine ⟨_, h1, _, _, _, _, rfl, rfl, sqtS hU ht, atI_nat (j := 0) rfl, rfl, _, rfl, ifT (by kernel_rfl) ?_⟩
    refine ⟨_, h1, _, _, _, _, rfl, rfl, sqtS hU ht, atI_nat (j := 0) rfl, _, h1, _, _, _, _, rfl, rfl, sqtS hU ht, atI_nat (j := 1) rfl, _, _, rfl, .inl ⟨sqlS hU hl, fun l hl0 => ⟨Nat.le_of_ble_eq_true rfl, fun t ht0 => ?_⟩⟩⟩
    have n1 : l ≠ t := ne_of_none upd_same ht0
    refine k t _ _ (((Gr.refl hU).new hl0).new ht0) ?_
    exact .tup (.inl upd_same) (.cons (.str _) (.cons (.tup (.inl (by rw [upd_ne n1]; exact upd_same)) (key_ints ps)) .nil))
  | text z =>
    cases hd with | tup ht hs =>
    cases hs with | cons e0 hs =>
    cases e0
    cases hs with | cons e1 hs =>
    cases e1
    cases hs
    exact ⟨_, h1, _, _, _, _, rfl, rfl, sqtS hU ht, atI_nat (j := 0) rfl, rfl, _, rfl, ifF (by kernel_rfl) ⟨_, h1, k _ U H (Gr.refl hU) (sqt_key (ks := [.inr "text", .inr z]) ht)⟩⟩
  | line z =>
    cases hd with | tup ht hs =>
    cases hs with | cons e0 hs =>
    cases e0
    cases hs with | cons e1 hs =>
    cases e1
    cases hs
    exact ⟨_, h1, _, _, _, _, rfl, rfl, sqtS hU ht, atI_nat (j := 0) rfl, rfl, _, rfl, ifF (by kernel_rfl) ⟨_, h1, k _ U H (Gr.refl hU) (sqt_key (ks := [.inr "line", .inr z]) ht)⟩⟩
  | hard =>
    cases hd with | tup ht hs =>
    cases hs with | cons e0 hs =>
    cases e0
    cases hs
    exact ⟨_, h1, _, _, _, _, rfl, rfl, sqtS hU ht, atI_nat (j := 0) rfl, rfl, _, rfl, ifF (by kernel_rfl) ⟨_, h1, k _ U H (Gr.refl hU) (sqt_key (ks := [.inr "hard"]) ht)⟩⟩
  | nest n j =>
    cases hd with | tup ht hs =>
    cases hs with | cons e0 hs =>
    cases e0
    cases hs with | cons e1 hs =>
    cases e1
    cases hs with | cons e2 hs =>
    cases e2
    cases hs
    exact ⟨_, h1, _, _, _, _, rfl, rfl, sqtS hU ht, atI_nat (j := 0) rfl, rfl, _, rfl, ifF (by kernel_rfl) ⟨_, h1, k _ U H (Gr.refl hU) (sqt_key (ks := [.inr "nest", .inl n, .inl j]) ht)⟩⟩
  | align j =>
    cases hd with | tup ht hs =>
    cases hs with | cons e0 hs =>
    cases e0
    cases hs with | cons e1 hs =>
    cases e1
    cases hs
    exact ⟨_, h1, _, _, _, _, rfl, rfl, sqtS hU ht, atI_nat (j := 0) rfl, rfl, _, rfl, ifF (by kernel_rfl) ⟨_, h1, k _ U H (Gr.refl hU) (sqt_key (ks := [.inr "align", .inl j]) ht)⟩⟩
  | group j =>
    cases hd with | tup ht hs =>
    cases hs with | cons e0 hs =>
    cases e0
    cases hs with | cons e1 hs =>
    cases e1
    cases hs
    exact ⟨_, h1, _, _, _, _, rfl, rfl, sqtS hU ht, atI_nat (j := 0) rfl, rfl, _, rfl, ifF (by kernel_rfl) ⟨_, h1, k _ U H (Gr.refl hU) (sqt_key (ks := [.inr "group", .inl j]) ht)⟩⟩
theorem nums_depth : ∀ ps : List Int, NestedKey.depthAll (ps.map NestedKey.num) = 0
  | [] => rfl
  | p :: ps => by
    show max 0 (NestedKey.depthAll (ps.map NestedKey.num)) = 0
    rw [nums_depth ps]
    rfl
theorem keyR_depth (r : Row) : (keyR r).depth ≤ 8 := by
  cases r with
  | cat ps =>
    show max 0 (max (NestedKey.depthAll (ps.map NestedKey.num) + 1) 0) + 1 ≤ 8
    rw [nums_depth]
    decide
  | _ => exact Nat.le_of_ble_eq_true rfl
theorem NumOk.put {U : Hp} {rows : List Row} {es : EX} {r : Row} {b : Addr} (h : NumOk K U rows es) (hk : KeyAt K U (keyR r) (.ref b)) (hn : valX es (keyR r) = none) : NumOk K U (rows ++ [r]) (putX es (keyR r) b (.int (rows.length : Nat))) := by
  have e : putX es (keyR r) b (.int (rows.length : Nat)) = es ++ [(keyR r, b, .int (rows.length : Nat))] := by
    unfold putX
    rw [hn]
    rfl
  refine ⟨h.k.put hk (keyR_depth r), by rw [e, List.length_append, List.length_append, h.l]; rfl, fun i q hq => ?_, fun q v hv => ?_⟩
  · rw [e, valX_snoc _ _ _ _ _ hn]
    by_cases hi : i < rows.length
    · rw [List.getElem?_append_left hi] at hq
      have hi2 := h.i i q hq
      have ne : ¬ keyR q = keyR r := fun z => by rw [z, hn] at hi2; cases hi2
      rw [if_neg ne]
      exact hi2
    · rw [List.getElem?_append_right (by omega)] at hq
      have h0 : i - rows.length = 0 := by
        cases hd : i - rows.length with
        | zero => rfl
        | succ n => rw [hd] at hq; cases hq
      rw [h0] at hq
      cases hq
      rw [if_pos rfl, show i = rows.length by omega]
  · rw [e, valX_snoc _ _ _ _ _ hn] at hv
    by_cases z : keyR q = keyR r
    · rw [if_pos z] at hv
      cases hv
      have := keyR_inj z
      subst this
      exact ⟨rows.length, by rw [List.getElem?_append_right (Nat.le_refl _), Nat.sub_self]; rfl, rfl⟩
    · rw [if_neg z] at hv
      obtain ⟨i, h1, h2⟩ := h.o q v hv
      have hi := (List.getElem?_eq_some_iff.mp h1).1
      exact ⟨i, by rw [List.getElem?_append_left hi]; exact h1, h2⟩
theorem PoolSt.putN {U H : Hp} {A : PA} {p : Pl} {qs rs : List Row} {es : EX} (h : PoolSt P w K W U H A p qs) (N : NumOk K U rs es) : PoolSt P w K W U (upd H A.n (dxO P w A.n es)) A p rs := by
  obtain ⟨vs, r1, r2⟩ := h.fr
  have nd := h.nd
  simp only [PA.own, List.nodup_cons, List.mem_cons, List.not_mem_nil, or_false, not_or] at nd
  obtain ⟨⟨x_n, x_w, x_d, x_h, x_b, x_r⟩, ⟨n_w, n_d, n_h, n_b, n_r⟩, _⟩ := nd
  exact ⟨h.nd, h.u, by rw [upd_ne x_n]; exact h.fx, ⟨vs, by rw [upd_ne (Ne.symm n_r)]; exact r1, r2⟩, by rw [upd_ne (Ne.symm n_b)]; exact h.fb, by rw [upd_ne (Ne.symm n_h)]; exact h.fh, by rw [upd_ne (Ne.symm n_d)]; exact h.fd, by rw [upd_ne (Ne.symm n_w)]; exact h.fw, es, upd_same, N⟩
theorem sc_Pool_add : FnScope ["self", "row", "key"] ["self", "row"] (defScope s_Pool_add) := ⟨rfl, rfl, rfl, by decide +kernel, rfl, by decide +kernel, by decide +kernel⟩
def sp_add (P : Program) (w : World) (K : PySem.W.Frag) (W : Wd) : Sp := fun vs H Q _ => ∃ (A : PA) (p : Pl) (v : V) (r : Row) (U : Hp), vs = [.ref A.x, v] ∧ Same U H ∧ PoolSt P w K W U H A p p.rows ∧ PlOk p ∧ Dp K U v r.data ∧ r.ok p.rows.length ∧ p.rows.length ≤ 998 ∧
  (∀ (i : Nat) (U' H' : Hp), p.rows[i]? = some r → Gr (fun b => b ∈ A.own) U H U' H' → PoolSt P w K W U' H' A p p.rows → Q (.int i) H') ∧
  (∀ (U' H' : Hp), r ∉ p.rows → Gr (fun b => b ∈ A.own) U H U' H' → PoolSt P w K W U' H' A (p.new r) (p.rows ++ [r]) → Q (.int (p.rows.length : Nat)) H')
theorem d_Pool_add (T : Txt w K mg W) : MethOk P w K mg base W.c_Pool "add" "Pool.add" s_Pool_add ["self", "row"] 3 (sp_add P w K W) := by
  refine T.f_Pool_add.ok sc_Pool_add (fun vs H Q E h => ?_) (fun f cdv A outer s H vs Q E hr h => ?_)
  · obtain ⟨A, p, v, r, U, rfl, _⟩ := h
    rfl
  · obtain ⟨A, p, v, r, U, rfl, hU, hS, hP, hd, hok, h998, k1, k2⟩ := h
    refine ⟨_, (pss_cons (ps_set (i := 2) sc_Pool_add.nd rfl (Or.inl rfl) (pe_ifExp (pt_cmpR op_eq (pe_ix ix_tup (pv 1) pe_int (fun _ _ => rfl)) pe_str (nomark _)) (pe_tup (pa_cons (pe_ix ix_tup (pv 1) pe_int (fun _ _ => rfl)) (pa_cons (pe_callTy (T := "tuple") call_tuple_of (by rfl) T.n_tuple (by decide +kernel) (pa_cons (pe_ix ix_tup (pv 1) pe_int (fun _ _ => rfl)) pa_nil)) pa_nil))) (pv 1)))
      (Evl.pss_cut (ps_if (pt_cmp (pc_xnotin (hu9 hr) (pv 2) (pe_fld (pv 0) rfl))) (pss_cons (ps_xput (hu9 hr) (pe_fld (pv 0) rfl) (pv 2) (pe_callB (id := "len") call_len (by rfl) T.n_len (by decide +kernel) (pa_cons (pe_fld (pv 0) rfl) pa_nil)))
      (pss_one (ps_expr (pe_methD (d_Pool__add_new T) T.cl_Pool (hr.mono (by decide)) (pv 0) (pa_cons (pe_callD (d_copied_row T) (hr.mono (by decide)) (pa_cons (pv 1) pa_nil)) pa_nil))))) pss_nil)
      (pss_one (ps_ret (pe_xget (hu9 hr) (pe_fld (pv 0) rfl) (pv 2) (fun _ _ => rfl)))))), ?_⟩
    refine key_e (r := r) rfl hU hd fun b U1 H1 g1 hk => ?_
    have S1 := hS.gr g1 (fun _ _ z => z)
    obtain ⟨es, n1, N⟩ := S1.fn
    have mn : A.n ∈ A.own := by simp only [List.mem_cons, true_or, or_true]
    have few : es.length < sizeLine := by rw [N.l]; exact small1000 (by omega)
    refine ⟨fun σ' H' => σ' = [some (.ref A.x), some v, some (.ref b)] ∧ ∃ (U' : Hp) (es' : EX) (i : Nat), Same U' H' ∧ H' A.x = some (.ins W.c_Pool A.dx A.fs) ∧ H' A.n = some (dxO P w A.n es') ∧ KeysOk K U' es' ∧ valX es' (keyR r) = some (.int i) ∧ KeyAt K U' (keyR r) (.ref b) ∧ Q (.int i) H', ?_, ?_⟩
    · refine ⟨_, rfl, _, rfl, A.x, W.c_Pool, A.dx, _, _, rfl, S1.fx, T.cl_Pool, T.na_Pool__numbers, lp_numbers, A.n, valX es (keyR r), rfl, ⟨es, keyR r, b, n1, N.k.mono fun _ _ z => rdS g1.s z, rfl, hk.mono fun _ _ z => rdS g1.s z, keyR_depth r, rfl⟩, ?_⟩
      cases hv : valX es (keyR r) with
      | some u =>
        obtain ⟨i, hi, rfl⟩ := N.o r u hv
        exact ⟨false, rfl, iteF ⟨rfl, U1, es, i, g1.s, S1.fx, n1, N.k, hv, hk, k1 i U1 H1 hi g1.of0 S1⟩⟩
      | none =>
        have hnr : r ∉ p.rows := fun hm => by
          obtain ⟨i, hi⟩ := List.mem_iff_getElem?.mp hm
          have := N.i i r hi
          rw [hv] at this
          cases this
        refine ⟨true, rfl, iteT ?_⟩
        obtain ⟨vs, r1, r2⟩ := S1.fr
        have hvl : vs.length = p.rows.length := by rw [dps_length r2, List.length_map]
        refine ⟨_, rfl, A.x, W.c_Pool, A.dx, _, _, rfl, S1.fx, T.cl_Pool, T.na_Pool_rows, lp_rows, _, _, rfl, .inl ⟨_, sqlO r1, rfl⟩, _, rfl, A.x, W.c_Pool, A.dx, _, _, rfl, S1.fx, T.cl_Pool, T.na_Pool__numbers, lp_numbers, _, rfl, A.n, _, rfl, ⟨es, keyR r, b, n1, N.k.mono fun _ _ z => rdS g1.s z, rfl, hk.mono fun _ _ z => rdS g1.s z, keyR_depth r, few, rfl⟩, ?_⟩
        rw [hvl]
        have S2 := S1.putN (N.put hk hv)
        have g2 : Gr (fun b => b ∈ A.own) U H U1 _ := (g1.of0).mut (p := A.n) (o := dxO P w A.n (putX es (keyR r) b (.int (p.rows.length : Nat)))) (.inl mn) (S1.u _ mn)
        refine ⟨_, rfl, A.x, A.dx, _, rfl, S2.fx, lp_add_new, ?_⟩
        refine ⟨_, rfl, v, r, U1, rfl, g2.s, .of g2.s (dpS g1.v hd), fun v' U3 H3 g3 hn => nilA ?_⟩
        obtain ⟨U4, g4, _, hd4, _⟩ := RowNew.tell g3 hn fun _ z => z
        have S4 := S2.gr g4 (fun _ _ z => z)
        refine ⟨A, p, p.rows ++ [r], v', r, U4, rfl, g4.s, S4, hP, hd4, hok, by omega, fun U5 H5 g5 S5 => ?_⟩
        obtain ⟨es5, n5, N5⟩ := S5.fn
        have hi5 := N5.i p.rows.length r (by rw [List.getElem?_append_right (Nat.le_refl _), Nat.sub_self]; rfl)
        have g25 := (g2.trans g4.of0).trans g5
        exact ⟨rfl, U5, es5, p.rows.length, g5.s, S5.fx, n5, N5.k, hi5, hk.mono fun _ _ z => rdS (g4.v.trans g5.v) z, k2 U5 H5 hnr g25 S5⟩
    · rintro σ' H2 ⟨rfl, U2, es2, i, s2, fx2, n2, ks2, hv2, hk2, q2⟩
      exact ⟨_, rfl, A.x, W.c_Pool, A.dx, _, _, rfl, fx2, T.cl_Pool, T.na_Pool__numbers, lp_numbers, _, rfl, A.n, _, rfl, ⟨es2, keyR r, b, n2, ks2.mono fun _ _ z => rdS s2 z, rfl, hk2.mono fun _ _ z => rdS s2 z, keyR_depth r, hv2.symm⟩, q2⟩
end
end Lw

set_option maxHeartbeats 0
namespace Lw
open PySem PySem.Spec PyProof.Rows L2 VW TL
local macro_rules | `(tactic| walk_at "rdc") => `(tactic| first | assumption | rfl | decide | omega | exact Or.inr ⟨by decide, by decide⟩ | exact ⟨by decide, by decide⟩ | exact ⟨by decide, by decide, by decide⟩ | (show (0 : Int) < _; omega) | (show (0 : Int) < _ ∧ _ < (1073741824 : Int); omega) | (show (-(2 ^ 64) < _ ∧ _ < 2 ^ 64) ∨ (-(2 ^ 64) < _ ∧ _ < 2 ^ 64); omega) | (show (-(2 ^ 64) < _ ∧ _ < 2 ^ 64) ∨ (-(2 ^ 64) < _ ∧ _ < 2 ^ 64); right; split <;> decide) | exact Nat.le_of_ble_eq_true rfl)
local macro_rules | `(tactic| walk_at "rd1") => `(tactic| first | refine ⟨_, rfl, ?_⟩ | refine And.intro (by walk_at "rdc") ?_ | refine ⟨_, _, rfl, rfl, ?_⟩ | refine Or.inl ⟨_, rfl, ?_⟩ | refine Or.inr ⟨_, rfl, ?_⟩ | refine ⟨_, _, _, _, rfl, rfl, sqlO (by first | assumption | exact upd_same), rfl, ?_⟩ | refine ⟨_, _, _, _, rfl, rfl, (by first | assumption | exact upd_same), rfl, ?_⟩)
local macro_rules | `(tactic| walk_at "rd") => `(tactic| repeat (walk_at "rd1"))

def Row.eqB : Row → Row → Bool
  | .text x, .text y => decide (x = y)
  | .line x, .line y => decide (x = y)
  | .hard, .hard => true
  | .cat x, .cat y => decide (x = y)
  | .nest m i, .nest n j => decide (m = n) && decide (i = j)
  | .align i, .align j => decide (i = j)
  | .group i, .group j => decide (i = j)
  | _, _ => false
theorem Row.eqB_iff (a b : Row) : a.eqB b = true ↔ a = b := by
  cases a <;> cases b <;> simp [Row.eqB]
instance : DecidableEq Row := fun a b => decidable_of_iff (a.eqB b = true) (Row.eqB_iff a b)
/-- a row is added, or known: its number and the pool -/
def Pl.add (p : Pl) (r : Row) : Nat × Pl :=
  match p.rows.findIdx? fun q => decide (q = r) with
  | some i => (i, p)
  | none => (p.rows.length, p.new r)
section
variable {P : Program} {w : World} {K : PySem.W.Frag} {mg : Str → Option Value} {base : Heap} {W : Wd}
theorem PlOk.add {p : Pl} (h : PlOk p) (r : Row) : PlOk (p.add r).2 := by
  unfold Pl.add
  split
  · exact h
  · exact h.new r
/-- what adding asks and tells -/
theorem add_do {A : PA} {p : Pl} {v : V} {r : Row} {U H : Hp} {Q : VK} {E : XK} (hU : Same U H) (hS : PoolSt P w K W U H A p p.rows) (hP : PlOk p) (hd : Dp K U v r.data) (hok : r.ok p.rows.length) (h998 : p.rows.length ≤ 998)
    (k : ∀ (U' H' : Hp), Gr (fun b => b ∈ A.own) U H U' H' → PoolSt P w K W U' H' A (p.add r).2 (p.add r).2.rows → Q (.int ((p.add r).1 : Nat)) H') : sp_add P w K W [.ref A.x, v] H Q E := by
  unfold Pl.add at k
  cases e : p.rows.findIdx? fun q => decide (q = r) with
  | some i =>
    rw [e] at k
    obtain ⟨hi, he, _⟩ := List.findIdx?_eq_some_iff_getElem.mp e
    have hir : p.rows[i]? = some r := by rw [List.getElem?_eq_getElem hi, of_decide_eq_true he]
    refine ⟨A, p, v, r, U, rfl, hU, hS, hP, hd, hok, h998, fun j U' H' hj g S => ?_, fun U' H' hn g S => ?_⟩
    · have : i = j := by
        obtain ⟨es, n1, N⟩ := hS.fn
        have a1 := N.i i r hir
        have a2 := N.i j r hj
        rw [a1] at a2
        have := V.int.inj (Option.some.inj a2)
        omega
      subst this
      exact k U' H' g S
    · exact absurd (List.mem_of_getElem? hir) hn
  | none =>
    rw [e] at k
    refine ⟨A, p, v, r, U, rfl, hU, hS, hP, hd, hok, h998, fun j U' H' hj g S => ?_, fun U' H' hn g S => k U' H' g S⟩
    have := List.findIdx?_eq_none_iff.mp e r (List.mem_of_getElem? hj)
    rw [decide_eq_true rfl] at this
    cases this
end
end Lw

set_option maxHeartbeats 0
namespace Lw
open PySem PySem.Spec PyProof.Rows L2 VW TL
local macro_rules | `(tactic| walk_at "rdc") => `(tactic| first | assumption | rfl | decide | omega | exact Or.inr ⟨by decide, by decide⟩ | exact ⟨by decide, by decide⟩ | exact ⟨by decide, by decide, by decide⟩ | (show (0 : Int) < _; omega) | (show (0 : Int) < _ ∧ _ < (1073741824 : Int); omega) | (show (-(2 ^ 64) < _ ∧ _ < 2 ^ 64) ∨ (-(2 ^ 64) < _ ∧ _ < 2 ^ 64); omega) | (show (-(2 ^ 64) < _ ∧ _ < 2 ^ 64) ∨ (-(2 ^ 64) < _ ∧ _ < 2 ^ 64); right; split <;> decide) | exact Nat.le_of_ble_eq_true rfl)
local macro_rules | `(tactic| walk_at "rd1") => `(tactic| first | refine ⟨_, rfl, ?_⟩ | refine And.intro (by walk_at "rdc") ?_ | refine ⟨_, _, rfl, rfl, ?_⟩ | refine Or.inl ⟨_, rfl, ?_⟩ | refine Or.inr ⟨_, rfl, ?_⟩ | refine ⟨_, _, _, _, rfl, rfl, sqlO (by first | assumption | exact upd_same), rfl, ?_⟩ | refine ⟨_, _, _, _, rfl, rfl, (by first | assumption | exact upd_same), rfl, ?_⟩)
local macro_rules | `(tactic| walk_at "rd") => `(tactic| repeat (walk_at "rd1"))

def goodB (n : Nat) (z : Str) : Bool := decide (z.cps.size ≤ n) && z.cps.toList.all fun c => decide (32 ≤ c) && decide (c ≤ 126)
theorem goodB_ok {n : Nat} {z : Str} (h : goodB n z = true) : GoodS n z := by
  unfold goodB at h
  simp only [Bool.and_eq_true, decide_eq_true_eq, List.all_eq_true] at h
  exact h
def Row.okB (k : Nat) : Row → Bool
  | .text z => goodB 20 z
  | .line z => goodB 3 z
  | .hard => true
  | .cat ps => decide (ps.length ≤ 8) && ps.all fun j => decide (0 ≤ j) && decide (j < (k : Int))
  | .nest n j => decide (0 ≤ n) && (decide (n ≤ 8) && (decide (0 ≤ j) && decide (j < (k : Int))))
  | .align j => decide (0 ≤ j) && decide (j < (k : Int))
  | .group j => decide (0 ≤ j) && decide (j < (k : Int))
theorem okB_ok {k : Nat} {r : Row} (h : r.okB k = true) : r.ok k := by
  cases r with
  | text z => exact goodB_ok h
  | line z => exact goodB_ok h
  | hard => exact True.intro
  | cat ps =>
    simp only [Row.okB, Bool.and_eq_true, decide_eq_true_eq, List.all_eq_true] at h
    exact h
  | nest n j =>
    simp only [Row.okB, Bool.and_eq_true, decide_eq_true_eq] at h
    exact h
  | align j =>
    simp only [Row.okB, Bool.and_eq_true, decide_eq_true_eq] at h
    exact h
  | group j =>
    simp only [Row.okB, Bool.and_eq_true, decide_eq_true_eq] at h
    exact h
/-- adding, where it may be asked -/
def Pl.addO (p : Pl) (r : Row) : Option (Nat × Pl) := if r.okB p.rows.length && decide (p.rows.length ≤ 998) then some (p.add r) else none
theorem addO_some {p p' : Pl} {r : Row} {n : Nat} (h : p.addO r = some (n, p')) : r.ok p.rows.length ∧ p.rows.length ≤ 998 ∧ p.add r = (n, p') := by
  unfold Pl.addO at h
  split at h
  · rename_i hc
    rw [Bool.and_eq_true, decide_eq_true_eq] at hc
    exact ⟨okB_ok hc.1, hc.2, Option.some.inj h⟩
  · cases h
def keepP (p : Pl) (j : Nat) : Bool := !p.bare.getD j false || decide (p.wides.getD j 0 > 0)
/-- a cat's parts that are kept -/
def keptP (p : Pl) (ns : List Nat) : List Nat := ns.filter (keepP p)
def replCat (p : Pl) : Row → Option (Nat × Pl)
  | .cat ps =>
    match keptP p (pts (.cat ps)) with
    | [] => p.addO (.text "")
    | [j] => some (j, p)
    | i :: j :: js => p.addO (.cat ((i :: j :: js).map fun j : Nat => (j : Int)))
  | _ => none
def replSing (p : Pl) : Row → Option (Nat × Pl)
  | .nest n j =>
    if p.bare.getD j.toNat false || decide (n = 0) then some (j.toNat, p) else
    match p.rows.getD j.toNat .hard with
    | .align _ => some (j.toNat, p)
    | .nest m i => if n + m ≤ 8 then p.addO (.nest (n + m) i) else p.addO (.nest n j)
    | _ => p.addO (.nest n j)
  | .align j =>
    if p.bare.getD j.toNat false then some (j.toNat, p) else
    match p.rows.getD j.toNat .hard with
    | .align _ => some (j.toNat, p)
    | _ => p.addO (.align j)
  | .group j => if p.bare.getD j.toNat false then some (j.toNat, p) else if p.hard.getD j.toNat false || !p.direct.getD j.toNat false then some (j.toNat, p) else p.addO (.group j)
  | _ => none
section
variable {P : Program} {w : World} {K : PySem.W.Frag} {mg : Str → Option Value} {base : Heap} {W : Wd}
def sp_repl (P : Program) (w : World) (K : PySem.W.Frag) (W : Wd) (f : Pl → Row → Option (Nat × Pl)) : Sp := fun vs H Q _ => ∃ (A : PA) (p : Pl) (v : V) (r : Row) (U : Hp) (n : Nat) (p' : Pl), vs = [.ref A.x, v] ∧ Same U H ∧ PoolSt P w K W U H A p p.rows ∧ PlOk p ∧ Dp K U v r.data ∧ r.ok p.rows.length ∧ f p r = some (n, p') ∧
  ∀ (U' H' : Hp), Gr (fun b => b ∈ A.own) U H U' H' → PoolSt P w K W U' H' A p' p'.rows → PlOk p' → Q (.int (n : Nat)) H'
theorem addO_do {A : PA} {p p' : Pl} {v : V} {r : Row} {n : Nat} {U H : Hp} {Q : VK} {E : XK} (hU : Same U H) (hS : PoolSt P w K W U H A p p.rows) (hP : PlOk p) (hd : Dp K U v r.data) (hf : p.addO r = some (n, p'))
    (k : ∀ (U' H' : Hp), Gr (fun b => b ∈ A.own) U H U' H' → PoolSt P w K W U' H' A p' p'.rows → PlOk p' → Q (.int (n : Nat)) H') : sp_add P w K W [.ref A.x, v] H Q E := by
  obtain ⟨h1, h2, h3⟩ := addO_some hf
  refine add_do hU hS hP hd h1 h2 fun U' H' g S => ?_
  have P' := hP.add r
  rw [h3] at S P' ⊢
  exact k U' H' g S P'
theorem at_bl {bs : List Bool} {j : Nat} (h : j < bs.length) : atI (bs.map V.bl) (j : Int) = some (V.bl (bs.getD j false)) := atI_nat (by rw [List.getElem?_map, List.getElem?_eq_getElem h, List.getD_eq_getElem?_getD, List.getElem?_eq_getElem h]; rfl)
theorem at_in {ws : List Int} {j : Nat} (h : j < ws.length) : atI (ws.map V.int) (j : Int) = some (V.int (ws.getD j 0)) := atI_nat (by rw [List.getElem?_map, List.getElem?_eq_getElem h, List.getD_eq_getElem?_getD, List.getElem?_eq_getElem h]; rfl)
theorem iteB {A B : Prop} {c : Bool} (h1 : c = true → A) (h2 : c = false → B) : if c = true then A else B := by
  cases c with
  | true => exact iteT (h1 rfl)
  | false => exact iteF (h2 rfl)
theorem sc__replaced_cat : FnScope ["pool", "row", "parts", "part"] ["pool", "row"] (defScope s__replaced_cat) := ⟨rfl, rfl, rfl, by decide +kernel, rfl, by decide +kernel, by decide +kernel⟩
theorem d__replaced_cat (T : Txt w K mg W) : DefOk P w K mg base "_replaced_cat" s__replaced_cat ["pool", "row"] 4 (sp_repl P w K W replCat) := by
  refine T.f__replaced_cat.ok sc__replaced_cat (fun vs H Q E h => ?_) (fun f cdv A outer s H vs Q E hr h => ?_)
  · obtain ⟨A, p, v, r, U, n, p', rfl, _⟩ := h
    rfl
  · obtain ⟨A, p, v, r, U, n, p', rfl, hU, hS, hP, hd, hok, hf, k⟩ := h
    refine ⟨_, (pss_cons (ps_setLc (i := 2) (own := [("part", 3)]) (g := (gName 3)) rfl sc__replaced_cat.nd rfl rfl (sw_true rfl rfl rfl (by decide +kernel)) (pi_list (pe_ix ix_tup (pv 1) pe_int (fun _ _ => rfl))) (blkOk_by (own := [("part", 3)]) (N := ["pool", "row", "parts", "part"]) (sc := defScope s__replaced_cat) (by decide +kernel)) (fun _ _ _ _ _ => (pg_name (i := 3) sc__replaced_cat.nd rfl (Or.inl rfl))) (fun _ _ _ _ _ => (pts_one (PW.pt (pw_or (pt_not (pt_val (pe_ix (ix_listK (K := K)) ((pe_fldK (K := K)) (pv 0) rfl) (pv 3) (fun _ _ => rfl)))) (pw_or1 (pt_cmpR op_gt (pe_ix (ix_listK (K := K)) ((pe_fldK (K := K)) (pv 0) rfl) (pv 3) (fun _ _ => rfl)) pe_int (nomark _))))))) (fun _ _ _ _ _ => (pv 3)))
      (pss_cons (ps_if (pt_not (pt_truth (pv 2) (by intro _; rfl))) (pss_one (ps_ret (pe_methD (d_Pool_add T) T.cl_Pool (hr.mono (by decide)) (pv 0) (pa_cons (pe_tup (pa_cons pe_str (pa_cons pe_str pa_nil))) pa_nil)))) pss_nil)
      (pss_cons (ps_if (pt_cmpR op_eq (pe_callB (id := "len") call_len (by rfl) T.n_len (by decide +kernel) (pa_cons (pv 2) pa_nil)) pe_int (nomark _)) (pss_one (ps_ret (pe_ix ix_list (pv 2) pe_int (fun _ _ => rfl)))) pss_nil)
      (pss_one (ps_ret (pe_methD (d_Pool_add T) T.cl_Pool (hr.mono (by decide)) (pv 0) (pa_cons (pe_tup (pa_cons pe_str (pa_cons (pv 2) pa_nil))) pa_nil))))))), ?_⟩
    cases r with
    | cat ps =>
      cases hd with | tup ht hs =>
      cases hs with | cons e1 hs =>
      cases e1
      cases hs with | cons e2 hs =>
      cases e2 with | lst hl hls =>
      cases hs
      have e := dps_ints hls
      subst e
      have hlt := pts_lt hok
      have hpi : ps = (pts (.cat ps)).map fun j : Nat => (j : Int) := by
        show ps = (ps.map Int.toNat).map _
        rw [List.map_map]
        conv => lhs; rw [← List.map_id ps]
        refine List.map_congr_left fun j hj => ?_
        have := (hok.2 j hj).1
        show j = ((j.toNat : Nat) : Int)
        rw [Int.toNat_of_nonneg this]
      have h8 : (pts (.cat ps)).length ≤ 8 := pts_len hok
      have hf' : replCat p (.cat ps) = some (n, p') := hf
      unfold replCat at hf'
      simp only [] at hf'
      generalize pts (.cat ps) = ns at *
      subst hpi
      rw [List.map_map] at hl
      trace_state
      refine ⟨_, rfl, _, _, _, _, rfl, rfl, sqtS hU ht, atI_nat (j := 1) rfl, _, rfl, ⟨_, sqlS hU hl⟩, fun D hD => ?_⟩
      refine lc_list (xs := ns.map fun j : Nat => V.int j) (fun i H' => Gr S0 U H U H' ∧ H' D = some (.lst ((keptP p (ns.take i)).map fun j : Nat => V.int j))) ⟨(Gr.refl hU).newH hD, upd_same⟩ (fun i H' _ z => sqlS z.1.s hl) ?_ ?_
      · rintro i y H3 hy ⟨g3, hd3⟩
        rw [List.getElem?_map] at hy
        obtain ⟨j, hj, rfl⟩ := Option.map_eq_some_iff.mp hy
        refine ⟨rfl, ?_⟩
        have S3 := hS.gr g3 (fun _ _ z => z)
        have hjm := List.mem_of_getElem? hj
        have hjl := hlt j hjm
        refine ⟨_, rfl, A.x, W.c_Pool, A.dx, _, _, rfl, S3.fx, T.cl_Pool, T.na_Pool_are_bare, lp_bare, _, rfl, A.b, _, (j : Nat), _, rfl, rfl, sqlO S3.fb, at_bl (by rw [hP.b]; exact hjl), _, rfl, ?_⟩
        have ht : (keptP p (ns.take (i + 1))) = keptP p (ns.take i) ++ (if keepP p j then [j] else []) := by
          rw [List.take_succ, hj]
          show keptP p (ns.take i ++ [j]) = _
          unfold keptP
          rw [List.filter_append, List.filter_cons, List.filter_nil]
        have add : keepP p j = true → Gr S0 U H U (upd H3 D (.lst ((keptP p (ns.take i)).map (fun j : Nat => V.int j) ++ [V.int j]))) ∧ upd H3 D (.lst ((keptP p (ns.take i)).map (fun j : Nat => V.int j) ++ [V.int j])) D = some (.lst ((keptP p (ns.take (i + 1))).map fun j : Nat => V.int j)) := by
          intro hk
          refine ⟨g3.mut (.inr hD) (hU.free hD), ?_⟩
          rw [upd_same, ht, hk, if_pos rfl, List.map_append]
          rfl
        have small : ((keptP p (ns.take i)).map fun j : Nat => V.int j).length < sizeLine := by
          rw [List.length_map]
          have := List.length_filter_le (keepP p) (ns.take i)
          rw [List.length_take] at this
          exact small1000 (show (ns.take i |>.filter (keepP p)).length ≤ 1000 by omega)
        have no : keepP p j = false → Gr S0 U H U H3 ∧ H3 D = some (.lst ((keptP p (ns.take (i + 1))).map fun j : Nat => V.int j)) := by
          intro hk
          rw [ht, hk, if_neg Bool.false_ne_true, List.append_nil]
          exact ⟨g3, hd3⟩
        cases hb : p.bare.getD j false with
        | false =>
          have hk : keepP p j = true := by unfold keepP; rw [hb]; rfl
          exact iteT (iteT ⟨_, rfl, _, hd3, small, add hk⟩)
        | true =>
          refine iteF ⟨_, rfl, A.x, W.c_Pool, A.dx, _, _, rfl, S3.fx, T.cl_Pool, T.na_Pool_wides, lp_wides, _, rfl, A.w, _, (j : Nat), _, rfl, rfl, sqlO S3.fw, at_in (by rw [hP.w]; exact hjl), _, _, rfl, rfl, _, rfl, iteB (fun hc => ?_) (fun hc => ?_)⟩
          · have hk : keepP p j = true := by unfold keepP; rw [hb]; exact hc
            exact ⟨_, rfl, _, hd3, small, add hk⟩
          · have hk : keepP p j = false := by unfold keepP; rw [hb]; exact hc
            exact no hk
      · rintro H3 ⟨g3, hd3⟩
        rw [List.length_map, List.take_length] at hd3
        have S3 := hS.gr g3 (fun _ _ z => z)
        refine ⟨_, rfl, _, .inl ⟨_, sqlO hd3, rfl⟩, ?_⟩
        have gr0 : Gr (fun b => b ∈ A.own) U H U H3 := g3.of0
        cases hk : keptP p ns with
        | nil =>
          rw [hk] at hf'
          refine iteT ⟨_, rfl, A.x, A.dx, _, rfl, S3.fx, lp_add, Nat.le_of_ble_eq_true rfl, fun t ht => nilA ?_⟩
          have g4 := (Gr.refl (S := S0) g3.s).new (o := .tup [.str "text", .str ""]) ht
          refine addO_do g4.s (S3.gr g4 (fun _ _ z => z)) hP (dp_tup upd_same (.cons (.str _) (.cons (.str _) .nil))) hf' fun U' H' g S P' => k U' H' ((gr0.trans g4.of0).trans g) S P'
        | cons i is =>
          rw [hk] at hd3 hf'
          refine iteF ⟨_, rfl, _, _, rfl, .inl ⟨_, sqlO hd3, rfl⟩, rfl, _, rfl, ?_⟩
          cases is with
          | nil =>
            obtain ⟨rfl, rfl⟩ := Prod.mk.inj (Option.some.inj hf')
            exact ifT (by kernel_rfl) ⟨_, rfl, _, _, _, _, rfl, rfl, sqlO hd3, atI_nat (j := 0) rfl, k U H3 gr0 S3 hP⟩
          | cons j js =>
            refine ifF ?_ ⟨_, rfl, A.x, A.dx, _, rfl, S3.fx, lp_add, _, rfl, Nat.le_of_ble_eq_true rfl, fun t ht => nilA ?_⟩
            · refine decide_eq_false fun z => ?_
              have z := V.int.inj z
              rw [List.map_cons, List.map_cons, List.length_cons, List.length_cons] at z
              omega
            · have nt : D ≠ t := ne_of_none hd3 ht
              have g4 := (g3.tell hD hd3 (hU.free hD)).new (o := .tup [.str "cat", .ref D]) ht
              refine addO_do (U := upd (upd U D (.lst ((i :: j :: js).map fun j : Nat => V.int j))) t (.tup [.str "cat", .ref D])) g4.s (hS.gr g4 (fun _ _ z => z)) hP ?_ hf' fun U' H' g S P' => k U' H' (g4.of0.trans g) S P'
              exact dp_tup upd_same (.cons (.str _) (.cons (dp_lst (by rw [upd_ne nt]; exact upd_same) (nats_dp (i :: j :: js))) .nil))
    | _ => cases hf
end
end Lw

set_option maxHeartbeats 0
namespace Lw
open PySem PySem.Spec PyProof.Rows L2 VW TL
local macro_rules | `(tactic| walk_at "rdc") => `(tactic| first | assumption | rfl | decide | omega | exact Or.inr ⟨by decide, by decide⟩ | exact ⟨by decide, by decide⟩ | exact ⟨by decide, by decide, by decide⟩ | (show (0 : Int) < _; omega) | (show (0 : Int) < _ ∧ _ < (1073741824 : Int); omega) | (show (-(2 ^ 64) < _ ∧ _ < 2 ^ 64) ∨ (-(2 ^ 64) < _ ∧ _ < 2 ^ 64); omega) | (show (-(2 ^ 64) < _ ∧ _ < 2 ^ 64) ∨ (-(2 ^ 64) < _ ∧ _ < 2 ^ 64); right; split <;> decide) | exact Nat.le_of_ble_eq_true rfl)
local macro_rules | `(tactic| walk_at "rd1") => `(tactic| first | refine ⟨_, rfl, ?_⟩ | refine And.intro (by walk_at "rdc") ?_ | refine ⟨_, _, rfl, rfl, ?_⟩ | refine Or.inl ⟨_, rfl, ?_⟩ | refine Or.inr ⟨_, rfl, ?_⟩ | refine ⟨_, _, _, _, rfl, rfl, sqlO (by first | assumption | exact upd_same), rfl, ?_⟩ | refine ⟨_, _, _, _, rfl, rfl, (by first | assumption | exact upd_same), rfl, ?_⟩)
local macro_rules | `(tactic| walk_at "rd") => `(tactic| repeat (walk_at "rd1"))

section
variable {P : Program} {w : World} {K : PySem.W.Frag} {mg : Str → Option Value} {base : Heap} {W : Wd}
theorem row_of {U H : Hp} {A : PA} {p : Pl} {qs : List Row} {j : Nat} (hS : PoolSt P w K W U H A p qs) (hj : j < p.rows.length) :
    ∃ (vs xs : List V) (a : Addr), H A.r = some (.lst vs) ∧ vs[j]? = some (.ref a) ∧ SqT K U a (.str (p.rows.getD j .hard).kind :: xs) ∧ DpAll K U xs (p.rows.getD j .hard).fields := by
  obtain ⟨vs, h1, h2⟩ := hS.fr
  have hl : vs.length = p.rows.length := by rw [dps_length h2, List.length_map]
  obtain ⟨d, e1, e2⟩ := dps_get h2 (List.getElem?_eq_getElem (by omega : j < vs.length))
  rw [List.getElem?_map, List.getElem?_eq_getElem hj] at e1
  cases e1
  obtain ⟨a, xs, hv, ht, hs⟩ := row_at e2
  refine ⟨vs, xs, a, h1, by rw [List.getElem?_eq_getElem (by omega : j < vs.length), hv], ?_, ?_⟩
  · rw [List.getD_eq_getElem?_getD, List.getElem?_eq_getElem hj]
    exact ht
  · rw [List.getD_eq_getElem?_getD, List.getElem?_eq_getElem hj]
    exact hs
def isAl : Row → Bool
  | .align _ => true | _ => false
def isNe : Row → Bool
  | .nest _ _ => true | _ => false
theorem align_dec (r : Row) : decide (V.str r.kind = V.str "align") = isAl r := by cases r <;> kernel_rfl
theorem nest_dec (r : Row) : decide (V.str r.kind = V.str "nest") = isNe r := by cases r <;> kernel_rfl
theorem sc__replaced_single : FnScope ["pool", "row", "kind", "part", "below"] ["pool", "row"] (defScope s__replaced_single) := ⟨rfl, rfl, rfl, by decide +kernel, rfl, by decide +kernel, by decide +kernel⟩
theorem d__replaced_single (T : Txt w K mg W) : DefOk P w K mg base "_replaced_single" s__replaced_single ["pool", "row"] 4 (sp_repl P w K W replSing) := by
  refine T.f__replaced_single.ok sc__replaced_single (fun vs H Q E h => ?_) (fun f cdv A outer s H vs Q E hr h => ?_)
  · obtain ⟨A, p, v, r, U, n, p', rfl, _⟩ := h
    rfl
  · obtain ⟨A, p, v, r, U, n, p', rfl, hU, hS, hP, hd, hok, hf, k⟩ := h
    refine ⟨_, (pss_cons (ps_set (i := 2) sc__replaced_single.nd rfl (Or.inl rfl) (pe_ix ix_tup (pv 1) pe_int (fun _ _ => rfl)))
      (pss_cons (ps_set (i := 3) sc__replaced_single.nd rfl (Or.inl rfl) (pe_ix ix_tup (pv 1) (pe_un un_neg pe_int) (fun _ _ => rfl)))
      (pss_cons (ps_set (i := 4) sc__replaced_single.nd rfl (Or.inl rfl) (pe_ix ix_list (pe_fld (pv 0) rfl) (pv 3) (fun _ _ => rfl)))
      (pss_cons (ps_if (PW.pt (pw_or (pt_val (pe_ix ix_list (pe_fld (pv 0) rfl) (pv 3) (fun _ _ => rfl))) (pw_or1 (PW.pt (pw_and (pt_cmpR op_eq (pv 2) pe_str (nomark _)) (pw_and1 (pt_cmpR op_eq (pe_ix ix_tup (pv 1) pe_int (fun _ _ => rfl)) pe_int (nomark _)))))))) (pss_one (ps_ret (pv 3))) pss_nil)
      (pss_cons (ps_if (PW.pt (pw_and (pt_cmpR op_ne (pv 2) pe_str (nomark _)) (pw_and1 (pt_cmpR op_eq (pe_ix ix_tup (pv 4) pe_int (fun _ _ => rfl)) pe_str (nomark _))))) (pss_one (ps_ret (pv 3))) pss_nil)
      (pss_cons (ps_if (PW.pt (pw_and (pt_cmpR op_eq (pv 2) pe_str (nomark _)) (pw_and (pt_cmpR op_eq (pe_ix ix_tup (pv 4) pe_int (fun _ _ => rfl)) pe_str (nomark _)) (pw_and1 (pt_cmpR op_le (pe_op op_add (pe_ix ix_tup (pv 1) pe_int (fun _ _ => rfl)) (pe_ix ix_tup (pv 4) pe_int (fun _ _ => rfl))) (pe_globI T.g_MOST_NEST) (nomark _)))))) (pss_one (ps_ret (pe_methD (d_Pool_add T) T.cl_Pool (hr.mono (by decide)) (pv 0) (pa_cons (pe_tup (pa_cons pe_str (pa_cons (pe_op op_add (pe_ix ix_tup (pv 1) pe_int (fun _ _ => rfl)) (pe_ix ix_tup (pv 4) pe_int (fun _ _ => rfl))) (pa_cons (pe_ix ix_tup (pv 4) pe_int (fun _ _ => rfl)) pa_nil)))) pa_nil)))) pss_nil)
      (pss_cons (ps_if (PW.pt (pw_and (pt_cmpR op_eq (pv 2) pe_str (nomark _)) (pw_and1 (PW.pt (pw_or (pt_val (pe_ix ix_list (pe_fld (pv 0) rfl) (pv 3) (fun _ _ => rfl))) (pw_or1 (pt_not (pt_val (pe_ix ix_list (pe_fld (pv 0) rfl) (pv 3) (fun _ _ => rfl)))))))))) (pss_one (ps_ret (pv 3))) pss_nil)
      (pss_one (ps_ret (pe_methD (d_Pool_add T) T.cl_Pool (hr.mono (by decide)) (pv 0) (pa_cons (pv 1) pa_nil))))))))))), ?_⟩
    cases r with
    | nest m j =>
      have hd0 := hd
      cases hd with | tup ht hs =>
      cases hs with | cons e1 hs =>
      cases e1
      cases hs with | cons e2 hs =>
      cases e2
      cases hs with | cons e3 hs =>
      cases e3
      cases hs
      obtain ⟨hm0, hm8, hj0, hjl⟩ := hok
      have ej : ((j.toNat : Nat) : Int) = j := Int.toNat_of_nonneg hj0
      have hjn : j.toNat < p.rows.length := by omega
      obtain ⟨vs, xs, a, hv, hva, hqt, hqs⟩ := row_of hS hjn
      refine ⟨_, rfl, _, _, _, _, rfl, rfl, sqtS hU ht, atI_nat (j := 0) rfl, ?_⟩
      refine ⟨_, rfl, 1, rfl, _, _, _, _, rfl, rfl, sqtS hU ht, rfl, ?_⟩
      refine ⟨_, rfl, A.x, W.c_Pool, A.dx, _, _, rfl, hS.fx, T.cl_Pool, T.na_Pool_rows, lp_rows, _, rfl, A.r, _, j, _, rfl, rfl, sqlO hv, by rw [← ej]; exact atI_nat hva, ?_⟩
      have hbr : atI (p.bare.map V.bl) j = some (V.bl (p.bare.getD j.toNat false)) := by rw [← ej]; exact at_bl (by rw [hP.b]; exact hjn)
      have hhr : atI (p.hard.map V.bl) j = some (V.bl (p.hard.getD j.toNat false)) := by rw [← ej]; exact at_bl (by rw [hP.h]; exact hjn)
      have hdr : atI (p.direct.map V.bl) j = some (V.bl (p.direct.getD j.toNat false)) := by rw [← ej]; exact at_bl (by rw [hP.d]; exact hjn)
      have hf' : replSing p (.nest m j) = some (n, p') := hf
      unfold replSing at hf'
      simp only [] at hf'
      have ret : some (j.toNat, p) = some (n, p') → Q (.int j) H := fun e => by
        obtain ⟨e1, e2⟩ := Prod.mk.inj (Option.some.inj e)
        have := k U H (Gr.refl hU) (by rw [← e2]; exact hS) (by rw [← e2]; exact hP)
        rw [← e1, ej] at this
        exact this
      have add : p.addO (.nest m j) = some (n, p') → sp_add P w K W [.ref A.x, _] H Q E0 := fun e => addO_do hU hS hP hd0 e k
      generalize p.rows.getD j.toNat .hard = q at *
      refine ⟨_, rfl, A.x, W.c_Pool, A.dx, _, _, rfl, hS.fx, T.cl_Pool, T.na_Pool_are_bare, lp_bare, _, rfl, A.b, _, j, _, rfl, rfl, sqlO hS.fb, hbr, _, rfl, ?_⟩
      cases hb : p.bare.getD j.toNat false with
      | true =>
        rw [hb] at hf'
        exact iteT (iteT ⟨_, rfl, ret hf'⟩)
      | false =>
        rw [hb, Bool.false_or] at hf'
        refine iteF ⟨_, rfl, rfl, _, rfl, ifT (by kernel_rfl) ⟨_, rfl, _, _, _, _, rfl, rfl, sqtS hU ht, atI_nat (j := 1) rfl, rfl, _, rfl, ?_⟩⟩
        by_cases hm : m = 0
        · subst hm
          exact ifT (by kernel_rfl) ⟨_, rfl, ret hf'⟩
        · rw [if_neg (by rw [decide_eq_true_eq]; exact hm)] at hf'
          refine ifF (decide_eq_false fun z => hm (V.int.inj z)) ?_
          refine ⟨_, rfl, rfl, _, rfl, ifT (by kernel_rfl) ⟨_, rfl, _, _, _, _, rfl, rfl, sqtS hU hqt, atI_nat (j := 0) rfl, rfl, _, rfl, ?_⟩⟩
          rcases q with z | z | _ | ps | ⟨m2, i⟩ | i | i
          · exact ifF (by kernel_rfl) ⟨_, rfl, rfl, _, rfl, ifT (by kernel_rfl) ⟨_, rfl, _, _, _, _, rfl, rfl, sqtS hU hqt, atI_nat (j := 0) rfl, rfl, _, rfl, ifF (by kernel_rfl) (ifF rfl ⟨_, rfl, rfl, _, rfl, ifF (by kernel_rfl) (ifF rfl ⟨_, rfl, A.x, A.dx, _, rfl, hS.fx, lp_add, _, rfl, nilA (add hf')⟩)⟩)⟩⟩
          · exact ifF (by kernel_rfl) ⟨_, rfl, rfl, _, rfl, ifT (by kernel_rfl) ⟨_, rfl, _, _, _, _, rfl, rfl, sqtS hU hqt, atI_nat (j := 0) rfl, rfl, _, rfl, ifF (by kernel_rfl) (ifF rfl ⟨_, rfl, rfl, _, rfl, ifF (by kernel_rfl) (ifF rfl ⟨_, rfl, A.x, A.dx, _, rfl, hS.fx, lp_add, _, rfl, nilA (add hf')⟩)⟩)⟩⟩
          · exact ifF (by kernel_rfl) ⟨_, rfl, rfl, _, rfl, ifT (by kernel_rfl) ⟨_, rfl, _, _, _, _, rfl, rfl, sqtS hU hqt, atI_nat (j := 0) rfl, rfl, _, rfl, ifF (by kernel_rfl) (ifF rfl ⟨_, rfl, rfl, _, rfl, ifF (by kernel_rfl) (ifF rfl ⟨_, rfl, A.x, A.dx, _, rfl, hS.fx, lp_add, _, rfl, nilA (add hf')⟩)⟩)⟩⟩
          · exact ifF (by kernel_rfl) ⟨_, rfl, rfl, _, rfl, ifT (by kernel_rfl) ⟨_, rfl, _, _, _, _, rfl, rfl, sqtS hU hqt, atI_nat (j := 0) rfl, rfl, _, rfl, ifF (by kernel_rfl) (ifF rfl ⟨_, rfl, rfl, _, rfl, ifF (by kernel_rfl) (ifF rfl ⟨_, rfl, A.x, A.dx, _, rfl, hS.fx, lp_add, _, rfl, nilA (add hf')⟩)⟩)⟩⟩
          · cases hqs with | cons e4 hqs =>
            cases e4
            cases hqs with | cons e5 hqs =>
            cases e5
            cases hqs
            simp only [] at hf'
            refine ifF (by kernel_rfl) ⟨_, rfl, rfl, _, rfl, ifT (by kernel_rfl) ⟨_, rfl, _, _, _, _, rfl, rfl, sqtS hU hqt, atI_nat (j := 0) rfl, rfl, _, rfl, ifT (by kernel_rfl) ⟨_, rfl, _, _, _, _, rfl, rfl, sqtS hU ht, atI_nat (j := 1) rfl, ⟨_, rfl, _, _, _, _, rfl, rfl, sqtS hU hqt, atI_nat (j := 1) rfl, _, _, rfl, rfl, _, _, rfl, rfl, _, rfl, ?_⟩⟩⟩⟩
            by_cases hle : m + m2 ≤ 8
            · rw [if_pos hle] at hf'
              refine ifT (decide_eq_true hle) ⟨_, rfl, A.x, A.dx, _, rfl, hS.fx, lp_add, ⟨_, rfl, _, _, _, _, rfl, rfl, sqtS hU ht, atI_nat (j := 1) rfl, ⟨_, rfl, _, _, _, _, rfl, rfl, sqtS hU hqt, atI_nat (j := 1) rfl, _, _, rfl, rfl, ⟨_, rfl, _, _, _, _, rfl, rfl, sqtS hU hqt, atI_nat (j := 2) rfl, Nat.le_of_ble_eq_true rfl, fun t ht' => nilA ?_⟩⟩⟩⟩
              have g4 := (Gr.refl (S := S0) hU).new (o := .tup [.str "nest", .int (m + m2), .int i]) ht'
              refine addO_do g4.s (hS.gr g4 (fun _ _ z => z)) hP (dp_tup upd_same (.cons (.str _) (.cons (.int _) (.cons (.int _) .nil)))) hf' fun U' H' g S P' => k U' H' (g4.of0.trans g) S P'
            · rw [if_neg hle] at hf'
              exact ifF (decide_eq_false hle) ⟨_, rfl, rfl, _, rfl, ifF (by kernel_rfl) (ifF rfl ⟨_, rfl, A.x, A.dx, _, rfl, hS.fx, lp_add, _, rfl, nilA (add hf')⟩)⟩
          · exact ifT (by kernel_rfl) ⟨_, rfl, ret hf'⟩
          · exact ifF (by kernel_rfl) ⟨_, rfl, rfl, _, rfl, ifT (by kernel_rfl) ⟨_, rfl, _, _, _, _, rfl, rfl, sqtS hU hqt, atI_nat (j := 0) rfl, rfl, _, rfl, ifF (by kernel_rfl) (ifF rfl ⟨_, rfl, rfl, _, rfl, ifF (by kernel_rfl) (ifF rfl ⟨_, rfl, A.x, A.dx, _, rfl, hS.fx, lp_add, _, rfl, nilA (add hf')⟩)⟩)⟩⟩
    | align j =>
      have hd0 := hd
      cases hd with | tup ht hs =>
      cases hs with | cons e1 hs =>
      cases e1
      cases hs with | cons e2 hs =>
      cases e2
      cases hs
      obtain ⟨hj0, hjl⟩ := hok
      have ej : ((j.toNat : Nat) : Int) = j := Int.toNat_of_nonneg hj0
      have hjn : j.toNat < p.rows.length := by omega
      obtain ⟨vs, xs, a, hv, hva, hqt, hqs⟩ := row_of hS hjn
      refine ⟨_, rfl, _, _, _, _, rfl, rfl, sqtS hU ht, atI_nat (j := 0) rfl, ?_⟩
      refine ⟨_, rfl, 1, rfl, _, _, _, _, rfl, rfl, sqtS hU ht, rfl, ?_⟩
      refine ⟨_, rfl, A.x, W.c_Pool, A.dx, _, _, rfl, hS.fx, T.cl_Pool, T.na_Pool_rows, lp_rows, _, rfl, A.r, _, j, _, rfl, rfl, sqlO hv, by rw [← ej]; exact atI_nat hva, ?_⟩
      have hbr : atI (p.bare.map V.bl) j = some (V.bl (p.bare.getD j.toNat false)) := by rw [← ej]; exact at_bl (by rw [hP.b]; exact hjn)
      have hhr : atI (p.hard.map V.bl) j = some (V.bl (p.hard.getD j.toNat false)) := by rw [← ej]; exact at_bl (by rw [hP.h]; exact hjn)
      have hdr : atI (p.direct.map V.bl) j = some (V.bl (p.direct.getD j.toNat false)) := by rw [← ej]; exact at_bl (by rw [hP.d]; exact hjn)
      have hf' : replSing p (.align j) = some (n, p') := hf
      unfold replSing at hf'
      simp only [] at hf'
      have ret : some (j.toNat, p) = some (n, p') → Q (.int j) H := fun e => by
        obtain ⟨e1, e2⟩ := Prod.mk.inj (Option.some.inj e)
        have := k U H (Gr.refl hU) (by rw [← e2]; exact hS) (by rw [← e2]; exact hP)
        rw [← e1, ej] at this
        exact this
      have add : p.addO (.align j) = some (n, p') → sp_add P w K W [.ref A.x, _] H Q E0 := fun e => addO_do hU hS hP hd0 e k
      generalize p.rows.getD j.toNat .hard = q at *
      refine ⟨_, rfl, A.x, W.c_Pool, A.dx, _, _, rfl, hS.fx, T.cl_Pool, T.na_Pool_are_bare, lp_bare, _, rfl, A.b, _, j, _, rfl, rfl, sqlO hS.fb, hbr, _, rfl, ?_⟩
      cases hb : p.bare.getD j.toNat false with
      | true =>
        rw [hb] at hf'
        exact iteT (iteT ⟨_, rfl, ret hf'⟩)
      | false =>
        rw [hb] at hf'
        refine iteF ⟨_, rfl, rfl, _, rfl, ifF (by kernel_rfl) (ifF rfl ?_)⟩
        refine ⟨_, rfl, rfl, _, rfl, ifT (by kernel_rfl) ⟨_, rfl, _, _, _, _, rfl, rfl, sqtS hU hqt, atI_nat (j := 0) rfl, rfl, _, rfl, ?_⟩⟩
        rcases q with z | z | _ | ps | ⟨m2, i⟩ | i | i
        · exact ifF (by kernel_rfl) ⟨_, rfl, rfl, _, rfl, ifF (by kernel_rfl) (ifF rfl ⟨_, rfl, rfl, _, rfl, ifF (by kernel_rfl) (ifF rfl ⟨_, rfl, A.x, A.dx, _, rfl, hS.fx, lp_add, _, rfl, nilA (add hf')⟩)⟩)⟩
        · exact ifF (by kernel_rfl) ⟨_, rfl, rfl, _, rfl, ifF (by kernel_rfl) (ifF rfl ⟨_, rfl, rfl, _, rfl, ifF (by kernel_rfl) (ifF rfl ⟨_, rfl, A.x, A.dx, _, rfl, hS.fx, lp_add, _, rfl, nilA (add hf')⟩)⟩)⟩
        · exact ifF (by kernel_rfl) ⟨_, rfl, rfl, _, rfl, ifF (by kernel_rfl) (ifF rfl ⟨_, rfl, rfl, _, rfl, ifF (by kernel_rfl) (ifF rfl ⟨_, rfl, A.x, A.dx, _, rfl, hS.fx, lp_add, _, rfl, nilA (add hf')⟩)⟩)⟩
        · exact ifF (by kernel_rfl) ⟨_, rfl, rfl, _, rfl, ifF (by kernel_rfl) (ifF rfl ⟨_, rfl, rfl, _, rfl, ifF (by kernel_rfl) (ifF rfl ⟨_, rfl, A.x, A.dx, _, rfl, hS.fx, lp_add, _, rfl, nilA (add hf')⟩)⟩)⟩
        · exact ifF (by kernel_rfl) ⟨_, rfl, rfl, _, rfl, ifF (by kernel_rfl) (ifF rfl ⟨_, rfl, rfl, _, rfl, ifF (by kernel_rfl) (ifF rfl ⟨_, rfl, A.x, A.dx, _, rfl, hS.fx, lp_add, _, rfl, nilA (add hf')⟩)⟩)⟩
        · exact ifT (by kernel_rfl) ⟨_, rfl, ret hf'⟩
        · exact ifF (by kernel_rfl) ⟨_, rfl, rfl, _, rfl, ifF (by kernel_rfl) (ifF rfl ⟨_, rfl, rfl, _, rfl, ifF (by kernel_rfl) (ifF rfl ⟨_, rfl, A.x, A.dx, _, rfl, hS.fx, lp_add, _, rfl, nilA (add hf')⟩)⟩)⟩
    | group j =>
      have hd0 := hd
      cases hd with | tup ht hs =>
      cases hs with | cons e1 hs =>
      cases e1
      cases hs with | cons e2 hs =>
      cases e2
      cases hs
      obtain ⟨hj0, hjl⟩ := hok
      have ej : ((j.toNat : Nat) : Int) = j := Int.toNat_of_nonneg hj0
      have hjn : j.toNat < p.rows.length := by omega
      obtain ⟨vs, xs, a, hv, hva, hqt, hqs⟩ := row_of hS hjn
      refine ⟨_, rfl, _, _, _, _, rfl, rfl, sqtS hU ht, atI_nat (j := 0) rfl, ?_⟩
      refine ⟨_, rfl, 1, rfl, _, _, _, _, rfl, rfl, sqtS hU ht, rfl, ?_⟩
      refine ⟨_, rfl, A.x, W.c_Pool, A.dx, _, _, rfl, hS.fx, T.cl_Pool, T.na_Pool_rows, lp_rows, _, rfl, A.r, _, j, _, rfl, rfl, sqlO hv, by rw [← ej]; exact atI_nat hva, ?_⟩
      have hbr : atI (p.bare.map V.bl) j = some (V.bl (p.bare.getD j.toNat false)) := by rw [← ej]; exact at_bl (by rw [hP.b]; exact hjn)
      have hhr : atI (p.hard.map V.bl) j = some (V.bl (p.hard.getD j.toNat false)) := by rw [← ej]; exact at_bl (by rw [hP.h]; exact hjn)
      have hdr : atI (p.direct.map V.bl) j = some (V.bl (p.direct.getD j.toNat false)) := by rw [← ej]; exact at_bl (by rw [hP.d]; exact hjn)
      have hf' : replSing p (.group j) = some (n, p') := hf
      unfold replSing at hf'
      simp only [] at hf'
      have ret : some (j.toNat, p) = some (n, p') → Q (.int j) H := fun e => by
        obtain ⟨e1, e2⟩ := Prod.mk.inj (Option.some.inj e)
        have := k U H (Gr.refl hU) (by rw [← e2]; exact hS) (by rw [← e2]; exact hP)
        rw [← e1, ej] at this
        exact this
      have add : p.addO (.group j) = some (n, p') → sp_add P w K W [.ref A.x, _] H Q E0 := fun e => addO_do hU hS hP hd0 e k
      generalize p.rows.getD j.toNat .hard = q at *
      refine ⟨_, rfl, A.x, W.c_Pool, A.dx, _, _, rfl, hS.fx, T.cl_Pool, T.na_Pool_are_bare, lp_bare, _, rfl, A.b, _, j, _, rfl, rfl, sqlO hS.fb, hbr, _, rfl, ?_⟩
      cases hb : p.bare.getD j.toNat false with
      | true =>
        rw [hb] at hf'
        exact iteT (iteT ⟨_, rfl, ret hf'⟩)
      | false =>
        rw [hb] at hf'
        refine iteF ⟨_, rfl, rfl, _, rfl, ifF (by kernel_rfl) (ifF rfl ?_)⟩
        refine ⟨_, rfl, rfl, _, rfl, ifF (by kernel_rfl) (ifF rfl ?_)⟩
        refine ⟨_, rfl, rfl, _, rfl, ifF (by kernel_rfl) (ifF rfl ?_)⟩
        refine ⟨_, rfl, rfl, _, rfl, ifT (by kernel_rfl) ⟨_, rfl, A.x, W.c_Pool, A.dx, _, _, rfl, hS.fx, T.cl_Pool, T.na_Pool_are_hard, lp_hard, _, rfl, A.h, _, j, _, rfl, rfl, sqlO hS.fh, hhr, _, rfl, ?_⟩⟩
        cases hh : p.hard.getD j.toNat false with
        | true =>
          rw [hh] at hf'
          exact iteT (iteT ⟨_, rfl, ret hf'⟩)
        | false =>
          rw [hh] at hf'
          refine iteF ⟨_, rfl, A.x, W.c_Pool, A.dx, _, _, rfl, hS.fx, T.cl_Pool, T.na_Pool_are_direct, lp_direct, _, rfl, A.d, _, j, _, rfl, rfl, sqlO hS.fd, hdr, _, rfl, ?_⟩
          cases hh : p.direct.getD j.toNat false with
          | true =>
            rw [hh] at hf'
            exact ifF rfl ⟨_, rfl, A.x, A.dx, _, rfl, hS.fx, lp_add, _, rfl, nilA (add hf')⟩
          | false =>
            rw [hh] at hf'
            exact ifT rfl ⟨_, rfl, ret hf'⟩
    | _ => cases hf
end
end Lw

set_option maxHeartbeats 0
namespace Lw
open PySem PySem.Spec PyProof.Rows L2 VW TL
local macro_rules | `(tactic| walk_at "rdc") => `(tactic| first | assumption | rfl | decide | omega | exact Or.inr ⟨by decide, by decide⟩ | exact ⟨by decide, by decide⟩ | exact ⟨by decide, by decide, by decide⟩ | (show (0 : Int) < _; omega) | (show (0 : Int) < _ ∧ _ < (1073741824 : Int); omega) | (show (-(2 ^ 64) < _ ∧ _ < 2 ^ 64) ∨ (-(2 ^ 64) < _ ∧ _ < 2 ^ 64); omega) | (show (-(2 ^ 64) < _ ∧ _ < 2 ^ 64) ∨ (-(2 ^ 64) < _ ∧ _ < 2 ^ 64); right; split <;> decide) | exact Nat.le_of_ble_eq_true rfl)
local macro_rules | `(tactic| walk_at "rd1") => `(tactic| first | refine ⟨_, rfl, ?_⟩ | refine And.intro (by walk_at "rdc") ?_ | refine ⟨_, _, rfl, rfl, ?_⟩ | refine Or.inl ⟨_, rfl, ?_⟩ | refine Or.inr ⟨_, rfl, ?_⟩ | refine ⟨_, _, _, _, rfl, rfl, sqlO (by first | assumption | exact upd_same), rfl, ?_⟩ | refine ⟨_, _, _, _, rfl, rfl, (by first | assumption | exact upd_same), rfl, ?_⟩)
local macro_rules | `(tactic| walk_at "rd") => `(tactic| repeat (walk_at "rd1"))

def replaced (p : Pl) : Row → Option (Nat × Pl)
  | .cat ps => replCat p (.cat ps)
  | .nest n j => replSing p (.nest n j)
  | .align j => replSing p (.align j)
  | .group j => replSing p (.group j)
  | .text z => p.addO (.text z)
  | .line z => p.addO (.line z)
  | .hard => p.addO .hard
section
variable {P : Program} {w : World} {K : PySem.W.Frag} {mg : Str → Option Value} {base : Heap} {W : Wd}
theorem sc__replaced : FnScope ["pool", "row"] ["pool", "row"] (defScope s__replaced) := ⟨rfl, rfl, rfl, by decide +kernel, rfl, by decide +kernel, by decide +kernel⟩
theorem d__replaced (T : Txt w K mg W) : DefOk P w K mg base "_replaced" s__replaced ["pool", "row"] 5 (sp_repl P w K W replaced) := by
  refine T.f__replaced.ok sc__replaced (fun vs H Q E h => ?_) (fun f cdv A outer s H vs Q E hr h => ?_)
  · obtain ⟨A, p, v, r, U, n, p', rfl, _⟩ := h
    rfl
  · obtain ⟨A, p, v, r, U, n, p', rfl, hU, hS, hP, hd, hok, hf, k⟩ := h
    refine ⟨_, (pss_cons (ps_if (pt_cmpR op_eq (pe_ix ix_tup (pv 1) pe_int (fun _ _ => rfl)) pe_str (nomark _)) (pss_one (ps_ret (pe_callD (d__replaced_cat T) (hr.mono (by decide)) (pa_cons (pv 0) (pa_cons (pv 1) pa_nil))))) pss_nil)
      (pss_cons (ps_if (pt_cmpR op_in_seq (pe_ix ix_tup (pv 1) pe_int (fun _ _ => rfl)) (pe_tup (pa_cons pe_str (pa_cons pe_str (pa_cons pe_str pa_nil)))) (by rfl)) (pss_one (ps_ret (pe_callD (d__replaced_single T) (hr.mono (by decide)) (pa_cons (pv 0) (pa_cons (pv 1) pa_nil))))) pss_nil)
      (pss_one (ps_ret (pe_methD (d_Pool_add T) T.cl_Pool (hr.mono (by decide)) (pv 0) (pa_cons (pv 1) pa_nil)))))), ?_⟩
    obtain ⟨a, xs, rfl, ht, hxs⟩ := row_at hd
    refine ⟨_, rfl, _, _, _, _, rfl, rfl, sqtS hU ht, atI_nat (j := 0) rfl, rfl, _, rfl, ?_⟩
    cases r with
    | cat ps => exact ifT (by kernel_rfl) ⟨_, rfl, _, rfl, A, p, _, _, U, n, p', rfl, hU, hS, hP, hd, hok, hf, k⟩
    | nest m j =>
      refine ifF (by kernel_rfl) ⟨_, rfl, _, _, _, _, rfl, rfl, sqtS hU ht, atI_nat (j := 0) rfl, Nat.le_of_ble_eq_true rfl, fun q hq => ⟨q, _, rfl, .inr (sqtO upd_same), rfl, by decide +kernel, _, rfl, ifT (by kernel_rfl) ?_⟩⟩
      have g1 := (Gr.refl (S := S0) hU).newH (o := .tup [.str "nest", .str "align", .str "group"]) hq
      exact ⟨_, rfl, _, rfl, A, p, _, _, U, n, p', rfl, g1.s, hS.gr g1 (fun _ _ z => z), hP, hd, hok, hf, fun U' H' g S P' => k U' H' (g1.of0.trans g) S P'⟩
    | align j =>
      refine ifF (by kernel_rfl) ⟨_, rfl, _, _, _, _, rfl, rfl, sqtS hU ht, atI_nat (j := 0) rfl, Nat.le_of_ble_eq_true rfl, fun q hq => ⟨q, _, rfl, .inr (sqtO upd_same), rfl, by decide +kernel, _, rfl, ifT (by kernel_rfl) ?_⟩⟩
      have g1 := (Gr.refl (S := S0) hU).newH (o := .tup [.str "nest", .str "align", .str "group"]) hq
      exact ⟨_, rfl, _, rfl, A, p, _, _, U, n, p', rfl, g1.s, hS.gr g1 (fun _ _ z => z), hP, hd, hok, hf, fun U' H' g S P' => k U' H' (g1.of0.trans g) S P'⟩
    | group j =>
      refine ifF (by kernel_rfl) ⟨_, rfl, _, _, _, _, rfl, rfl, sqtS hU ht, atI_nat (j := 0) rfl, Nat.le_of_ble_eq_true rfl, fun q hq => ⟨q, _, rfl, .inr (sqtO upd_same), rfl, by decide +kernel, _, rfl, ifT (by kernel_rfl) ?_⟩⟩
      have g1 := (Gr.refl (S := S0) hU).newH (o := .tup [.str "nest", .str "align", .str "group"]) hq
      exact ⟨_, rfl, _, rfl, A, p, _, _, U, n, p', rfl, g1.s, hS.gr g1 (fun _ _ z => z), hP, hd, hok, hf, fun U' H' g S P' => k U' H' (g1.of0.trans g) S P'⟩
    | text z =>
      refine ifF (by kernel_rfl) ⟨_, rfl, _, _, _, _, rfl, rfl, sqtS hU ht, atI_nat (j := 0) rfl, Nat.le_of_ble_eq_true rfl, fun q hq => ⟨q, _, rfl, .inr (sqtO upd_same), rfl, by decide +kernel, _, rfl, ifF (by kernel_rfl) ?_⟩⟩
      have g1 := (Gr.refl (S := S0) hU).newH (o := .tup [.str "nest", .str "align", .str "group"]) hq
      have S1 := hS.gr g1 (fun _ _ z => z)
      exact ⟨_, rfl, A.x, A.dx, _, rfl, S1.fx, lp_add, _, rfl, nilA (addO_do g1.s S1 hP hd hf fun U' H' g S P' => k U' H' (g1.of0.trans g) S P')⟩
    | line z =>
      refine ifF (by kernel_rfl) ⟨_, rfl, _, _, _, _, rfl, rfl, sqtS hU ht, atI_nat (j := 0) rfl, Nat.le_of_ble_eq_true rfl, fun q hq => ⟨q, _, rfl, .inr (sqtO upd_same), rfl, by decide +kernel, _, rfl, ifF (by kernel_rfl) ?_⟩⟩
      have g1 := (Gr.refl (S := S0) hU).newH (o := .tup [.str "nest", .str "align", .str "group"]) hq
      have S1 := hS.gr g1 (fun _ _ z => z)
      exact ⟨_, rfl, A.x, A.dx, _, rfl, S1.fx, lp_add, _, rfl, nilA (addO_do g1.s S1 hP hd hf fun U' H' g S P' => k U' H' (g1.of0.trans g) S P')⟩
    | hard =>
      refine ifF (by kernel_rfl) ⟨_, rfl, _, _, _, _, rfl, rfl, sqtS hU ht, atI_nat (j := 0) rfl, Nat.le_of_ble_eq_true rfl, fun q hq => ⟨q, _, rfl, .inr (sqtO upd_same), rfl, by decide +kernel, _, rfl, ifF (by kernel_rfl) ?_⟩⟩
      have g1 := (Gr.refl (S := S0) hU).newH (o := .tup [.str "nest", .str "align", .str "group"]) hq
      have S1 := hS.gr g1 (fun _ _ z => z)
      exact ⟨_, rfl, A.x, A.dx, _, rfl, S1.fx, lp_add, _, rfl, nilA (addO_do g1.s S1 hP hd hf fun U' H' g S P' => k U' H' (g1.of0.trans g) S P')⟩
end
end Lw

set_option maxHeartbeats 0
namespace Lw
open PySem PySem.Spec PyProof.Rows L2 VW TL
local macro_rules | `(tactic| walk_at "rdc") => `(tactic| first | assumption | rfl | decide | omega | exact Or.inr ⟨by decide, by decide⟩ | exact ⟨by decide, by decide⟩ | exact ⟨by decide, by decide, by decide⟩ | (show (0 : Int) < _; omega) | (show (0 : Int) < _ ∧ _ < (1073741824 : Int); omega) | (show (-(2 ^ 64) < _ ∧ _ < 2 ^ 64) ∨ (-(2 ^ 64) < _ ∧ _ < 2 ^ 64); omega) | (show (-(2 ^ 64) < _ ∧ _ < 2 ^ 64) ∨ (-(2 ^ 64) < _ ∧ _ < 2 ^ 64); right; split <;> decide) | exact Nat.le_of_ble_eq_true rfl)
local macro_rules | `(tactic| walk_at "rd1") => `(tactic| first | refine ⟨_, rfl, ?_⟩ | refine And.intro (by walk_at "rdc") ?_ | refine ⟨_, _, rfl, rfl, ?_⟩ | refine Or.inl ⟨_, rfl, ?_⟩ | refine Or.inr ⟨_, rfl, ?_⟩ | refine ⟨_, _, _, _, rfl, rfl, sqlO (by first | assumption | exact upd_same), rfl, ?_⟩ | refine ⟨_, _, _, _, rfl, rfl, (by first | assumption | exact upd_same), rfl, ?_⟩)
local macro_rules | `(tactic| walk_at "rd") => `(tactic| repeat (walk_at "rd1"))

/-- the rows below a row, in the order in which they are finished: what is waiting (the last one first), the numbers that are known, what is found -/
def runB (p : Pl) : Nat → List Nat → List (Nat × Nat) → Pl → Option (List Row)
  | 0, _, _, _ => none
  | _ + 1, [], _, f => some f.rows
  | n + 1, top :: rest, nums, f =>
    match p.rows[top]? with
    | none => none
    | some r =>
      if r.okB p.rows.length && (decide (rest.length ≤ 900) && decide (nums.length ≤ 900)) then
        match (pts r).filter fun j => (nums.lookup j).isNone with
        | j :: _ => runB p n (j :: top :: rest) nums f
        | [] =>
          match f.addO (withP r ((pts r).map fun j => (nums.lookup j).getD 0)) with
          | none => none
          | some (i, f') => runB p n rest ((top, i) :: nums) f'
      else none
theorem gr_shed {S : Addr → Prop} {V H V' H' : Hp} (g : Gr S V H V' H') (h : ∀ b, S b → H b = none) : Gr S0 V H V' H' := by
  refine ⟨g.v, g.s, fun b o _ e => g.k b o (fun z => ?_) e, g.n⟩
  rw [h b z] at e
  cases e
section
variable {P : Program} {w : World} {K : PySem.W.Frag} {mg : Str → Option Value} {base : Heap} {W : Wd}
section
variable {X : Cx} {C : Addr} {sp : Sp} {x q : Str} {st : Stmt} {ps : List Str} {k : Nat} {p pos : Pos}
/-- C() -/
theorem pe_makeD0 (D : MethOk X.prog X.w X.K X.mg X.base C "__init__" q st ps k sp) (hmk : PySem.W.makesIn X.K C = true ∧ PySem.W.keepIn X.K (.ref C) = true) (hm : X.mg x = some (.ref C)) (hr : Room (k + 1) X.A) (hg : Gl X x := by rfl)
    (hdb : (x == ("__debug__" : Str)) = false := by decide) : PE X (.Call (.Name x p) [] [] pos) (tMake C sp [] E0 tNil) := by
  obtain ⟨f, fd, h1, h2, h3, hb, F⟩ := D.ex
  exact pe_make0 ⟨hmk.1, h1, h2, hmk.2⟩ F hr hg hm hb .nil pass0 hdb
end
theorem putK_len' {κ : Type} [DecidableEq κ] (c : List (κ × V)) (k : κ) (x : V) : (putK c k x).length ≤ c.length + 1 := by
  unfold putK
  split
  · rw [List.length_map]; omega
  · rw [List.length_append]; exact Nat.le_refl _
/-- the turns of the loop: what stands there -/
structure BelSt (P : Program) (w : World) (K : PySem.W.Frag) (W : Wd) (A B : PA) (dn wl : Addr) (p : Pl) (stk : List Nat) (nums : List (Nat × Nat)) (f : Pl) (U0 H0 U H : Hp) : Prop where
  g : Gr (fun b => b ∈ B.own) U0 H0 U H
  sa : PoolSt P w K W U H A p p.rows
  sb : PoolSt P w K W U H B f f.rows
  ok : PlOk f
  ud : U dn = none
  uw : U wl = none
  nd : ∃ kvs : List (L2.Key × V), H dn = some (.dK kvs) ∧ (∀ j : Nat, valV kvs (.inl (j : Int)) = (nums.lookup j).map fun i : Nat => V.int i) ∧ kvs.length ≤ nums.length
  nw : H wl = some (.lst (stk.reverse.map fun j : Nat => V.int j))
/-- what is apart -/
structure Apart (A B : PA) (dn wl : Addr) (H0 : Hp) : Prop where
  ab : ∀ b ∈ A.own, b ∉ B.own
  da : dn ∉ A.own
  db : dn ∉ B.own
  wa : wl ∉ A.own
  wb : wl ∉ B.own
  dw : dn ≠ wl
  b0 : ∀ b ∈ B.own, H0 b = none
  d0 : H0 dn = none
  w0 : H0 wl = none
theorem row_v {U H : Hp} {A : PA} {p : Pl} {qs : List Row} {j : Nat} {r : Row} (hS : PoolSt P w K W U H A p qs) (hj : p.rows[j]? = some r) :
    ∃ (vs : List V) (v : V), H A.r = some (.lst vs) ∧ vs[j]? = some v ∧ Dp K U v r.data := by
  obtain ⟨vs, h1, h2⟩ := hS.fr
  have hl : vs.length = p.rows.length := by rw [dps_length h2, List.length_map]
  have hjl := (List.getElem?_eq_some_iff.mp hj).1
  obtain ⟨d, e1, e2⟩ := dps_get h2 (List.getElem?_eq_getElem (by omega : j < vs.length))
  rw [List.getElem?_map, hj] at e1
  cases e1
  exact ⟨vs, _, h1, List.getElem?_eq_getElem (by omega : j < vs.length), e2⟩
section
variable {A B : PA} {dn wl : Addr} {p f : Pl} {stk : List Nat} {nums : List (Nat × Nat)} {U0 H0 U H U' H' : Hp}
theorem BelSt.gr (S : BelSt P w K W A B dn wl p stk nums f U0 H0 U H) (g : Gr S0 U H U' H') : BelSt P w K W A B dn wl p stk nums f U0 H0 U' H' := by
  obtain ⟨kvs, e1, e2, e3⟩ := S.nd
  exact ⟨S.g.trans g.of0, S.sa.gr g (fun _ _ z => z), S.sb.gr g (fun _ _ z => z), S.ok, g.out (some_ne e1) S.ud, g.out (some_ne S.nw) S.uw, ⟨kvs, g.same _ _ e1, e2, e3⟩, g.same _ _ S.nw⟩
theorem BelSt.putw (S : BelSt P w K W A B dn wl p stk nums f U0 H0 U H) (a : Apart A B dn wl H0) (stk' : List Nat) : BelSt P w K W A B dn wl p stk' nums f U0 H0 U (upd H wl (.lst (stk'.reverse.map fun j : Nat => V.int j))) := by
  obtain ⟨kvs, e1, e2, e3⟩ := S.nd
  have g1 : Gr (fun b => b = wl) U H U (upd H wl (.lst (stk'.reverse.map fun j : Nat => V.int j))) := (Gr.refl S.g.s).mut (.inl rfl) S.uw
  exact ⟨S.g.mut (.inr a.w0) S.uw, S.sa.gr g1 (fun b hb z => a.wa (by rw [← z]; exact hb)), S.sb.gr g1 (fun b hb z => a.wb (by rw [← z]; exact hb)), S.ok, S.ud, S.uw, ⟨kvs, by rw [upd_ne a.dw]; exact e1, e2, e3⟩, upd_same⟩
theorem BelSt.putd (S : BelSt P w K W A B dn wl p stk nums f U0 H0 U H) (a : Apart A B dn wl H0) (top i : Nat) {kvs : List (L2.Key × V)} (e1 : H dn = some (.dK kvs)) : BelSt P w K W A B dn wl p stk ((top, i) :: nums) f U0 H0 U (upd H dn (.dK (putK kvs (.inl (top : Int)) (.int (i : Nat))))) := by
  obtain ⟨kvs', e1', e2, e3⟩ := S.nd
  rw [e1] at e1'
  cases e1'
  have g1 : Gr (fun b => b = dn) U H U (upd H dn (.dK (putK kvs (.inl (top : Int)) (.int (i : Nat))))) := (Gr.refl S.g.s).mut (.inl rfl) S.ud
  refine ⟨S.g.mut (.inr a.d0) S.ud, S.sa.gr g1 (fun b hb z => a.da (by rw [← z]; exact hb)), S.sb.gr g1 (fun b hb z => a.db (by rw [← z]; exact hb)), S.ok, S.ud, S.uw, ⟨_, upd_same, fun j => ?_, ?_⟩, by rw [upd_ne (Ne.symm a.dw)]; exact S.nw⟩
  · rw [valV_put, List.lookup_cons]
    by_cases h : j = top
    · subst h
      rw [if_pos rfl, beq_self_eq_true]
      rfl
    · have h2 : ¬ (Sum.inl (j : Int) : L2.Key) = .inl (top : Int) := fun z => h (by have := Sum.inl.inj z; omega)
      rw [if_neg h2, show (j == top) = false by rw [beq_eq_false_iff_ne]; exact h]
      exact e2 j
  · have := putK_len' kvs (.inl (top : Int)) (.int (i : Nat))
    rw [List.length_cons]
    omega
theorem BelSt.added {f' : Pl} (S : BelSt P w K W A B dn wl p stk nums f U0 H0 U H) (a : Apart A B dn wl H0) (g : Gr (fun b => b ∈ B.own) U H U' H') (sb : PoolSt P w K W U' H' B f' f'.rows) (ok : PlOk f') : BelSt P w K W A B dn wl p stk nums f' U0 H0 U' H' := by
  obtain ⟨kvs, e1, e2, e3⟩ := S.nd
  exact ⟨S.g.trans g, S.sa.gr g (fun b hb z => a.ab b hb z), sb, ok, g.out (some_ne e1) S.ud, g.out (some_ne S.nw) S.uw, ⟨kvs, g.k _ _ a.db e1, e2, e3⟩, g.k _ _ a.wb S.nw⟩
end
theorem made_pool {x dx C : Addr} {U H H' : Hp} {os : List Addr} (hx : H x = none) (hd : H dx = none) (hne : dx ≠ x) (hU : Same U H) (g : Gr (fun b => b = x) U (upd (upd H dx (.own x)) x (.ins C dx [])) U H')
    (hb : ∀ b ∈ os, b = x ∨ (upd (upd H dx (.own x)) x (.ins C dx [])) b = none) : Gr S0 U H U H' ∧ ∀ b ∈ os, H b = none := by
  have g1 := (Gr.refl (S := S0) hU).newH (o := .own x) hd
  have hx1 : upd H dx (.own x) x = none := by rw [upd_ne (Ne.symm hne)]; exact hx
  have g2 := g1.newH (o := .ins C dx []) hx1
  refine ⟨gr_shed ((g2.of0 (S := fun b => b = x)).trans g) fun b z => by rw [z]; exact hx, fun b hb' => ?_⟩
  rcases hb b hb' with rfl | z
  · exact hx
  · exact g2.free z
theorem made_same {x dx C : Addr} {U H : Hp} (hx : H x = none) (hd : H dx = none) (hne : dx ≠ x) (hU : Same U H) : Same U (upd (upd H dx (.own x)) x (.ins C dx [])) :=
  (((Gr.refl (S := S0) hU).newH (o := .own x) hd).newH (o := .ins C dx []) (by rw [upd_ne (Ne.symm hne)]; exact hx)).s
def sp_below (P : Program) (w : World) (K : PySem.W.Frag) (W : Wd) : Sp := fun vs H Q _ => ∃ (A : PA) (p : Pl) (last : Nat) (U : Hp) (m : Nat) (res : List Row), vs = [.ref A.x, .int (last : Nat)] ∧ Same U H ∧ PoolSt P w K W U H A p p.rows ∧ PlOk p ∧ runB p m [last] [] Pl.nil = some res ∧
  ∀ (l : Addr) (ws : List V) (U' H' : Hp), Gr S0 U H U' H' → H' l = some (.lst ws) → DpAll K U' ws (res.map Row.data) → Q (.ref l) H'
theorem sc_Pool_rows_below : FnScope ["self", "last", "found", "numbers", "waiting", "number", "missing", "parts", "part"] ["self", "last"] (defScope s_Pool_rows_below) := ⟨rfl, rfl, rfl, by decide +kernel, rfl, by decide +kernel, by decide +kernel⟩
theorem d_Pool_rows_below (T : Txt w K mg W) : MethOk P w K mg base W.c_Pool "rows_below" "Pool.rows_below" s_Pool_rows_below ["self", "last"] 6 (sp_below P w K W) := by
  refine T.f_Pool_rows_below.ok sc_Pool_rows_below (fun vs H Q E h => ?_) (fun f cdv A outer s H vs Q E hr h => ?_)
  · obtain ⟨A, p, last, U, m, res, rfl, _⟩ := h
    rfl
  · obtain ⟨A, p, last, U, m, res, rfl, hU, hS, hP, hf, k⟩ := h
    refine ⟨_, (pss_cons (ps_set (i := 2) sc_Pool_rows_below.nd rfl (Or.inl rfl) (pe_makeD0 (d_Pool___init__ T) T.mk_Pool T.c_Pool (hr.mono (by decide))))
      (pss_cons (ps_set (i := 3) sc_Pool_rows_below.nd rfl (Or.inr rfl) pe_dnewK)
      (pss_cons (ps_set (i := 4) sc_Pool_rows_below.nd rfl (Or.inl rfl) (pe_lst (pa_cons (pv 1) pa_nil)))
      (pss_cons (ps_while PassesOwn.never (pt_truth (pv 4) (by intro _; rfl)) (pss_cons (ps_set (i := 5) sc_Pool_rows_below.nd rfl (Or.inl rfl) (pe_ix ix_list (pv 4) (pe_un un_neg pe_int) (fun _ _ => rfl)))
      (pss_cons (ps_setLc (i := 6) (own := [("part", 8)]) (g := (gName 8)) rfl sc_Pool_rows_below.nd rfl rfl (sw_true rfl rfl rfl (by decide +kernel)) (pi_list (pe_callD (d_parts_of T) (hr.mono (by decide)) (pa_cons (pe_ix ix_list (pe_fld (pv 0) rfl) (pv 5) (fun _ _ => rfl)) pa_nil))) (blkOk_by (own := [("part", 8)]) (N := ["self", "last", "found", "numbers", "waiting", "number", "missing", "parts", "part"]) (sc := defScope s_Pool_rows_below) (by decide +kernel)) (fun _ _ _ _ _ => (pg_name (i := 8) sc_Pool_rows_below.nd rfl (Or.inl rfl))) (fun _ _ _ _ _ => (pts_one (pt_cmp (pc_dnotin (hu_of hr) (pv 8) (pv 3))))) (fun _ _ _ _ _ => (pv 8)))
      (pss_one (ps_if (pt_truth (pv 6) (by intro _; rfl)) (pss_one (ps_expr (pe_bm PySem.F.plainAttrs_list PySem.F.slot_list_append PySem.F.type_list_append mt_append (pv 4) (pa_cons (pe_ix ix_list (pv 6) pe_int (fun _ _ => rfl)) pa_nil)))) (pss_cons (ps_setLc (i := 7) (own := [("part", 8)]) (g := (gName 8)) (tt := tYes) rfl sc_Pool_rows_below.nd rfl rfl (sw_true rfl rfl rfl (by decide +kernel)) (pi_list (pe_callD (d_parts_of T) (hr.mono (by decide)) (pa_cons (pe_ix ix_list (pe_fld (pv 0) rfl) (pv 5) (fun _ _ => rfl)) pa_nil))) (blkOk_by (own := [("part", 8)]) (N := ["self", "last", "found", "numbers", "waiting", "number", "missing", "parts", "part"]) (sc := defScope s_Pool_rows_below) (by decide +kernel)) (fun _ _ _ _ _ => (pg_name (i := 8) sc_Pool_rows_below.nd rfl (Or.inl rfl))) (fun _ _ _ _ _ => pts_nil) (fun _ _ _ _ _ => (pe_dget (hu_of hr) (pv 3) (pv 8) (fun _ _ => rfl))))
      (pss_cons (ps_dput (hu_of hr) (pv 3) (pv 5) (pe_methD (d_Pool_add T) T.cl_Pool (hr.mono (by decide)) (pv 2) (pa_cons (pe_callD (d_with_parts T) (hr.mono (by decide)) (pa_cons (pe_ix ix_list (pe_fld (pv 0) rfl) (pv 5) (fun _ _ => rfl)) (pa_cons (pv 7) pa_nil))) pa_nil)) rfl)
      (pss_one (ps_expr (pe_bm0 PySem.F.plainAttrs_list PySem.F.slot_list_pop PySem.F.type_list_pop mt_pop (pv 4)))))))))))
      (pss_one (ps_ret (pe_fld (pv 2) rfl))))))), ?_⟩
    refine fun x dx hx hdx hne => ⟨x, dx, U, rfl, made_same hx hdx hne hU, upd_same, hU.free hx, fun B H1 hB _ gq S1 hq => ⟨rfl, ?_⟩⟩
    obtain ⟨g1, hBo⟩ := made_pool hx hdx hne hU gq hq
    clear gq hq
    subst hB
    intro dn hdn
    refine ⟨_, rfl, Nat.le_of_ble_eq_true rfl, fun wl hwl => ?_⟩
    have ndw : dn ≠ wl := ne_of_none upd_same hwl
    have hwl1 : H1 wl = none := upd_none hwl
    have ne0 : ∀ {b : Addr} {A' : PA} {p' : Pl} {qs : List Row} {U' H' : Hp}, PoolSt P w K W U' H' A' p' qs → H' b = none → b ∉ A'.own := by
      intro b A' p' qs U' H' S hb hm
      obtain ⟨vs, r1, _⟩ := S.fr
      obtain ⟨es, n1, _⟩ := S.fn
      simp only [List.mem_cons, List.not_mem_nil, or_false] at hm
      rcases hm with rfl | rfl | rfl | rfl | rfl | rfl | rfl
      · rw [S.fx] at hb; cases hb
      · rw [n1] at hb; cases hb
      · rw [S.fw] at hb; cases hb
      · rw [S.fd] at hb; cases hb
      · rw [S.fh] at hb; cases hb
      · rw [S.fb] at hb; cases hb
      · rw [r1] at hb; cases hb
    have SA1 := hS.gr g1 (fun _ _ z => z)
    have ap : Apart A B dn wl H := ⟨fun b hb hb2 => ne0 hS (hBo b hb2) hb, ne0 SA1 hdn, ne0 S1 hdn, ne0 SA1 hwl1, ne0 S1 hwl1, ndw, hBo, g1.free hdn, g1.free hwl1⟩
    have g2 := ((Gr.refl (S := S0) g1.s).newH (o := .dK []) hdn).newH (o := .lst [.int (last : Nat)]) hwl
    have BS : BelSt P w K W A B dn wl p [last] [] Pl.nil U H U _ := ⟨(g1.trans g2).of0, SA1.gr g2 (fun _ _ z => z), S1.gr g2 (fun _ _ z => z), ⟨rfl, rfl, rfl, rfl⟩, hU.free (g1.free hdn), hU.free (g1.free hwl1), ⟨[], by rw [upd_ne ndw]; exact upd_same, fun j => rfl, Nat.le_refl _⟩, upd_same⟩
    refine ⟨fun n σ H' => ∃ (x5 x6 x7 x8 : Option V) (stk : List Nat) (nums : List (Nat × Nat)) (f : Pl) (U' : Hp), σ = [some (.ref A.x), some (.int (last : Nat)), some (.ref B.x), some (.ref dn), some (.ref wl), x5, x6, x7, x8] ∧ BelSt P w K W A B dn wl p stk nums f U H U' H' ∧ runB p n stk nums f = some res, ⟨m, none, none, none, none, [last], [], Pl.nil, U, rfl, BS, hf⟩, ?_⟩
    clear BS hf
    rintro n σ H3 ⟨x5, x6, x7, x8, stk, nums, f, U3, rfl, S3, hn⟩
    refine ⟨_, rfl, _, .inl ⟨_, sqlO S3.nw, rfl⟩, ?_⟩
    cases n with
    | zero => cases hn
    | succ n =>
      cases stk with
      | nil =>
        have e : f.rows = res := Option.some.inj hn
        obtain ⟨vs, r1, r2⟩ := S3.sb.fr
        refine ifF rfl ⟨_, rfl, B.x, W.c_Pool, B.dx, _, _, rfl, S3.sb.fx, T.cl_Pool, T.na_Pool_rows, lp_rows, k B.r vs U3 H3 (gr_shed S3.g hBo) r1 (by rw [← e]; exact r2)⟩
      | cons top rest =>
        unfold runB at hn
        cases hr : p.rows[top]? with
        | none => rw [hr] at hn; cases hn
        | some r =>
          rw [hr] at hn
          simp only [] at hn
          split at hn
          · rename_i hc
            rw [Bool.and_eq_true, Bool.and_eq_true, decide_eq_true_eq, decide_eq_true_eq] at hc
            obtain ⟨hc1, hc2, hc3⟩ := hc
            have hok := okB_ok hc1
            have hlst : ((top :: rest).reverse.map fun j : Nat => V.int j) = (rest.reverse.map fun j : Nat => V.int j) ++ [V.int (top : Nat)] := by
              rw [List.reverse_cons, List.map_append]
              rfl
            refine ifT ?_ ⟨_, fun σ' H' w => ⟨n, Nat.lt_succ_self _, w⟩, ?_⟩
            · rw [hlst]
              cases (rest.reverse.map fun j : Nat => V.int j) <;> rfl
            · have hnw := S3.nw
              rw [hlst] at hnw
              refine ⟨_, rfl, 1, rfl, _, _, _, _, rfl, rfl, sqlO hnw, atI_last _ _, ?_⟩
              obtain ⟨vs, v, hv, hva, hd⟩ := row_v S3.sa hr
              have h8 := pts_len hok
              refine ⟨_, rfl, A.x, W.c_Pool, A.dx, _, _, rfl, S3.sa.fx, T.cl_Pool, T.na_Pool_rows, lp_rows, _, rfl, A.r, _, (top : Nat), _, rfl, rfl, sqlO hv, atI_nat hva, v, r, _, U3, rfl, S3.g.s, hd, hok, fun pl U4 H4 g4 hpl => ⟨pl, rfl, ⟨_, sqlO (g4.s _ _ hpl)⟩, fun D hD => ?_⟩⟩
              have S4 := S3.gr g4
              obtain ⟨kvs4, e41, e42, e43⟩ := S4.nd
              refine lc_list (xs := (pts r).map fun j : Nat => V.int j) (fun i H' => Gr S0 U4 H4 U4 H' ∧ H' D = some (.lst ((((pts r).take i).filter fun j => (nums.lookup j).isNone).map fun j : Nat => V.int j))) ⟨(Gr.refl S4.g.s).newH hD, upd_same⟩ (fun i H' _ z => sqlO (z.1.s _ _ hpl)) ?_ ?_
              · rintro i y H5 hy ⟨g5, hd5⟩
                rw [List.getElem?_map] at hy
                obtain ⟨j, hj, rfl⟩ := Option.map_eq_some_iff.mp hy
                have hdn5 := g5.same _ _ e41
                refine ⟨rfl, ⟨_, rfl, _, rfl, dn, _, rfl, DGet.k (k := .inl (j : Int)) hdn5, _, rfl, ?_⟩⟩
                have ht : ((pts r).take (i + 1)).filter (fun j => (nums.lookup j).isNone) = ((pts r).take i).filter (fun j => (nums.lookup j).isNone) ++ (if (nums.lookup j).isNone then [j] else []) := by
                  rw [List.take_succ, hj]
                  show List.filter _ (_ ++ [j]) = _
                  rw [List.filter_append, List.filter_cons, List.filter_nil]
                have small : ((((pts r).take i).filter fun j => (nums.lookup j).isNone).map fun j : Nat => V.int j).length < sizeLine := by
                  rw [List.length_map]
                  have := List.length_filter_le (fun j => (nums.lookup j).isNone) ((pts r).take i)
                  rw [List.length_take] at this
                  exact small1000 (show (((pts r).take i).filter fun j => (nums.lookup j).isNone).length ≤ 1000 by omega)
                rw [e42 j]
                cases hlk : nums.lookup j with
                | none =>
                  rw [hlk] at ht
                  refine ifT rfl ⟨_, rfl, _, hd5, small, g5.mut (.inr hD) (S4.g.s.free hD), ?_⟩
                  rw [upd_same, ht]
                  show _ = some (HO.lst (List.map _ (_ ++ [j])))
                  rw [List.map_append]
                  rfl
                | some i2 =>
                  rw [hlk] at ht
                  refine ifF rfl ⟨g5, ?_⟩
                  rw [ht]
                  show _ = some (HO.lst (List.map _ (_ ++ [])))
                  rw [List.append_nil]
                  exact hd5
              · rintro H5 ⟨g5, hd5⟩
                rw [List.length_map, List.take_length] at hd5
                have S5 := S4.gr g5
                refine ⟨_, rfl, _, .inl ⟨_, sqlO hd5, rfl⟩, ?_⟩
                have hnw5 := S5.nw
                rw [hlst] at hnw5
                cases hmi : (pts r).filter fun j => (nums.lookup j).isNone with
                | cons j js =>
                  rw [hmi] at hn hd5
                  simp only [] at hn
                  have S6 := S5.putw ap (j :: top :: rest)
                  refine ifT rfl ⟨_, rfl, .inl ⟨rfl, _, sqlO hnw5⟩, _, rfl, _, _, _, _, rfl, rfl, sqlO hd5, atI_nat (j := 0) rfl, nilA ⟨_, _, _, rfl, rfl, hnw5, small1000 (by rw [List.length_append, List.length_map, List.length_reverse, List.length_singleton]; omega), ?_⟩⟩
                  refine ⟨_, _, _, _, j :: top :: rest, nums, f, U4, rfl, ?_, hn⟩
                  have e : ((j :: top :: rest).reverse.map fun j : Nat => V.int j) = ((rest.reverse.map fun j : Nat => V.int j) ++ [V.int (top : Nat)]) ++ [V.int (j : Nat)] := by
                    rw [List.reverse_cons, List.map_append, hlst]
                    rfl
                  rw [e] at S6
                  exact S6
                | nil =>
                  rw [hmi] at hn hd5
                  simp only [] at hn
                  have hall : ∀ j ∈ pts r, (nums.lookup j).isNone = false := fun j hj => by
                    cases hlk : (nums.lookup j).isNone with
                    | false => rfl
                    | true =>
                      have : j ∈ (pts r).filter fun j => (nums.lookup j).isNone := List.mem_filter.mpr ⟨hj, hlk⟩
                      rw [hmi] at this
                      cases this
                  refine ifF rfl ?_
                  obtain ⟨vs5, v5, hv5, hva5, hdd5⟩ := row_v S5.sa hr
                  refine ⟨_, rfl, A.x, W.c_Pool, A.dx, _, _, rfl, S5.sa.fx, T.cl_Pool, T.na_Pool_rows, lp_rows, _, rfl, A.r, _, (top : Nat), _, rfl, rfl, sqlO hv5, atI_nat hva5, v5, r, _, U4, rfl, S5.g.s, hdd5, hok, fun pl6 U6 H6 g6 hpl6 => ⟨pl6, rfl, ⟨_, sqlO (g6.s _ _ hpl6)⟩, fun D6 hD6 => ?_⟩⟩
                  have S6 := S5.gr g6
                  obtain ⟨kvs6, e61, e62, e63⟩ := S6.nd
                  refine lc_list (xs := (pts r).map fun j : Nat => V.int j) (fun i H' => Gr S0 U6 H6 U6 H' ∧ H' D6 = some (.lst ((((pts r).take i).map fun j => (nums.lookup j).getD 0).map fun j : Nat => V.int j))) ⟨(Gr.refl S6.g.s).newH hD6, upd_same⟩ (fun i H' _ z => sqlO (z.1.s _ _ hpl6)) ?_ ?_
                  · rintro i y H7 hy ⟨g7, hd7⟩
                    rw [List.getElem?_map] at hy
                    obtain ⟨j, hj, rfl⟩ := Option.map_eq_some_iff.mp hy
                    have hdn7 := g7.same _ _ e61
                    have hjm := hall j (List.mem_of_getElem? hj)
                    cases hlk : nums.lookup j with
                    | none => rw [hlk] at hjm; cases hjm
                    | some i2 =>
                      have hg : DGet H7 dn (V.int (j : Nat)) (some (V.int (i2 : Nat))) := by
                        have := DGet.k (k := .inl (j : Int)) hdn7
                        rw [e62 j, hlk] at this
                        exact this
                      refine ⟨rfl, ⟨_, rfl, _, rfl, dn, _, rfl, hg, _, hd7, ?_, g7.mut (.inr hD6) (S6.g.s.free hD6), ?_⟩⟩
                      · rw [List.length_map, List.length_map, List.length_take]
                        exact small1000 (by omega)
                      · rw [upd_same, List.take_succ, hj, List.map_append, List.map_append]
                        show _ = some (HO.lst (_ ++ [V.int ((nums.lookup j).getD 0 : Nat)]))
                        rw [hlk]
                        rfl
                  · rintro H7 ⟨g7, hd7⟩
                    rw [List.length_map, List.take_length] at hd7
                    have S7 := S6.gr g7
                    cases ha : f.addO (withP r ((pts r).map fun j => (nums.lookup j).getD 0)) with
                    | none => rw [ha] at hn; cases hn
                    | some q =>
                      obtain ⟨i2, f'⟩ := q
                      rw [ha] at hn
                      simp only [] at hn
                      obtain ⟨vs7, v7, hv7, hva7, hdd7⟩ := row_v S7.sa hr
                      refine ⟨_, rfl, B.x, B.dx, _, rfl, S7.sb.fx, lp_add, _, rfl, A.x, W.c_Pool, A.dx, _, _, rfl, S7.sa.fx, T.cl_Pool, T.na_Pool_rows, lp_rows, _, rfl, A.r, _, (top : Nat), _, rfl, rfl, sqlO hv7, atI_nat hva7, _, rfl, v7, r, _, D6, _, U6, rfl, S7.g.s, hdd7, hok, sqlO hd7, by rw [List.length_map], fun v8 U8 H8 g8 hd8 => nilA ?_⟩
                      have S8 := S7.gr g8
                      refine addO_do S8.g.s S8.sb S8.ok hd8 ha fun U9 H9 g9 sb9 ok9 => ?_
                      have S9 := S8.added ap g9 sb9 ok9
                      obtain ⟨kvs9, e91, e92, e93⟩ := S9.nd
                      refine ⟨_, rfl, _, rfl, dn, _, rfl, DPut.k (k := .inl (top : Int)) e91 (small1000 (by omega)), ?_⟩
                      have S10 := S9.putd ap top i2 e91
                      have hnw10 := S10.nw
                      rw [hlst] at hnw10
                      refine ⟨_, rfl, .inl ⟨rfl, _, sqlO hnw10⟩, _, _, _, rfl, rfl, hnw10, (by rw [List.length_append, List.length_singleton, Nat.add_sub_cancel, List.getElem?_append_right (Nat.le_refl _), Nat.sub_self]; rfl), ?_⟩
                      have S11 := S10.putw ap rest
                      rw [List.dropLast_concat]
                      exact ⟨_, _, _, _, rest, _, f', U9, rfl, S11, hn⟩
          · cases hn
end
end Lw

set_option maxHeartbeats 0
namespace Lw
open PySem PySem.Spec PyProof.Rows L2 VW TL
local macro_rules | `(tactic| walk_at "rdc") => `(tactic| first | assumption | rfl | decide | omega | exact Or.inr ⟨by decide, by decide⟩ | exact ⟨by decide, by decide⟩ | exact ⟨by decide, by decide, by decide⟩ | (show (0 : Int) < _; omega) | (show (0 : Int) < _ ∧ _ < (1073741824 : Int); omega) | (show (-(2 ^ 64) < _ ∧ _ < 2 ^ 64) ∨ (-(2 ^ 64) < _ ∧ _ < 2 ^ 64); omega) | (show (-(2 ^ 64) < _ ∧ _ < 2 ^ 64) ∨ (-(2 ^ 64) < _ ∧ _ < 2 ^ 64); right; split <;> decide) | exact Nat.le_of_ble_eq_true rfl)
local macro_rules | `(tactic| walk_at "rd1") => `(tactic| first | refine ⟨_, rfl, ?_⟩ | refine And.intro (by walk_at "rdc") ?_ | refine ⟨_, _, rfl, rfl, ?_⟩ | refine Or.inl ⟨_, rfl, ?_⟩ | refine Or.inr ⟨_, rfl, ?_⟩ | refine ⟨_, _, _, _, rfl, rfl, sqlO (by first | assumption | exact upd_same), rfl, ?_⟩ | refine ⟨_, _, _, _, rfl, rfl, (by first | assumption | exact upd_same), rfl, ?_⟩)
local macro_rules | `(tactic| walk_at "rd") => `(tactic| repeat (walk_at "rd1"))

/-- the numbers of the rows that replace the rows -/
def simpN : List Row → List Nat → Pl → Option (List Nat × Pl)
  | [], ns, p => some (ns, p)
  | r :: rs, ns, p =>
    if r.okB ns.length && (withP r ((pts r).map fun j => ns.getD j 0)).okB p.rows.length then
      match replaced p (withP r ((pts r).map fun j => ns.getD j 0)) with
      | none => none
      | some (n, p') => simpN rs (ns ++ [n]) p'
    else none
def okRowsB : List Row → Nat → Bool
  | [], _ => true
  | r :: rs, k => r.okB k && okRowsB rs (k + 1)
theorem okRowsB_ok : ∀ {rs : List Row} {k : Nat}, okRowsB rs k = true → ∀ (i : Nat) (r : Row), rs[i]? = some r → r.ok (k + i)
  | [], _, _, i, r, e => by cases e
  | q :: rs, k, h, i, r, e => by
    unfold okRowsB at h
    rw [Bool.and_eq_true] at h
    cases i with
    | zero =>
      cases e
      exact okB_ok h.1
    | succ i =>
      have := okRowsB_ok h.2 i r e
      rw [show k + (i + 1) = k + 1 + i by omega]
      exact this
/-- the simplified rows -/
def simpR (rs : List Row) : Option (List Row) :=
  match simpN rs [] Pl.nil with
  | none => none
  | some (ns, p) =>
    match ns.getLast? with
    | none => none
    | some n =>
      match runB p 500 [n] [] Pl.nil with
      | none => none
      | some res => if okRowsB res 0 && (decide (0 < res.length) && decide (res.length ≤ 200)) then some res else none
section
variable {P : Program} {w : World} {K : PySem.W.Frag} {mg : Str → Option Value} {base : Heap} {W : Wd}
theorem ld_rows {l : Addr} : List.lookup ("_rows" : Str) (docF l) = some (.ref l) := lk_rows l
theorem sc_check_doc : FnScope ["doc"] ["doc"] (defScope s_check_doc) := ⟨rfl, rfl, rfl, by decide +kernel, rfl, by decide +kernel, by decide +kernel⟩
def sp_checkdoc (C : Addr) : Sp := fun vs H Q _ => ∃ (x dx : Addr) (fs : List (Str × V)), vs = [.ref x] ∧ H x = some (.ins C dx fs) ∧ Q .non H
theorem d_check_doc (T : Txt w K mg W) : DefOk P w K mg base "check_doc" s_check_doc ["doc"] 1 (sp_checkdoc W.c_Doc) := by
  refine T.f_check_doc.ok sc_check_doc (fun vs H Q E h => ?_) (fun f cdv A outer s H vs Q E hr h => ?_)
  · obtain ⟨x, dx, fs, rfl, _⟩ := h
    rfl
  · obtain ⟨x, dx, fs, rfl, hx, k⟩ := h
    refine ⟨_, (pss_one (ps_if (pt_not (pt_val (pe_callB (id := "isinstance") call_isi (by rfl) T.n_isinstance (by decide +kernel) (pa_cons (pv 0) (pa_cons (pe_glob (v := .ref W.c_Doc) (by rfl) T.c_Doc rfl) pa_nil))))) (pss_one ps_never) pss_nil)), ?_⟩
    refine ⟨_, rfl, _, _, _, _, true, rfl, .own W.c_Doc, .base (.ins hx T.cl_Doc T.i_Doc.ha T.i_Doc.hn T.i_Doc.htk T.i_Doc.hm), T.i_Doc.self_, true, rfl, iteF k⟩
theorem sc_rows_in : FnScope ["doc"] ["doc"] (defScope s_rows_in) := ⟨rfl, rfl, rfl, by decide +kernel, rfl, by decide +kernel, by decide +kernel⟩
def sp_rowsin (C : Addr) : Sp := fun vs H Q _ => ∃ (x dx l : Addr), vs = [.ref x] ∧ H x = some (.ins C dx (docF l)) ∧ Q (.ref l) H
theorem d_rows_in (T : Txt w K mg W) : DefOk P w K mg base "rows_in" s_rows_in ["doc"] 1 (sp_rowsin W.c_Doc) := by
  refine T.f_rows_in.ok sc_rows_in (fun vs H Q E h => ?_) (fun f cdv A outer s H vs Q E hr h => ?_)
  · obtain ⟨x, dx, l, rfl, _⟩ := h
    rfl
  · obtain ⟨x, dx, l, rfl, hx, k⟩ := h
    refine ⟨_, (pss_one (ps_ret (pe_fld (pv 0) rfl))), ?_⟩
    exact ⟨_, rfl, x, W.c_Doc, dx, _, _, rfl, hx, T.cl_Doc, T.na_Doc__rows, ld_rows, k⟩
def sp_simp (K : PySem.W.Frag) (C : Addr) : Sp := fun vs H Q _ => ∃ (x : Addr) (rs res : List Row) (U : Hp), vs = [.ref x] ∧ Same U H ∧ DocAt K C U x rs ∧ rs.length ≤ 200 ∧ simpR rs = some res ∧
  ∀ (y : Addr) (U' H' : Hp), Gr S0 U H U' H' → DocAt K C U' y res → OkRows res → 0 < res.length → res.length ≤ 200 → Q (.ref y) H'
theorem sc_simplified_doc : FnScope ["doc", "pool", "numbers", "row", "parts", "part"] ["doc"] (defScope s_simplified_doc) := ⟨rfl, rfl, rfl, by decide +kernel, rfl, by decide +kernel, by decide +kernel⟩
theorem d_simplified_doc (T : Txt w K mg W) : DefOk P w K mg base "simplified_doc" s_simplified_doc ["doc"] 7 (sp_simp K W.c_Doc) := by
  refine T.f_simplified_doc.ok sc_simplified_doc (fun vs H Q E h => ?_) (fun f cdv A outer s H vs Q E hr h => ?_)
  · obtain ⟨x, rs, res, U, rfl, _⟩ := h
    rfl
  · obtain ⟨x, rs, res, U, rfl, hU, ⟨dx, l, ws, hx, hl, hdp⟩, h200, hf, k⟩ := h
    have hlen : ws.length = rs.length := by rw [dps_length hdp, List.length_map]
    unfold simpR at hf
    refine ⟨_, (pss_cons (ps_set (i := 1) sc_simplified_doc.nd rfl (Or.inl rfl) (pe_makeD0 (d_Pool___init__ T) T.mk_Pool T.c_Pool (hr.mono (by decide))))
      (pss_cons (ps_set (i := 2) sc_simplified_doc.nd rfl (Or.inr rfl) (pe_lst pa_nil))
      (pss_cons (ps_for PassesOwn.never rfl (pi_list (pe_callD (d_rows_in T) (hr.mono (by decide)) (pa_cons (pv 0) pa_nil))) (pg_name (i := 3) sc_simplified_doc.nd rfl (Or.inl rfl))
      (pss_cons (ps_setLc (i := 4) (own := [("part", 5)]) (g := (gName 5)) (tt := tYes) rfl sc_simplified_doc.nd rfl rfl (sw_true rfl rfl rfl (by decide +kernel)) (pi_list (pe_callD (d_parts_of T) (hr.mono (by decide)) (pa_cons (pv 3) pa_nil))) (blkOk_by (own := [("part", 5)]) (N := ["doc", "pool", "numbers", "row", "parts", "part"]) (sc := defScope s_simplified_doc) (by decide +kernel)) (fun _ _ _ _ _ => (pg_name (i := 5) sc_simplified_doc.nd rfl (Or.inl rfl))) (fun _ _ _ _ _ => pts_nil) (fun _ _ _ _ _ => (pe_ix (ix_listK (K := K)) (pv 2) (pv 5) (fun _ _ => rfl))))
      (pss_one (ps_expr (pe_bm PySem.F.plainAttrs_list PySem.F.slot_list_append PySem.F.type_list_append mt_append (pv 2) (pa_cons (pe_callD (d__replaced T) (hr.mono (by decide)) (pa_cons (pv 1) (pa_cons (pe_callD (d_with_parts T) (hr.mono (by decide)) (pa_cons (pv 3) (pa_cons (pv 4) pa_nil))) pa_nil))) pa_nil))))))
      (pss_one (ps_ret (pe_makeD (d_Doc___init__ T) T.mk_Doc T.c_Doc (hr.mono (by decide)) (pa_cons (pe_methD (d_Pool_rows_below T) T.cl_Pool (hr.mono (by decide)) (pv 1) (pa_cons (pe_ix ix_list (pv 2) (pe_un un_neg pe_int) (fun _ _ => rfl)) pa_nil)) pa_nil))))))), ?_⟩
    refine fun xp dxp hxp hdxp hne => ⟨xp, dxp, U, rfl, made_same hxp hdxp hne hU, upd_same, hU.free hxp, fun B H1 hB _ gq S1 hq => ⟨rfl, ?_⟩⟩
    obtain ⟨g1, hBo⟩ := made_pool hxp hdxp hne hU gq hq
    clear gq hq
    subst hB
    refine ⟨Nat.le_of_ble_eq_true rfl, fun nl hnl => ?_⟩
    have ne0 : ∀ {b : Addr} {A' : PA} {p' : Pl} {qs : List Row} {U' H' : Hp}, PoolSt P w K W U' H' A' p' qs → H' b = none → b ∉ A'.own := by
      intro b A' p' qs U' H' S hb hm
      obtain ⟨vs, r1, _⟩ := S.fr
      obtain ⟨es, n1, _⟩ := S.fn
      simp only [List.mem_cons, List.not_mem_nil, or_false] at hm
      rcases hm with rfl | rfl | rfl | rfl | rfl | rfl | rfl
      · rw [S.fx] at hb; cases hb
      · rw [n1] at hb; cases hb
      · rw [S.fw] at hb; cases hb
      · rw [S.fd] at hb; cases hb
      · rw [S.fh] at hb; cases hb
      · rw [S.fb] at hb; cases hb
      · rw [r1] at hb; cases hb
    have nB : nl ∉ B.own := ne0 S1 hnl
    have nl0 : H nl = none := g1.free hnl
    have g2 := (Gr.refl (S := S0) g1.s).newH (o := .lst []) hnl
    have S2 := S1.gr g2 (fun _ _ z => z)
    have g12 : Gr (fun b => b ∈ B.own) U H U _ := (g1.trans g2).of0
    cases hN : simpN rs [] Pl.nil with
    | none => rw [hN] at hf; cases hf
    | some qq =>
    obtain ⟨nsF, pF⟩ := qq
    rw [hN] at hf
    simp only [] at hf
    refine ⟨_, rfl, x, dx, l, rfl, g2.s _ _ hx, l, rfl, ⟨_, sqlO (g2.s _ _ hl)⟩, ?_⟩
    refine for_list (xs := ws) (fun i σ H' => ∃ (v3 v4 v5 : Option V) (ns : List Nat) (p : Pl) (U' : Hp), σ = [some (.ref x), some (.ref B.x), some (.ref nl), v3, v4, v5] ∧ Gr (fun b => b ∈ B.own) U H U' H' ∧ PoolSt P w K W U' H' B p p.rows ∧ PlOk p ∧ U' nl = none ∧ H' nl = some (.lst (ns.map fun j : Nat => V.int j)) ∧ ns.length = i ∧ simpN (rs.drop i) ns p = some (nsF, pF))
      ⟨none, none, none, [], Pl.nil, U, rfl, g12, S2, ⟨rfl, rfl, rfl, rfl⟩, hU.free nl0, upd_same, rfl, hN⟩ (fun i σ H' _ ⟨_, _, _, _, _, _, _, g, _⟩ => sqlO (g.s _ _ (g.v _ _ hl))) ?_ ?_
    · rintro i v σ H3 hv ⟨v3, v4, v5, ns, p, U3, rfl, g3, S3, P3, u3, e3, n3, hn⟩
      have hi : i < rs.length := by rw [← hlen]; exact (List.getElem?_eq_some_iff.mp hv).1
      obtain ⟨d, e1, e2⟩ := dps_get hdp hv
      rw [List.getElem?_map, List.getElem?_eq_getElem hi] at e1
      cases e1
      rw [List.drop_eq_getElem_cons hi] at hn
      generalize rs[i] = r at e2 hn
      unfold simpN at hn
      split at hn
      · rename_i hc
        rw [Bool.and_eq_true] at hc
        have hok := okB_ok hc.1
        have hok2 := okB_ok hc.2
        have hlt := pts_lt hok
        have h8 := pts_len hok
        cases ha : replaced p (withP r ((pts r).map fun j => ns.getD j 0)) with
        | none => rw [ha] at hn; cases hn
        | some q =>
          obtain ⟨n, p'⟩ := q
          rw [ha] at hn
          simp only [] at hn
          refine ⟨_, rfl, v, r, _, U3, rfl, g3.s, dpS g3.v e2, hok, fun pl U4 H4 g4 hpl => ⟨pl, rfl, ⟨_, sqlO (g4.s _ _ hpl)⟩, fun D hD => ?_⟩⟩
          have S4 := S3.gr g4 (fun _ _ z => z)
          have e4 := g4.same _ _ e3
          have u4 := g4.out (some_ne e3) u3
          refine lc_list (xs := (pts r).map fun j : Nat => V.int j) (fun i H' => Gr S0 U4 H4 U4 H' ∧ H' D = some (.lst ((((pts r).take i).map fun j => ns.getD j 0).map fun j : Nat => V.int j))) ⟨(Gr.refl g4.s).newH hD, upd_same⟩ (fun i H' _ z => sqlO (z.1.s _ _ hpl)) ?_ ?_
          · rintro m y H5 hy ⟨g5, hd5⟩
            rw [List.getElem?_map] at hy
            obtain ⟨j, hj, rfl⟩ := Option.map_eq_some_iff.mp hy
            have hjl := hlt j (List.mem_of_getElem? hj)
            refine ⟨rfl, ⟨_, rfl, _, rfl, nl, _, (j : Nat), .int ((ns.getD j 0 : Nat) : Int), rfl, rfl, sqlO (g5.same _ _ e4), atI_nat (by rw [List.getElem?_map, List.getD_eq_getElem?_getD, List.getElem?_eq_getElem hjl]; rfl), _, hd5, ?_, g5.mut (.inr hD) (g4.s.free hD), ?_⟩⟩
            · rw [List.length_map, List.length_map, List.length_take]
              exact small1000 (by omega)
            · rw [upd_same, List.take_succ, hj, List.map_append, List.map_append]
              rfl
          · rintro H5 ⟨g5, hd5⟩
            rw [List.length_map, List.take_length] at hd5
            have S5 := S4.gr g5 (fun _ _ z => z)
            have e5 := g5.same _ _ e4
            have u5 := g5.out (some_ne e4) u4
            refine ⟨_, rfl, .inl ⟨rfl, _, sqlO e5⟩, _, rfl, _, rfl, _, rfl, v, r, _, D, _, U4, rfl, g5.s, dpS (g3.v.trans g4.v) e2, hok, sqlO hd5, by rw [List.length_map], fun v6 U6 H6 g6 hd6 => ?_⟩
            have S6 := S5.gr g6 (fun _ _ z => z)
            refine ⟨B, p, v6, _, U6, n, p', rfl, g6.s, S6, P3, hd6, hok2, ha, fun U7 H7 g7 S7 P7 => nilA ?_⟩
            have e7 := g7.k _ _ nB (g6.same _ _ e5)
            have u7 := g7.out (some_ne (g6.same _ _ e5)) (g6.out (some_ne e5) u5)
            refine ⟨_, _, _, rfl, rfl, e7, by rw [List.length_map]; exact small1000 (by omega), ?_⟩
            refine ⟨_, _, _, ns ++ [n], p', U7, rfl, ((((g3.trans g4.of0).trans g5.of0).trans g6.of0).trans g7).mut (.inr nl0) u7, S7.gr ((Gr.refl (S := fun b => b = nl) g7.s).mut (.inl rfl) u7) (fun b hb z => nB (by rw [← z]; exact hb)), P7, u7, by rw [upd_same, List.map_append]; rfl, by rw [List.length_append, n3]; rfl, hn⟩
      · cases hn
    · rintro σ H3 ⟨v3, v4, v5, ns, p, U3, rfl, g3, S3, P3, u3, e3, n3, hn⟩
      rw [hlen, List.drop_length] at hn
      obtain ⟨rfl, rfl⟩ := Prod.mk.inj (Option.some.inj hn)
      cases hgl : ns.getLast? with
      | none => rw [hgl] at hf; cases hf
      | some n =>
        rw [hgl] at hf
        simp only [] at hf
        obtain ⟨ys, rfl⟩ := List.getLast?_eq_some_iff.mp hgl
        cases hrb : runB p 500 [n] [] Pl.nil with
        | none => rw [hrb] at hf; cases hf
        | some res0 =>
          rw [hrb] at hf
          simp only [] at hf
          split at hf
          · rename_i hc
            rw [Bool.and_eq_true, Bool.and_eq_true, decide_eq_true_eq, decide_eq_true_eq] at hc
            obtain ⟨hc1, hc2, hc3⟩ := hc
            have hf := Option.some.inj hf
            subst hf
            have hor : OkRows res0 := fun i r e => by
              have := okRowsB_ok hc1 i r e
              rw [Nat.zero_add] at this
              exact this
            rw [List.map_append] at e3
            refine ⟨_, rfl, B.x, B.dx, _, rfl, S3.fx, lp_below, _, rfl, 1, rfl, _, _, _, _, rfl, rfl, sqlO e3, atI_last _ _, nilA ⟨B, p, n, U3, 500, res0, rfl, g3.s, S3, P3, hrb, fun l2 ws2 U4 H4 g4 hl4 hd4 => ?_⟩⟩
            refine nilA (fun y dy hy hdy ne => made_doc hy hdy ne g4.s (sqlO hl4) (.of g4.s hd4) hor hc2 hc3 fun U5 H5 g5 D5 => ⟨rfl, ?_⟩)
            exact k y U5 H5 (gr_shed ((g3.trans g4.of0).trans g5.of0) hBo) D5 hor hc2 hc3
          · cases hf
end
end Lw

set_option maxHeartbeats 0
namespace Lw
open PySem PySem.Spec PyProof.Rows L2 VW TL
local macro_rules | `(tactic| walk_at "rdc") => `(tactic| first | assumption | rfl | decide | omega | exact Or.inr ⟨by decide, by decide⟩ | exact ⟨by decide, by decide⟩ | exact ⟨by decide, by decide, by decide⟩ | (show (0 : Int) < _; omega) | (show (0 : Int) < _ ∧ _ < (1073741824 : Int); omega) | (show (-(2 ^ 64) < _ ∧ _ < 2 ^ 64) ∨ (-(2 ^ 64) < _ ∧ _ < 2 ^ 64); omega) | (show (-(2 ^ 64) < _ ∧ _ < 2 ^ 64) ∨ (-(2 ^ 64) < _ ∧ _ < 2 ^ 64); right; split <;> decide) | exact Nat.le_of_ble_eq_true rfl)
local macro_rules | `(tactic| walk_at "rd1") => `(tactic| first | refine ⟨_, rfl, ?_⟩ | refine And.intro (by walk_at "rdc") ?_ | refine ⟨_, _, rfl, rfl, ?_⟩ | refine Or.inl ⟨_, rfl, ?_⟩ | refine Or.inr ⟨_, rfl, ?_⟩ | refine ⟨_, _, _, _, rfl, rfl, sqlO (by first | assumption | exact upd_same), rfl, ?_⟩ | refine ⟨_, _, _, _, rfl, rfl, (by first | assumption | exact upd_same), rfl, ?_⟩)
local macro_rules | `(tactic| walk_at "rd") => `(tactic| repeat (walk_at "rd1"))

section
variable {P : Program} {w : World} {K : PySem.W.Frag} {mg : Str → Option Value} {base : Heap} {W : Wd}
theorem eq_mono {C : Addr} : ∀ vs H Q Q' E, (∀ v H', Q v H' → Q' v H') → sp_eq K C vs H Q E → sp_eq K C vs H Q' E := by
  rintro vs H Q Q' E hq ⟨x, y, rs, U, e, s, d, o, z⟩
  refine ⟨x, y, rs, U, e, s, d, o, ?_⟩
  rcases z with ⟨y', qs, e1, d1, o1, q⟩ | ⟨e1, q⟩
  · exact .inl ⟨y', qs, e1, d1, o1, hq _ _ q⟩
  · exact .inr ⟨e1, hq _ _ q⟩
theorem eqok (T : Txt w K mg W) : EqOk P w K mg base W.c_Doc 1 (sp_eq K W.c_Doc) := by
  obtain ⟨f, fd, h1, h2, F, hb, G⟩ := (d_Doc___eq__ (P := P) (base := base) T).ex
  exact ⟨f, fd, h1, h2, hb, G⟩
theorem eq_Doc {X : Cx} {W : Wd} (T : Txt X.w X.K X.mg W) (hr : Room 1 X.A) : OpR X (compareOp .Eq) (rEqO X.K W.c_Doc (sp_eq X.K W.c_Doc)) := op_eqO (eqok T) hr eq_mono
theorem sc_simplified : FnScope ["doc"] ["doc"] (defScope s_simplified) := ⟨rfl, rfl, rfl, by decide +kernel, rfl, by decide +kernel, by decide +kernel⟩
theorem d_simplified (T : Txt w K mg W) : DefOk P w K mg base "simplified" s_simplified ["doc"] 8 (sp_simp K W.c_Doc) := by
  refine T.f_simplified.ok sc_simplified (fun vs H Q E h => ?_) (fun f cdv A outer s H vs Q E hr h => ?_)
  · obtain ⟨x, rs, res, U, rfl, _⟩ := h
    rfl
  · obtain ⟨x, rs, res, U, rfl, hU, D, h200, hf, k⟩ := h
    refine ⟨_, (pss_cons (ps_expr (pe_callD (d_check_doc T) (hr.mono (by decide)) (pa_cons (pv 0) pa_nil)))
      (pss_one (ps_ret (pe_callD (d_simplified_doc T) (hr.mono (by decide)) (pa_cons (pv 0) pa_nil))))), ?_⟩
    obtain ⟨dx, l, ws, hx, hl, hd⟩ := id D
    exact ⟨_, rfl, x, dx, _, rfl, hU _ _ hx, _, rfl, x, rs, res, U, rfl, hU, D, h200, hf, k⟩
theorem sc_is_simple : FnScope ["doc"] ["doc"] (defScope s_is_simple) := ⟨rfl, rfl, rfl, by decide +kernel, rfl, by decide +kernel, by decide +kernel⟩
def sp_issimple (K : PySem.W.Frag) (C : Addr) : Sp := fun vs H Q _ => ∃ (x : Addr) (rs res : List Row) (U : Hp), vs = [.ref x] ∧ Same U H ∧ DocAt K C U x rs ∧ OkRows rs ∧ rs.length ≤ 200 ∧ simpR rs = some res ∧
  ∀ (U' H' : Hp), Gr S0 U H U' H' → Q (.bl (PyData.eqv (dat res) (dat rs))) H'
theorem d_is_simple (T : Txt w K mg W) : DefOk P w K mg base "is_simple" s_is_simple ["doc"] 9 (sp_issimple K W.c_Doc) := by
  refine T.f_is_simple.ok sc_is_simple (fun vs H Q E h => ?_) (fun f cdv A outer s H vs Q E hr h => ?_)
  · obtain ⟨x, rs, res, U, rfl, _⟩ := h
    rfl
  · obtain ⟨x, rs, res, U, rfl, hU, D, hok, h200, hf, k⟩ := h
    refine ⟨_, (pss_one (ps_ret (pe_cmpR (eq_Doc T (hr.mono (by decide))) (pe_callD (d_simplified T) (hr.mono (by decide)) (pa_cons (pv 0) pa_nil)) (pv 0) (nomark _)))), ?_⟩
    refine ⟨_, rfl, x, rs, res, U, rfl, hU, D, h200, hf, fun y U1 H1 g1 D1 ok1 n0 n200 => ⟨_, rfl, ?_⟩⟩
    obtain ⟨dy, ly, wy, hy, hly, hdy⟩ := id D1
    obtain ⟨dx, l, ws, hx, hl, hd⟩ := id D
    refine ⟨y, dy, _, .ref W.c_Doc, rfl, g1.s _ _ hy, .ins (g1.s _ _ (g1.v _ _ hx)), T.i_Doc.nSelf, ?_⟩
    exact ⟨y, _, res, U1, rfl, g1.s, D1, ok1, .inl ⟨x, rs, rfl, ⟨dx, l, ws, g1.v _ _ hx, g1.v _ _ hl, dpsS g1.v hd⟩, hok, _, rfl, k U1 H1 g1⟩⟩
end
end Lw

set_option maxHeartbeats 0
namespace Lw
open PySem PySem.Spec PyProof.Rows L2 VW TL
local macro_rules | `(tactic| walk_at "rdc") => `(tactic| first | assumption | rfl | decide | omega | exact Or.inr ⟨by decide, by decide⟩ | exact ⟨by decide, by decide⟩ | exact ⟨by decide, by decide, by decide⟩ | (show (0 : Int) < _; omega) | (show (0 : Int) < _ ∧ _ < (1073741824 : Int); omega) | (show (-(2 ^ 64) < _ ∧ _ < 2 ^ 64) ∨ (-(2 ^ 64) < _ ∧ _ < 2 ^ 64); omega) | (show (-(2 ^ 64) < _ ∧ _ < 2 ^ 64) ∨ (-(2 ^ 64) < _ ∧ _ < 2 ^ 64); right; split <;> decide) | exact Nat.le_of_ble_eq_true rfl)
local macro_rules | `(tactic| walk_at "rd1") => `(tactic| first | refine ⟨_, rfl, ?_⟩ | refine And.intro (by walk_at "rdc") ?_ | refine ⟨_, _, rfl, rfl, ?_⟩ | refine Or.inl ⟨_, rfl, ?_⟩ | refine Or.inr ⟨_, rfl, ?_⟩ | refine ⟨_, _, _, _, rfl, rfl, sqlO (by first | assumption | exact upd_same), rfl, ?_⟩ | refine ⟨_, _, _, _, rfl, rfl, (by first | assumption | exact upd_same), rfl, ?_⟩)
local macro_rules | `(tactic| walk_at "rd") => `(tactic| repeat (walk_at "rd1"))

def rA : Row := .text "a"
def rB : Row := .text "b"
def rE : Row := .text ""
def rL : Row := .line ""
def rH : Row := .hard
abbrev KnR : Type := List (List Row × List Row)
def kG0 : KnR := [([rA, rB], [rB]), ([rE, rL, .cat [0, 1, 0]], [rL]), ([rE, .cat [0, 0], .cat []], [rE])]
def kG1 : KnR := [([rA, rL, .cat [0, 1], .nest 0 2], [rA, rL, .cat [0, 1]]), ([rA, .nest 3 0], [rA])]
def kG2 : KnR := [([rA, .align 0, .group 1], [rA]), ([rL, .group 0, .group 1], [rL, .group 0])]
def kS3 : List Row := [rA, rH, rL, .cat [0, 1, 2]]
def kG4 : KnR := [([rH, .group 0], [rH]), (kS3 ++ [.group 3], kS3)]
def kG5 : KnR := [([rL, .align 0, .nest 4 1], [rL, .align 0]), ([rL, .align 0, .align 1], [rL, .align 0])]
def kG6 : KnR := [([rL, .nest 4 0, .align 1], [rL, .nest 4 0, .align 1])]
def kG7 : KnR := [([rL, .nest 4 0, .nest 4 1], [rL, .nest 8 0])]
def kG8 : KnR := [([rL, .nest 4 0, .nest 5 1], [rL, .nest 4 0, .nest 5 1])]
def kG9 : KnR := [([rL, .nest 1 0, .nest 2 1, .nest 3 2], [rL, .nest 6 0])]
def kG10 : KnR := [([rA, rL, .cat [0, 1], .group 2, .cat [3, 0, 3], .group 4], [rA, rL, .cat [0, 1], .group 2, .cat [3, 0, 3]])]
def kS11 : List Row := [rL, .group 0, .cat [1, 0], .group 2]
def kG12 : KnR := [([rA, rL, .group 1, .cat [2, 1], .group 3], kS11)]
def kS13 : List Row := [rL, rA, rB, .cat [0, 1, 2], .cat [3, 0]]
def kG14 : KnR := [([rB, rA, rL, .cat [2, 1, 0], rL, .cat [3, 4]], kS13)]
def kG15 : KnR := [([rL, .group 0, .nest 2 1, .group 2], [rL, .group 0, .nest 2 1])]
def kS16 : List Row := [.text " ", .line " ", .cat [0, 1, 0]]
def kG17 : KnR := [([.line " ", .text " ", .cat [1, 0, 1]], kS16)]
def knownR : KnR := (((((((((((((kG0 ++ kG1) ++ kG2) ++ kG4) ++ kG5) ++ kG6) ++ kG7) ++ kG8) ++ kG9) ++ kG10) ++ kG12) ++ kG14) ++ kG15) ++ kG17)
def kp (x : List Row × List Row) : PyData := .tuple [dat x.1, dat x.2]
local macro_rules | `(tactic| walk_at "dv1") => `(tactic| first | exact mk9_nil | refine mk9_cons ?_ ?_ | exact fr9_int | exact fr9_str | exact fr9_var rfl (by assumption) | refine fr9_tup ?_ (Nat.le_of_ble_eq_true rfl) | refine fr9_lst ?_ (Nat.le_of_ble_eq_true rfl) | refine fr9_cat rfl (by assumption) (by assumption) ?_ (Nat.le_of_ble_eq_true rfl) rfl)
local macro_rules | `(tactic| walk_at "dv") => `(tactic| repeat' (walk_at "dv1"))
section
variable {P : Program} {w : World} {K : PySem.W.Frag} {mg : Str → Option Value} {base : Heap} {W : Wd}
theorem go_asg {te : TE} {g : TG} {u : TS} {D : Ends} {σ : L2.St} {H : Hp} (h : te σ H fun x H1 => g x σ H1 (u D)) : tSeq (tAsg te g) u D σ H := h
theorem go_drop {te : TE} {u : TS} {D : Ends} {σ : L2.St} {H : Hp} (h : te σ H fun _ H1 => u D σ H1) : tSeq (tDrop te) u D σ H := h
theorem go_ret {te : TE} {D : Ends} {σ : L2.St} {H : Hp} (h : te σ H D.rt) : tRet te D σ H := h
def sp_known (K : PySem.W.Frag) : Sp := fun vs H Q _ => vs = [] ∧ ∃ U : Hp, Same U H ∧ ∀ (p : Addr) (vs : List V) (U' H' : Hp), Gr S0 U H U' H' → H' p = some (.lst vs) → DpAll K U' vs (knownR.map kp) → Q (.ref p) H'
theorem sc__law_known : FnScope ["_law_a", "_law_b", "_law_e", "_law_edge", "_law_hard", "_law_rows", "_law_some", "_law_row"] [] (defScope s__law_known) := ⟨rfl, rfl, rfl, by decide +kernel, rfl, by decide +kernel, by decide +kernel⟩
theorem d__law_known (T : Txt w K mg W) : DefOk P w K mg base "_law_known" s__law_known [] 1 (sp_known K) := by
  refine T.f__law_known.ok sc__law_known (fun vs H Q E h => ?_) (fun f cdv A outer s H vs Q E hr h => ?_)
  · obtain ⟨rfl, _⟩ := h
    rfl
  · obtain ⟨rfl, U, hU, k⟩ := h
    refine ⟨_, (pss_cons (ps_asg (pe_tup (pa_cons (pe_tup (pa_cons pe_str (pa_cons pe_str pa_nil))) (pa_cons (pe_tup (pa_cons pe_str (pa_cons pe_str pa_nil))) (pa_cons (pe_tup (pa_cons pe_str (pa_cons pe_str pa_nil))) (pa_cons (pe_tup (pa_cons pe_str (pa_cons pe_str pa_nil))) (pa_cons (pe_tup (pa_cons pe_str pa_nil)) pa_nil)))))) (pg_tup rfl (pgs_cons (pg_name (i := 0) sc__law_known.nd rfl (Or.inl rfl)) (pgs_cons (pg_name (i := 1) sc__law_known.nd rfl (Or.inl rfl)) (pgs_cons (pg_name (i := 2) sc__law_known.nd rfl (Or.inl rfl)) (pgs_cons (pg_name (i := 3) sc__law_known.nd rfl (Or.inr rfl)) (pgs_cons (pg_name (i := 4) sc__law_known.nd rfl (Or.inl rfl)) pgs_nil)))))))
      (pss_cons (ps_set (i := 5) sc__law_known.nd rfl (Or.inl rfl) (pe_lst (pa_cons (pe_tup (pa_cons (pe_lst (pa_cons (pv 0) (pa_cons (pv 1) pa_nil))) (pa_cons (pe_lst (pa_cons (pv 1) pa_nil)) pa_nil))) (pa_cons (pe_tup (pa_cons (pe_lst (pa_cons (pv 2) (pa_cons (pv 3) (pa_cons (pe_tup (pa_cons pe_str (pa_cons (pe_lst (pa_cons pe_int (pa_cons pe_int (pa_cons pe_int pa_nil)))) pa_nil))) pa_nil)))) (pa_cons (pe_lst (pa_cons (pv 3) pa_nil)) pa_nil))) (pa_cons (pe_tup (pa_cons (pe_lst (pa_cons (pv 2) (pa_cons (pe_tup (pa_cons pe_str (pa_cons (pe_lst (pa_cons pe_int (pa_cons pe_int pa_nil))) pa_nil))) (pa_cons (pe_tup (pa_cons pe_str (pa_cons (pe_lst pa_nil) pa_nil))) pa_nil)))) (pa_cons (pe_lst (pa_cons (pv 2) pa_nil)) pa_nil))) pa_nil)))))
      (pss_cons (ps_set (i := 5) sc__law_known.nd rfl (Or.inl rfl) (pe_op op_cat (pv 5) (pe_lst (pa_cons (pe_tup (pa_cons (pe_lst (pa_cons (pv 0) (pa_cons (pv 3) (pa_cons (pe_tup (pa_cons pe_str (pa_cons (pe_lst (pa_cons pe_int (pa_cons pe_int pa_nil))) pa_nil))) (pa_cons (pe_tup (pa_cons pe_str (pa_cons pe_int (pa_cons pe_int pa_nil)))) pa_nil))))) (pa_cons (pe_lst (pa_cons (pv 0) (pa_cons (pv 3) (pa_cons (pe_tup (pa_cons pe_str (pa_cons (pe_lst (pa_cons pe_int (pa_cons pe_int pa_nil))) pa_nil))) pa_nil)))) pa_nil))) (pa_cons (pe_tup (pa_cons (pe_lst (pa_cons (pv 0) (pa_cons (pe_tup (pa_cons pe_str (pa_cons pe_int (pa_cons pe_int pa_nil)))) pa_nil))) (pa_cons (pe_lst (pa_cons (pv 0) pa_nil)) pa_nil))) pa_nil)))))
      (pss_cons (ps_set (i := 5) sc__law_known.nd rfl (Or.inl rfl) (pe_op op_cat (pv 5) (pe_lst (pa_cons (pe_tup (pa_cons (pe_lst (pa_cons (pv 0) (pa_cons (pe_tup (pa_cons pe_str (pa_cons pe_int pa_nil))) (pa_cons (pe_tup (pa_cons pe_str (pa_cons pe_int pa_nil))) pa_nil)))) (pa_cons (pe_lst (pa_cons (pv 0) pa_nil)) pa_nil))) (pa_cons (pe_tup (pa_cons (pe_lst (pa_cons (pv 3) (pa_cons (pe_tup (pa_cons pe_str (pa_cons pe_int pa_nil))) (pa_cons (pe_tup (pa_cons pe_str (pa_cons pe_int pa_nil))) pa_nil)))) (pa_cons (pe_lst (pa_cons (pv 3) (pa_cons (pe_tup (pa_cons pe_str (pa_cons pe_int pa_nil))) pa_nil))) pa_nil))) pa_nil)))))
      (pss_cons (ps_set (i := 6) sc__law_known.nd rfl (Or.inl rfl) (pe_lst (pa_cons (pv 0) (pa_cons (pv 4) (pa_cons (pv 3) (pa_cons (pe_tup (pa_cons pe_str (pa_cons (pe_lst (pa_cons pe_int (pa_cons pe_int (pa_cons pe_int pa_nil)))) pa_nil))) pa_nil))))))
      (pss_cons (ps_set (i := 5) sc__law_known.nd rfl (Or.inl rfl) (pe_op op_cat (pv 5) (pe_lst (pa_cons (pe_tup (pa_cons (pe_lst (pa_cons (pv 4) (pa_cons (pe_tup (pa_cons pe_str (pa_cons pe_int pa_nil))) pa_nil))) (pa_cons (pe_lst (pa_cons (pv 4) pa_nil)) pa_nil))) (pa_cons (pe_tup (pa_cons (pe_op op_cat (pv 6) (pe_lst (pa_cons (pe_tup (pa_cons pe_str (pa_cons pe_int pa_nil))) pa_nil))) (pa_cons (pv 6) pa_nil))) pa_nil)))))
      (pss_cons (ps_set (i := 5) sc__law_known.nd rfl (Or.inl rfl) (pe_op op_cat (pv 5) (pe_lc (own := [("_law_row", 7)]) (g := (gName 7)) (tt := tYes) rfl sc__law_known.nd (pi_tup (pe_tup (pa_cons (pe_tup (pa_cons pe_str (pa_cons pe_int (pa_cons pe_int pa_nil)))) (pa_cons (pe_tup (pa_cons pe_str (pa_cons pe_int pa_nil))) pa_nil)))) (blkOk_by (own := [("_law_row", 7)]) (N := ["_law_a", "_law_b", "_law_e", "_law_edge", "_law_hard", "_law_rows", "_law_some", "_law_row"]) (sc := defScope s__law_known) (by decide +kernel)) (fun _ _ _ _ _ => (pg_name (i := 7) sc__law_known.nd rfl (Or.inl rfl))) (fun _ _ _ _ _ => pts_nil) (fun _ _ _ _ _ => (pe_tup (pa_cons (pe_lst (pa_cons (pv 3) (pa_cons (pe_tup (pa_cons pe_str (pa_cons pe_int pa_nil))) (pa_cons (pv 7) pa_nil)))) (pa_cons (pe_lst (pa_cons (pv 3) (pa_cons (pe_tup (pa_cons pe_str (pa_cons pe_int pa_nil))) pa_nil))) pa_nil)))))))
      (pss_cons (ps_set (i := 5) sc__law_known.nd rfl (Or.inl rfl) (pe_op op_cat (pv 5) (pe_lst (pa_cons (pe_tup (pa_cons (pe_lst (pa_cons (pv 3) (pa_cons (pe_tup (pa_cons pe_str (pa_cons pe_int (pa_cons pe_int pa_nil)))) (pa_cons (pe_tup (pa_cons pe_str (pa_cons pe_int pa_nil))) pa_nil)))) (pa_cons (pe_lst (pa_cons (pv 3) (pa_cons (pe_tup (pa_cons pe_str (pa_cons pe_int (pa_cons pe_int pa_nil)))) (pa_cons (pe_tup (pa_cons pe_str (pa_cons pe_int pa_nil))) pa_nil)))) pa_nil))) pa_nil))))
      (pss_cons (ps_set (i := 5) sc__law_known.nd rfl (Or.inl rfl) (pe_op op_cat (pv 5) (pe_lst (pa_cons (pe_tup (pa_cons (pe_lst (pa_cons (pv 3) (pa_cons (pe_tup (pa_cons pe_str (pa_cons pe_int (pa_cons pe_int pa_nil)))) (pa_cons (pe_tup (pa_cons pe_str (pa_cons pe_int (pa_cons pe_int pa_nil)))) pa_nil)))) (pa_cons (pe_lst (pa_cons (pv 3) (pa_cons (pe_tup (pa_cons pe_str (pa_cons pe_int (pa_cons pe_int pa_nil)))) pa_nil))) pa_nil))) pa_nil))))
      (pss_cons (ps_set (i := 5) sc__law_known.nd rfl (Or.inl rfl) (pe_op op_cat (pv 5) (pe_lst (pa_cons (pe_tup (pa_cons (pe_lst (pa_cons (pv 3) (pa_cons (pe_tup (pa_cons pe_str (pa_cons pe_int (pa_cons pe_int pa_nil)))) (pa_cons (pe_tup (pa_cons pe_str (pa_cons pe_int (pa_cons pe_int pa_nil)))) pa_nil)))) (pa_cons (pe_lst (pa_cons (pv 3) (pa_cons (pe_tup (pa_cons pe_str (pa_cons pe_int (pa_cons pe_int pa_nil)))) (pa_cons (pe_tup (pa_cons pe_str (pa_cons pe_int (pa_cons pe_int pa_nil)))) pa_nil)))) pa_nil))) pa_nil))))
      (pss_cons (ps_set (i := 5) sc__law_known.nd rfl (Or.inl rfl) (pe_op op_cat (pv 5) (pe_lst (pa_cons (pe_tup (pa_cons (pe_lst (pa_cons (pv 3) (pa_cons (pe_tup (pa_cons pe_str (pa_cons pe_int (pa_cons pe_int pa_nil)))) (pa_cons (pe_tup (pa_cons pe_str (pa_cons pe_int (pa_cons pe_int pa_nil)))) (pa_cons (pe_tup (pa_cons pe_str (pa_cons pe_int (pa_cons pe_int pa_nil)))) pa_nil))))) (pa_cons (pe_lst (pa_cons (pv 3) (pa_cons (pe_tup (pa_cons pe_str (pa_cons pe_int (pa_cons pe_int pa_nil)))) pa_nil))) pa_nil))) pa_nil))))
      (pss_cons (ps_set (i := 5) sc__law_known.nd rfl (Or.inl rfl) (pe_op op_cat (pv 5) (pe_lst (pa_cons (pe_tup (pa_cons (pe_lst (pa_cons (pv 0) (pa_cons (pv 3) (pa_cons (pe_tup (pa_cons pe_str (pa_cons (pe_lst (pa_cons pe_int (pa_cons pe_int pa_nil))) pa_nil))) (pa_cons (pe_tup (pa_cons pe_str (pa_cons pe_int pa_nil))) (pa_cons (pe_tup (pa_cons pe_str (pa_cons (pe_lst (pa_cons pe_int (pa_cons pe_int (pa_cons pe_int pa_nil)))) pa_nil))) (pa_cons (pe_tup (pa_cons pe_str (pa_cons pe_int pa_nil))) pa_nil))))))) (pa_cons (pe_lst (pa_cons (pv 0) (pa_cons (pv 3) (pa_cons (pe_tup (pa_cons pe_str (pa_cons (pe_lst (pa_cons pe_int (pa_cons pe_int pa_nil))) pa_nil))) (pa_cons (pe_tup (pa_cons pe_str (pa_cons pe_int pa_nil))) (pa_cons (pe_tup (pa_cons pe_str (pa_cons (pe_lst (pa_cons pe_int (pa_cons pe_int (pa_cons pe_int pa_nil)))) pa_nil))) pa_nil)))))) pa_nil))) pa_nil))))
      (pss_cons (ps_set (i := 6) sc__law_known.nd rfl (Or.inl rfl) (pe_lst (pa_cons (pv 3) (pa_cons (pe_tup (pa_cons pe_str (pa_cons pe_int pa_nil))) (pa_cons (pe_tup (pa_cons pe_str (pa_cons (pe_lst (pa_cons pe_int (pa_cons pe_int pa_nil))) pa_nil))) (pa_cons (pe_tup (pa_cons pe_str (pa_cons pe_int pa_nil))) pa_nil))))))
      (pss_cons (ps_expr (pe_bm PySem.F.plainAttrs_list PySem.F.slot_list_append PySem.F.type_list_append mt_append (pv 5) (pa_cons (pe_tup (pa_cons (pe_lst (pa_cons (pv 0) (pa_cons (pv 3) (pa_cons (pe_tup (pa_cons pe_str (pa_cons pe_int pa_nil))) (pa_cons (pe_tup (pa_cons pe_str (pa_cons (pe_lst (pa_cons pe_int (pa_cons pe_int pa_nil))) pa_nil))) (pa_cons (pe_tup (pa_cons pe_str (pa_cons pe_int pa_nil))) pa_nil)))))) (pa_cons (pv 6) pa_nil))) pa_nil)))
      (pss_cons (ps_set (i := 6) sc__law_known.nd rfl (Or.inl rfl) (pe_lst (pa_cons (pv 3) (pa_cons (pv 0) (pa_cons (pv 1) (pa_cons (pe_tup (pa_cons pe_str (pa_cons (pe_lst (pa_cons pe_int (pa_cons pe_int (pa_cons pe_int pa_nil)))) pa_nil))) (pa_cons (pe_tup (pa_cons pe_str (pa_cons (pe_lst (pa_cons pe_int (pa_cons pe_int pa_nil))) pa_nil))) pa_nil)))))))
      (pss_cons (ps_expr (pe_bm PySem.F.plainAttrs_list PySem.F.slot_list_append PySem.F.type_list_append mt_append (pv 5) (pa_cons (pe_tup (pa_cons (pe_lst (pa_cons (pv 1) (pa_cons (pv 0) (pa_cons (pv 3) (pa_cons (pe_tup (pa_cons pe_str (pa_cons (pe_lst (pa_cons pe_int (pa_cons pe_int (pa_cons pe_int pa_nil)))) pa_nil))) (pa_cons (pv 3) (pa_cons (pe_tup (pa_cons pe_str (pa_cons (pe_lst (pa_cons pe_int (pa_cons pe_int pa_nil))) pa_nil))) pa_nil))))))) (pa_cons (pv 6) pa_nil))) pa_nil)))
      (pss_cons (ps_set (i := 5) sc__law_known.nd rfl (Or.inl rfl) (pe_op op_cat (pv 5) (pe_lst (pa_cons (pe_tup (pa_cons (pe_lst (pa_cons (pv 3) (pa_cons (pe_tup (pa_cons pe_str (pa_cons pe_int pa_nil))) (pa_cons (pe_tup (pa_cons pe_str (pa_cons pe_int (pa_cons pe_int pa_nil)))) (pa_cons (pe_tup (pa_cons pe_str (pa_cons pe_int pa_nil))) pa_nil))))) (pa_cons (pe_lst (pa_cons (pv 3) (pa_cons (pe_tup (pa_cons pe_str (pa_cons pe_int pa_nil))) (pa_cons (pe_tup (pa_cons pe_str (pa_cons pe_int (pa_cons pe_int pa_nil)))) pa_nil)))) pa_nil))) pa_nil))))
      (pss_cons (ps_set (i := 6) sc__law_known.nd rfl (Or.inl rfl) (pe_lst (pa_cons (pe_tup (pa_cons pe_str (pa_cons pe_str pa_nil))) (pa_cons (pe_tup (pa_cons pe_str (pa_cons pe_str pa_nil))) (pa_cons (pe_tup (pa_cons pe_str (pa_cons (pe_lst (pa_cons pe_int (pa_cons pe_int (pa_cons pe_int pa_nil)))) pa_nil))) pa_nil)))))
      (pss_one (ps_ret (pe_op op_cat (pv 5) (pe_lst (pa_cons (pe_tup (pa_cons (pe_lst (pa_cons (pe_tup (pa_cons pe_str (pa_cons pe_str pa_nil))) (pa_cons (pe_tup (pa_cons pe_str (pa_cons pe_str pa_nil))) (pa_cons (pe_tup (pa_cons pe_str (pa_cons (pe_lst (pa_cons pe_int (pa_cons pe_int (pa_cons pe_int pa_nil)))) pa_nil))) pa_nil)))) (pa_cons (pv 6) pa_nil))) pa_nil))))))))))))))))))))))), ?_⟩
    refine go_asg (H := H) ?_
    refine (show Mk9 K _ U _ [rA.data, rB.data, rE.data, rL.data, rH.data] by walk_at "dv") U H _ (Same.refl _) hU fun vs U1 H1 g1 hvs => ?_
    obtain ⟨v1, v2, v3, v4, v5, rfl, a1, a2, a3, a4, a5⟩ : ∃ v1 v2 v3 v4 v5, vs = [v1, v2, v3, v4, v5] ∧ Dp K U1 v1 rA.data ∧ Dp K U1 v2 rB.data ∧ Dp K U1 v3 rE.data ∧ Dp K U1 v4 rL.data ∧ Dp K U1 v5 rH.data := by
      cases hvs with | cons h1 hvs =>
      cases hvs with | cons h2 hvs =>
      cases hvs with | cons h3 hvs =>
      cases hvs with | cons h4 hvs =>
      cases hvs with | cons h5 hvs =>
      cases hvs
      exact ⟨_, _, _, _, _, rfl, h1, h2, h3, h4, h5⟩
    refine ⟨Nat.le_of_ble_eq_true rfl, fun t ht => ⟨t, _, rfl, sqtO upd_same, rfl, ?_⟩⟩
    have gs := g1.newH (o := .tup [v1, v2, v3, v4, v5]) ht
    generalize upd H1 t (.tup [v1, v2, v3, v4, v5]) = H1 at gs ⊢
    clear ht hvs g1
    refine ⟨_, _, rfl, _, _, rfl, _, _, rfl, _, _, rfl, _, _, rfl, rfl, ?_⟩
    refine go_asg (σ := [some v1, some v2, some v3, some v4, some v5, none, none, none]) ?_
    refine rows_new9 (K := K) gs (es := kG0.map kp) (by walk_at "dv") (by decide +kernel) fun U2 H2 p0 R0 s0 => ?_
    have a1 := dpS s0 a1
    have a2 := dpS s0 a2
    have a3 := dpS s0 a3
    have a4 := dpS s0 a4
    have a5 := dpS s0 a5
    refine go_asg (σ := [some v1, some v2, some v3, some v4, some v5, some (.ref p0), none, none]) ?_
    refine rows_cat9 R0 rfl (es := kG1.map kp) (by walk_at "dv") (by decide +kernel) fun U3 H3 p1 R1 s1 => ?_
    have a1 := dpS s1 a1
    have a2 := dpS s1 a2
    have a3 := dpS s1 a3
    have a4 := dpS s1 a4
    have a5 := dpS s1 a5
    refine go_asg (σ := [some v1, some v2, some v3, some v4, some v5, some (.ref p1), none, none]) ?_
    refine rows_cat9 R1 rfl (es := kG2.map kp) (by walk_at "dv") (by decide +kernel) fun U4 H4 p2 R2 s2 => ?_
    have a1 := dpS s2 a1
    have a2 := dpS s2 a2
    have a3 := dpS s2 a3
    have a4 := dpS s2 a4
    have a5 := dpS s2 a5
    refine go_asg (σ := [some v1, some v2, some v3, some v4, some v5, some (.ref p2), none, none]) ?_
    refine lst_new9 (K := K) R2.g.s (es := kS3.map Row.data) (by walk_at "dv") (by decide +kernel) fun U5 H5 q3 w3 g3 e6 d6 => ?_
    have a1 := dpS g3.v a1
    have a2 := dpS g3.v a2
    have a3 := dpS g3.v a3
    have a4 := dpS g3.v a4
    have a5 := dpS g3.v a5
    have R3 := R2.gr g3
    have c6 : Dp K U5 (.ref q3) (dat kS3) := .lst (sqlO e6) d6
    refine go_asg (σ := [some v1, some v2, some v3, some v4, some v5, some (.ref p2), some (.ref q3), none]) ?_
    refine rows_cat9 R3 rfl (es := kG4.map kp) (by walk_at "dv") (by decide +kernel) fun U6 H6 p4 R4 s4 => ?_
    have a1 := dpS s4 a1
    have a2 := dpS s4 a2
    have a3 := dpS s4 a3
    have a4 := dpS s4 a4
    have a5 := dpS s4 a5
    have e6 := s4 _ _ e6
    have d6 := dpsS s4 d6
    have c6 : Dp K U6 (.ref q3) _ := .lst (sqlO e6) d6
    refine go_asg (σ := [some v1, some v2, some v3, some v4, some v5, some (.ref p4), some (.ref q3), none]) ?_
    obtain ⟨vsR, hpR, hvR⟩ := R4.h
    refine ⟨_, rfl, (show Mk9 K _ U6 _ [(Row.nest 4 1).data, (Row.align 1).data] by walk_at "dv") U6 H6 _ (Same.refl _) R4.g.s fun xs U70 H70 g7 hxs => ?_⟩
    obtain ⟨x1, x2, rfl, b1, b2⟩ : ∃ x1 x2, xs = [x1, x2] ∧ Dp K U70 x1 (Row.nest 4 1).data ∧ Dp K U70 x2 (Row.align 1).data := by
      cases hxs with | cons h1 hxs =>
      cases hxs with | cons h2 hxs =>
      cases hxs
      exact ⟨_, _, rfl, h1, h2⟩
    refine ⟨Nat.le_of_ble_eq_true rfl, fun t ht => ⟨t, rfl, ⟨_, sqtO upd_same⟩, fun D hD => ?_⟩⟩
    have g8 := g7.new (o := .tup [x1, x2]) ht
    have et : (upd U70 t (.tup [x1, x2])) t = some (.tup [x1, x2]) := upd_same
    have sV : Same U70 (upd U70 t (.tup [x1, x2])) := same_new (vfree g7.s ht)
    generalize upd U70 t (.tup [x1, x2]) = U71 at g8 et sV
    generalize upd H70 t (.tup [x1, x2]) = H71 at g8 hD ⊢
    have D0 : U71 D = none := g8.s.free hD
    refine lc_tup (a := t) (xs := [x1, x2]) (fun i H' => ∃ (U' : Hp) (ws : List V), Gr S0 U71 H71 U' H' ∧ U' D = none ∧ H' D = some (.lst ws) ∧ DpAll K U' ws ((kG5.take i).map kp)) ⟨U71, [], (Gr.refl g8.s).newH hD, D0, upd_same, .nil⟩ (fun i H' _ ⟨_, _, g, _⟩ => sqtO (g.s _ _ (g.v _ _ et))) ?_ ?_
    · rintro i y H9 hy ⟨U9, ws, g9, d9, e9, f9⟩
      refine ⟨rfl, ?_⟩
      have a4 := dpS ((g7.v.trans sV).trans g9.v) a4
      have b1 := dpS (sV.trans g9.v) b1
      have b2 := dpS (sV.trans g9.v) b2
      have hw : ws.length < sizeLine := by
        rw [dps_length f9, List.length_map, List.length_take]
        exact small1000 (show min i 2 ≤ 1000 by omega)
      match i, hy, f9 with
      | 0, hy, f9 =>
        cases hy
        refine yes9 ?_
        refine go9 (K := K) (B0 := U9) (d := kp ([rL, .align 0, .nest 4 1], [rL, .align 0])) (by walk_at "dv") (Same.refl _) g9.s fun v U10 H10 g10 hv => ?_
        exact ⟨ws, g10.same _ _ e9, hw, U10, ws ++ [v], (g9.trans g10).mut (.inr hD) (g10.out (some_ne e9) d9), g10.out (some_ne e9) d9, upd_same, dps_append (dpsS g10.v f9) (.cons hv .nil)⟩
      | 1, hy, f9 =>
        cases hy
        refine yes9 ?_
        refine go9 (K := K) (B0 := U9) (d := kp ([rL, .align 0, .align 1], [rL, .align 0])) (by walk_at "dv") (Same.refl _) g9.s fun v U10 H10 g10 hv => ?_
        exact ⟨ws, g10.same _ _ e9, hw, U10, ws ++ [v], (g9.trans g10).mut (.inr hD) (g10.out (some_ne e9) d9), g10.out (some_ne e9) d9, upd_same, dps_append (dpsS g10.v f9) (.cons hv .nil)⟩
      | n + 2, hy, f9 => cases hy
    rintro H9 ⟨U7, ws, g9, d9, e9, f9⟩
    have gq := g8.trans g9
    refine ⟨p4, D, vsR, ws, rfl, rfl, gq.same _ _ hpR, e9, by rw [dps_length hvR, dps_length f9]; exact Nat.le_of_ble_eq_true rfl, fun p5 hq => ?_⟩
    have G := R4.g.trans gq
    have sX : Same U6 U7 := gq.v
    have R5 : RowsAt K U H U7 (upd H9 p5 (.lst (vsR ++ ws))) p5 ((((kG0.map kp ++ kG1.map kp) ++ kG2.map kp) ++ kG4.map kp) ++ kG5.map kp) := ⟨G.newH hq, G.free hq, vfree G.s hq, _, upd_same, dps_append (dpsS sX hvR) f9⟩
    generalize upd H9 p5 (.lst (vsR ++ ws)) = H7 at R5 ⊢
    have a1 := dpS sX a1
    have a2 := dpS sX a2
    have a3 := dpS sX a3
    have a4 := dpS sX a4
    have a5 := dpS sX a5
    have e6 := sX _ _ e6
    have d6 := dpsS sX d6
    have c6 : Dp K U7 (.ref q3) _ := .lst (sqlO e6) d6
    refine go_asg (σ := [some v1, some v2, some v3, some v4, some v5, some (.ref p5), some (.ref q3), none]) ?_
    refine rows_cat9 R5 rfl (es := kG6.map kp) (by walk_at "dv") (by decide +kernel) fun U8 H8 p6 R6 s6 => ?_
    have a1 := dpS s6 a1
    have a2 := dpS s6 a2
    have a3 := dpS s6 a3
    have a4 := dpS s6 a4
    have a5 := dpS s6 a5
    have e6 := s6 _ _ e6
    have d6 := dpsS s6 d6
    have c6 : Dp K U8 (.ref q3) _ := .lst (sqlO e6) d6
    refine go_asg (σ := [some v1, some v2, some v3, some v4, some v5, some (.ref p6), some (.ref q3), none]) ?_
    refine rows_cat9 R6 rfl (es := kG7.map kp) (by walk_at "dv") (by decide +kernel) fun U9 H9 p7 R7 s7 => ?_
    have a1 := dpS s7 a1
    have a2 := dpS s7 a2
    have a3 := dpS s7 a3
    have a4 := dpS s7 a4
    have a5 := dpS s7 a5
    have e6 := s7 _ _ e6
    have d6 := dpsS s7 d6
    have c6 : Dp K U9 (.ref q3) _ := .lst (sqlO e6) d6
    refine go_asg (σ := [some v1, some v2, some v3, some v4, some v5, some (.ref p7), some (.ref q3), none]) ?_
    refine rows_cat9 R7 rfl (es := kG8.map kp) (by walk_at "dv") (by decide +kernel) fun U10 H10 p8 R8 s8 => ?_
    have a1 := dpS s8 a1
    have a2 := dpS s8 a2
    have a3 := dpS s8 a3
    have a4 := dpS s8 a4
    have a5 := dpS s8 a5
    have e6 := s8 _ _ e6
    have d6 := dpsS s8 d6
    have c6 : Dp K U10 (.ref q3) _ := .lst (sqlO e6) d6
    refine go_asg (σ := [some v1, some v2, some v3, some v4, some v5, some (.ref p8), some (.ref q3), none]) ?_
    refine rows_cat9 R8 rfl (es := kG9.map kp) (by walk_at "dv") (by decide +kernel) fun U11 H11 p9 R9 s9 => ?_
    have a1 := dpS s9 a1
    have a2 := dpS s9 a2
    have a3 := dpS s9 a3
    have a4 := dpS s9 a4
    have a5 := dpS s9 a5
    have e6 := s9 _ _ e6
    have d6 := dpsS s9 d6
    have c6 : Dp K U11 (.ref q3) _ := .lst (sqlO e6) d6
    refine go_asg (σ := [some v1, some v2, some v3, some v4, some v5, some (.ref p9), some (.ref q3), none]) ?_
    refine rows_cat9 R9 rfl (es := kG10.map kp) (by walk_at "dv") (by decide +kernel) fun U12 H12 p10 R10 s10 => ?_
    have a1 := dpS s10 a1
    have a2 := dpS s10 a2
    have a3 := dpS s10 a3
    have a4 := dpS s10 a4
    have a5 := dpS s10 a5
    have e6 := s10 _ _ e6
    have d6 := dpsS s10 d6
    have c6 : Dp K U12 (.ref q3) _ := .lst (sqlO e6) d6
    refine go_asg (σ := [some v1, some v2, some v3, some v4, some v5, some (.ref p10), some (.ref q3), none]) ?_
    refine lst_new9 (K := K) R10.g.s (es := kS11.map Row.data) (by walk_at "dv") (by decide +kernel) fun U13 H13 q11 w11 g11 e6 d6 => ?_
    have a1 := dpS g11.v a1
    have a2 := dpS g11.v a2
    have a3 := dpS g11.v a3
    have a4 := dpS g11.v a4
    have a5 := dpS g11.v a5
    have R11 := R10.gr g11
    have c6 : Dp K U13 (.ref q11) (dat kS11) := .lst (sqlO e6) d6
    refine go_drop (σ := [some v1, some v2, some v3, some v4, some v5, some (.ref p10), some (.ref q11), none]) ?_
    refine rows_app9 R11 rfl (d := kp (kG12.head (by decide +kernel))) (by walk_at "dv") (by decide +kernel) fun U14 H14 R12 s12 => ?_
    obtain ⟨p12, ep⟩ : ∃ q, q = p10 := ⟨_, rfl⟩
    rw [← ep] at R12
    subst ep
    have a1 := dpS s12 a1
    have a2 := dpS s12 a2
    have a3 := dpS s12 a3
    have a4 := dpS s12 a4
    have a5 := dpS s12 a5
    have e6 := s12 _ _ e6
    have d6 := dpsS s12 d6
    have c6 : Dp K U14 (.ref q11) _ := .lst (sqlO e6) d6
    refine go_asg (σ := [some v1, some v2, some v3, some v4, some v5, some (.ref p12), some (.ref q11), none]) ?_
    refine lst_new9 (K := K) R12.g.s (es := kS13.map Row.data) (by walk_at "dv") (by decide +kernel) fun U15 H15 q13 w13 g13 e6 d6 => ?_
    have a1 := dpS g13.v a1
    have a2 := dpS g13.v a2
    have a3 := dpS g13.v a3
    have a4 := dpS g13.v a4
    have a5 := dpS g13.v a5
    have R13 := R12.gr g13
    have c6 : Dp K U15 (.ref q13) (dat kS13) := .lst (sqlO e6) d6
    refine go_drop (σ := [some v1, some v2, some v3, some v4, some v5, some (.ref p12), some (.ref q13), none]) ?_
    refine rows_app9 R13 rfl (d := kp (kG14.head (by decide +kernel))) (by walk_at "dv") (by decide +kernel) fun U16 H16 R14 s14 => ?_
    obtain ⟨p14, ep⟩ : ∃ q, q = p12 := ⟨_, rfl⟩
    rw [← ep] at R14
    subst ep
    have a1 := dpS s14 a1
    have a2 := dpS s14 a2
    have a3 := dpS s14 a3
    have a4 := dpS s14 a4
    have a5 := dpS s14 a5
    have e6 := s14 _ _ e6
    have d6 := dpsS s14 d6
    have c6 : Dp K U16 (.ref q13) _ := .lst (sqlO e6) d6
    refine go_asg (σ := [some v1, some v2, some v3, some v4, some v5, some (.ref p14), some (.ref q13), none]) ?_
    refine rows_cat9 R14 rfl (es := kG15.map kp) (by walk_at "dv") (by decide +kernel) fun U17 H17 p15 R15 s15 => ?_
    have a1 := dpS s15 a1
    have a2 := dpS s15 a2
    have a3 := dpS s15 a3
    have a4 := dpS s15 a4
    have a5 := dpS s15 a5
    have e6 := s15 _ _ e6
    have d6 := dpsS s15 d6
    have c6 : Dp K U17 (.ref q13) _ := .lst (sqlO e6) d6
    refine go_asg (σ := [some v1, some v2, some v3, some v4, some v5, some (.ref p15), some (.ref q13), none]) ?_
    refine lst_new9 (K := K) R15.g.s (es := kS16.map Row.data) (by walk_at "dv") (by decide +kernel) fun U18 H18 q16 w16 g16 e6 d6 => ?_
    have a1 := dpS g16.v a1
    have a2 := dpS g16.v a2
    have a3 := dpS g16.v a3
    have a4 := dpS g16.v a4
    have a5 := dpS g16.v a5
    have R16 := R15.gr g16
    have c6 : Dp K U18 (.ref q16) (dat kS16) := .lst (sqlO e6) d6
    refine go_ret (σ := [some v1, some v2, some v3, some v4, some v5, some (.ref p15), some (.ref q16), none]) ?_
    refine rows_cat9 R16 rfl (es := kG17.map kp) (by walk_at "dv") (by decide +kernel) fun U19 H19 p17 R17 s17 => ?_
    obtain ⟨vs, hp, hv⟩ := R17.h
    exact k p17 vs U19 H19 R17.g hp hv
end
end Lw

set_option maxHeartbeats 0
namespace Lw
open PySem PySem.Spec PyProof.Rows L2 VW TL
local macro_rules | `(tactic| walk_at "rdc") => `(tactic| first | assumption | rfl | decide | omega | exact Or.inr ⟨by decide, by decide⟩ | exact ⟨by decide, by decide⟩ | exact ⟨by decide, by decide, by decide⟩ | (show (0 : Int) < _; omega) | (show (0 : Int) < _ ∧ _ < (1073741824 : Int); omega) | (show (-(2 ^ 64) < _ ∧ _ < 2 ^ 64) ∨ (-(2 ^ 64) < _ ∧ _ < 2 ^ 64); omega) | (show (-(2 ^ 64) < _ ∧ _ < 2 ^ 64) ∨ (-(2 ^ 64) < _ ∧ _ < 2 ^ 64); right; split <;> decide) | exact Nat.le_of_ble_eq_true rfl)
local macro_rules | `(tactic| walk_at "rd1") => `(tactic| first | refine ⟨_, rfl, ?_⟩ | refine And.intro (by walk_at "rdc") ?_ | refine ⟨_, _, rfl, rfl, ?_⟩ | refine Or.inl ⟨_, rfl, ?_⟩ | refine Or.inr ⟨_, rfl, ?_⟩ | refine ⟨_, _, _, _, rfl, rfl, sqlO (by first | assumption | exact upd_same), rfl, ?_⟩ | refine ⟨_, _, _, _, rfl, rfl, (by first | assumption | exact upd_same), rfl, ?_⟩)
local macro_rules | `(tactic| walk_at "rd") => `(tactic| repeat (walk_at "rd1"))

/-- what is asked of written rows and of those that are simplified -/
def good2 (x : List Row × List Row) : Bool :=
  decide (simpR x.1 = some x.2) && (okRowsB x.1 0 && (okRowsB x.2 0 && (decide (0 < x.1.length) && (decide (x.1.length ≤ 200) && (PyData.eqv (dat x.2) (dat x.1) == PyData.eqv (dat x.1) (dat x.2))))))
theorem known_good : knownR.all good2 = true := by decide +kernel
theorem good2_at {x : List Row × List Row} (h : good2 x = true) : simpR x.1 = some x.2 ∧ OkRows x.1 ∧ OkRows x.2 ∧ 0 < x.1.length ∧ x.1.length ≤ 200 ∧ PyData.eqv (dat x.2) (dat x.1) = PyData.eqv (dat x.1) (dat x.2) := by
  unfold good2 at h
  simp only [Bool.and_eq_true, decide_eq_true_eq, beq_iff_eq] at h
  obtain ⟨h1, h2, h3, h4, h5, h6⟩ := h
  exact ⟨h1, fun i r e => by have := okRowsB_ok h2 i r e; rw [Nat.zero_add] at this; exact this, fun i r e => by have := okRowsB_ok h3 i r e; rw [Nat.zero_add] at this; exact this, h4, h5, h6⟩
def chR (r0 : Row) (i : Int) : Row := match r0 with | .group _ => .group i | .nest n _ => .nest n i | _ => .align i
def chD (r0 : Row) : List Row := [.line "", .align 0] ++ (List.range 198).map fun j : Nat => chR r0 ((j : Int) + 1)
def chW (r0 : Row) : List Row := [.line "", .align 0] ++ (if isGr r0 then [.group 1] else [])
def deepD : List Row := [.line ""] ++ (List.range 199).map fun j : Nat => Row.nest 5 (j : Int)
theorem ch_group : good2 (chD (.group 0), chW (.group 0)) = true := by decide +kernel
theorem ch_nest : good2 (chD (.nest 0 0), chW (.nest 0 0)) = true := by decide +kernel
theorem ch_align : good2 (chD (.align 0), chW (.align 0)) = true := by decide +kernel
theorem deep_good : good2 (deepD, deepD) = true := by decide +kernel
section
variable {P : Program} {w : World} {K : PySem.W.Frag} {mg : Str → Option Value} {base : Heap} {W : Wd}
theorem RowNew.rin {U Hn H : Hp} {v : V} {r : Row} (h : RowNew K U Hn H v r) : RowIn K U H v r := by
  cases r with
  | cat ps =>
    obtain ⟨q, l, rfl, h1, h2, h3, h4⟩ := h
    exact ⟨q, l, rfl, sqtO h1, sqlO h4⟩
  | _ => exact h
theorem RowsNew.rin {U Hn H : Hp} {vs : List V} {rs : List Row} (h : RowsNew K U Hn H vs rs) : RowsIn K U H vs rs := ⟨h.1, fun i v r e1 e2 => (h.2 i v r e1 e2).rin⟩
theorem Src.gr {U H U' H' : Hp} {s : Addr} (S : Src U H s) (g : Gr S0 U H U' H') : Src U' H' s := by
  obtain ⟨a, b, c, e⟩ := S.h
  exact ⟨g.s, g.out (some_ne e) S.o, a, b, c, g.same _ _ e⟩
/-- row[:-1] + (at + 1,) -/
theorem chain_turn {σ : L2.St} {U H : Hp} {Q : VK} {v : V} {r0 : Row} {i : Int} (h4 : σ[4]? = some (some v)) (h6 : σ[6]? = some (some (.int i))) (hr : r0 = .group 0 ∨ r0 = .nest 0 0 ∨ r0 = .align 0) (hd : Dp K U v r0.data) (hU : Same U H)
    (k : ∀ (y : V) (U' H' : Hp), Gr S0 U H U' H' → Dp K U' y (chR r0 (i + 1)).data → Q y H') :
    tOp (rCatT K) (tSl (rSlT K) (tVar 4) tNoPart (tPart (tUn (rU fun i => V.int (-i)) (tC (V.int 1))))) (tTup (tCons (tOp (rI0 fun i j => V.int (i + j)) (tVar 6) (tC (V.int 1))) tNil)) σ H Q := by
  rcases hr with rfl | rfl | rfl
  · cases hd with | tup ht hs =>
    cases hs with | cons e1 hs =>
    cases e1
    cases hs with | cons e2 hs =>
    cases e2
    cases hs
    refine ⟨_, h4, 1, rfl, _, rfl, _, _, rfl, sqtS hU ht, (show ¬ (HT.sIx 2 0 none = 0 ∧ HT.sIx 2 2 (some (-1)) = 2) by decide), fun t1 ht1 => ?_⟩
    refine ⟨_, h6, _, _, rfl, rfl, Nat.le_of_ble_eq_true rfl, fun t2 ht2 => ?_⟩
    have n1 : t1 ≠ t2 := ne_of_none upd_same ht2
    refine ⟨t1, t2, _, _, rfl, rfl, sqtO (by rw [upd_ne n1]; exact upd_same), sqtO upd_same, (show ([.str "group"] : List V) ≠ [] from List.cons_ne_nil _ _), Nat.le_of_ble_eq_true rfl, (fun e => nomatch e), fun _ t3 ht3 => ?_⟩
    exact k (.ref t3) _ _ ((((Gr.refl hU).newH ht1).newH ht2).new ht3) (dp_tup upd_same (.cons (.str _) (.cons (.int _) .nil)))
  · cases hd with | tup ht hs =>
    cases hs with | cons e1 hs =>
    cases e1
    cases hs with | cons e2 hs =>
    cases e2
    cases hs with | cons e3 hs =>
    cases e3
    cases hs
    refine ⟨_, h4, 1, rfl, _, rfl, _, _, rfl, sqtS hU ht, (show ¬ (HT.sIx 3 0 none = 0 ∧ HT.sIx 3 3 (some (-1)) = 3) by decide), fun t1 ht1 => ?_⟩
    refine ⟨_, h6, _, _, rfl, rfl, Nat.le_of_ble_eq_true rfl, fun t2 ht2 => ?_⟩
    have n1 : t1 ≠ t2 := ne_of_none upd_same ht2
    refine ⟨t1, t2, _, _, rfl, rfl, sqtO (by rw [upd_ne n1]; exact upd_same), sqtO upd_same, (show ([.str "nest", .int 0] : List V) ≠ [] from List.cons_ne_nil _ _), Nat.le_of_ble_eq_true rfl, (fun e => nomatch e), fun _ t3 ht3 => ?_⟩
    exact k (.ref t3) _ _ ((((Gr.refl hU).newH ht1).newH ht2).new ht3) (dp_tup upd_same (.cons (.str _) (.cons (.int _) (.cons (.int _) .nil))))
  · cases hd with | tup ht hs =>
    cases hs with | cons e1 hs =>
    cases e1
    cases hs with | cons e2 hs =>
    cases e2
    cases hs
    refine ⟨_, h4, 1, rfl, _, rfl, _, _, rfl, sqtS hU ht, (show ¬ (HT.sIx 2 0 none = 0 ∧ HT.sIx 2 2 (some (-1)) = 2) by decide), fun t1 ht1 => ?_⟩
    refine ⟨_, h6, _, _, rfl, rfl, Nat.le_of_ble_eq_true rfl, fun t2 ht2 => ?_⟩
    have n1 : t1 ≠ t2 := ne_of_none upd_same ht2
    refine ⟨t1, t2, _, _, rfl, rfl, sqtO (by rw [upd_ne n1]; exact upd_same), sqtO upd_same, (show ([.str "align"] : List V) ≠ [] from List.cons_ne_nil _ _), Nat.le_of_ble_eq_true rfl, (fun e => nomatch e), fun _ t3 ht3 => ?_⟩
    exact k (.ref t3) _ _ ((((Gr.refl hU).newH ht1).newH ht2).new ht3) (dp_tup upd_same (.cons (.str _) (.cons (.int _) .nil)))
/-- [e for at in range(n)], where e makes a row -/
theorem rows_range {σ : L2.St} {U H : Hp} {Q : VK} {te : TE} {vs : List Nat} {n : Nat} {f : Nat → Row} (hn : n ≤ 1000) (hw : ∀ v : V, wipe ((wipe σ vs).set 6 (some v)) vs = wipe σ vs) (h6 : 6 < (wipe σ vs).length) (hU : Same U H)
    (hs : ∀ (i : Nat) (U' H' : Hp) (R : VK), Gr S0 U H U' H' → (∀ (y : V) (U2 H2 : Hp), Gr S0 U' H' U2 H2 → Dp K U2 y (f i).data → R y H2) → te ((wipe σ vs).set 6 (some (.int (i : Nat)))) H' R)
    (k : ∀ (D : Addr) (ws : List V) (U' H' : Hp), Gr S0 U H U' H' → H' D = some (.lst ws) → DpAll K U' ws ((List.range n).map fun i => (f i).data) → Q (.ref D) H') : tLc (iRng1 (tCons (tC (V.int (n : Nat))) tNil)) (gName 6) tYes te vs σ H Q := by
  refine ⟨_, rfl, by omega, by omega, fun D hD => ?_⟩
  rw [show ((n : Nat) : Int).toNat = n from rfl]
  refine lc_range (lo := 0) (n := n) (fun i H' => ∃ (U' : Hp) (ws : List V), Gr S0 U H U' H' ∧ U' D = none ∧ H' D = some (.lst ws) ∧ DpAll K U' ws ((List.range i).map fun i => (f i).data)) ⟨U, [], (Gr.refl hU).newH hD, hU.free hD, upd_same, .nil⟩ ?_ ?_
  · rintro i H2 hi ⟨U2, ws, g2, u2, e2, d2⟩
    refine ⟨hw _, ?_⟩
    rw [show ((0 : Int) + (i : Nat)) = ((i : Nat) : Int) by omega]
    refine yes9 (hs i U2 H2 _ g2 fun y U3 H3 g3 hy => ?_)
    refine ⟨ws, g3.same _ _ e2, ?_, U3, ws ++ [y], (g2.trans g3).mut (.inr hD) (g3.out (some_ne e2) u2), g3.out (some_ne e2) u2, upd_same, ?_⟩
    · rw [dps_length d2, List.length_map, List.length_range]
      exact small1000 (by omega)
    · rw [List.range_succ, List.map_append]
      exact dps_append (dpsS g3.v d2) (.cons hy .nil)
  · rintro H2 ⟨U2, ws, g2, u2, e2, d2⟩
    exact k D ws U2 H2 g2 e2 d2
end
end Lw

set_option maxHeartbeats 0
namespace Lw
open PySem PySem.Spec PyProof.Rows L2 VW TL
local macro_rules | `(tactic| walk_at "rdc") => `(tactic| first | assumption | rfl | decide | omega | exact Or.inr ⟨by decide, by decide⟩ | exact ⟨by decide, by decide⟩ | exact ⟨by decide, by decide, by decide⟩ | (show (0 : Int) < _; omega) | (show (0 : Int) < _ ∧ _ < (1073741824 : Int); omega) | (show (-(2 ^ 64) < _ ∧ _ < 2 ^ 64) ∨ (-(2 ^ 64) < _ ∧ _ < 2 ^ 64); omega) | (show (-(2 ^ 64) < _ ∧ _ < 2 ^ 64) ∨ (-(2 ^ 64) < _ ∧ _ < 2 ^ 64); right; split <;> decide) | exact Nat.le_of_ble_eq_true rfl)
local macro_rules | `(tactic| walk_at "rd1") => `(tactic| first | refine ⟨_, rfl, ?_⟩ | refine And.intro (by walk_at "rdc") ?_ | refine ⟨_, _, rfl, rfl, ?_⟩ | refine Or.inl ⟨_, rfl, ?_⟩ | refine Or.inr ⟨_, rfl, ?_⟩ | refine ⟨_, _, _, _, rfl, rfl, sqlO (by first | assumption | exact upd_same), rfl, ?_⟩ | refine ⟨_, _, _, _, rfl, rfl, (by first | assumption | exact upd_same), rfl, ?_⟩)
local macro_rules | `(tactic| walk_at "rd") => `(tactic| repeat (walk_at "rd1"))

local macro_rules | `(tactic| walk_at "dv1") => `(tactic| first | exact mk9_nil | refine mk9_cons ?_ ?_ | exact fr9_int | exact fr9_str | exact fr9_var rfl (by assumption) | refine fr9_tup ?_ (Nat.le_of_ble_eq_true rfl) | refine fr9_lst ?_ (Nat.le_of_ble_eq_true rfl) | refine fr9_cat rfl (by assumption) (by assumption) ?_ (Nat.le_of_ble_eq_true rfl) rfl)
local macro_rules | `(tactic| walk_at "dv") => `(tactic| repeat' (walk_at "dv1"))
theorem gn9 {i : Nat} {x : V} {σ : L2.St} {H : Hp} {Q : L2.St → Hp → Prop} (h : Q (σ.set i (some x)) H) : gName i x σ H Q := h
theorem nx9 {D : Ends} {σ : L2.St} {H : Hp} (h : D.nx σ H) : tNext D σ H := h
theorem cat9 {σ : L2.St} {H : Hp} {Q : VK} {t u : TE} (h : t σ H fun x H1 => u σ H1 fun y H2 => rCat x y H2 Q) : tOp rCat t u σ H Q := h
theorem rep9 {σ : L2.St} {H : Hp} {Q : VK} {t u : TE} (h : t σ H fun x H1 => u σ H1 fun y H2 => rRep x y H2 Q) : tOp rRep t u σ H Q := h
section
variable {P : Program} {w : World} {K : PySem.W.Frag} {mg : Str → Option Value} {base : Heap} {W : Wd}
def sp_law (K : PySem.W.Frag) : Sp := fun vs H Q _ => ∃ (a : Addr) (ns : List Int), vs = [.ref a] ∧ SqL K H a (ns.map V.int) ∧ ns.length ≤ 63 ∧ ∀ H', Q (.bl true) H'
theorem sc_law : FnScope ["_law_script", "_law_rows", "_law_wanted", "_law_source", "_law_row", "_law_deep", "_law_at"] ["_law_script"] (defScope s_law) := ⟨rfl, rfl, rfl, by decide +kernel, rfl, by decide +kernel, by decide +kernel⟩
theorem fn_law (T : Txt w K mg W) {f : Addr} {fd : FuncData} (F : Fun K "law" "law" s_law f fd) : FnOkG P w K mg base 210 f fd ["_law_script"] (sp_law K) := by
  refine F.okG sc_law (fun vs H Q E h => ?_) (fun cdv A outer s H vs Q E hgd hr h => ?_)
  · obtain ⟨a, ns, rfl, _⟩ := h
    rfl
  · obtain ⟨a, ns, rfl, ha, h63, k⟩ := h
    refine ⟨_, (pss_cons (ps_for PassesOwn.never rfl (pi_list (pe_callD0 (d__law_known T) (hr.mono (by decide)))) (pg_tup rfl (pgs_cons (pg_name (i := 1) sc_law.nd rfl (Or.inl rfl)) (pgs_cons (pg_name (i := 2) sc_law.nd rfl (Or.inl rfl)) pgs_nil)))
      (pss_one (ps_if (PW.pt (pw_or (pt_cmpR (op_neD hr.units) (pe_methD0 (d_Doc_row_list T) T.cl_Doc (hr.mono (by decide)) (pe_callD (d_simplified T) (hr.mono (by decide)) (pa_cons (mk_Doc T (hr.mono (by decide)) (pa_cons (pv 1) pa_nil)) pa_nil))) (pv 2) (nomark _)) (pw_or1 (pt_cmpR op_ne (pe_callD (d_is_simple T) (hr.mono (by decide)) (pa_cons (mk_Doc T (hr.mono (by decide)) (pa_cons (pv 1) pa_nil)) pa_nil)) (pe_cmpR (op_eqD hr.units) (pv 1) (pv 2) (nomark _)) (nomark _))))) (pss_one (ps_ret pe_bl)) pss_nil)))
      (pss_cons (ps_set (i := 3) sc_law.nd rfl (Or.inl rfl) (pe_callD (d__law_source_of T) (hr.mono (by decide)) (pa_cons (pe_callD (d__law_cell_at T) (hr.mono (by decide)) (pa_cons (pv 0) (pa_cons pe_int pa_nil))) pa_nil)))
      (pss_cons (ps_set (i := 4) sc_law.nd rfl (Or.inr rfl) (pe_callD (d__law_one T) (hr.mono (by decide)) (pa_cons (pv 3) (pa_cons (pe_lst (pa_cons (pe_tup (pa_cons pe_str (pa_cons pe_int pa_nil))) (pa_cons (pe_tup (pa_cons pe_str (pa_cons pe_int (pa_cons pe_int pa_nil)))) (pa_cons (pe_tup (pa_cons pe_str (pa_cons pe_int pa_nil))) pa_nil)))) pa_nil))))
      (pss_cons (ps_set (i := 1) sc_law.nd rfl (Or.inl rfl) (pe_op op_cat (pe_lst (pa_cons (pe_tup (pa_cons pe_str (pa_cons pe_str pa_nil))) (pa_cons (pe_tup (pa_cons pe_str (pa_cons pe_int pa_nil))) pa_nil))) (pe_lc (own := [("_law_at", 6)]) (g := (gName 6)) (tt := tYes) rfl sc_law.nd (pi_range1 (by rfl) T.n_range (pa_cons pe_int pa_nil)) (blkOk_by (own := [("_law_at", 6)]) (N := ["_law_script", "_law_rows", "_law_wanted", "_law_source", "_law_row", "_law_deep", "_law_at"]) (sc := defScope s_law) (by decide +kernel)) (fun _ _ _ _ _ => (pg_name (i := 6) sc_law.nd rfl (Or.inl rfl))) (fun _ _ _ _ _ => pts_nil) (fun _ _ _ _ _ => (pe_op (op_catTK (K := K)) (pe_slice (sl_tupK (K := K)) (pv 4) po_none (po_some (pe_un un_neg pe_int))) (pe_tup (pa_cons (pe_op op_add (pv 6) pe_int) pa_nil)))))))
      (pss_cons (ps_set (i := 2) sc_law.nd rfl (Or.inl rfl) (pe_op op_cat (pe_lst (pa_cons (pe_tup (pa_cons pe_str (pa_cons pe_str pa_nil))) (pa_cons (pe_tup (pa_cons pe_str (pa_cons pe_int pa_nil))) pa_nil))) (pe_op op_rep (pe_lst (pa_cons (pe_tup (pa_cons pe_str (pa_cons pe_int pa_nil))) pa_nil)) (pe_callTy (T := "int") call_int1 (by rfl) T.n_int (by decide +kernel) (pa_cons (pe_cmpR op_eq (pe_ix ix_tup (pv 4) pe_int (fun _ _ => rfl)) pe_str (nomark _)) pa_nil)))))
      (pss_cons (ps_if (pt_cmpR (op_neD hr.units) (pe_methD0 (d_Doc_row_list T) T.cl_Doc (hr.mono (by decide)) (pe_callD (d_simplified T) (hr.mono (by decide)) (pa_cons (mk_Doc T (hr.mono (by decide)) (pa_cons (pv 1) pa_nil)) pa_nil))) (pv 2) (nomark _)) (pss_one (ps_ret pe_bl)) pss_nil)
      (pss_cons (ps_set (i := 5) sc_law.nd rfl (Or.inl rfl) (pe_op op_cat (pe_lst (pa_cons (pe_tup (pa_cons pe_str (pa_cons pe_str pa_nil))) pa_nil)) (pe_lc (own := [("_law_at", 6)]) (g := (gName 6)) (tt := tYes) rfl sc_law.nd (pi_range1 (by rfl) T.n_range (pa_cons pe_int pa_nil)) (blkOk_by (own := [("_law_at", 6)]) (N := ["_law_script", "_law_rows", "_law_wanted", "_law_source", "_law_row", "_law_deep", "_law_at"]) (sc := defScope s_law) (by decide +kernel)) (fun _ _ _ _ _ => (pg_name (i := 6) sc_law.nd rfl (Or.inl rfl))) (fun _ _ _ _ _ => pts_nil) (fun _ _ _ _ _ => (pe_tup (pa_cons pe_str (pa_cons pe_int (pa_cons (pv 6) pa_nil))))))))
      (pss_one (ps_ret (pe_and (pe_cmpR (eq_Doc T (hr.mono (by decide))) (pe_callD (d_simplified T) (hr.mono (by decide)) (pa_cons (mk_Doc T (hr.mono (by decide)) (pa_cons (pv 5) pa_nil)) pa_nil)) (mk_Doc T (hr.mono (by decide)) (pa_cons (pv 5) pa_nil)) (nomark _)) (pe_one (pe_callD (d_is_simple T) (hr.mono (by decide)) (pa_cons (mk_Doc T (hr.mono (by decide)) (pa_cons (pv 5) pa_nil)) pa_nil))))))))))))), ?_⟩
    refine ⟨rfl, H, Same.refl _, fun p vs U1 H1 g1 hp hv => ?_⟩
    refine ⟨p, rfl, ⟨_, sqlO hp⟩, ?_⟩
    refine for_list (xs := vs) (fun i σ H' => ∃ (v1 v2 : Option V) (U' : Hp), σ = [some (.ref a), v1, v2, none, none, none, none] ∧ Gr S0 U1 H1 U' H') ⟨none, none, U1, rfl, Gr.refl g1.s⟩ (fun i σ H' _ ⟨_, _, _, _, g⟩ => sqlO (g.same _ _ hp)) ?_ ?_
    · rintro i y σ H2 hy ⟨v1, v2, U2, rfl, g2⟩
      obtain ⟨d, e1, e2⟩ := dps_get hv hy
      rw [List.getElem?_map] at e1
      obtain ⟨x, hx, rfl⟩ := Option.map_eq_some_iff.mp e1
      obtain ⟨hs, ok1, ok2, n0, n200, hev⟩ := good2_at (List.all_eq_true.mp known_good x (List.mem_of_getElem? hx))
      cases e2 with | tup ht hxs =>
      cases hxs with | cons b1 hxs =>
      cases hxs with | cons b2 hxs =>
      cases hxs
      cases id b1 with | lst hl1 hd1 =>
      rename_i aw vr lr rv
      refine ⟨_, _, rfl, sqtS (g2.v.trans g2.s) ht, rfl, _, _, rfl, _, _, rfl, rfl, ?_⟩
      have d1 := b1
      -- the first question
      refine ⟨_, rfl, fun xd dx hxd hdx hne => made_doc hxd hdx hne g2.s (sqlS (g2.v.trans g2.s) hl1) (.of g2.s (dpsS g2.v hd1)) ok1 n0 n200 fun U3 H3 g3 D3 => ⟨rfl, ?_⟩⟩
      refine ⟨xd, x.1, x.2, U3, rfl, g3.s, D3, n200, hs, fun yd U4 H4 g4 D4 ok4 m0 m200 => ?_⟩
      obtain ⟨dy, ly, wy, hy4, hly4, hdy4⟩ := id D4
      refine ⟨yd, dy, _, rfl, g4.s _ _ hy4, lk_no _ (by decide +kernel) (by decide +kernel) (by decide +kernel), nilA ⟨yd, x.2, U4, rfl, g4.s, D4, m200, fun q ws U5 H5 Hb g5 hq uq hq2 hb hb2 hnew => ?_⟩⟩
      have g25 := ((g2.trans g3).trans g4).trans g5
      refine ⟨_, rfl, dat x.2, dat x.2, dp_lst hq2 (hnew.rin.dp g5.s), dpS (g25.v.trans g25.s) b2, shaped_rows ok2, shaped_rows ok2, _, rfl, ?_⟩
      rw [eqv_rows ok2]
      refine iteF ?_
      -- the second one
      refine ⟨_, rfl, fun xe dxe hxe hdxe hnee => made_doc hxe hdxe hnee g25.s (sqlS (g25.v.trans g25.s) hl1) (.of g25.s (dpsS g25.v hd1)) ok1 n0 n200 fun U6 H6 g6 D6 => ⟨rfl, ?_⟩⟩
      refine ⟨xe, x.1, x.2, U6, rfl, g6.s, D6, ok1, n200, hs, fun U7 H7 g7 => ?_⟩
      have g17 := (g25.trans g6).trans g7
      refine ⟨_, rfl, _, rfl, dat x.1, dat x.2, dpS (g17.v.trans g17.s) b1, dpS (g17.v.trans g17.s) b2, shaped_rows ok1, shaped_rows ok2, ?_⟩
      rw [hev]
      refine ⟨rfl, _, rfl, ?_⟩
      rw [decide_eq_true rfl]
      exact iteF ⟨_, _, _, rfl, g17⟩
    · rintro σ H2 ⟨v1, v2, U2, rfl, g2⟩
      have sm2 : Same H H2 := g1.same.trans g2.same
      refine ⟨_, rfl, a, ns, 0, rfl, sqlS sm2 ha, by decide, fun r => ⟨r, rfl, fun s z1 z2 z3 hs => ?_⟩⟩
      have S3 : Src U2 (upd H2 s (.lst [.int z1, .int z2, .int z3])) s := ⟨g2.s.trans (same_new hs), g2.s.free hs, _, _, _, upd_same⟩
      generalize upd H2 s (.lst [.int z1, .int z2, .int z3]) = H3 at S3 ⊢
      refine ⟨_, rfl, ?_⟩
      refine lst_new9 (K := K) S3.v (es := [(Row.group 0).data, (Row.nest 0 0).data, (Row.align 0).data]) (by walk_at "dv") (by decide +kernel) fun U4 H4 l xs g4 hl4 hd4 => ?_
      have S4 := S3.gr g4
      refine ⟨s, l, U4, xs, rfl, S4, sqlO hl4, by rw [dps_length hd4]; decide +kernel, by rw [dps_length hd4]; decide +kernel, fun x H5 g5 S5 hx => ?_⟩
      obtain ⟨r0, hr0, hx0⟩ : ∃ r0 : Row, (r0 = .group 0 ∨ r0 = .nest 0 0 ∨ r0 = .align 0) ∧ Dp K U4 x r0.data := by
        cases hd4 with | cons h1 hd4 =>
        cases hd4 with | cons h2 hd4 =>
        cases hd4 with | cons h3 hd4 =>
        cases hd4
        simp only [List.mem_cons, List.not_mem_nil, or_false] at hx
        rcases hx with rfl | rfl | rfl
        · exact ⟨_, .inl rfl, h1⟩
        · exact ⟨_, .inr (.inl rfl), h2⟩
        · exact ⟨_, .inr (.inr rfl), h3⟩
      have good : good2 (chD r0, chW r0) = true := by
        rcases hr0 with rfl | rfl | rfl
        · exact ch_group
        · exact ch_nest
        · exact ch_align
      obtain ⟨hsi, ok1, ok2, n0, n200, hev⟩ := good2_at good
      simp only [] at hsi ok1 ok2 n0 n200 hev
      -- the rows
      refine gn9 ?_
      try dsimp only
      refine go_asg (σ := [some (.ref a), v1, v2, some (.ref s), some x, none, none]) ?_
      refine cat9 ?_
      refine lst_new9 (K := K) S5.v (es := [(Row.line "").data, (Row.align 0).data]) (by walk_at "dv") (by decide +kernel) fun U6 H6 q6 w6 g6 hl6 hd6 => ?_
      refine rows_range (n := 198) (f := fun j : Nat => chR r0 ((j : Int) + 1)) (by decide) (fun _ => rfl) (by show 6 < 7; decide) g6.s (fun i U' H' R g hR => chain_turn rfl rfl hr0 (dpS (g6.v.trans g.v) hx0) g.s hR) fun D w7 U7 H7 g7 hl7 hd7 => ?_
      refine ⟨q6, D, w6, w7, rfl, rfl, g7.s _ _ (g7.v _ _ hl6), hl7, by rw [dps_length hd6, dps_length hd7, List.length_map, List.length_range]; exact Nat.le_of_ble_eq_true rfl, fun p8 hp8 => ?_⟩
      have g8 := (g6.trans g7).new (o := .lst (w6 ++ w7)) hp8
      have hd8 : DpAll K U7 (w6 ++ w7) ((chD r0).map Row.data) := by
        have := dps_append (dpsS g7.v hd6) hd7
        rw [show (chD r0).map Row.data = [(Row.line "").data, (Row.align 0).data] ++ (List.range 198).map (fun i : Nat => (chR r0 ((i : Int) + 1)).data) by unfold chD; rw [List.map_append, List.map_map]; rfl]
        exact this
      generalize upd H7 p8 (.lst (w6 ++ w7)) = H8 at g8 ⊢
      -- what is wanted
      refine gn9 ?_
      try dsimp only
      refine go_asg (σ := [some (.ref a), some (.ref p8), v2, some (.ref s), some x, none, none]) ?_
      refine cat9 ?_
      refine lst_new9 (K := K) g8.s (es := [(Row.line "").data, (Row.align 0).data]) (by walk_at "dv") (by decide +kernel) fun U9 H9 q9 w9 g9 hl9 hd9 => ?_
      refine rep9 ?_
      refine lst_new9 (K := K) g9.s (es := [(Row.group 1).data]) (by walk_at "dv") (by decide +kernel) fun U10 H10 q10 w10 g10 hl10 hd10 => ?_
      obtain ⟨ax, xs0, rfl, ht0, hxs0⟩ := row_at hx0
      have gx := (g8.trans g9).trans g10
      have sx : Same U4 H10 := g6.v.trans (g7.v.trans ((same_new (vfree g7.s hp8)).trans (g9.v.trans (g10.v.trans g10.s))))
      refine ⟨_, rfl, _, _, _, _, rfl, rfl, sqtS sx ht0, atI_nat (j := 0) rfl, rfl, nilA (.inr ⟨_, rfl, ?_⟩)⟩
      rw [group_dec]
      have l10 : w10.length = 1 := by rw [dps_length hd10]; rfl
      have l9 : w9.length = 2 := by rw [dps_length hd9]; rfl
      obtain ⟨n, hn, hn1, hfl⟩ : ∃ n : Int, (if isGr r0 = true then (1 : Int) else 0) = n ∧ 0 ≤ n ∧ n ≤ 1 ∧ DpAll K U10 (w9 ++ (List.replicate n.toNat w10).flatten) ((chW r0).map Row.data) := by
        have hd9' := dpsS g10.v hd9
        unfold chW
        cases hg : isGr r0 with
        | true =>
          refine ⟨1, rfl, by decide, by decide, ?_⟩
          have : (List.replicate (1 : Int).toNat w10).flatten = w10 := by
            show (List.replicate 1 w10).flatten = w10
            rw [List.replicate_one, List.flatten_cons, List.flatten_nil, List.append_nil]
          rw [this]
          exact dps_append hd9' hd10
        | false =>
          refine ⟨0, rfl, by decide, by decide, ?_⟩
          exact dps_append hd9' .nil
      rw [hn]
      have lfl : (List.replicate n.toNat w10).flatten.length ≤ 1 := by
        rw [List.length_flatten, List.map_replicate, l10]
        have := hfl.1
        have h1 : n.toNat ≤ 1 := by omega
        have h2 : ∀ m : Nat, m ≤ 1 → (List.replicate m 1).sum ≤ 1 := by decide
        exact h2 _ h1
      refine ⟨q10, n, w10, rfl, rfl, g10.s _ _ hl10, by omega, by omega, by rw [l10]; exact Nat.le_trans (show 1 * n.toNat ≤ 1 by omega) (by decide), fun p11 hp11 => ?_⟩
      have n911 : q9 ≠ p11 := ne_of_none (g10.s _ _ (g10.v _ _ hl9)) hp11
      refine ⟨q9, p11, w9, _, rfl, rfl, by rw [upd_ne n911]; exact g10.s _ _ (g10.v _ _ hl9), upd_same, by rw [l9]; exact Nat.le_trans (Nat.add_le_add_left lfl 2) (by decide), fun p12 hp12 => ?_⟩
      have g12 := (g10.newH (o := .lst (List.replicate n.toNat w10).flatten) hp11).new (o := .lst (w9 ++ (List.replicate n.toNat w10).flatten)) hp12
      have hd12 : DpAll K (upd U10 p12 (.lst (w9 ++ (List.replicate n.toNat w10).flatten))) (w9 ++ (List.replicate n.toNat w10).flatten) ((chW r0).map Row.data) := dpsS (same_new (vfree (g10.newH (o := .lst (List.replicate n.toNat w10).flatten) hp11).s hp12)) hfl.2
      have e12 : upd U10 p12 (.lst (w9 ++ (List.replicate n.toNat w10).flatten)) p12 = some (.lst (w9 ++ (List.replicate n.toNat w10).flatten)) := upd_same
      have g912 := g9.trans g12
      have e8 : upd U7 p8 (.lst (w6 ++ w7)) p8 = some (.lst (w6 ++ w7)) := upd_same
      have s8 : Same U7 (upd U7 p8 (.lst (w6 ++ w7))) := same_new (vfree g7.s hp8)
      generalize upd U7 p8 (.lst (w6 ++ w7)) = U8 at g912 e8 s8
      generalize upd U10 p12 (.lst (w9 ++ (List.replicate n.toNat w10).flatten)) = U12 at hd12 e12 g912
      generalize upd (upd H10 p11 _) p12 (.lst (w9 ++ (List.replicate n.toNat w10).flatten)) = H12 at g912 ⊢
      refine ⟨_, rfl, fun xd dx hxd hdx hne => made_doc hxd hdx hne g912.s (sqlO (g912.s _ _ (g912.v _ _ e8))) (.of g912.s (dpsS (s8.trans g912.v) hd8)) ok1 n0 n200 fun U13 H13 g13 D13 => ⟨rfl, ?_⟩⟩
      refine ⟨xd, chD r0, chW r0, U13, rfl, g13.s, D13, n200, hsi, fun yd U14 H14 g14 D14 ok14 m0 m200 => ?_⟩
      obtain ⟨dy, ly, wy, hy14, hly, hdy⟩ := id D14
      refine ⟨yd, dy, _, rfl, g14.s _ _ hy14, lk_no _ (by decide +kernel) (by decide +kernel) (by decide +kernel), nilA ⟨yd, chW r0, U14, rfl, g14.s, D14, m200, fun q ws U15 H15 Hb g15 hq uq hq2 hb hb2 hnew => ?_⟩⟩
      have g125 := (g13.trans g14).trans g15
      refine ⟨_, rfl, dat (chW r0), dat (chW r0), dp_lst hq2 (hnew.rin.dp g15.s), dp_lst (g125.s _ _ (g125.v _ _ e12)) (dpsS (g125.v.trans g125.s) hd12), shaped_rows ok2, shaped_rows ok2, _, rfl, ?_⟩
      rw [eqv_rows ok2]
      refine iteF ?_
      -- the deep one
      obtain ⟨hsd, okd, _, _, _, _⟩ := good2_at deep_good
      simp only [] at hsd okd
      have nd0 : 0 < deepD.length := by decide +kernel
      have nd200 : deepD.length ≤ 200 := by decide +kernel
      refine nx9 ?_
      try dsimp only
      refine go_asg (σ := [some (.ref a), some (.ref p8), some (.ref p12), some (.ref s), some (.ref ax), none, none]) ?_
      refine cat9 ?_
      refine lst_new9 (K := K) g125.s (es := [(Row.line "").data]) (by walk_at "dv") (by decide +kernel) fun U16 H16 q16 w16 g16 hl16 hd16 => ?_
      refine rows_range (K := K) (n := 199) (f := fun j : Nat => Row.nest 5 (j : Int)) (by decide) (fun _ => rfl) (by show 6 < 7; decide) g16.s (fun i U' H' R g hR => ⟨_, rfl, Nat.le_of_ble_eq_true rfl, fun t ht => hR (.ref t) _ _ ((Gr.refl g.s).new ht) (dp_tup upd_same (.cons (.str _) (.cons (.int _) (.cons (.int _) .nil))))⟩) fun D17 w17 U17 H17 g17 hl17 hd17 => ?_
      refine ⟨q16, D17, w16, w17, rfl, rfl, g17.s _ _ (g17.v _ _ hl16), hl17, by rw [dps_length hd16, dps_length hd17, List.length_map, List.length_range]; exact Nat.le_of_ble_eq_true rfl, fun p18 hp18 => ?_⟩
      have g18 := (Gr.refl (S := S0) g17.s).new (o := .lst (w16 ++ w17)) hp18
      have hd18 : DpAll K U17 (w16 ++ w17) (deepD.map Row.data) := by
        have := dps_append (dpsS g17.v hd16) hd17
        rw [show deepD.map Row.data = [(Row.line "").data] ++ (List.range 199).map (fun i : Nat => (Row.nest 5 (i : Int)).data) by unfold deepD; rw [List.map_append, List.map_map]; rfl]
        exact this
      have e18 : upd U17 p18 (.lst (w16 ++ w17)) p18 = some (.lst (w16 ++ w17)) := upd_same
      have hd18 := dpsS (same_new (o := .lst (w16 ++ w17)) (vfree g17.s hp18)) hd18
      generalize upd U17 p18 (.lst (w16 ++ w17)) = U18 at g18 e18 hd18
      generalize upd H17 p18 (.lst (w16 ++ w17)) = H18 at g18 ⊢
      refine ⟨_, rfl, fun xd dx hxd hdx hne => made_doc hxd hdx hne g18.s (sqlO (g18.s _ _ e18)) (.of g18.s hd18) okd nd0 nd200 fun U19 H19 g19 D19 => ⟨rfl, ?_⟩⟩
      refine ⟨xd, deepD, deepD, U19, rfl, g19.s, D19, nd200, hsd, fun ye U20 H20 g20 D20 ok20 m0 m200 => ?_⟩
      have g1820 := g19.trans g20
      refine ⟨_, rfl, fun xf dxf hxf hdxf hnef => made_doc hxf hdxf hnef g1820.s (sqlO (g1820.s _ _ (g1820.v _ _ e18))) (.of g1820.s (dpsS g1820.v hd18)) okd nd0 nd200 fun U21 H21 g21 D21 => ⟨rfl, ?_⟩⟩
      have D20' := D20.mono g21.v
      obtain ⟨dye, lye, wye, hye, hlye, hdye⟩ := id D20'
      obtain ⟨dxf', lxf, wxf, hxf', _, _⟩ := id D21
      refine ⟨ye, dye, _, .ref W.c_Doc, rfl, g21.s _ _ hye, .ins (g21.s _ _ hxf'), T.i_Doc.nSelf, ?_⟩
      refine ⟨ye, _, deepD, U21, rfl, g21.s, D20', okd, .inl ⟨xf, deepD, rfl, D21, okd, _, rfl, ?_⟩⟩
      rw [eqv_rows okd]
      have g1821 := g1820.trans g21
      refine ⟨_, rfl, iteT ⟨_, rfl, fun xg dxg hxg hdxg hneg => made_doc hxg hdxg hneg g1821.s (sqlO (g1821.s _ _ (g1821.v _ _ e18))) (.of g1821.s (dpsS g1821.v hd18)) okd nd0 nd200 fun U22 H22 g22 D22 => ⟨rfl, ?_⟩⟩⟩
      refine ⟨xg, deepD, deepD, U22, rfl, g22.s, D22, okd, nd200, hsd, fun U23 H23 g23 => ?_⟩
      rw [eqv_rows okd]
      exact k H23
end
end Lw

set_option maxHeartbeats 0
namespace Lw
open PySem PySem.Spec PyProof.Rows L2 VW TL
theorem all_mk {w : World} {K : PySem.W.Frag} {h : Heap} {mg : Str → Option Value} (X : K.In h) (G : h.Ns mainGlobals mg)
    {C_LayoutError : Addr} {C_InvalidDoc : Addr} {C_InvalidBound : Addr} {C_Doc : Addr} {C_Pool : Addr} {f_Doc___init__ : Addr} {oc_Doc___init__ kV_Doc___init__ dc_Doc___init__ pm_Doc___init__ cd_Doc___init__ ct_Doc___init__ : Value} {od_Doc___init__ an_Doc___init__ : Option Addr} {sl_Doc___init__ : Array (Option Value)} {f_Doc___eq__ : Addr} {oc_Doc___eq__ kV_Doc___eq__ dc_Doc___eq__ pm_Doc___eq__ cd_Doc___eq__ ct_Doc___eq__ : Value} {od_Doc___eq__ an_Doc___eq__ : Option Addr} {sl_Doc___eq__ : Array (Option Value)} {f_Doc_row_list : Addr} {oc_Doc_row_list kV_Doc_row_list dc_Doc_row_list pm_Doc_row_list cd_Doc_row_list ct_Doc_row_list : Value} {od_Doc_row_list an_Doc_row_list : Option Addr} {sl_Doc_row_list : Array (Option Value)} {f_Pool___init__ : Addr} {oc_Pool___init__ kV_Pool___init__ dc_Pool___init__ pm_Pool___init__ cd_Pool___init__ ct_Pool___init__ : Value} {od_Pool___init__ an_Pool___init__ : Option Addr} {sl_Pool___init__ : Array (Option Value)} {f_Pool_add : Addr} {oc_Pool_add kV_Pool_add dc_Pool_add pm_Pool_add cd_Pool_add ct_Pool_add : Value} {od_Pool_add an_Pool_add : Option Addr} {sl_Pool_add : Array (Option Value)} {f_Pool_rows_below : Addr} {oc_Pool_rows_below kV_Pool_rows_below dc_Pool_rows_below pm_Pool_rows_below cd_Pool_rows_below ct_Pool_rows_below : Value} {od_Pool_rows_below an_Pool_rows_below : Option Addr} {sl_Pool_rows_below : Array (Option Value)} {f_Pool__add_new : Addr} {oc_Pool__add_new kV_Pool__add_new dc_Pool__add_new pm_Pool__add_new cd_Pool__add_new ct_Pool__add_new : Value} {od_Pool__add_new an_Pool__add_new : Option Addr} {sl_Pool__add_new : Array (Option Value)} {f__shown : Addr} {oc__shown kV__shown dc__shown pm__shown cd__shown ct__shown : Value} {od__shown an__shown : Option Addr} {sl__shown : Array (Option Value)} {f_is_integer : Addr} {oc_is_integer kV_is_integer dc_is_integer pm_is_integer cd_is_integer ct_is_integer : Value} {od_is_integer an_is_integer : Option Addr} {sl_is_integer : Array (Option Value)} {f_is_between : Addr} {oc_is_between kV_is_between dc_is_between pm_is_between cd_is_between ct_is_between : Value} {od_is_between an_is_between : Option Addr} {sl_is_between : Array (Option Value)} {f_rows_in : Addr} {oc_rows_in kV_rows_in dc_rows_in pm_rows_in cd_rows_in ct_rows_in : Value} {od_rows_in an_rows_in : Option Addr} {sl_rows_in : Array (Option Value)} {f_copied_row : Addr} {oc_copied_row kV_copied_row dc_copied_row pm_copied_row cd_copied_row ct_copied_row : Value} {od_copied_row an_copied_row : Option Addr} {sl_copied_row : Array (Option Value)} {f_parts_of : Addr} {oc_parts_of kV_parts_of dc_parts_of pm_parts_of cd_parts_of ct_parts_of : Value} {od_parts_of an_parts_of : Option Addr} {sl_parts_of : Array (Option Value)} {f_with_parts : Addr} {oc_with_parts kV_with_parts dc_with_parts pm_with_parts cd_with_parts ct_with_parts : Value} {od_with_parts an_with_parts : Option Addr} {sl_with_parts : Array (Option Value)} {f_is_row : Addr} {oc_is_row kV_is_row dc_is_row pm_is_row cd_is_row ct_is_row : Value} {od_is_row an_is_row : Option Addr} {sl_is_row : Array (Option Value)} {f__checked_rows : Addr} {oc__checked_rows kV__checked_rows dc__checked_rows pm__checked_rows cd__checked_rows ct__checked_rows : Value} {od__checked_rows an__checked_rows : Option Addr} {sl__checked_rows : Array (Option Value)} {f__is_signs : Addr} {oc__is_signs kV__is_signs dc__is_signs pm__is_signs cd__is_signs ct__is_signs : Value} {od__is_signs an__is_signs : Option Addr} {sl__is_signs : Array (Option Value)} {f__is_parts : Addr} {oc__is_parts kV__is_parts dc__is_parts pm__is_parts cd__is_parts ct__is_parts : Value} {od__is_parts an__is_parts : Option Addr} {sl__is_parts : Array (Option Value)} {f_check_doc : Addr} {oc_check_doc kV_check_doc dc_check_doc pm_check_doc cd_check_doc ct_check_doc : Value} {od_check_doc an_check_doc : Option Addr} {sl_check_doc : Array (Option Value)} {f_simplified_doc : Addr} {oc_simplified_doc kV_simplified_doc dc_simplified_doc pm_simplified_doc cd_simplified_doc ct_simplified_doc : Value} {od_simplified_doc an_simplified_doc : Option Addr} {sl_simplified_doc : Array (Option Value)} {f__replaced : Addr} {oc__replaced kV__replaced dc__replaced pm__replaced cd__replaced ct__replaced : Value} {od__replaced an__replaced : Option Addr} {sl__replaced : Array (Option Value)} {f__replaced_cat : Addr} {oc__replaced_cat kV__replaced_cat dc__replaced_cat pm__replaced_cat cd__replaced_cat ct__replaced_cat : Value} {od__replaced_cat an__replaced_cat : Option Addr} {sl__replaced_cat : Array (Option Value)} {f__replaced_single : Addr} {oc__replaced_single kV__replaced_single dc__replaced_single pm__replaced_single cd__replaced_single ct__replaced_single : Value} {od__replaced_single an__replaced_single : Option Addr} {sl__replaced_single : Array (Option Value)} {f_simplified : Addr} {oc_simplified kV_simplified dc_simplified pm_simplified cd_simplified ct_simplified : Value} {od_simplified an_simplified : Option Addr} {sl_simplified : Array (Option Value)} {f_is_simple : Addr} {oc_is_simple kV_is_simple dc_is_simple pm_is_simple cd_is_simple ct_is_simple : Value} {od_is_simple an_is_simple : Option Addr} {sl_is_simple : Array (Option Value)} {f__law_cell_at : Addr} {oc__law_cell_at kV__law_cell_at dc__law_cell_at pm__law_cell_at cd__law_cell_at ct__law_cell_at : Value} {od__law_cell_at an__law_cell_at : Option Addr} {sl__law_cell_at : Array (Option Value)} {f__law_source_of : Addr} {oc__law_source_of kV__law_source_of dc__law_source_of pm__law_source_of cd__law_source_of ct__law_source_of : Value} {od__law_source_of an__law_source_of : Option Addr} {sl__law_source_of : Array (Option Value)} {f__law_next : Addr} {oc__law_next kV__law_next dc__law_next pm__law_next cd__law_next ct__law_next : Value} {od__law_next an__law_next : Option Addr} {sl__law_next : Array (Option Value)} {f__law_one : Addr} {oc__law_one kV__law_one dc__law_one pm__law_one cd__law_one ct__law_one : Value} {od__law_one an__law_one : Option Addr} {sl__law_one : Array (Option Value)} {f__law_known : Addr} {oc__law_known kV__law_known dc__law_known pm__law_known cd__law_known ct__law_known : Value} {od__law_known an__law_known : Option Addr} {sl__law_known : Array (Option Value)} {f_law : Addr} {oc_law kV_law dc_law pm_law cd_law ct_law : Value} {od_law an_law : Option Addr} {sl_law : Array (Option Value)} {t_MOST_ROWS : Tok} {t_MOST_PARTS : Tok} {t_MOST_NEST : Tok} {t_MOST_TEXT_SIGNS : Tok} {t_MOST_LINE_SIGNS : Tok} {D_ROW_LENGTHS : Addr} {es_ROW_LENGTHS : Array DictEntry} {n_ROW_LENGTHS : Nat} {t_ROW_LENGTHS_text : Tok} {t_ROW_LENGTHS_line : Tok} {t_ROW_LENGTHS_hard : Tok} {t_ROW_LENGTHS_cat : Tok} {t_ROW_LENGTHS_nest : Tok} {t_ROW_LENGTHS_align : Tok} {t_ROW_LENGTHS_group : Tok}
    (a_LayoutError : PySem.W.nsIn K mainGlobals "LayoutError" = some (some (.ref C_LayoutError)))
    (a_InvalidDoc : PySem.W.nsIn K mainGlobals "InvalidDoc" = some (some (.ref C_InvalidDoc)))
    (a_InvalidBound : PySem.W.nsIn K mainGlobals "InvalidBound" = some (some (.ref C_InvalidBound)))
    (a_Doc : PySem.W.nsIn K mainGlobals "Doc" = some (some (.ref C_Doc)))
    (a_Pool : PySem.W.nsIn K mainGlobals "Pool" = some (some (.ref C_Pool)))
    (fi_Doc___init__ : PySem.W.findIn K (.ref C_Doc) "__init__" = some (some (.ref f_Doc___init__)))
    (fi_Doc___eq__ : PySem.W.findIn K (.ref C_Doc) "__eq__" = some (some (.ref f_Doc___eq__)))
    (fi_Doc_row_list : PySem.W.findIn K (.ref C_Doc) "row_list" = some (some (.ref f_Doc_row_list)))
    (fi_Pool___init__ : PySem.W.findIn K (.ref C_Pool) "__init__" = some (some (.ref f_Pool___init__)))
    (fi_Pool_add : PySem.W.findIn K (.ref C_Pool) "add" = some (some (.ref f_Pool_add)))
    (fi_Pool_rows_below : PySem.W.findIn K (.ref C_Pool) "rows_below" = some (some (.ref f_Pool_rows_below)))
    (fi_Pool__add_new : PySem.W.findIn K (.ref C_Pool) "_add_new" = some (some (.ref f_Pool__add_new)))
    (fi__shown : PySem.W.nsIn K mainGlobals "_shown" = some (some (.ref f__shown)))
    (fi_is_integer : PySem.W.nsIn K mainGlobals "is_integer" = some (some (.ref f_is_integer)))
    (fi_is_between : PySem.W.nsIn K mainGlobals "is_between" = some (some (.ref f_is_between)))
    (fi_rows_in : PySem.W.nsIn K mainGlobals "rows_in" = some (some (.ref f_rows_in)))
    (fi_copied_row : PySem.W.nsIn K mainGlobals "copied_row" = some (some (.ref f_copied_row)))
    (fi_parts_of : PySem.W.nsIn K mainGlobals "parts_of" = some (some (.ref f_parts_of)))
    (fi_with_parts : PySem.W.nsIn K mainGlobals "with_parts" = some (some (.ref f_with_parts)))
    (fi_is_row : PySem.W.nsIn K mainGlobals "is_row" = some (some (.ref f_is_row)))
    (fi__checked_rows : PySem.W.nsIn K mainGlobals "_checked_rows" = some (some (.ref f__checked_rows)))
    (fi__is_signs : PySem.W.nsIn K mainGlobals "_is_signs" = some (some (.ref f__is_signs)))
    (fi__is_parts : PySem.W.nsIn K mainGlobals "_is_parts" = some (some (.ref f__is_parts)))
    (fi_check_doc : PySem.W.nsIn K mainGlobals "check_doc" = some (some (.ref f_check_doc)))
    (fi_simplified_doc : PySem.W.nsIn K mainGlobals "simplified_doc" = some (some (.ref f_simplified_doc)))
    (fi__replaced : PySem.W.nsIn K mainGlobals "_replaced" = some (some (.ref f__replaced)))
    (fi__replaced_cat : PySem.W.nsIn K mainGlobals "_replaced_cat" = some (some (.ref f__replaced_cat)))
    (fi__replaced_single : PySem.W.nsIn K mainGlobals "_replaced_single" = some (some (.ref f__replaced_single)))
    (fi_simplified : PySem.W.nsIn K mainGlobals "simplified" = some (some (.ref f_simplified)))
    (fi_is_simple : PySem.W.nsIn K mainGlobals "is_simple" = some (some (.ref f_is_simple)))
    (fi__law_cell_at : PySem.W.nsIn K mainGlobals "_law_cell_at" = some (some (.ref f__law_cell_at)))
    (fi__law_source_of : PySem.W.nsIn K mainGlobals "_law_source_of" = some (some (.ref f__law_source_of)))
    (fi__law_next : PySem.W.nsIn K mainGlobals "_law_next" = some (some (.ref f__law_next)))
    (fi__law_one : PySem.W.nsIn K mainGlobals "_law_one" = some (some (.ref f__law_one)))
    (fi__law_known : PySem.W.nsIn K mainGlobals "_law_known" = some (some (.ref f__law_known)))
    (fi_law : PySem.W.nsIn K mainGlobals "law" = some (some (.ref f_law)))
    (pg_Doc : PySem.W.plainGet K C_Doc Str.empty = true)
    (hd_Doc : PySem.W.hasDictIn K C_Doc = true)
    (po_Doc : PySem.W.plainOver K C_Doc = true)
    (sa_Doc : PySem.W.findIn K (.ref C_Doc) "__setattr__" = some (some (.builtin "object.__setattr__")))
    (mk_Doc : PySem.W.makesIn K C_Doc = true)
    (kc_Doc : PySem.W.keepIn K (.ref C_Doc) = true)
    (na_Doc__rows : PySem.W.findIn K (.ref C_Doc) "_rows" = some none)
    (na_Doc_facts : PySem.W.findIn K (.ref C_Doc) "facts" = some none)
    (na_Doc_group_facts : PySem.W.findIn K (.ref C_Doc) "group_facts" = some none)
    (i_Doc_1 : PySem.W.findIn K (.ref C_Doc) "__class__" = some (some (.builtin "object.__class__")))
    (i_Doc_2 : PySem.W.specialIn K (.builtin "object.__class__") "__get__" = some (some (.builtin "getset_descriptor.__get__")))
    (i_Doc_3 : PySem.W.takesIn K (.builtin "object.__class__") = some true)
    (i_Doc_4 : PySem.W.mroIn K C_Doc (.type "object") = some true)
    (ic_Doc : PySem.W.isClsIn K C_Doc = true)
    (tc_Doc : PySem.W.typeIn K (.ref C_Doc) = some (.type "type"))
    (i_Doc_6 : PySem.W.subIn K (.type "int") (.ref C_Doc) = some false)
    (i_Doc_7 : PySem.W.subIn K (.type "NoneType") (.ref C_Doc) = some false)
    (i_Doc_8 : PySem.W.subIn K (.type "list") (.ref C_Doc) = some false)
    (i_Doc_9 : PySem.W.notFirst K C_Doc (.ref C_Doc) = true)
    (i_Doc_10 : PySem.W.notFirst K C_Doc (.type "int") = true)
    (i_Doc_11 : PySem.W.notFirst K C_Doc (.type "NoneType") = true)
    (i_Doc_12 : PySem.W.notFirst K C_Doc (.type "list") = true)
    (is_Doc___init__ : PySem.W.isFn K (.ref f_Doc___init__) = true)
    (l_Doc___init__ : K.lookup f_Doc___init__ = some ⟨oc_Doc___init__, od_Doc___init__, .func (PySem.W.fnOf "__init__" "Doc.__init__" (defArgs s_Doc___init__) (defBody s_Doc___init__) (defScope s_Doc___init__) .none kV_Doc___init__ dc_Doc___init__ pm_Doc___init__ an_Doc___init__ cd_Doc___init__ ct_Doc___init__), sl_Doc___init__⟩)
    (cn_Doc___init__ : PySem.W.codeIn K cd_Doc___init__ "Doc.__init__" = true)
    (kp_Doc___init__ : PySem.W.keepIn K (.ref f_Doc___init__) = true)
    (is_Doc___eq__ : PySem.W.isFn K (.ref f_Doc___eq__) = true)
    (l_Doc___eq__ : K.lookup f_Doc___eq__ = some ⟨oc_Doc___eq__, od_Doc___eq__, .func (PySem.W.fnOf "__eq__" "Doc.__eq__" (defArgs s_Doc___eq__) (defBody s_Doc___eq__) (defScope s_Doc___eq__) .none kV_Doc___eq__ dc_Doc___eq__ pm_Doc___eq__ an_Doc___eq__ cd_Doc___eq__ ct_Doc___eq__), sl_Doc___eq__⟩)
    (cn_Doc___eq__ : PySem.W.codeIn K cd_Doc___eq__ "Doc.__eq__" = true)
    (kp_Doc___eq__ : PySem.W.keepIn K (.ref f_Doc___eq__) = true)
    (is_Doc_row_list : PySem.W.isFn K (.ref f_Doc_row_list) = true)
    (l_Doc_row_list : K.lookup f_Doc_row_list = some ⟨oc_Doc_row_list, od_Doc_row_list, .func (PySem.W.fnOf "row_list" "Doc.row_list" (defArgs s_Doc_row_list) (defBody s_Doc_row_list) (defScope s_Doc_row_list) .none kV_Doc_row_list dc_Doc_row_list pm_Doc_row_list an_Doc_row_list cd_Doc_row_list ct_Doc_row_list), sl_Doc_row_list⟩)
    (cn_Doc_row_list : PySem.W.codeIn K cd_Doc_row_list "Doc.row_list" = true)
    (kp_Doc_row_list : PySem.W.keepIn K (.ref f_Doc_row_list) = true)
    (pg_Pool : PySem.W.plainGet K C_Pool Str.empty = true)
    (hd_Pool : PySem.W.hasDictIn K C_Pool = true)
    (po_Pool : PySem.W.plainOver K C_Pool = true)
    (sa_Pool : PySem.W.findIn K (.ref C_Pool) "__setattr__" = some (some (.builtin "object.__setattr__")))
    (mk_Pool : PySem.W.makesIn K C_Pool = true)
    (kc_Pool : PySem.W.keepIn K (.ref C_Pool) = true)
    (na_Pool_rows : PySem.W.findIn K (.ref C_Pool) "rows" = some none)
    (na_Pool_are_bare : PySem.W.findIn K (.ref C_Pool) "are_bare" = some none)
    (na_Pool_are_hard : PySem.W.findIn K (.ref C_Pool) "are_hard" = some none)
    (na_Pool_are_direct : PySem.W.findIn K (.ref C_Pool) "are_direct" = some none)
    (na_Pool_wides : PySem.W.findIn K (.ref C_Pool) "wides" = some none)
    (na_Pool__numbers : PySem.W.findIn K (.ref C_Pool) "_numbers" = some none)
    (i_Pool_1 : PySem.W.findIn K (.ref C_Pool) "__class__" = some (some (.builtin "object.__class__")))
    (i_Pool_2 : PySem.W.specialIn K (.builtin "object.__class__") "__get__" = some (some (.builtin "getset_descriptor.__get__")))
    (i_Pool_3 : PySem.W.takesIn K (.builtin "object.__class__") = some true)
    (i_Pool_4 : PySem.W.mroIn K C_Pool (.type "object") = some true)
    (ic_Pool : PySem.W.isClsIn K C_Pool = true)
    (tc_Pool : PySem.W.typeIn K (.ref C_Pool) = some (.type "type"))
    (i_Pool_6 : PySem.W.subIn K (.type "int") (.ref C_Pool) = some false)
    (i_Pool_7 : PySem.W.subIn K (.type "NoneType") (.ref C_Pool) = some false)
    (i_Pool_8 : PySem.W.subIn K (.type "list") (.ref C_Pool) = some false)
    (i_Pool_9 : PySem.W.notFirst K C_Pool (.ref C_Pool) = true)
    (i_Pool_10 : PySem.W.notFirst K C_Pool (.type "int") = true)
    (i_Pool_11 : PySem.W.notFirst K C_Pool (.type "NoneType") = true)
    (i_Pool_12 : PySem.W.notFirst K C_Pool (.type "list") = true)
    (is_Pool___init__ : PySem.W.isFn K (.ref f_Pool___init__) = true)
    (l_Pool___init__ : K.lookup f_Pool___init__ = some ⟨oc_Pool___init__, od_Pool___init__, .func (PySem.W.fnOf "__init__" "Pool.__init__" (defArgs s_Pool___init__) (defBody s_Pool___init__) (defScope s_Pool___init__) .none kV_Pool___init__ dc_Pool___init__ pm_Pool___init__ an_Pool___init__ cd_Pool___init__ ct_Pool___init__), sl_Pool___init__⟩)
    (cn_Pool___init__ : PySem.W.codeIn K cd_Pool___init__ "Pool.__init__" = true)
    (kp_Pool___init__ : PySem.W.keepIn K (.ref f_Pool___init__) = true)
    (is_Pool_add : PySem.W.isFn K (.ref f_Pool_add) = true)
    (l_Pool_add : K.lookup f_Pool_add = some ⟨oc_Pool_add, od_Pool_add, .func (PySem.W.fnOf "add" "Pool.add" (defArgs s_Pool_add) (defBody s_Pool_add) (defScope s_Pool_add) .none kV_Pool_add dc_Pool_add pm_Pool_add an_Pool_add cd_Pool_add ct_Pool_add), sl_Pool_add⟩)
    (cn_Pool_add : PySem.W.codeIn K cd_Pool_add "Pool.add" = true)
    (kp_Pool_add : PySem.W.keepIn K (.ref f_Pool_add) = true)
    (is_Pool_rows_below : PySem.W.isFn K (.ref f_Pool_rows_below) = true)
    (l_Pool_rows_below : K.lookup f_Pool_rows_below = some ⟨oc_Pool_rows_below, od_Pool_rows_below, .func (PySem.W.fnOf "rows_below" "Pool.rows_below" (defArgs s_Pool_rows_below) (defBody s_Pool_rows_below) (defScope s_Pool_rows_below) .none kV_Pool_rows_below dc_Pool_rows_below pm_Pool_rows_below an_Pool_rows_below cd_Pool_rows_below ct_Pool_rows_below), sl_Pool_rows_below⟩)
    (cn_Pool_rows_below : PySem.W.codeIn K cd_Pool_rows_below "Pool.rows_below" = true)
    (kp_Pool_rows_below : PySem.W.keepIn K (.ref f_Pool_rows_below) = true)
    (is_Pool__add_new : PySem.W.isFn K (.ref f_Pool__add_new) = true)
    (l_Pool__add_new : K.lookup f_Pool__add_new = some ⟨oc_Pool__add_new, od_Pool__add_new, .func (PySem.W.fnOf "_add_new" "Pool._add_new" (defArgs s_Pool__add_new) (defBody s_Pool__add_new) (defScope s_Pool__add_new) .none kV_Pool__add_new dc_Pool__add_new pm_Pool__add_new an_Pool__add_new cd_Pool__add_new ct_Pool__add_new), sl_Pool__add_new⟩)
    (cn_Pool__add_new : PySem.W.codeIn K cd_Pool__add_new "Pool._add_new" = true)
    (kp_Pool__add_new : PySem.W.keepIn K (.ref f_Pool__add_new) = true)
    (l__shown : K.lookup f__shown = some ⟨oc__shown, od__shown, .func (PySem.W.fnOf "_shown" "_shown" (defArgs s__shown) (defBody s__shown) (defScope s__shown) .none kV__shown dc__shown pm__shown an__shown cd__shown ct__shown), sl__shown⟩)
    (cn__shown : PySem.W.codeIn K cd__shown "_shown" = true)
    (kp__shown : PySem.W.keepIn K (.ref f__shown) = true)
    (l_is_integer : K.lookup f_is_integer = some ⟨oc_is_integer, od_is_integer, .func (PySem.W.fnOf "is_integer" "is_integer" (defArgs s_is_integer) (defBody s_is_integer) (defScope s_is_integer) .none kV_is_integer dc_is_integer pm_is_integer an_is_integer cd_is_integer ct_is_integer), sl_is_integer⟩)
    (cn_is_integer : PySem.W.codeIn K cd_is_integer "is_integer" = true)
    (kp_is_integer : PySem.W.keepIn K (.ref f_is_integer) = true)
    (l_is_between : K.lookup f_is_between = some ⟨oc_is_between, od_is_between, .func (PySem.W.fnOf "is_between" "is_between" (defArgs s_is_between) (defBody s_is_between) (defScope s_is_between) .none kV_is_between dc_is_between pm_is_between an_is_between cd_is_between ct_is_between), sl_is_between⟩)
    (cn_is_between : PySem.W.codeIn K cd_is_between "is_between" = true)
    (kp_is_between : PySem.W.keepIn K (.ref f_is_between) = true)
    (l_rows_in : K.lookup f_rows_in = some ⟨oc_rows_in, od_rows_in, .func (PySem.W.fnOf "rows_in" "rows_in" (defArgs s_rows_in) (defBody s_rows_in) (defScope s_rows_in) .none kV_rows_in dc_rows_in pm_rows_in an_rows_in cd_rows_in ct_rows_in), sl_rows_in⟩)
    (cn_rows_in : PySem.W.codeIn K cd_rows_in "rows_in" = true)
    (kp_rows_in : PySem.W.keepIn K (.ref f_rows_in) = true)
    (l_copied_row : K.lookup f_copied_row = some ⟨oc_copied_row, od_copied_row, .func (PySem.W.fnOf "copied_row" "copied_row" (defArgs s_copied_row) (defBody s_copied_row) (defScope s_copied_row) .none kV_copied_row dc_copied_row pm_copied_row an_copied_row cd_copied_row ct_copied_row), sl_copied_row⟩)
    (cn_copied_row : PySem.W.codeIn K cd_copied_row "copied_row" = true)
    (kp_copied_row : PySem.W.keepIn K (.ref f_copied_row) = true)
    (l_parts_of : K.lookup f_parts_of = some ⟨oc_parts_of, od_parts_of, .func (PySem.W.fnOf "parts_of" "parts_of" (defArgs s_parts_of) (defBody s_parts_of) (defScope s_parts_of) .none kV_parts_of dc_parts_of pm_parts_of an_parts_of cd_parts_of ct_parts_of), sl_parts_of⟩)
    (cn_parts_of : PySem.W.codeIn K cd_parts_of "parts_of" = true)
    (kp_parts_of : PySem.W.keepIn K (.ref f_parts_of) = true)
    (l_with_parts : K.lookup f_with_parts = some ⟨oc_with_parts, od_with_parts, .func (PySem.W.fnOf "with_parts" "with_parts" (defArgs s_with_parts) (defBody s_with_parts) (defScope s_with_parts) .none kV_with_parts dc_with_parts pm_with_parts an_with_parts cd_with_parts ct_with_parts), sl_with_parts⟩)
    (cn_with_parts : PySem.W.codeIn K cd_with_parts "with_parts" = true)
    (kp_with_parts : PySem.W.keepIn K (.ref f_with_parts) = true)
    (l_is_row : K.lookup f_is_row = some ⟨oc_is_row, od_is_row, .func (PySem.W.fnOf "is_row" "is_row" (defArgs s_is_row) (defBody s_is_row) (defScope s_is_row) .none kV_is_row dc_is_row pm_is_row an_is_row cd_is_row ct_is_row), sl_is_row⟩)
    (cn_is_row : PySem.W.codeIn K cd_is_row "is_row" = true)
    (kp_is_row : PySem.W.keepIn K (.ref f_is_row) = true)
    (l__checked_rows : K.lookup f__checked_rows = some ⟨oc__checked_rows, od__checked_rows, .func (PySem.W.fnOf "_checked_rows" "_checked_rows" (defArgs s__checked_rows) (defBody s__checked_rows) (defScope s__checked_rows) .none kV__checked_rows dc__checked_rows pm__checked_rows an__checked_rows cd__checked_rows ct__checked_rows), sl__checked_rows⟩)
    (cn__checked_rows : PySem.W.codeIn K cd__checked_rows "_checked_rows" = true)
    (kp__checked_rows : PySem.W.keepIn K (.ref f__checked_rows) = true)
    (l__is_signs : K.lookup f__is_signs = some ⟨oc__is_signs, od__is_signs, .func (PySem.W.fnOf "_is_signs" "_is_signs" (defArgs s__is_signs) (defBody s__is_signs) (defScope s__is_signs) .none kV__is_signs dc__is_signs pm__is_signs an__is_signs cd__is_signs ct__is_signs), sl__is_signs⟩)
    (cn__is_signs : PySem.W.codeIn K cd__is_signs "_is_signs" = true)
    (kp__is_signs : PySem.W.keepIn K (.ref f__is_signs) = true)
    (l__is_parts : K.lookup f__is_parts = some ⟨oc__is_parts, od__is_parts, .func (PySem.W.fnOf "_is_parts" "_is_parts" (defArgs s__is_parts) (defBody s__is_parts) (defScope s__is_parts) .none kV__is_parts dc__is_parts pm__is_parts an__is_parts cd__is_parts ct__is_parts), sl__is_parts⟩)
    (cn__is_parts : PySem.W.codeIn K cd__is_parts "_is_parts" = true)
    (kp__is_parts : PySem.W.keepIn K (.ref f__is_parts) = true)
    (l_check_doc : K.lookup f_check_doc = some ⟨oc_check_doc, od_check_doc, .func (PySem.W.fnOf "check_doc" "check_doc" (defArgs s_check_doc) (defBody s_check_doc) (defScope s_check_doc) .none kV_check_doc dc_check_doc pm_check_doc an_check_doc cd_check_doc ct_check_doc), sl_check_doc⟩)
    (cn_check_doc : PySem.W.codeIn K cd_check_doc "check_doc" = true)
    (kp_check_doc : PySem.W.keepIn K (.ref f_check_doc) = true)
    (l_simplified_doc : K.lookup f_simplified_doc = some ⟨oc_simplified_doc, od_simplified_doc, .func (PySem.W.fnOf "simplified_doc" "simplified_doc" (defArgs s_simplified_doc) (defBody s_simplified_doc) (defScope s_simplified_doc) .none kV_simplified_doc dc_simplified_doc pm_simplified_doc an_simplified_doc cd_simplified_doc ct_simplified_doc), sl_simplified_doc⟩)
    (cn_simplified_doc : PySem.W.codeIn K cd_simplified_doc "simplified_doc" = true)
    (kp_simplified_doc : PySem.W.keepIn K (.ref f_simplified_doc) = true)
    (l__replaced : K.lookup f__replaced = some ⟨oc__replaced, od__replaced, .func (PySem.W.fnOf "_replaced" "_replaced" (defArgs s__replaced) (defBody s__replaced) (defScope s__replaced) .none kV__replaced dc__replaced pm__replaced an__replaced cd__replaced ct__replaced), sl__replaced⟩)
    (cn__replaced : PySem.W.codeIn K cd__replaced "_replaced" = true)
    (kp__replaced : PySem.W.keepIn K (.ref f__replaced) = true)
    (l__replaced_cat : K.lookup f__replaced_cat = some ⟨oc__replaced_cat, od__replaced_cat, .func (PySem.W.fnOf "_replaced_cat" "_replaced_cat" (defArgs s__replaced_cat) (defBody s__replaced_cat) (defScope s__replaced_cat) .none kV__replaced_cat dc__replaced_cat pm__replaced_cat an__replaced_cat cd__replaced_cat ct__replaced_cat), sl__replaced_cat⟩)
    (cn__replaced_cat : PySem.W.codeIn K cd__replaced_cat "_replaced_cat" = true)
    (kp__replaced_cat : PySem.W.keepIn K (.ref f__replaced_cat) = true)
    (l__replaced_single : K.lookup f__replaced_single = some ⟨oc__replaced_single, od__replaced_single, .func (PySem.W.fnOf "_replaced_single" "_replaced_single" (defArgs s__replaced_single) (defBody s__replaced_single) (defScope s__replaced_single) .none kV__replaced_single dc__replaced_single pm__replaced_single an__replaced_single cd__replaced_single ct__replaced_single), sl__replaced_single⟩)
    (cn__replaced_single : PySem.W.codeIn K cd__replaced_single "_replaced_single" = true)
    (kp__replaced_single : PySem.W.keepIn K (.ref f__replaced_single) = true)
    (l_simplified : K.lookup f_simplified = some ⟨oc_simplified, od_simplified, .func (PySem.W.fnOf "simplified" "simplified" (defArgs s_simplified) (defBody s_simplified) (defScope s_simplified) .none kV_simplified dc_simplified pm_simplified an_simplified cd_simplified ct_simplified), sl_simplified⟩)
    (cn_simplified : PySem.W.codeIn K cd_simplified "simplified" = true)
    (kp_simplified : PySem.W.keepIn K (.ref f_simplified) = true)
    (l_is_simple : K.lookup f_is_simple = some ⟨oc_is_simple, od_is_simple, .func (PySem.W.fnOf "is_simple" "is_simple" (defArgs s_is_simple) (defBody s_is_simple) (defScope s_is_simple) .none kV_is_simple dc_is_simple pm_is_simple an_is_simple cd_is_simple ct_is_simple), sl_is_simple⟩)
    (cn_is_simple : PySem.W.codeIn K cd_is_simple "is_simple" = true)
    (kp_is_simple : PySem.W.keepIn K (.ref f_is_simple) = true)
    (l__law_cell_at : K.lookup f__law_cell_at = some ⟨oc__law_cell_at, od__law_cell_at, .func (PySem.W.fnOf "_law_cell_at" "_law_cell_at" (defArgs s__law_cell_at) (defBody s__law_cell_at) (defScope s__law_cell_at) .none kV__law_cell_at dc__law_cell_at pm__law_cell_at an__law_cell_at cd__law_cell_at ct__law_cell_at), sl__law_cell_at⟩)
    (cn__law_cell_at : PySem.W.codeIn K cd__law_cell_at "_law_cell_at" = true)
    (kp__law_cell_at : PySem.W.keepIn K (.ref f__law_cell_at) = true)
    (l__law_source_of : K.lookup f__law_source_of = some ⟨oc__law_source_of, od__law_source_of, .func (PySem.W.fnOf "_law_source_of" "_law_source_of" (defArgs s__law_source_of) (defBody s__law_source_of) (defScope s__law_source_of) .none kV__law_source_of dc__law_source_of pm__law_source_of an__law_source_of cd__law_source_of ct__law_source_of), sl__law_source_of⟩)
    (cn__law_source_of : PySem.W.codeIn K cd__law_source_of "_law_source_of" = true)
    (kp__law_source_of : PySem.W.keepIn K (.ref f__law_source_of) = true)
    (l__law_next : K.lookup f__law_next = some ⟨oc__law_next, od__law_next, .func (PySem.W.fnOf "_law_next" "_law_next" (defArgs s__law_next) (defBody s__law_next) (defScope s__law_next) .none kV__law_next dc__law_next pm__law_next an__law_next cd__law_next ct__law_next), sl__law_next⟩)
    (cn__law_next : PySem.W.codeIn K cd__law_next "_law_next" = true)
    (kp__law_next : PySem.W.keepIn K (.ref f__law_next) = true)
    (l__law_one : K.lookup f__law_one = some ⟨oc__law_one, od__law_one, .func (PySem.W.fnOf "_law_one" "_law_one" (defArgs s__law_one) (defBody s__law_one) (defScope s__law_one) .none kV__law_one dc__law_one pm__law_one an__law_one cd__law_one ct__law_one), sl__law_one⟩)
    (cn__law_one : PySem.W.codeIn K cd__law_one "_law_one" = true)
    (kp__law_one : PySem.W.keepIn K (.ref f__law_one) = true)
    (l__law_known : K.lookup f__law_known = some ⟨oc__law_known, od__law_known, .func (PySem.W.fnOf "_law_known" "_law_known" (defArgs s__law_known) (defBody s__law_known) (defScope s__law_known) .none kV__law_known dc__law_known pm__law_known an__law_known cd__law_known ct__law_known), sl__law_known⟩)
    (cn__law_known : PySem.W.codeIn K cd__law_known "_law_known" = true)
    (kp__law_known : PySem.W.keepIn K (.ref f__law_known) = true)
    (l_law : K.lookup f_law = some ⟨oc_law, od_law, .func (PySem.W.fnOf "law" "law" (defArgs s_law) (defBody s_law) (defScope s_law) .none kV_law dc_law pm_law an_law cd_law ct_law), sl_law⟩)
    (cn_law : PySem.W.codeIn K cd_law "law" = true)
    (kp_law : PySem.W.keepIn K (.ref f_law) = true)
    (g_MOST_ROWS : PySem.W.nsIn K mainGlobals "MOST_ROWS" = some (some (.int (200) t_MOST_ROWS)))
    (g_MOST_PARTS : PySem.W.nsIn K mainGlobals "MOST_PARTS" = some (some (.int (8) t_MOST_PARTS)))
    (g_MOST_NEST : PySem.W.nsIn K mainGlobals "MOST_NEST" = some (some (.int (8) t_MOST_NEST)))
    (g_MOST_TEXT_SIGNS : PySem.W.nsIn K mainGlobals "MOST_TEXT_SIGNS" = some (some (.int (20) t_MOST_TEXT_SIGNS)))
    (g_MOST_LINE_SIGNS : PySem.W.nsIn K mainGlobals "MOST_LINE_SIGNS" = some (some (.int (3) t_MOST_LINE_SIGNS)))
    (g_ROW_LENGTHS : PySem.W.nsIn K mainGlobals "ROW_LENGTHS" = some (some (.ref D_ROW_LENGTHS)))
    (kl_ROW_LENGTHS : K.lookup D_ROW_LENGTHS = some ⟨.type "dict", none, .dict es_ROW_LENGTHS n_ROW_LENGTHS, #[]⟩)
    (kk_ROW_LENGTHS : PySem.W.KeysLit w.params es_ROW_LENGTHS.toList)
    (kw_ROW_LENGTHS : (D_ROW_LENGTHS == sysModules) = false)
    (ks_ROW_LENGTHS : L2.keysL es_ROW_LENGTHS.toList = some (["text", "line", "hard", "cat", "nest", "align", "group"] : List Str))
    (k_ROW_LENGTHS_text : PySem.W.nsIn K D_ROW_LENGTHS "text" = some (some (.int 2 t_ROW_LENGTHS_text)))
    (k_ROW_LENGTHS_line : PySem.W.nsIn K D_ROW_LENGTHS "line" = some (some (.int 2 t_ROW_LENGTHS_line)))
    (k_ROW_LENGTHS_hard : PySem.W.nsIn K D_ROW_LENGTHS "hard" = some (some (.int 1 t_ROW_LENGTHS_hard)))
    (k_ROW_LENGTHS_cat : PySem.W.nsIn K D_ROW_LENGTHS "cat" = some (some (.int 2 t_ROW_LENGTHS_cat)))
    (k_ROW_LENGTHS_nest : PySem.W.nsIn K D_ROW_LENGTHS "nest" = some (some (.int 3 t_ROW_LENGTHS_nest)))
    (k_ROW_LENGTHS_align : PySem.W.nsIn K D_ROW_LENGTHS "align" = some (some (.int 2 t_ROW_LENGTHS_align)))
    (k_ROW_LENGTHS_group : PySem.W.nsIn K D_ROW_LENGTHS "group" = some (some (.int 2 t_ROW_LENGTHS_group)))
    (z_all : PySem.W.nsIn K mainGlobals "all" = some none)
    (z_any : PySem.W.nsIn K mainGlobals "any" = some none)
    (z_bool : PySem.W.nsIn K mainGlobals "bool" = some none)
    (z_enumerate : PySem.W.nsIn K mainGlobals "enumerate" = some none)
    (z_int : PySem.W.nsIn K mainGlobals "int" = some none)
    (z_isinstance : PySem.W.nsIn K mainGlobals "isinstance" = some none)
    (z_len : PySem.W.nsIn K mainGlobals "len" = some none)
    (z_list : PySem.W.nsIn K mainGlobals "list" = some none)
    (z_range : PySem.W.nsIn K mainGlobals "range" = some none)
    (z_str : PySem.W.nsIn K mainGlobals "str" = some none)
    (z_sum : PySem.W.nsIn K mainGlobals "sum" = some none)
    (z_tuple : PySem.W.nsIn K mainGlobals "tuple" = some none)
    : ∃ W fl, Txt w K mg W ∧ ∃ fd, mg "law" = some (.ref fl) ∧ Fun K "law" "law" s_law fl fd ∧ Binds K fd ["_law_script"] [] := by
  have F_law := fun_mk (st := s_law) l_law cn_law kp_law
  refine ⟨{ c_LayoutError := C_LayoutError, c_InvalidDoc := C_InvalidDoc, c_InvalidBound := C_InvalidBound, c_Doc := C_Doc, c_Pool := C_Pool, ROW_LENGTHS := D_ROW_LENGTHS }, f_law, {
      n_all := PySem.W.mg_none_of X G z_all,
      n_any := PySem.W.mg_none_of X G z_any,
      n_bool := PySem.W.mg_none_of X G z_bool,
      n_enumerate := PySem.W.mg_none_of X G z_enumerate,
      n_int := PySem.W.mg_none_of X G z_int,
      n_isinstance := PySem.W.mg_none_of X G z_isinstance,
      n_len := PySem.W.mg_none_of X G z_len,
      n_list := PySem.W.mg_none_of X G z_list,
      n_range := PySem.W.mg_none_of X G z_range,
      n_str := PySem.W.mg_none_of X G z_str,
      n_sum := PySem.W.mg_none_of X G z_sum,
      n_tuple := PySem.W.mg_none_of X G z_tuple,
      g_MOST_ROWS := ⟨t_MOST_ROWS, PySem.W.mg_of X G g_MOST_ROWS⟩,
      g_MOST_PARTS := ⟨t_MOST_PARTS, PySem.W.mg_of X G g_MOST_PARTS⟩,
      g_MOST_NEST := ⟨t_MOST_NEST, PySem.W.mg_of X G g_MOST_NEST⟩,
      g_MOST_TEXT_SIGNS := ⟨t_MOST_TEXT_SIGNS, PySem.W.mg_of X G g_MOST_TEXT_SIGNS⟩,
      g_MOST_LINE_SIGNS := ⟨t_MOST_LINE_SIGNS, PySem.W.mg_of X G g_MOST_LINE_SIGNS⟩,
      g_ROW_LENGTHS := PySem.W.mg_of X G g_ROW_LENGTHS,
      k_ROW_LENGTHS := ⟨_, _, kl_ROW_LENGTHS, kk_ROW_LENGTHS, kw_ROW_LENGTHS⟩,
      kt_ROW_LENGTHS := ⟨_, _, kl_ROW_LENGTHS, kw_ROW_LENGTHS, ks_ROW_LENGTHS⟩,
      k_ROW_LENGTHS_text := ⟨_, k_ROW_LENGTHS_text⟩,
      k_ROW_LENGTHS_line := ⟨_, k_ROW_LENGTHS_line⟩,
      k_ROW_LENGTHS_hard := ⟨_, k_ROW_LENGTHS_hard⟩,
      k_ROW_LENGTHS_cat := ⟨_, k_ROW_LENGTHS_cat⟩,
      k_ROW_LENGTHS_nest := ⟨_, k_ROW_LENGTHS_nest⟩,
      k_ROW_LENGTHS_align := ⟨_, k_ROW_LENGTHS_align⟩,
      k_ROW_LENGTHS_group := ⟨_, k_ROW_LENGTHS_group⟩,
      c_LayoutError := PySem.W.mg_of X G a_LayoutError,
      c_InvalidDoc := PySem.W.mg_of X G a_InvalidDoc,
      c_InvalidBound := PySem.W.mg_of X G a_InvalidBound,
      c_Doc := PySem.W.mg_of X G a_Doc,
      c_Pool := PySem.W.mg_of X G a_Pool,
      cl_Doc := ⟨pg_Doc, hd_Doc, po_Doc, sa_Doc⟩,
      i_Doc := ⟨i_Doc_1, i_Doc_2, i_Doc_3, i_Doc_4, kit_self, kit_not (by decide) ic_Doc tc_Doc i_Doc_6, kit_not (by decide) ic_Doc tc_Doc i_Doc_7, kit_not (by decide) ic_Doc tc_Doc i_Doc_8, i_Doc_9, i_Doc_10, i_Doc_11, i_Doc_12⟩,
      na_Doc__rows := na_Doc__rows,
      na_Doc_facts := na_Doc_facts,
      na_Doc_group_facts := na_Doc_group_facts,
      f_Doc___init__ := methDef_mk (st := s_Doc___init__) fi_Doc___init__ is_Doc___init__ l_Doc___init__ cn_Doc___init__ kp_Doc___init__ (fun _ _ _ _ _ _ us hl => match us, hl with | [_, _], _ => rfl),
      f_Doc___eq__ := methDef_mk (st := s_Doc___eq__) fi_Doc___eq__ is_Doc___eq__ l_Doc___eq__ cn_Doc___eq__ kp_Doc___eq__ (fun _ _ _ _ _ _ us hl => match us, hl with | [_, _], _ => rfl),
      f_Doc_row_list := methDef_mk (st := s_Doc_row_list) fi_Doc_row_list is_Doc_row_list l_Doc_row_list cn_Doc_row_list kp_Doc_row_list (fun _ _ _ _ _ _ us hl => match us, hl with | [_], _ => rfl),
      mk_Doc := ⟨mk_Doc, kc_Doc⟩,
      cl_Pool := ⟨pg_Pool, hd_Pool, po_Pool, sa_Pool⟩,
      i_Pool := ⟨i_Pool_1, i_Pool_2, i_Pool_3, i_Pool_4, kit_self, kit_not (by decide) ic_Pool tc_Pool i_Pool_6, kit_not (by decide) ic_Pool tc_Pool i_Pool_7, kit_not (by decide) ic_Pool tc_Pool i_Pool_8, i_Pool_9, i_Pool_10, i_Pool_11, i_Pool_12⟩,
      na_Pool_rows := na_Pool_rows,
      na_Pool_are_bare := na_Pool_are_bare,
      na_Pool_are_hard := na_Pool_are_hard,
      na_Pool_are_direct := na_Pool_are_direct,
      na_Pool_wides := na_Pool_wides,
      na_Pool__numbers := na_Pool__numbers,
      f_Pool___init__ := methDef_mk (st := s_Pool___init__) fi_Pool___init__ is_Pool___init__ l_Pool___init__ cn_Pool___init__ kp_Pool___init__ (fun _ _ _ _ _ _ us hl => match us, hl with | [_], _ => rfl),
      f_Pool_add := methDef_mk (st := s_Pool_add) fi_Pool_add is_Pool_add l_Pool_add cn_Pool_add kp_Pool_add (fun _ _ _ _ _ _ us hl => match us, hl with | [_, _], _ => rfl),
      f_Pool_rows_below := methDef_mk (st := s_Pool_rows_below) fi_Pool_rows_below is_Pool_rows_below l_Pool_rows_below cn_Pool_rows_below kp_Pool_rows_below (fun _ _ _ _ _ _ us hl => match us, hl with | [_, _], _ => rfl),
      f_Pool__add_new := methDef_mk (st := s_Pool__add_new) fi_Pool__add_new is_Pool__add_new l_Pool__add_new cn_Pool__add_new kp_Pool__add_new (fun _ _ _ _ _ _ us hl => match us, hl with | [_, _], _ => rfl),
      mk_Pool := ⟨mk_Pool, kc_Pool⟩,
      f__shown := topDef_mk (st := s__shown) X G fi__shown l__shown cn__shown kp__shown (fun _ _ _ _ _ _ us hl => match us, hl with | [_], _ => rfl),
      f_is_integer := topDef_mk (st := s_is_integer) X G fi_is_integer l_is_integer cn_is_integer kp_is_integer (fun _ _ _ _ _ _ us hl => match us, hl with | [_], _ => rfl),
      f_is_between := topDef_mk (st := s_is_between) X G fi_is_between l_is_between cn_is_between kp_is_between (fun _ _ _ _ _ _ us hl => match us, hl with | [_, _, _], _ => rfl),
      f_rows_in := topDef_mk (st := s_rows_in) X G fi_rows_in l_rows_in cn_rows_in kp_rows_in (fun _ _ _ _ _ _ us hl => match us, hl with | [_], _ => rfl),
      f_copied_row := topDef_mk (st := s_copied_row) X G fi_copied_row l_copied_row cn_copied_row kp_copied_row (fun _ _ _ _ _ _ us hl => match us, hl with | [_], _ => rfl),
      f_parts_of := topDef_mk (st := s_parts_of) X G fi_parts_of l_parts_of cn_parts_of kp_parts_of (fun _ _ _ _ _ _ us hl => match us, hl with | [_], _ => rfl),
      f_with_parts := topDef_mk (st := s_with_parts) X G fi_with_parts l_with_parts cn_with_parts kp_with_parts (fun _ _ _ _ _ _ us hl => match us, hl with | [_, _], _ => rfl),
      f_is_row := topDef_mk (st := s_is_row) X G fi_is_row l_is_row cn_is_row kp_is_row (fun _ _ _ _ _ _ us hl => match us, hl with | [_, _], _ => rfl),
      f__checked_rows := topDef_mk (st := s__checked_rows) X G fi__checked_rows l__checked_rows cn__checked_rows kp__checked_rows (fun _ _ _ _ _ _ us hl => match us, hl with | [_], _ => rfl),
      f__is_signs := topDef_mk (st := s__is_signs) X G fi__is_signs l__is_signs cn__is_signs kp__is_signs (fun _ _ _ _ _ _ us hl => match us, hl with | [_, _], _ => rfl),
      f__is_parts := topDef_mk (st := s__is_parts) X G fi__is_parts l__is_parts cn__is_parts kp__is_parts (fun _ _ _ _ _ _ us hl => match us, hl with | [_, _], _ => rfl),
      f_check_doc := topDef_mk (st := s_check_doc) X G fi_check_doc l_check_doc cn_check_doc kp_check_doc (fun _ _ _ _ _ _ us hl => match us, hl with | [_], _ => rfl),
      f_simplified_doc := topDef_mk (st := s_simplified_doc) X G fi_simplified_doc l_simplified_doc cn_simplified_doc kp_simplified_doc (fun _ _ _ _ _ _ us hl => match us, hl with | [_], _ => rfl),
      f__replaced := topDef_mk (st := s__replaced) X G fi__replaced l__replaced cn__replaced kp__replaced (fun _ _ _ _ _ _ us hl => match us, hl with | [_, _], _ => rfl),
      f__replaced_cat := topDef_mk (st := s__replaced_cat) X G fi__replaced_cat l__replaced_cat cn__replaced_cat kp__replaced_cat (fun _ _ _ _ _ _ us hl => match us, hl with | [_, _], _ => rfl),
      f__replaced_single := topDef_mk (st := s__replaced_single) X G fi__replaced_single l__replaced_single cn__replaced_single kp__replaced_single (fun _ _ _ _ _ _ us hl => match us, hl with | [_, _], _ => rfl),
      f_simplified := topDef_mk (st := s_simplified) X G fi_simplified l_simplified cn_simplified kp_simplified (fun _ _ _ _ _ _ us hl => match us, hl with | [_], _ => rfl),
      f_is_simple := topDef_mk (st := s_is_simple) X G fi_is_simple l_is_simple cn_is_simple kp_is_simple (fun _ _ _ _ _ _ us hl => match us, hl with | [_], _ => rfl),
      f__law_cell_at := topDef_mk (st := s__law_cell_at) X G fi__law_cell_at l__law_cell_at cn__law_cell_at kp__law_cell_at (fun _ _ _ _ _ _ us hl => match us, hl with | [_, _], _ => rfl),
      f__law_source_of := topDef_mk (st := s__law_source_of) X G fi__law_source_of l__law_source_of cn__law_source_of kp__law_source_of (fun _ _ _ _ _ _ us hl => match us, hl with | [_], _ => rfl),
      f__law_next := topDef_mk (st := s__law_next) X G fi__law_next l__law_next cn__law_next kp__law_next (fun _ _ _ _ _ _ us hl => match us, hl with | [_, _], _ => rfl),
      f__law_one := topDef_mk (st := s__law_one) X G fi__law_one l__law_one cn__law_one kp__law_one (fun _ _ _ _ _ _ us hl => match us, hl with | [_, _], _ => rfl),
      f__law_known := topDef_mk (st := s__law_known) X G fi__law_known l__law_known cn__law_known kp__law_known (fun _ _ _ _ _ _ us hl => match us, hl with | [], _ => rfl),
      f_law := topDef_mk (st := s_law) X G fi_law l_law cn_law kp_law (fun _ _ _ _ _ _ us hl => match us, hl with | [_], _ => rfl) }, _, PySem.W.mg_of X G fi_law, F_law, F_law.binds (fun _ _ _ _ _ _ us hl => match us, hl with | [_], _ => rfl)⟩
theorem walk {l : PySem.W.OpenLaw} {q : Program} {loose : List Str} {XP : (Str → Option Value) → Heap → Prop} {YP : World → Heap → Prop} {d : DefRec} {KK : Params → PySem.W.Frag} (hn : l.most = some 63) (hdf : d.params.defaults = []) (hname : d.name = "law")
    (hY : ∀ (w : World) (h : Heap), YP w h → (KK w.params).In h)
    (F : ∀ (w : World) (mg : Str → Option Value) (h : Heap), (KK w.params).In h → h.Ns mainGlobals mg → ∃ W fl, Txt w (KK w.params) mg W ∧ ∃ fd, mg "law" = some (.ref fl) ∧ Fun (KK w.params) "law" "law" s_law fl fd ∧ Binds (KK w.params) fd ["_law_script"] []) :
    PySem.W.WalkO q loose XP YP l.row.toRowW d [] (fun f vs => PySem.call f vs) :=
  walk_G (n := 63) (k := 210) (x := "_law_script") (sp := fun w => sp_law (KK w.params)) hn (by decide) hdf ⟨rfl, by decide, by decide⟩ hY (fun w mg fa h KX G hmg => by
    obtain ⟨W, fl, T, fd, h1, h2, h3⟩ := F w mg h KX G
    rw [hname, h1] at hmg
    cases hmg
    refine ⟨fd, fun s u => ?_, fun base _ _ => fn_law T h2⟩
    obtain ⟨oc, od, kV, doc, pm, an, cdv, ct, osl, rfl, _, _⟩ := h2.ex
    exact .of_eq rfl)
    fun w H a ns hl hS => ⟨a, ns, rfl, hS, hl, fun _ => rfl⟩
end Lw

open PySem PySem.W PyProof.Rows in
set_option maxRecDepth 100000 in
set_option maxHeartbeats 0 in
theorem PySem.Challenge.cw_farlayout_k61_known_rewritings_holds : PySem.Challenge.rw_farlayout_k61_known_rewritings.Holds := by
  w_on; o_law; k_head; (case hw => w_witness2)
  k_fill
  refine Lw.walk (l := PySem.Challenge.rw_farlayout_k61_known_rewritings) rfl rfl rfl (fun w h Y => PySem.W.kIn_of Y) ?F
  case F =>
    intro w mg h KX G
    refine' Lw.all_mk (w := w) KX G ?a_LayoutError ?a_InvalidDoc ?a_InvalidBound ?a_Doc ?a_Pool ?fi_Doc___init__ ?fi_Doc___eq__ ?fi_Doc_row_list ?fi_Pool___init__ ?fi_Pool_add ?fi_Pool_rows_below ?fi_Pool__add_new ?fi__shown ?fi_is_integer ?fi_is_between ?fi_rows_in ?fi_copied_row ?fi_parts_of ?fi_with_parts ?fi_is_row ?fi__checked_rows ?fi__is_signs ?fi__is_parts ?fi_check_doc ?fi_simplified_doc ?fi__replaced ?fi__replaced_cat ?fi__replaced_single ?fi_simplified ?fi_is_simple ?fi__law_cell_at ?fi__law_source_of ?fi__law_next ?fi__law_one ?fi__law_known ?fi_law ?pg_Doc ?hd_Doc ?po_Doc ?sa_Doc ?mk_Doc ?kc_Doc ?na_Doc__rows ?na_Doc_facts ?na_Doc_group_facts ?i_Doc_1 ?i_Doc_2 ?i_Doc_3 ?i_Doc_4 ?ic_Doc ?tc_Doc ?i_Doc_6 ?i_Doc_7 ?i_Doc_8 ?i_Doc_9 ?i_Doc_10 ?i_Doc_11 ?i_Doc_12 ?is_Doc___init__ ?l_Doc___init__ ?cn_Doc___init__ ?kp_Doc___init__ ?is_Doc___eq__ ?l_Doc___eq__ ?cn_Doc___eq__ ?kp_Doc___eq__ ?is_Doc_row_list ?l_Doc_row_list ?cn_Doc_row_list ?kp_Doc_row_list ?pg_Pool ?hd_Pool ?po_Pool ?sa_Pool ?mk_Pool ?kc_Pool ?na_Pool_rows ?na_Pool_are_bare ?na_Pool_are_hard ?na_Pool_are_direct ?na_Pool_wides ?na_Pool__numbers ?i_Pool_1 ?i_Pool_2 ?i_Pool_3 ?i_Pool_4 ?ic_Pool ?tc_Pool ?i_Pool_6 ?i_Pool_7 ?i_Pool_8 ?i_Pool_9 ?i_Pool_10 ?i_Pool_11 ?i_Pool_12 ?is_Pool___init__ ?l_Pool___init__ ?cn_Pool___init__ ?kp_Pool___init__ ?is_Pool_add ?l_Pool_add ?cn_Pool_add ?kp_Pool_add ?is_Pool_rows_below ?l_Pool_rows_below ?cn_Pool_rows_below ?kp_Pool_rows_below ?is_Pool__add_new ?l_Pool__add_new ?cn_Pool__add_new ?kp_Pool__add_new ?l__shown ?cn__shown ?kp__shown ?l_is_integer ?cn_is_integer ?kp_is_integer ?l_is_between ?cn_is_between ?kp_is_between ?l_rows_in ?cn_rows_in ?kp_rows_in ?l_copied_row ?cn_copied_row ?kp_copied_row ?l_parts_of ?cn_parts_of ?kp_parts_of ?l_with_parts ?cn_with_parts ?kp_with_parts ?l_is_row ?cn_is_row ?kp_is_row ?l__checked_rows ?cn__checked_rows ?kp__checked_rows ?l__is_signs ?cn__is_signs ?kp__is_signs ?l__is_parts ?cn__is_parts ?kp__is_parts ?l_check_doc ?cn_check_doc ?kp_check_doc ?l_simplified_doc ?cn_simplified_doc ?kp_simplified_doc ?l__replaced ?cn__replaced ?kp__replaced ?l__replaced_cat ?cn__replaced_cat ?kp__replaced_cat ?l__replaced_single ?cn__replaced_single ?kp__replaced_single ?l_simplified ?cn_simplified ?kp_simplified ?l_is_simple ?cn_is_simple ?kp_is_simple ?l__law_cell_at ?cn__law_cell_at ?kp__law_cell_at ?l__law_source_of ?cn__law_source_of ?kp__law_source_of ?l__law_next ?cn__law_next ?kp__law_next ?l__law_one ?cn__law_one ?kp__law_one ?l__law_known ?cn__law_known ?kp__law_known ?l_law ?cn_law ?kp_law ?g_MOST_ROWS ?g_MOST_PARTS ?g_MOST_NEST ?g_MOST_TEXT_SIGNS ?g_MOST_LINE_SIGNS ?g_ROW_LENGTHS ?kl_ROW_LENGTHS ?kk_ROW_LENGTHS ?kw_ROW_LENGTHS ?ks_ROW_LENGTHS ?k_ROW_LENGTHS_text ?k_ROW_LENGTHS_line ?k_ROW_LENGTHS_hard ?k_ROW_LENGTHS_cat ?k_ROW_LENGTHS_nest ?k_ROW_LENGTHS_align ?k_ROW_LENGTHS_group ?z_all ?z_any ?z_bool ?z_enumerate ?z_int ?z_isinstance ?z_len ?z_list ?z_range ?z_str ?z_sum ?z_tuple
    (case a_LayoutError => k_is)
    (case a_InvalidDoc => k_is)
    (case a_InvalidBound => k_is)
    (case a_Doc => k_is)
    (case a_Pool => k_is)
    (case fi_Doc___init__ => k_is)
    (case fi_Doc___eq__ => k_is)
    (case fi_Doc_row_list => k_is)
    (case fi_Pool___init__ => k_is)
    (case fi_Pool_add => k_is)
    (case fi_Pool_rows_below => k_is)
    (case fi_Pool__add_new => k_is)
    (case fi__shown => k_is)
    (case fi_is_integer => k_is)
    (case fi_is_between => k_is)
    (case fi_rows_in => k_is)
    (case fi_copied_row => k_is)
    (case fi_parts_of => k_is)
    (case fi_with_parts => k_is)
    (case fi_is_row => k_is)
    (case fi__checked_rows => k_is)
    (case fi__is_signs => k_is)
    (case fi__is_parts => k_is)
    (case fi_check_doc => k_is)
    (case fi_simplified_doc => k_is)
    (case fi__replaced => k_is)
    (case fi__replaced_cat => k_is)
    (case fi__replaced_single => k_is)
    (case fi_simplified => k_is)
    (case fi_is_simple => k_is)
    (case fi__law_cell_at => k_is)
    (case fi__law_source_of => k_is)
    (case fi__law_next => k_is)
    (case fi__law_one => k_is)
    (case fi__law_known => k_is)
    (case fi_law => k_is)
    (case pg_Doc => k_is)
    (case hd_Doc => k_is)
    (case po_Doc => k_is)
    (case sa_Doc => k_is)
    (case mk_Doc => k_is)
    (case kc_Doc => k_is)
    (case na_Doc__rows => k_is)
    (case na_Doc_facts => k_is)
    (case na_Doc_group_facts => k_is)
    (case i_Doc_1 => k_is)
    (case i_Doc_2 => k_is)
    (case i_Doc_3 => k_is)
    (case i_Doc_4 => k_is)
    (case ic_Doc => k_is)
    (case tc_Doc => k_is)
    (case i_Doc_6 => k_is)
    (case i_Doc_7 => k_is)
    (case i_Doc_8 => k_is)
    (case i_Doc_9 => k_is)
    (case i_Doc_10 => k_is)
    (case i_Doc_11 => k_is)
    (case i_Doc_12 => k_is)
    (case is_Doc___init__ => k_is)
    (case l_Doc___init__ => k_is)
    (case cn_Doc___init__ => k_is)
    (case kp_Doc___init__ => k_is)
    (case is_Doc___eq__ => k_is)
    (case l_Doc___eq__ => k_is)
    (case cn_Doc___eq__ => k_is)
    (case kp_Doc___eq__ => k_is)
    (case is_Doc_row_list => k_is)
    (case l_Doc_row_list => k_is)
    (case cn_Doc_row_list => k_is)
    (case kp_Doc_row_list => k_is)
    (case pg_Pool => k_is)
    (case hd_Pool => k_is)
    (case po_Pool => k_is)
    (case sa_Pool => k_is)
    (case mk_Pool => k_is)
    (case kc_Pool => k_is)
    (case na_Pool_rows => k_is)
    (case na_Pool_are_bare => k_is)
    (case na_Pool_are_hard => k_is)
    (case na_Pool_are_direct => k_is)
    (case na_Pool_wides => k_is)
    (case na_Pool__numbers => k_is)
    (case i_Pool_1 => k_is)
    (case i_Pool_2 => k_is)
    (case i_Pool_3 => k_is)
    (case i_Pool_4 => k_is)
    (case ic_Pool => k_is)
    (case tc_Pool => k_is)
    (case i_Pool_6 => k_is)
    (case i_Pool_7 => k_is)
    (case i_Pool_8 => k_is)
    (case i_Pool_9 => k_is)
    (case i_Pool_10 => k_is)
    (case i_Pool_11 => k_is)
    (case i_Pool_12 => k_is)
    (case is_Pool___init__ => k_is)
    (case l_Pool___init__ => k_is)
    (case cn_Pool___init__ => k_is)
    (case kp_Pool___init__ => k_is)
    (case is_Pool_add => k_is)
    (case l_Pool_add => k_is)
    (case cn_Pool_add => k_is)
    (case kp_Pool_add => k_is)
    (case is_Pool_rows_below => k_is)
    (case l_Pool_rows_below => k_is)
    (case cn_Pool_rows_below => k_is)
    (case kp_Pool_rows_below => k_is)
    (case is_Pool__add_new => k_is)
    (case l_Pool__add_new => k_is)
    (case cn_Pool__add_new => k_is)
    (case kp_Pool__add_new => k_is)
    (case l__shown => k_is)
    (case cn__shown => k_is)
    (case kp__shown => k_is)
    (case l_is_integer => k_is)
    (case cn_is_integer => k_is)
    (case kp_is_integer => k_is)
    (case l_is_between => k_is)
    (case cn_is_between => k_is)
    (case kp_is_between => k_is)
    (case l_rows_in => k_is)
    (case cn_rows_in => k_is)
    (case kp_rows_in => k_is)
    (case l_copied_row => k_is)
    (case cn_copied_row => k_is)
    (case kp_copied_row => k_is)
    (case l_parts_of => k_is)
    (case cn_parts_of => k_is)
    (case kp_parts_of => k_is)
    (case l_with_parts => k_is)
    (case cn_with_parts => k_is)
    (case kp_with_parts => k_is)
    (case l_is_row => k_is)
    (case cn_is_row => k_is)
    (case kp_is_row => k_is)
    (case l__checked_rows => k_is)
    (case cn__checked_rows => k_is)
    (case kp__checked_rows => k_is)
    (case l__is_signs => k_is)
    (case cn__is_signs => k_is)
    (case kp__is_signs => k_is)
    (case l__is_parts => k_is)
    (case cn__is_parts => k_is)
    (case kp__is_parts => k_is)
    (case l_check_doc => k_is)
    (case cn_check_doc => k_is)
    (case kp_check_doc => k_is)
    (case l_simplified_doc => k_is)
    (case cn_simplified_doc => k_is)
    (case kp_simplified_doc => k_is)
    (case l__replaced => k_is)
    (case cn__replaced => k_is)
    (case kp__replaced => k_is)
    (case l__replaced_cat => k_is)
    (case cn__replaced_cat => k_is)
    (case kp__replaced_cat => k_is)
    (case l__replaced_single => k_is)
    (case cn__replaced_single => k_is)
    (case kp__replaced_single => k_is)
    (case l_simplified => k_is)
    (case cn_simplified => k_is)
    (case kp_simplified => k_is)
    (case l_is_simple => k_is)
    (case cn_is_simple => k_is)
    (case kp_is_simple => k_is)
    (case l__law_cell_at => k_is)
    (case cn__law_cell_at => k_is)
    (case kp__law_cell_at => k_is)
    (case l__law_source_of => k_is)
    (case cn__law_source_of => k_is)
    (case kp__law_source_of => k_is)
    (case l__law_next => k_is)
    (case cn__law_next => k_is)
    (case kp__law_next => k_is)
    (case l__law_one => k_is)
    (case cn__law_one => k_is)
    (case kp__law_one => k_is)
    (case l__law_known => k_is)
    (case cn__law_known => k_is)
    (case kp__law_known => k_is)
    (case l_law => k_is)
    (case cn_law => k_is)
    (case kp_law => k_is)
    (case g_MOST_ROWS => k_is)
    (case g_MOST_PARTS => k_is)
    (case g_MOST_NEST => k_is)
    (case g_MOST_TEXT_SIGNS => k_is)
    (case g_MOST_LINE_SIGNS => k_is)
    (case g_ROW_LENGTHS => k_is)
    (case kl_ROW_LENGTHS => k_is)
    (case kk_ROW_LENGTHS => k_keys)
    (case kw_ROW_LENGTHS => decide)
    (case ks_ROW_LENGTHS => rfl)
    (case k_ROW_LENGTHS_text => k_is)
    (case k_ROW_LENGTHS_line => k_is)
    (case k_ROW_LENGTHS_hard => k_is)
    (case k_ROW_LENGTHS_cat => k_is)
    (case k_ROW_LENGTHS_nest => k_is)
    (case k_ROW_LENGTHS_align => k_is)
    (case k_ROW_LENGTHS_group => k_is)
    (case z_all => k_is)
    (case z_any => k_is)
    (case z_bool => k_is)
    (case z_enumerate => k_is)
    (case z_int => k_is)
    (case z_isinstance => k_is)
    (case z_len => k_is)
    (case z_list => k_is)
    (case z_range => k_is)
    (case z_str => k_is)
    (case z_sum => k_is)
    (case z_tuple => k_is)
