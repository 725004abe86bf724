import PyProof.Rows.All
import Wide.All
import OpenK.AllK
import Wide.FinOn
import HandS.ForMost
import HandS.Evl
import HandS.IsInst
import PySem.Challenge.RW_farword_k10_places_of_words
set_option Elab.async false
set_option linter.all false
set_option maxRecDepth 100000
set_option maxHeartbeats 4000000
/-! ### Common ground of my proofs: a def as the law's text has it, what expressions evaluate to -/
namespace My
open PySem PySem.Spec PyProof.Rows L2 Evl

section
variable {P : Program} {w : World} {K : PySem.W.Frag} {mg : Str → Option Value} {base : Heap}
/-- the def st stands under its name -/
def At (K : PySem.W.Frag) (mg : Str → Option Value) (x : Str) (st : Stmt) : Prop := ∃ f fd, Fun K x x st f fd ∧ mg x = some (.ref f)
/-- a def of the module that keeps a promise -/
structure Dfn (P : Program) (w : World) (K : PySem.W.Frag) (mg : Str → Option Value) (base : Heap) (k : Nat) (x : Str) (ps : List Str) (sp : Sp) : Prop where
  ex : ∃ (f : Addr) (fd : FuncData), FnOk P w K mg base CX0 k f fd ps sp ∧ mg x = some (.ref f) ∧ PySem.W.keepIn K (.ref f) = true ∧ Binds K fd ps []
theorem dfn_ok {x : Str} {st : Stmt} {N ps : List Str} {k : Nat} {sp : Sp} (A : At K mg x st) (S : FnScope N ps (defScope st))
    (hb : ∀ (kV doc pm : Value) (an : Option Addr) (cdv ct : Value) (us : List Value), us.length = ps.length → bindArgs (PySem.W.fnOf x x (defArgs st) (defBody st) (defScope st) .none kV doc pm an cdv ct) ⟨us, []⟩ = pure (ps.zip us))
    (len : ∀ vs H Q E, sp vs H Q E → vs.length = ps.length)
    (hbody : ∀ (f : Addr) (cdv : Value) (A : Around) (outer : List Env) (s : Shared) (H : Hp) (vs : List V) (Q : VK) (E : XK), Room k (A.deeper (envOfC x (defScope st) s.heap.objs.size f cdv)) → sp vs H Q E →
      ∃ t, PSs (cxOf CX0 P w K mg base N x (defScope st) f cdv A outer s H E).nox (defBody st) t ∧ t { nx := fun _ H' => Q .non H', rt := Q } (start N vs) H) : Dfn P w K mg base (k + 1) x ps sp := by
  obtain ⟨f, fd, F, hm⟩ := A
  exact ⟨f, fd, F.ok S len (hbody f), hm, F.kp, F.binds hb⟩
theorem Dfn.mono {x : Str} {ps : List Str} {j k : Nat} {sp : Sp} (D : Dfn P w K mg base j x ps sp) (h : j ≤ k) : Dfn P w K mg base k x ps sp := by
  obtain ⟨f, fd, F, r⟩ := D.ex
  exact ⟨f, fd, F.mono h, r⟩
end
section
variable {X : Cx} {k : Nat} {x : Str} {ps : List Str} {sp : Sp} {e : Expr} {es : List Expr} {p pos : Pos} {t : TA}
theorem pe_d (D : Dfn X.prog X.w X.K X.mg X.base k x ps sp) (hr : Room k X.A) (ha : PA X (e :: es) t) (hg : Gl X x := by rfl) (hdb : (x == ("__debug__" : Str)) = false := by decide)
    (he : starEach (e :: es) X.env = (false, eval e X.env) :: starEach es X.env := by rfl) (hpl : (backTo pos (starEach es X.env)).any (·.1) = false := by rfl) : PE X (.Call (.Name x p) (e :: es) [] pos) (tCall sp [] E0 t) := by
  obtain ⟨f, fd, F, hm, hk, hb⟩ := D.ex
  exact pe_call F hr hg hm hk hb .nil pass0 ha hdb he hpl
end

section
variable {K : PySem.W.Frag} {σ : L2.St} {H H' : Hp} {ta tb te tx : TE} {t u : TT} {x y z v : V} {r : R2}
/-! ### what evaluates to what, more of it -/
theorem ev_abs {i : Int} (h : EvA (tCons te tNil) σ H [.int i]) : Ev (tCB (fun xs H Q => ∃ i, xs = [.int i] ∧ Q (.int (if i < 0 then -i else i)) H) (tCons te tNil)) σ H (.int (if i < 0 then -i else i)) :=
  ev_cb h fun H1 _ _ q => ⟨i, rfl, q H1 (Ex.refl H1)⟩
theorem ev_int {i : Int} {ta : TA} (h : EvA ta σ H [.int i]) : Ev (tCB (fun xs H Q => (∃ i, xs = [.int i] ∧ Q (.int i) H) ∨ ∃ k, xs = [.bl k] ∧ Q (.int (if k then 1 else 0)) H) ta) σ H (.int i) :=
  ev_cb h fun H1 _ _ q => Or.inl ⟨i, rfl, q H1 (Ex.refl H1)⟩
theorem ev_intB {k : Bool} {ta : TA} (h : EvA ta σ H [.bl k]) : Ev (tCB (fun xs H Q => (∃ i, xs = [.int i] ∧ Q (.int i) H) ∨ ∃ k, xs = [.bl k] ∧ Q (.int (if k then 1 else 0)) H) ta) σ H (.int (if k then 1 else 0)) :=
  ev_cb h fun H1 _ _ q => Or.inr ⟨k, rfl, q H1 (Ex.refl H1)⟩
theorem ev_ite {b : Bool} {v1 v2 : V} (h : EvT t σ H b) (h1 : Ev ta σ H v1) (h2 : Ev tb σ H v2) : Ev (tIf t ta tb) σ H (if b then v1 else v2) := by
  cases b with
  | true => exact ev_if h (fun _ => h1) fun e => Bool.noConfusion e
  | false => exact ev_if h (fun e => Bool.noConfusion e) fun _ => h2
theorem rv_chain {r r' : R2} {tc : TE} {b c : Bool} (ha : Ev ta σ H x) (hb : Ev tb σ H y) (hr : RV r x y H (.bl b)) (hc : b = true → Ev tc σ H z) (hr' : b = true → RV r' y z H (.bl c)) : Ev (tChain r r' ta tb tc) σ H (.bl (b && c)) := fun H1 e Q q =>
  ha H1 e _ fun H2 e2 => hb H2 (e.trans e2) _ fun H3 e3 => hr H3 ((e.trans e2).trans e3) _ fun H4 e4 => ⟨b, rfl, by
    cases b with
    | true =>
      have e5 := ((e.trans e2).trans e3).trans e4
      exact iteT (hc rfl H4 e5 _ fun H5 e6 => hr' rfl H5 (e5.trans e6) Q fun H6 e7 => q H6 ((((e2.trans e3).trans e4).trans e6).trans e7))
    | false => exact iteF (q H4 ((e2.trans e3).trans e4))⟩
/-- tuple(..) of a list or a tuple -/
def rTupS (K : PySem.W.Frag) : List V → Hp → VK → Prop := fun xs H Q => ∃ p ys, xs = [.ref p] ∧ ((SqL K H p ys ∧ ∀ l, H l = none → Q (.ref l) (upd H l (.tup ys))) ∨ (SqT K H p ys ∧ Q (.ref p) H))
def rTupT (K : PySem.W.Frag) : List V → Hp → VK → Prop := fun xs H Q => ∃ a ys, xs = [.ref a] ∧ SqT K H a ys ∧ Q (.ref a) H
/-- a list at an address evaluates to itself; a new list as a value somewhere -/
theorem EvL.any {xs : List V} (h : EvL te σ H xs) : ∀ H1, Ex H H1 → ∀ Q : VK, (∀ p H2, H2 p = some (.lst xs) → Ex H1 H2 → Q (.ref p) H2) → te σ H1 Q := fun H1 e Q q => h H1 e Q fun p H2 _ e2 h2 => q p H2 h2 e2
end
/-! ### new lists of which only a property is known -/
section
variable {K : PySem.W.Frag} {σ : L2.St} {H H' : Hp} {ta tb te tx tl : TE} {t u : TT} {x y z v : V} {r : R2} {D : Ends} {tu tw tz : TS} {g : TG}
def EvP (te : TE) (σ : L2.St) (H : Hp) (P : List V → Prop) : Prop := ∀ H1, Ex H H1 → ∀ Q : VK, (∀ xs p H2, P xs → H1 p = none → Ex H1 H2 → H2 p = some (.lst xs) → Q (.ref p) H2) → te σ H1 Q
def SpP (sp : Sp) (vs : List V) (H : Hp) (P : List V → Prop) : Prop := ∀ H1, Ex H H1 → ∀ Q : VK, (∀ xs p H2, P xs → H1 p = none → Ex H1 H2 → H2 p = some (.lst xs) → Q (.ref p) H2) → ∀ E : XK, sp vs H1 Q E
theorem evP_call {sp : Sp} {dvs vs : List V} {E : XK} {ta : TA} {P : List V → Prop} (h : EvA ta σ H vs) (hs : SpP sp (vs ++ dvs) H P) : EvP (tCall sp dvs E ta) σ H P := fun H1 e Q q =>
  h H1 e _ fun H2 e2 => hs H2 (e.trans e2) Q (fun xs p H3 hP hp e3 h3 => q xs p H3 hP (fresh_back e2 hp) (e2.trans e3) h3) E
theorem q_asgP {i : Nat} {P : List V → Prop} (h : EvP te σ H P) (k : ∀ xs p H1, P xs → H p = none → Ex H H1 → H1 p = some (.lst xs) → tz D (σ.set i (some (.ref p))) H1) : tSeq (tAsg te (gName i)) tz D σ H :=
  h H (Ex.refl H) _ fun xs p H1 hP hp e h1 => k xs p H1 hP hp e h1
theorem s_forP {P : List V → Prop} (h : EvP tl σ H P) (Pv : List V → Addr → Nat → L2.St → Hp → Prop) (h0 : ∀ xs p H1, P xs → H p = none → Ex H H1 → H1 p = some (.lst xs) → Pv xs p 0 σ H1)
    (hl : ∀ xs p i σ' H', i ≤ xs.length → Pv xs p i σ' H' → SqL K H' p xs) (hs : ∀ xs p i x σ' H', xs[i]? = some x → Pv xs p i σ' H' → g x σ' H' fun σ2 H2 => tu { D with nx := Pv xs p (i + 1), ct := Pv xs p (i + 1), bk := D.nx } σ2 H2)
    (hd : ∀ xs p σ' H', Pv xs p xs.length σ' H' → D.nx σ' H') : tFor (iList K tl) g tu D σ H :=
  h H (Ex.refl H) _ fun xs p H1 hP hp e h1 => ⟨p, rfl, ⟨xs, sq_of h1⟩, for_list (Pv xs p) (h0 xs p H1 hP hp e h1) (hl xs p) (hs xs p) (hd xs p)⟩
theorem cut_take (xs : List V) (k : Nat) : cutV xs none (some (k : Int)) = xs.take k := by
  unfold cutV
  rw [HT.sIx_none, HT.sIx_nat, List.drop_zero, Nat.sub_zero]
  by_cases h : k ≤ xs.length
  · rw [Nat.min_eq_left h]
  · rw [Nat.min_eq_right (by omega), List.take_of_length_le (Nat.le_refl _), List.take_of_length_le (by omega)]
theorem ev_max1 {i j : Int} {ta : TA} (h : EvA ta σ H [.int i, .int j]) : Ev (tCB (fun xs H Q => ∃ i j, xs = [.int i, .int j] ∧ Q (.int (if j > i then j else i)) H) ta) σ H (.int (if j > i then j else i)) :=
  ev_cb h fun H1 _ _ q => ⟨i, j, rfl, q H1 (Ex.refl H1)⟩
theorem ev_lenL {p : Addr} {xs : List V} (ha : Ev ta σ H (.ref p)) (h : SqL K H p xs) : Ev (tCB (rLenS K) (tCons ta tNil)) σ H (.int (xs.length : Int)) := fun H1 e Q q =>
  ha H1 e _ fun H2 e2 => ⟨p, xs, rfl, Or.inl (ex_l (e.trans e2) h), q H2 e2⟩
theorem int_at {ns : List Int} {i : Nat} {x : V} (h : (ns.map V.int)[i]? = some x) : ∃ n, ns[i]? = some n ∧ x = .int n := by
  rw [List.getElem?_map] at h
  cases e : ns[i]? with
  | none => rw [e] at h; cases h
  | some n => rw [e] at h; exact ⟨n, rfl, (Option.some.inj h).symm⟩
end
/-! ### data that are compared as wholes -/
def Lay (d : PyData) (n : Nat) : Prop := d.canLay0 = true ∧ d.depth ≤ n
def LayA (ds : List PyData) (n : Nat) : Prop := PyData.canLayAll0 ds = true ∧ PyData.depthAll ds ≤ n
theorem Lay.int (i : Int) {n : Nat} : Lay (.int i) n := ⟨by simp [PyData.canLay0], by simp [PyData.depth]⟩
theorem Lay.bool (b : Bool) {n : Nat} : Lay (.bool b) n := ⟨by simp [PyData.canLay0], by simp [PyData.depth]⟩
theorem Lay.str {x : Str} {n : Nat} (h : PyData.strOk x = true) : Lay (.str x) n := ⟨by simp [PyData.canLay0, h], by simp [PyData.depth]⟩
theorem Lay.none {n : Nat} : Lay .none n := ⟨by simp [PyData.canLay0], by simp [PyData.depth]⟩
theorem Lay.list {ds : List PyData} {n : Nat} (h : LayA ds n) : Lay (.list ds) (n + 1) := ⟨by simpa [PyData.canLay0] using h.1, by have := h.2; simp only [PyData.depth]; omega⟩
theorem Lay.tuple {ds : List PyData} {n : Nat} (h : LayA ds n) : Lay (.tuple ds) (n + 1) := ⟨by simpa [PyData.canLay0] using h.1, by have := h.2; simp only [PyData.depth]; omega⟩
theorem LayA.nil {n : Nat} : LayA [] n := ⟨by simp [PyData.canLayAll0], by simp [PyData.depthAll]⟩
theorem LayA.cons {d : PyData} {ds : List PyData} {n : Nat} (h : Lay d n) (h2 : LayA ds n) : LayA (d :: ds) n :=
  ⟨by simp [PyData.canLayAll0, h.1, h2.1], by have a := h.2; have b := h2.2; simp only [PyData.depthAll]; omega⟩
theorem LayA.map {α : Type} {f : α → PyData} {n : Nat} : ∀ {xs : List α}, (∀ x ∈ xs, Lay (f x) n) → LayA (xs.map f) n
  | [], _ => LayA.nil
  | _ :: xs, h => LayA.cons (h _ List.mem_cons_self) (LayA.map fun x hx => h x (List.mem_cons_of_mem _ hx))
theorem Lay.sh {d : PyData} {n : Nat} (h : Lay d n) (hn : n ≤ 64 := by decide) : SeqAt.shaped d = true := by
  unfold SeqAt.shaped
  rw [h.1, decide_eq_true (Nat.le_trans h.2 hn)]
  rfl
section
variable {K : PySem.W.Frag} {H H' : Hp}
mutual
theorem dp_ex (e : Ex H H') : ∀ {v : V} {d : PyData}, Dp K H v d → Dp K H' v d
  | _, _, .non => .non
  | _, _, .bl b => .bl b
  | _, _, .int i => .int i
  | _, _, .str x => .str x
  | _, _, .lst h a => .lst (ex_l e h) (dpa_ex e a)
  | _, _, .tup h a => .tup (ex_t e h) (dpa_ex e a)
theorem dpa_ex (e : Ex H H') : ∀ {vs : List V} {ds : List PyData}, DpAll K H vs ds → DpAll K H' vs ds
  | _, _, .nil => .nil
  | _, _, .cons h t => .cons (dp_ex e h) (dpa_ex e t)
end
theorem dpa_ints : ∀ ns : List Int, DpAll K H (ns.map V.int) (ns.map PyData.int)
  | [] => .nil
  | n :: r => .cons (.int n) (dpa_ints r)
theorem dp_ints {a : Addr} {ns : List Int} (h : SqL K H a (ns.map V.int)) : Dp K H (.ref a) (.list (ns.map PyData.int)) := .lst h (dpa_ints ns)
theorem dp_intsT {a : Addr} {ns : List Int} (h : SqT K H a (ns.map V.int)) : Dp K H (.ref a) (.tuple (ns.map PyData.int)) := .tup h (dpa_ints ns)
theorem lay_ints (ns : List Int) {n : Nat} : Lay (.list (ns.map PyData.int)) (n + 1) := .list (.map fun _ _ => .int _)
theorem lay_intsT (ns : List Int) {n : Nat} : Lay (.tuple (ns.map PyData.int)) (n + 1) := .tuple (.map fun _ _ => .int _)
theorem rv_neD {x y : V} {d e : PyData} (hx : Dp K H x d) (hy : Dp K H y e) (sd : SeqAt.shaped d = true) (se : SeqAt.shaped e = true) : RV (rNeD K) x y H (.bl (!PyData.eqv d e)) := fun H1 e1 Q q => ⟨d, e, dp_ex e1 hx, dp_ex e1 hy, sd, se, q H1 (Ex.refl H1)⟩
theorem rv_eqD {x y : V} {d e : PyData} (hx : Dp K H x d) (hy : Dp K H y e) (sd : SeqAt.shaped d = true) (se : SeqAt.shaped e = true) : RV (rEqD K) x y H (.bl (PyData.eqv d e)) := fun H1 e1 Q q => ⟨d, e, dp_ex e1 hx, dp_ex e1 hy, sd, se, q H1 (Ex.refl H1)⟩
theorem eqv_self {d : PyData} (h : SeqAt.shaped d = true) : PyData.eqv d d = true := SeqAt.eqv_refl d (SeqAt.canLay_of_shaped h)
/-- the same data: != is False, == is True -/
theorem rv_neS {x y : V} {d : PyData} (hx : Dp K H x d) (hy : Dp K H y d) (sd : SeqAt.shaped d = true) : RV (rNeD K) x y H (.bl false) := fun H1 e1 Q q => ⟨d, d, dp_ex e1 hx, dp_ex e1 hy, sd, sd, by rw [eqv_self sd]; exact q H1 (Ex.refl H1)⟩
theorem rv_eqS {x y : V} {d : PyData} (hx : Dp K H x d) (hy : Dp K H y d) (sd : SeqAt.shaped d = true) : RV (rEqD K) x y H (.bl true) := fun H1 e1 Q q => ⟨d, d, dp_ex e1 hx, dp_ex e1 hy, sd, sd, by rw [eqv_self sd]; exact q H1 (Ex.refl H1)⟩
end
/-! ### lists of ints: joined, filtered, looked into -/
section
variable {K : PySem.W.Frag} {σ : L2.St} {H H' : Hp} {ta tb te tx tl : TE} {t u : TT} {x y z v : V} {r : R2}
theorem el_cat {xs ys : List V} (ha : EvL ta σ H xs) (hb : EvL tb σ H ys) (hz : xs.length + ys.length ≤ 100000) : EvL (tOp rCat ta tb) σ H (xs ++ ys) := fun H1 e Q q =>
  ha H1 e _ fun p H2 np e2 hp => hb H2 (e.trans e2) _ fun p' H3 np' e3 hp' => ⟨p, p', xs, ys, rfl, rfl, e3 _ _ hp, hp', sz_of hz, fun l nl => q l _ (fresh_back (e2.trans e3) nl) ((e2.trans e3).trans (Ex.new nl)) upd_same⟩
theorem el_is {xs ys : List V} (h : EvL te σ H xs) (e : xs = ys) : EvL te σ H ys := by
  rw [← e]
  exact h
theorem inV_ints (i : Int) : ∀ ns : List Int, inV (.int i) (ns.map V.int) = decide (i ∈ ns)
  | [] => rfl
  | n :: r => by
    show ((n == i) || inV (.int i) (r.map V.int)) = decide (i ∈ n :: r)
    rw [inV_ints i r]
    by_cases h : n = i
    · subst h
      simp
    · have h2 : ¬ i = n := fun e => h e.symm
      simp [h, h2]
theorem flat_ints : ∀ ns : List Int, (ns.map V.int).all flatV = true
  | [] => rfl
  | n :: r => flat_ints r
theorem rv_inI {neg : Bool} {p : Addr} {i : Int} {ns : List Int} (h : SqL K H p (ns.map V.int)) : RV (rIn K neg) (.int i) (.ref p) H (.bl (if neg then !decide (i ∈ ns) else decide (i ∈ ns))) := by
  rw [← inV_ints]
  exact rv_inL h rfl (flat_ints ns)
theorem rv_isI {p : Addr} {i : Int} {ns : List Int} (h : SqL K H p (ns.map V.int)) : RV (rIn K false) (.int i) (.ref p) H (.bl (decide (i ∈ ns))) := rv_inI (neg := false) h
theorem rv_niI {p : Addr} {i : Int} {ns : List Int} (h : SqL K H p (ns.map V.int)) : RV (rIn K true) (.int i) (.ref p) H (.bl (!decide (i ∈ ns))) := rv_inI (neg := true) h
theorem given_ints (n : Nat) (f : Nat → Bool) (g : Nat → Int) : given n f (fun i => V.int (g i)) = (((List.range n).filter f).map g).map V.int := by
  unfold given
  rw [List.map_map]
  rfl
theorem given_eq {n : Nat} {f f' : Nat → Bool} {g g' : Nat → V} (hf : ∀ i, i < n → f i = f' i) (hg : ∀ i, i < n → f' i = true → g i = g' i) : given n f g = given n f' g' := by
  unfold given
  rw [List.filter_congr fun i hi => hf i (List.mem_range.mp hi)]
  exact List.map_congr_left fun i hi => hg i (List.mem_range.mp (List.mem_filter.mp hi).1) (List.mem_filter.mp hi).2
theorem ev_isL {p : Addr} {xs : List V} (ha : Ev ta σ H (.ref p)) (h : H p = some (.lst xs)) : Ev (tCB (rIsi K) (tCons ta (tCons (tC (.ty "list")) tNil))) σ H (.bl true) :=
  ev_cb (ea_cons ha (ea_cons ev_c ea_nil)) fun H1 e _ q => ⟨.ref p, .ty "list", .type "list", .type "list", true, rfl, .ty _, .base (.lst (e _ _ h)), kit_ty (by decide +kernel), q H1 (Ex.refl H1)⟩
theorem ev_allL {bs : List Bool} {ta : TE} (ha : EvL ta σ H (bs.map V.bl)) : Ev (tCB (rAll K) (tCons ta tNil)) σ H (.bl (bs.all id)) := fun H1 e Q q =>
  ha H1 e _ fun p H2 _ e2 hp => ⟨p, bs, rfl, sq_of hp, q H2 e2⟩
theorem ev_sumL {ns : List Int} {ta : TE} (ha : EvL ta σ H (ns.map V.int)) : Ev (tCB (rSum K) (tCons ta tNil)) σ H (.int ns.sum) := fun H1 e Q q =>
  ha H1 e _ fun p H2 _ e2 hp => ⟨p, ns, rfl, sq_of hp, q H2 e2⟩
/-- len of a new list -/
theorem ev_lenN2 {xs : List V} {ta : TE} (ha : EvL ta σ H xs) : Ev (tCB (rLenS K) (tCons ta tNil)) σ H (.int (xs.length : Int)) := fun H1 e Q q =>
  ha H1 e _ fun p H2 _ e2 h2 => ⟨p, xs, rfl, Or.inl (sq_of h2), q H2 e2⟩
/-- an item of a list that is made on the spot -/
theorem ev_ixN {xs : List V} {i : Int} (ha : EvL ta σ H xs) (hb : Ev tb σ H (.int i)) (hx : atI xs i = some v) : Ev (tOp (rIxL K) ta tb) σ H v :=
  ev_opL1 ha (fun H1 e => hb.mono e) fun p H1 hp _ => rv_ixL (sq_of hp) hx
theorem ev_ixI {p : Addr} {xs : List V} {i : Int} (ha : Ev ta σ H (.ref p)) (hb : Ev tb σ H (.int i)) (h : SqL K H p xs) (hx : atI xs i = some v) : Ev (tOp (rIxL K) ta tb) σ H v := ev_op ha hb (rv_ixL h hx)
end
/-! ### values of which only a property is known -/
section
variable {K : PySem.W.Frag} {σ : L2.St} {H H' : Hp} {ta tb te tx tl : TE} {t u : TT} {x y z v : V} {r : R2} {D : Ends} {tu tw tz : TS} {P : V → Hp → Prop}
def EvG (te : TE) (σ : L2.St) (H : Hp) (P : V → Hp → Prop) : Prop := ∀ H1, Ex H H1 → ∀ Q : VK, (∀ v H2, Ex H1 H2 → P v H2 → Q v H2) → te σ H1 Q
theorem q_asgG {i : Nat} (h : EvG te σ H P) (k : ∀ v H1, Ex H H1 → P v H1 → tz D (σ.set i (some v)) H1) : tSeq (tAsg te (gName i)) tz D σ H := h H (Ex.refl H) _ fun v H1 e p => k v H1 e p
theorem s_asgG {i : Nat} (h : EvG te σ H P) (k : ∀ v H1, Ex H H1 → P v H1 → D.nx (σ.set i (some v)) H1) : tAsg te (gName i) D σ H := h H (Ex.refl H) _ fun v H1 e p => k v H1 e p
theorem s_retG (h : EvG te σ H P) (k : ∀ v H1, Ex H H1 → P v H1 → D.rt v H1) : tRet te D σ H := h H (Ex.refl H) _ fun v H1 e p => k v H1 e p
theorem EvG.imp {P' : V → Hp → Prop} (h : EvG te σ H P) (i : ∀ v H1, Ex H H1 → P v H1 → P' v H1) : EvG te σ H P' := fun H1 e Q q => h H1 e Q fun v H2 e2 p => q v H2 e2 (i v H2 (e.trans e2) p)
theorem EvL.g {xs : List V} (h : EvL te σ H xs) : EvG te σ H (fun v H' => ∃ p, v = .ref p ∧ H p = none ∧ H' p = some (.lst xs)) := fun H1 e Q q => h H1 e Q fun p H2 np e2 hp => q _ H2 e2 ⟨p, rfl, fresh_back e np, hp⟩
theorem EvU.g {xs : List V} (h : EvU te σ H xs) : EvG te σ H (fun v H' => ∃ p, v = .ref p ∧ H p = none ∧ H' p = some (.tup xs)) := fun H1 e Q q => h H1 e Q fun p H2 np e2 hp => q _ H2 e2 ⟨p, rfl, fresh_back e np, hp⟩
theorem Ev.g (h : Ev te σ H v) : EvG te σ H (fun v' _ => v' = v) := fun H1 e Q q => h H1 e Q fun H2 e2 => q _ H2 e2 rfl
/-- a list, a tuple that is made of two values -/
theorem evG_lst2 {P1 P2 : V → Hp → Prop} (h1 : EvG ta σ H P1) (m1 : ∀ v H1 H2, Ex H1 H2 → P1 v H1 → P1 v H2) (h2 : ∀ v H1, Ex H H1 → P1 v H1 → EvG tb σ H1 P2) (m2 : ∀ v H1 H2, Ex H1 H2 → P2 v H1 → P2 v H2) :
    EvG (tLst (tCons ta (tCons tb tNil))) σ H (fun v H' => ∃ p a b, v = .ref p ∧ H p = none ∧ H' p = some (.lst [a, b]) ∧ P1 a H' ∧ P2 b H') := fun H1 e Q q =>
  h1 H1 e _ fun a H2 e2 p1 => h2 a H2 (e.trans e2) p1 H2 (Ex.refl _) _ fun b H3 e3 p2 => ⟨(by decide : 2 ≤ sizeLine), fun p np =>
    q _ _ ((e2.trans e3).trans (Ex.new np)) ⟨p, a, b, rfl, fresh_back ((e.trans e2).trans e3) np, upd_same, m1 _ _ _ (e3.trans (Ex.new np)) p1, m2 _ _ _ (Ex.new np) p2⟩⟩
/-- data, told as a whole, of a value -/
theorem opG {P1 P2 : V → Hp → Prop} (h1 : EvG ta σ H P1) (m1 : ∀ v H1 H2, Ex H1 H2 → P1 v H1 → P1 v H2) (h2 : EvG tb σ H P2) (hr : ∀ a b H1, Ex H H1 → P1 a H1 → P2 b H1 → RV r a b H1 z) : Ev (tOp r ta tb) σ H z := fun H1 e Q q =>
  h1 H1 e _ fun a H2 e2 p1 => h2 H2 (e.trans e2) _ fun b H3 e3 p2 => hr a b H3 ((e.trans e2).trans e3) (m1 _ _ _ e3 p1) p2 H3 (Ex.refl _) Q fun H4 e4 => q H4 ((e2.trans e3).trans e4)
end
end My
set_option Elab.async false
set_option linter.all false
set_option maxRecDepth 100000
set_option maxHeartbeats 400000

namespace My_farword_k10_places_of_words
open PySem PySem.Spec PyProof.Rows L2 Evl My
/-- the values' evaluation, told by the term: the value is found on the way -/
local macro_rules | `(tactic| walk_at "rv") => `(tactic| first
  | exact rv_I0
  | exact ru_neg
  | exact rv_eq rfl
  | exact rv_ne rfl
  | (refine' rv_I ?hc; case hc => first | (show (0 : Int) < _; omega) | (unfold CDiv; omega) | (unfold CPow; omega) | (unfold CMul; omega) | omega | decide))
local macro_rules | `(tactic| walk_at "ea") => `(tactic| first
  | exact ea_nil
  | (refine' ea_cons ?eah ?eat; (case eah => walk_at "ev"); (case eat => walk_at "ea")))
local macro_rules | `(tactic| walk_at "et") => `(tactic| first
  | (refine' et_test ?h; case h => walk_at "ev")
  | (refine' et_B ?h; case h => walk_at "ev")
  | (refine' et_not ?h; case h => walk_at "et"))
local macro_rules | `(tactic| walk_at "ev") => `(tactic| first
  | exact ev_c
  | exact ev_var rfl
  | (refine' ev_lenL ?h ?hl; (case h => walk_at "ev"); (case hl => walk_at "sq"))
  | (refine' ev_op ?eva ?evb ?evr; (case eva => walk_at "ev"); (case evb => walk_at "ev"); (case evr => walk_at "rv"))
  | (refine' ev_un ?eva ?evr; (case eva => walk_at "ev"); (case evr => walk_at "rv"))
  | (refine' ev_abs ?h; case h => walk_at "ea")
  | (refine' ev_int ?h; case h => walk_at "ea")
  | (refine' ev_intB ?h; case h => walk_at "ea")
  | (refine' ev_max1 ?h; case h => walk_at "ea")
  | (refine' ev_call ?h ?hs; (case h => walk_at "ea"); (case hs => walk_at "sp"))
  | (refine' ev_notV ?h; case h => walk_at "ev"))
local macro_rules | `(tactic| walk_at "sq") => `(tactic| first
  | assumption
  | (refine sq_of ?hq; case hq => assumption))

/-! ### the text -/
def topS (i : Nat) : Stmt := PySem.Challenge.pw_farword_k10_places_of_words.main.body.getD i (.Pass ⟨0, 0, 0, 0⟩)
abbrev s_places_of : Stmt := topS 1
abbrev N_places_of : List Str := ["bits", "turns"]
abbrev p_places_of : List Str := ["bits"]
theorem sc_places_of : FnScope N_places_of p_places_of (defScope s_places_of) := ⟨rfl, rfl, rfl, by decide +kernel, rfl, by decide +kernel, by decide +kernel⟩
abbrev s_check_places : Stmt := topS 2
abbrev N_check_places : List Str := ["bits", "place"]
abbrev p_check_places : List Str := ["bits"]
theorem sc_check_places : FnScope N_check_places p_check_places (defScope s_check_places) := ⟨rfl, rfl, rfl, by decide +kernel, rfl, by decide +kernel, by decide +kernel⟩
abbrev s_data_places : Stmt := topS 3
abbrev N_data_places : List Str := ["bits", "place"]
abbrev p_data_places : List Str := ["bits"]
theorem sc_data_places : FnScope N_data_places p_data_places (defScope s_data_places) := ⟨rfl, rfl, rfl, by decide +kernel, rfl, by decide +kernel, by decide +kernel⟩
abbrev s__law_row : Stmt := topS 5
abbrev N__law_row : List Str := ["cell", "many", "row", "rest", "state", "k"]
abbrev p__law_row : List Str := ["cell", "many"]
theorem sc__law_row : FnScope N__law_row p__law_row (defScope s__law_row) := ⟨rfl, rfl, rfl, by decide +kernel, rfl, by decide +kernel, by decide +kernel⟩
abbrev s__law_numbers : Stmt := topS 6
abbrev N__law_numbers : List Str := ["script", "many", "cells", "each", "numbers", "cell", "number"]
abbrev p__law_numbers : List Str := ["script", "many"]
theorem sc__law_numbers : FnScope N__law_numbers p__law_numbers (defScope s__law_numbers) := ⟨rfl, rfl, rfl, by decide +kernel, rfl, by decide +kernel, by decide +kernel⟩
abbrev s__law_checks : Stmt := topS 7
abbrev N__law_checks : List Str := ["bits", "r", "turn", "k"]
abbrev p__law_checks : List Str := ["bits"]
theorem sc__law_checks : FnScope N__law_checks p__law_checks (defScope s__law_checks) := ⟨rfl, rfl, rfl, by decide +kernel, rfl, by decide +kernel, by decide +kernel⟩
abbrev s__law_places : Stmt := topS 8
abbrev N__law_places : List Str := ["bits"]
abbrev p__law_places : List Str := ["bits"]
theorem sc__law_places : FnScope N__law_places p__law_places (defScope s__law_places) := ⟨rfl, rfl, rfl, by decide +kernel, rfl, by decide +kernel, by decide +kernel⟩
abbrev s_law : Stmt := topS 9
abbrev N_law : List Str := ["script", "numbers", "bits", "checks", "many", "turn", "told", "place", "one"]
abbrev p_law : List Str := ["script"]
theorem sc_law : FnScope N_law p_law (defScope s_law) := ⟨rfl, rfl, rfl, by decide +kernel, rfl, by decide +kernel, by decide +kernel⟩
/-! ### the drawn numbers: all that is wanted of them is how many there are, and that each is from 0 to 1008 -/
def Small (ns : List Int) : Prop := ∀ n ∈ ns, 0 ≤ n ∧ n < 1009
theorem Small.app {ns : List Int} {n : Int} (h : Small ns) (h0 : 0 ≤ n) (h1 : n < 1009) : Small (ns ++ [n]) := fun z hz => by
  rcases List.mem_append.mp hz with hz | hz
  · exact h z hz
  · rw [List.mem_singleton.mp hz]
    exact ⟨h0, h1⟩
def spRow : Sp := fun vs H Q _ => ∃ (c m : Int), vs = [.int c, .int m] ∧ 0 ≤ m ∧ m ≤ 1000 ∧ ∀ (ns : List Int) p H', (ns.length : Int) = m → Small ns → H p = none → Ex H H' → H' p = some (.lst (ns.map V.int)) → Q (.ref p) H'
def spNumbers (K : PySem.W.Frag) : Sp := fun vs H Q _ => ∃ (a : Addr) (xs : List Int) (m : Int), vs = [.ref a, .int m] ∧ SqL K H a (xs.map V.int) ∧ xs.length ≤ 63 ∧ 0 ≤ m ∧ m ≤ 900 ∧
  ∀ (ns : List Int) p H', (ns.length : Int) = m → Small ns → H p = none → Ex H H' → H' p = some (.lst (ns.map V.int)) → Q (.ref p) H'
section
variable {P : Program} {w : World} {K : PySem.W.Frag} {mg : Str → Option Value} {base : Heap}
theorem ok_row (A : At K mg "_law_row" s__law_row) (mz_abs : mg "abs" = none) (mz_int : mg "int" = none) (mz_range : mg "range" = none) : Dfn P w K mg base 1 "_law_row" p__law_row spRow := by
  refine dfn_ok A sc__law_row (fun _ _ _ _ _ _ us hl => match us, hl with | [_, _], _ => rfl) (fun vs H Q E h => ?_) (fun f cdv A outer s H vs Q E hr h => ?_)
  · obtain ⟨c, m, rfl, _⟩ := h
    rfl
  · obtain ⟨c, m, rfl, hm, hm2, q⟩ := h
    refine ⟨_, (pss_cons (ps_set (i := 2) sc__law_row.nd rfl (Or.inl rfl) (pe_lst pa_nil))
  (pss_cons (ps_set (i := 3) sc__law_row.nd rfl (Or.inl rfl) pe_int)
  (pss_cons (ps_if (pt_cmpR op_ge (pe_callB call_abs (by rfl) mz_abs (by decide +kernel) (pa_cons (pv 0) pa_nil)) (pe_op op_pow pe_int pe_int) (by first | exact nomark _ | rfl))
    (pss_one (ps_set (i := 3) sc__law_row.nd rfl (Or.inl rfl) (pe_callB call_abs (by rfl) mz_abs (by decide +kernel) (pa_cons (pv 0) pa_nil))))
    pss_nil)
  (pss_cons (ps_set (i := 4) sc__law_row.nd rfl (Or.inl rfl) (pe_op op_mod (pe_callTy call_int1 (by rfl) mz_int (by decide +kernel) (pa_cons (pe_callB call_abs (by rfl) mz_abs (by decide +kernel) (pa_cons (pv 0) pa_nil)) pa_nil)) pe_int))
  (pss_cons (ps_for PassesOwn.never rfl (pi_range1 (by rfl) mz_range (pa_cons (pv 1) pa_nil)) (pg_name (i := 5) sc__law_row.nd rfl (Or.inl rfl))
    (pss_cons (ps_set (i := 4) sc__law_row.nd rfl (Or.inl rfl) (pe_op op_mod (pe_callTy call_int1 (by rfl) mz_int (by decide +kernel) (pa_cons (pe_op op_add (pe_op op_mul (pe_op op_add (pv 4) pe_int) pe_int) (pe_op op_mul pe_int (pv 5))) pa_nil)) pe_int))
  (pss_one (ps_if (pt_cmpR op_gt (pv 3) pe_int (by first | exact nomark _ | rfl))
    (pss_cons (ps_expr (show PE _ _ (tBM K "list" _ _ _) from pe_bm PySem.F.plainAttrs_list PySem.F.slot_list_append PySem.F.type_list_append mt_append (pv 2) (pa_cons (pe_op op_mod (pe_callTy call_int1 (by rfl) mz_int (by decide +kernel) (pa_cons (pv 3) pa_nil)) pe_int) pa_nil)))
  (pss_one (ps_set (i := 3) sc__law_row.nd rfl (Or.inl rfl) (pe_op op_fdiv (pv 3) pe_int))))
    (pss_one (ps_expr (show PE _ _ (tBM K "list" _ _ _) from pe_bm PySem.F.plainAttrs_list PySem.F.slot_list_append PySem.F.type_list_append mt_append (pv 2) (pa_cons (pe_op op_mod (pe_callTy call_int1 (by rfl) mz_int (by decide +kernel) (pa_cons (pe_op op_fdiv (pv 4) pe_int) pa_nil)) pe_int) pa_nil))))))))
  (pss_one (ps_ret (pv 2)))))))), ?_⟩
    refine q_asgL (xs := []) (by refine el_lst ea_nil (by decide)) fun p H1 np e1 h1 => ?_
    refine' q_asg (v := ?v2) ?e2 fun H2 e2 => ?_
    case e2 => walk_at "ev"
    refine' q_ifAsg (b := decide ((10:Int) ^ (18:Int).toNat ≤ if c < 0 then -c else c)) (v := .int (if (10:Int) ^ (18:Int).toNat ≤ (if c < 0 then -c else c) then (if c < 0 then -c else c) else 0)) ?b3 ?t3 ?f3 fun H3 e3 => ?_
    case b3 => walk_at "et"
    case t3 =>
      intro hb
      rw [if_pos (of_decide_eq_true hb)]
      walk_at "ev"
    case f3 =>
      intro hb
      rw [if_neg (of_decide_eq_false hb)]
      rfl
    generalize hr0 : (if (10:Int) ^ (18:Int).toNat ≤ (if c < 0 then -c else c) then (if c < 0 then -c else c) else 0) = r0
    have hr00 : 0 ≤ r0 := by
      rw [← hr0]
      split
      · split <;> omega
      · omega
    refine' q_asg (v := ?v4) ?e4 fun H4 e4 => ?_
    case e4 => walk_at "ev"
    have hs0 : 0 ≤ (if c < 0 then -c else c) % 2147483647 ∧ (if c < 0 then -c else c) % 2147483647 < 2147483647 := ⟨Int.emod_nonneg _ (by decide), Int.emod_lt_of_pos _ (by decide)⟩
    generalize (if c < 0 then -c else c) % 2147483647 = st0 at hs0
    refine q_forR1 (n := m) (by walk_at "ea") ⟨hm, by omega⟩ (fun i σ' H' => ∃ (st r : Int) (k : Option V) (ns : List Int), σ' = [some (.int c), some (.int m), some (.ref p), some (.int r), some (.int st), k] ∧ 0 ≤ st ∧ st < 2147483647 ∧ ns.length = i ∧ Small ns ∧ Ex H H' ∧ H' p = some (.lst (ns.map V.int))) ?h0 ?hs ?hd
    case h0 => exact fun H5 e5 => ⟨st0, r0, none, [], rfl, hs0.1, hs0.2, rfl, (fun _ z => nomatch z), (((e1.trans e2).trans e3).trans e4).trans e5, e5 _ _ (e4 _ _ (e3 _ _ (e2 _ _ h1)))⟩
    case hs =>
      rintro i σ' H' hi ⟨st, r, k, ns, rfl, s0, s1, hl, hS, eH, hp⟩
      refine' q_asg (v := ?v5) ?e5 fun H5 e5 => ?_
      case e5 => walk_at "ev"
      have hs2 : 0 ≤ ((st + 1) * 48271 + 69621 * (i : Int)) % 2147483647 ∧ ((st + 1) * 48271 + 69621 * (i : Int)) % 2147483647 < 2147483647 := ⟨Int.emod_nonneg _ (by decide), Int.emod_lt_of_pos _ (by decide)⟩
      generalize ((st + 1) * 48271 + 69621 * (i : Int)) % 2147483647 = st2 at hs2
      have hp5 := e5 _ _ hp
      have last : ∀ (x y : Int) H6, Ex H5 H6 → 0 ≤ x → x < 1009 → ∃ (st r : Int) (k : Option V) (ns' : List Int), ([some (.int c), some (.int m), some (.ref p), some (.int y), some (.int st2), some (.int (i : Int))] : L2.St) = [some (.int c), some (.int m), some (.ref p), some (.int r), some (.int st), k] ∧ 0 ≤ st ∧ st < 2147483647 ∧ ns'.length = i + 1 ∧ Small ns' ∧ Ex H (upd H6 p (.lst (ns.map V.int ++ [.int x]))) ∧ (upd H6 p (.lst (ns.map V.int ++ [.int x]))) p = some (.lst (ns'.map V.int)) := fun x y H6 e6 h0 h1 =>
        ⟨st2, y, _, ns ++ [x], rfl, hs2.1, hs2.2, by rw [List.length_append, hl]; rfl, hS.app h0 h1, Ex.mut ((eH.trans e5).trans e6) np, by rw [upd_same, List.map_append]; rfl⟩
      have hz : (ns.map V.int).length < 100000 := by rw [List.length_map]; omega
      refine' s_if (b := decide ((0:Int) < r)) ?b6 ?t6 ?f6
      case b6 => walk_at "et"
      case t6 =>
        intro _ H6 e6
        refine' q_app (e6 _ _ hp5) (ev_var rfl) ?e7 hz fun H7 e7 => ?_
        case e7 => walk_at "ev"
        refine' s_asg (v := ?v8) ?e8 fun H8 e8 => ?_
        case e8 => walk_at "ev"
        obtain ⟨a1, a2, a3, a4, b1, b2, b3, b4, b5, b6, b7⟩ := last (r % 1009) (r / 1009) H7 (e6.trans e7) (Int.emod_nonneg _ (by decide)) (Int.emod_lt_of_pos _ (by decide))
        exact ⟨a1, a2, a3, a4, b1, b2, b3, b4, b5, b6.trans e8, e8 _ _ b7⟩
      case f6 =>
        intro _ H6 e6
        refine' s_app (e6 _ _ hp5) (ev_var rfl) ?e7 hz fun H7 e7 => ?_
        case e7 => walk_at "ev"
        exact last (st2 / 2048 % 1009) r H7 (e6.trans e7) (Int.emod_nonneg _ (by decide)) (Int.emod_lt_of_pos _ (by decide))
    case hd =>
      rintro σ' H' ⟨st, r, k, ns, rfl, s0, s1, hl, hS, eH, hp⟩
      refine s_ret (ev_var rfl) fun H6 e6 => ?_
      exact q ns p H6 (by omega) hS np (eH.trans e6) (e6 _ _ hp)
theorem Small.app2 {ns ms : List Int} (h : Small ns) (h2 : Small ms) : Small (ns ++ ms) := fun z hz => (List.mem_append.mp hz).elim (h z) (h2 z)
theorem Small.take {ns : List Int} (h : Small ns) (k : Nat) : Small (ns.take k) := fun z hz => h z (List.mem_of_mem_take hz)
theorem Small.at {ns : List Int} (h : Small ns) {i : Nat} {n : Int} (e : ns[i]? = some n) : 0 ≤ n ∧ n < 1009 := h n (List.mem_of_getElem? e)
theorem ok_numbers (A : At K mg "_law_numbers" s__law_numbers) (D__law_row : Dfn P w K mg base 1 "_law_row" p__law_row spRow) (mz_len : mg "len" = none) (mz_max : mg "max" = none) : Dfn P w K mg base 2 "_law_numbers" p__law_numbers (spNumbers K) := by
  refine dfn_ok A sc__law_numbers (fun _ _ _ _ _ _ us hl => match us, hl with | [_, _], _ => rfl) (fun vs H Q E h => ?_) (fun f cdv A outer s H vs Q E hr h => ?_)
  · obtain ⟨a, xs, m, rfl, _⟩ := h
    rfl
  · obtain ⟨a, xs, m, rfl, hA, hx, hm, hm2, q⟩ := h
    refine ⟨_, (pss_cons (ps_set (i := 2) sc__law_numbers.nd rfl (Or.inl rfl) (pe_slice (show SlR _ (rSlL K) from sl_list) (pv 0) po_none (po_some pe_int)))
  (pss_cons (ps_set (i := 3) sc__law_numbers.nd rfl (Or.inl rfl) (pe_op op_add pe_int (pe_op op_fdiv (pv 1) (pe_callB (call_max2 rfl) (by rfl) mz_max (by decide +kernel) (pa_cons pe_int (pa_cons (pe_callB (show CallR _ _ (rLenS K) from call_len_seq) (by rfl) mz_len PySem.boot_len (pa_cons (pv 2) pa_nil)) pa_nil))))))
  (pss_cons (ps_set (i := 4) sc__law_numbers.nd rfl (Or.inl rfl) (pe_lst pa_nil))
  (pss_cons (ps_for PassesOwn.never rfl (show PI _ _ _ (iList K _) from pi_list (pv 2)) (pg_name (i := 5) sc__law_numbers.nd rfl (Or.inl rfl))
    (pss_one (ps_for PassesOwn.never rfl (show PI _ _ _ (iList K _) from pi_list (pe_d D__law_row (hr.mono (by decide)) (pa_cons (pv 5) (pa_cons (pv 3) pa_nil)))) (pg_name (i := 6) sc__law_numbers.nd rfl (Or.inl rfl))
    (pss_one (ps_expr (show PE _ _ (tBM K "list" _ _ _) from pe_bm PySem.F.plainAttrs_list PySem.F.slot_list_append PySem.F.type_list_append mt_append (pv 4) (pa_cons (pv 6) pa_nil)))))))
  (pss_cons (ps_while PassesOwn.never (pt_cmpR op_lt (pe_callB (show CallR _ _ (rLenS K) from call_len_seq) (by rfl) mz_len PySem.boot_len (pa_cons (pv 4) pa_nil)) (pv 1) (by first | exact nomark _ | rfl))
    (pss_one (ps_expr (show PE _ _ (tBM K "list" _ _ _) from pe_bm PySem.F.plainAttrs_list PySem.F.slot_list_append PySem.F.type_list_append mt_append (pv 4) (pa_cons pe_int pa_nil)))))
  (pss_one (ps_ret (pe_slice (show SlR _ (rSlL K) from sl_list) (pv 4) po_none (po_some (pv 1)))))))))), ?_⟩
    refine q_asgL (xs := xs.map V.int) ?c1 fun c H1 nc e1 h1 => ?_
    case c1 =>
      have e : xs.map V.int = cutV (xs.map V.int) none (some ((63 : Nat) : Int)) := by
        rw [cut_take, List.take_of_length_le (by rw [List.length_map]; exact hx)]
      rw [e]
      exact el_sl (ev_var rfl) eo_none (eo_some ev_c) hA
    have hlx : ((xs.map V.int).length : Int) ≤ 63 := by rw [List.length_map]; omega
    have hmx : 0 < (if ((xs.map V.int).length : Int) > 1 then ((xs.map V.int).length : Int) else 1) ∧ (if ((xs.map V.int).length : Int) > 1 then ((xs.map V.int).length : Int) else 1) < 1073741824 := by split <;> omega
    refine q_asg (ev_op ev_c (ev_op (ev_var rfl) (ev_max1 (ea_cons ev_c (ea_cons (ev_lenL (ev_var rfl) (sq_of h1)) ea_nil))) (rv_I hmx)) rv_I0) fun H2 e2 => ?_
    generalize hz : (1 + m / (if ((xs.map V.int).length : Int) > 1 then ((xs.map V.int).length : Int) else 1)) = each
    have h2 := e2 _ _ h1
    have hz1 : 0 ≤ each ∧ each ≤ 1000 := by
      have a1 := Int.ediv_nonneg hm (Int.le_of_lt hmx.1)
      have a2 := Int.ediv_le_self (if ((xs.map V.int).length : Int) > 1 then ((xs.map V.int).length : Int) else 1) hm
      omega
    clear hz
    refine q_asgL (xs := []) (by refine el_lst ea_nil (by decide)) fun p H3 np e3 h3 => ?_
    have e0 : Ex H H3 := (e1.trans e2).trans e3
    have np0 : H p = none := fresh_back (e1.trans e2) np
    have h3c := e3 _ _ h2
    have ncp : c ≠ p := ne_of_none h2 np
    refine q_forLn (xs := xs.map V.int) (a := c) (ev_var rfl) (sq_of h3c) (fun i σ' H' => ∃ (u v : Option V) (ns : List Int), σ' = [some (.ref a), some (.int m), some (.ref c), some (.int each), some (.ref p), u, v] ∧ ns.length ≤ i * 1000 ∧ Small ns ∧ Ex H H' ∧ H' c = some (.lst (xs.map V.int)) ∧ H' p = some (.lst (ns.map V.int))) ?h0 ?hl ?hs ?hd
    case h0 => exact fun H4 e4 => ⟨none, none, [], rfl, Nat.zero_le _, (fun _ z => nomatch z), e0.trans e4, e4 _ _ h3c, e4 _ _ h3⟩
    case hl => exact fun i σ' H' _ ⟨_, _, _, _, _, _, _, hc, _⟩ => sq_of hc
    case hs =>
      rintro i x σ' H' hi ⟨u, v, ns, rfl, hl, hS, eH, hc, hp⟩
      have hix : i < 63 := by
        have := (List.getElem?_eq_some_iff.mp hi).1
        rw [List.length_map] at this
        omega
      obtain ⟨n, hn, rfl⟩ := int_at hi
      refine s_forP (P := fun ys => ∃ ms : List Int, ys = ms.map V.int ∧ (ms.length : Int) = each ∧ Small ms) ?hp (fun ys q j σ2 H2 => ∃ (v : Option V) (ms : List Int), ys = ms.map V.int ∧ (ms.length : Int) = each ∧ Small ms ∧ σ2 = [some (.ref a), some (.int m), some (.ref c), some (.int each), some (.ref p), some (.int n), v] ∧ Ex H H2 ∧ H2 c = some (.lst (xs.map V.int)) ∧ H2 q = some (.lst ys) ∧ q ≠ p ∧ H2 p = some (.lst ((ns ++ ms.take j).map V.int))) ?g0 ?gl ?gs ?gd
      case hp =>
        refine evP_call (ea_cons (ev_var rfl) (ea_cons (ev_var rfl) ea_nil)) fun H1 e1 Q q E => ⟨n, each, rfl, hz1.1, hz1.2, fun ms p' H2 hm hS np' e2 h2 => q _ p' H2 ⟨ms, rfl, hm, hS⟩ np' e2 h2⟩
      case g0 =>
        rintro ys q' H1 ⟨ms, rfl, hml, hSm⟩ nq e1 hq
        refine ⟨v, ms, rfl, hml, hSm, rfl, eH.trans e1, e1 _ _ hc, hq, (ne_of_none hp nq).symm, ?_⟩
        rw [List.take_zero, List.append_nil]
        exact e1 _ _ hp
      case gl => exact fun ys q' j σ2 H2 _ ⟨_, _, _, _, _, _, _, _, hq, _⟩ => sq_of hq
      case gs =>
        rintro ys q' j x' σ2 H2 hj ⟨v, ms, rfl, hml, hSm, rfl, eH2, hc2, hq, nqp, hp2⟩
        obtain ⟨n2, hn2, rfl⟩ := int_at hj
        have hj2 := (List.getElem?_eq_some_iff.mp hn2).1
        refine s_app hp2 (ev_var rfl) (ev_var rfl) (by rw [List.length_map, List.length_append, List.length_take]; omega) fun H3 e3 => ?_
        refine ⟨_, ms, rfl, hml, hSm, rfl, Ex.mut (eH2.trans e3) np0, by rw [upd_ne ncp]; exact e3 _ _ hc2, by rw [upd_ne nqp]; exact e3 _ _ hq, nqp, ?_⟩
        rw [upd_same, List.take_add_one, hn2, ← List.append_assoc, List.map_append (l₁ := ns ++ ms.take j)]
        rfl
      case gd =>
        rintro ys q' σ2 H2 ⟨v, ms, rfl, hml, hSm, rfl, eH2, hc2, hq, nqp, hp2⟩
        rw [List.length_map, List.take_of_length_le (Nat.le_refl _)] at hp2
        exact ⟨_, _, _, rfl, by rw [List.length_append]; omega, hS.app2 hSm, eH2, hc2, hp2⟩
    case hd =>
      rintro σ' H' ⟨u, v, ns, rfl, hl, hS, eH, hc, hp⟩
      rw [List.length_map] at hl
      refine q_while (fun d σ2 H2 => ∃ ns : List Int, σ2 = [some (.ref a), some (.int m), some (.ref c), some (.int each), some (.ref p), u, v] ∧ d = m.toNat - ns.length ∧ ns.length ≤ 70000 ∧ Small ns ∧ Ex H H2 ∧ H2 p = some (.lst (ns.map V.int))) _ ⟨ns, rfl, rfl, by omega, hS, eH, hp⟩ ?_
      rintro d σ2 H2 ⟨ns, rfl, rfl, hl, hS, eH, hp⟩
      refine ⟨decide (((ns.map V.int).length : Int) < m), et_test (ev_op (ev_lenL (ev_var rfl) (sq_of hp)) (ev_var rfl) rv_I0), fun hb H3 e3 => ?_, fun hb H3 e3 => ?_⟩
      · have hb := of_decide_eq_true hb
        rw [List.length_map] at hb
        refine ⟨fun σ3 H4 => ∃ ns' : List Int, σ3 = [some (.ref a), some (.int m), some (.ref c), some (.int each), some (.ref p), u, v] ∧ ns'.length = ns.length + 1 ∧ Small ns' ∧ Ex H H4 ∧ H4 p = some (.lst (ns'.map V.int)), fun σ3 H4 ⟨ns', z1, z2, z3, z4, z5⟩ => ⟨_, by omega, ns', z1, rfl, by omega, z3, z4, z5⟩, ?_⟩
        refine s_app (e3 _ _ hp) (ev_var rfl) ev_c (by rw [List.length_map]; omega) fun H4 e4 => ?_
        exact ⟨ns ++ [0], rfl, by rw [List.length_append]; rfl, hS.app (by decide) (by decide), Ex.mut ((eH.trans e3).trans e4) np0, by rw [upd_same, List.map_append]; rfl⟩
      · have hb := of_decide_eq_false hb
        rw [List.length_map] at hb
        refine s_retL (el_sl (ev_var rfl) eo_none (eo_some (ev_var rfl)) (sq_of (e3 _ _ hp))) fun r H4 nr e4 h4 => ?_
        have em : m = ((m.toNat : Nat) : Int) := by omega
        rw [em, cut_take, ← List.map_take] at h4
        exact q _ r H4 (by rw [List.length_take]; omega) (hS.take _) (fresh_back (eH.trans e3) nr) ((eH.trans e3).trans e4) h4
end

/-! ### numbers of places -/
def rOf (b : Nat) : Nat := if b ≤ 4 then 3 else if b ≤ 11 then 4 else if b ≤ 26 then 5 else 6
def pl (b : Nat) : Nat := b + rOf b + 1
theorem rOf_le (b : Nat) : rOf b ≤ 6 := by unfold rOf; split <;> (try split) <;> (try split) <;> omega
theorem pow_lt {b t : Nat} (h4 : 4 ≤ b) (h32 : b ≤ 32) (ht : t ≤ 6) : ((1 : Int) * 2 ^ ((t : Int)).toNat < (b : Int) + (t : Int) + 1) ↔ t < rOf b := by
  have e : ((t : Int)).toNat = t := Int.toNat_natCast t
  rw [e]
  have h : t = 0 ∨ t = 1 ∨ t = 2 ∨ t = 3 ∨ t = 4 ∨ t = 5 ∨ t = 6 := by omega
  unfold rOf
  rcases h with rfl | rfl | rfl | rfl | rfl | rfl | rfl <;> (split <;> (try split) <;> (try split) <;> simp <;> omega)
def spPlaces : Sp := fun vs H Q _ => ∃ b : Nat, vs = [.int (b : Int)] ∧ 4 ≤ b ∧ b ≤ 32 ∧ ∀ H', Ex H H' → Q (.int ((pl b : Nat) : Int)) H'
theorem SpPlaces {H : Hp} {b : Nat} (h4 : 4 ≤ b) (h32 : b ≤ 32) : SpV spPlaces ([.int (b : Int)] ++ []) H (.int ((pl b : Nat) : Int)) := fun H1 e Q q E => ⟨b, rfl, h4, h32, q⟩
section
variable {P : Program} {w : World} {K : PySem.W.Frag} {mg : Str → Option Value} {base : Heap}
theorem ok_places (A : At K mg "places_of" s_places_of) : Dfn P w K mg base 1 "places_of" p_places_of spPlaces := by
  refine dfn_ok A sc_places_of (fun _ _ _ _ _ _ us hl => match us, hl with | [_], _ => rfl) (fun vs H Q E h => ?_) (fun f cdv A outer s H vs Q E hr h => ?_)
  · obtain ⟨b, rfl, _⟩ := h
    rfl
  · obtain ⟨b, rfl, h4, h32, q⟩ := h
    refine ⟨_, (pss_cons (ps_set (i := 1) sc_places_of.nd rfl (Or.inl rfl) pe_int)
  (pss_cons (ps_while PassesOwn.never (pt_cmpR op_lt (pe_op op_shl pe_int (pv 1)) (pe_op op_add (pe_op op_add (pv 0) (pv 1)) pe_int) (by first | exact nomark _ | rfl))
    (pss_one (ps_set (i := 1) sc_places_of.nd rfl (Or.inl rfl) (pe_op op_add (pv 1) pe_int))))
  (pss_one (ps_ret (pe_op op_add (pe_op op_add (pv 0) (pv 1)) pe_int))))), ?_⟩
    refine' q_asg (v := ?v2) ?e2 fun H2 e2 => ?_
    case e2 => walk_at "ev"
    refine q_while (fun d σ2 H2 => ∃ t : Nat, σ2 = [some (.int (b : Int)), some (.int (t : Int))] ∧ d = 6 - t ∧ t ≤ rOf b ∧ Ex H H2) _ ⟨0, rfl, rfl, Nat.zero_le _, e2⟩ ?_
    rintro d σ2 H2 ⟨t, rfl, rfl, ht, eH⟩
    have h6 := rOf_le b
    have hp := pow_lt h4 h32 (show t ≤ 6 by omega)
    refine' ⟨_, (by walk_at "et" : EvT _ _ _ (decide ((1 : Int) * 2 ^ ((t : Int)).toNat < (b : Int) + (t : Int) + 1))), fun hb H3 e3 => ?_, fun hb H3 e3 => ?_⟩
    · have hb := hp.mp (of_decide_eq_true hb)
      refine ⟨fun σ3 H4 => σ3 = [some (.int (b : Int)), some (.int ((t + 1 : Nat) : Int))] ∧ Ex H H4, fun σ3 H4 ⟨z1, z2⟩ => ⟨_, by omega, t + 1, z1, rfl, by omega, z2⟩, ?_⟩
      refine' s_asg (v := ?v4) ?e4 fun H4 e4 => ?_
      case e4 => walk_at "ev"
      exact ⟨rfl, (eH.trans e3).trans e4⟩
    · have hb : ¬ t < rOf b := fun z => of_decide_eq_false hb (hp.mpr z)
      have et : t = rOf b := by omega
      subst et
      refine' s_ret (v := ?v5) ?e5 fun H4 e4 => ?_
      case e5 => walk_at "ev"
      have e : ((b : Int) + (rOf b : Int) + 1) = ((pl b : Nat) : Int) := by unfold pl; omega
      rw [e]
      exact q H4 ((eH.trans e3).trans e4)
end

/-! ### check places, as the law and the program find them -/
def isPw (i : Nat) : Bool := i == 0 || i == 1 || i == 2 || i == 4 || i == 8 || i == 16 || i == 32
def ckN (b : Nat) : List Nat := (List.range (pl b)).filter isPw
def dtN (b : Nat) : List Nat := (List.range (pl b)).filter (fun i => !isPw i)
def iL (l : List Nat) : List Int := l.map fun (n : Nat) => (n : Int)
theorem pl_le {b : Nat} (h32 : b ≤ 32) : pl b ≤ 39 := by
  have := rOf_le b
  unfold pl
  omega
theorem pw_and : ∀ i, i < 40 → (decide (V.int (Builtin.bitAnd ((i : Nat) : Int) ((i : Int) - 1)) = V.int 0)) = isPw i := by decide +kernel
def lcN (b : Nat) : List Nat := 0 :: (List.range (rOf b)).map (2 ^ ·)
theorem lc_ck : ∀ b, b < 33 → 4 ≤ b → lcN b = ckN b := by decide +kernel
theorem ck_mem : ∀ b, b < 33 → 4 ≤ b → ∀ i, i < pl b → (decide ((i : Int) ∈ iL (ckN b))) = isPw i := by decide +kernel
theorem ck_len : ∀ b, b < 33 → 4 ≤ b → b + (ckN b).length = pl b := by decide +kernel
def spList (f : Nat → List Nat) : Sp := fun vs H Q _ => ∃ b : Nat, vs = [.int (b : Int)] ∧ 4 ≤ b ∧ b ≤ 32 ∧ ∀ p H', H p = none → Ex H H' → H' p = some (.lst ((iL (f b)).map V.int)) → Q (.ref p) H'
theorem SpList {f : Nat → List Nat} {H : Hp} {b : Nat} (h4 : 4 ≤ b) (h32 : b ≤ 32) : SpL (spList f) ([.int (b : Int)] ++ []) H ((iL (f b)).map V.int) := fun H1 e Q q E => ⟨b, rfl, h4, h32, q⟩
local macro_rules | `(tactic| walk_at "sp") => `(tactic| first
  | exact SpPlaces (by omega) (by omega))
section
variable {P : Program} {w : World} {K : PySem.W.Frag} {mg : Str → Option Value} {base : Heap}
theorem ok_check (A : At K mg "check_places" s_check_places) (D_places_of : Dfn P w K mg base 1 "places_of" p_places_of spPlaces) (mz_range : mg "range" = none) : Dfn P w K mg base 2 "check_places" p_check_places (spList ckN) := by
  refine dfn_ok A sc_check_places (fun _ _ _ _ _ _ us hl => match us, hl with | [_], _ => rfl) (fun vs H Q E h => ?_) (fun f cdv A outer s H vs Q E hr h => ?_)
  · obtain ⟨b, rfl, _⟩ := h
    rfl
  · obtain ⟨b, rfl, h4, h32, q⟩ := h
    have hpl := pl_le h32
    refine ⟨_, (pss_one (ps_ret (pe_lc (own := [("place", 1)]) (g := gName 1) rfl sc_check_places.nd (pi_range1 (by rfl) mz_range (pa_cons (pe_d D_places_of (hr.mono (by decide)) (pa_cons (pv 0) pa_nil)) pa_nil)) (blkOk_by (N := N_check_places) (sc := defScope s_check_places) (by decide +kernel)) (fun _ _ _ _ _ => (pg_name (i := 1) sc_check_places.nd rfl (Or.inl rfl))) (fun _ _ _ _ _ => (pts_one (pt_cmpR op_eq (pe_op op_and (pv 1) (pe_op op_sub (pv 1) pe_int)) pe_int (by first | exact nomark _ | rfl)))) (fun _ _ _ _ _ => (pv 1))))), ?_⟩
    refine s_retL (el_is (el_lcR1 (n := ((pl b : Nat) : Int)) (fun i => decide (V.int (Builtin.bitAnd ((i : Nat) : Int) ((i : Int) - 1)) = V.int 0)) (fun i => V.int (i : Int)) (by walk_at "ea") (by omega) (fun _ => rfl) (fun i H1 e1 hi => by walk_at "et") (fun i H1 e1 hi _ => by walk_at "ev")) ?he) q
    case he =>
      rw [Int.toNat_natCast, given_eq (f' := isPw) (g' := fun i => V.int (i : Int)) (fun i hi => pw_and i (by omega)) (fun _ _ _ => rfl), given_ints]
      rfl
theorem ok_data (A : At K mg "data_places" s_data_places) (D_places_of : Dfn P w K mg base 1 "places_of" p_places_of spPlaces) (mz_range : mg "range" = none) : Dfn P w K mg base 2 "data_places" p_data_places (spList dtN) := by
  refine dfn_ok A sc_data_places (fun _ _ _ _ _ _ us hl => match us, hl with | [_], _ => rfl) (fun vs H Q E h => ?_) (fun f cdv A outer s H vs Q E hr h => ?_)
  · obtain ⟨b, rfl, _⟩ := h
    rfl
  · obtain ⟨b, rfl, h4, h32, q⟩ := h
    have hpl := pl_le h32
    refine ⟨_, (pss_one (ps_ret (pe_lc (own := [("place", 1)]) (g := gName 1) rfl sc_data_places.nd (pi_range1 (by rfl) mz_range (pa_cons (pe_d D_places_of (hr.mono (by decide)) (pa_cons (pv 0) pa_nil)) pa_nil)) (blkOk_by (N := N_data_places) (sc := defScope s_data_places) (by decide +kernel)) (fun _ _ _ _ _ => (pg_name (i := 1) sc_data_places.nd rfl (Or.inl rfl))) (fun _ _ _ _ _ => (pts_one (pt_cmpR op_ne (pe_op op_and (pv 1) (pe_op op_sub (pv 1) pe_int)) pe_int (by first | exact nomark _ | rfl)))) (fun _ _ _ _ _ => (pv 1))))), ?_⟩
    refine s_retL (el_is (el_lcR1 (n := ((pl b : Nat) : Int)) (fun i => !decide (V.int (Builtin.bitAnd ((i : Nat) : Int) ((i : Int) - 1)) = V.int 0)) (fun i => V.int (i : Int)) (by walk_at "ea") (by omega) (fun _ => rfl) (fun i H1 e1 hi => by walk_at "et") (fun i H1 e1 hi _ => by walk_at "ev")) ?he) q
    case he =>
      rw [Int.toNat_natCast, given_eq (f' := fun i => !isPw i) (g' := fun i => V.int (i : Int)) (fun i hi => by rw [pw_and i (by omega)]) (fun _ _ _ => rfl), given_ints]
      rfl
theorem ok_checks (A : At K mg "_law_checks" s__law_checks) (mz_range : mg "range" = none) : Dfn P w K mg base 1 "_law_checks" p__law_checks (spList ckN) := by
  refine dfn_ok A sc__law_checks (fun _ _ _ _ _ _ us hl => match us, hl with | [_], _ => rfl) (fun vs H Q E h => ?_) (fun f cdv A outer s H vs Q E hr h => ?_)
  · obtain ⟨b, rfl, _⟩ := h
    rfl
  · obtain ⟨b, rfl, h4, h32, q⟩ := h
    have hpl := pl_le h32
    have hr6 := rOf_le b
    refine ⟨_, (pss_cons (ps_set (i := 1) sc__law_checks.nd rfl (Or.inl rfl) pe_int)
  (pss_cons (ps_for PassesOwn.never rfl (pi_range1 (by rfl) mz_range (pa_cons pe_int pa_nil)) (pg_name (i := 2) sc__law_checks.nd rfl (Or.inl rfl))
    (pss_one (ps_if (pt_cmpR op_lt (pe_ix (show IxR _ (rIxL K) from ix_list) (pe_lst (pa_cons pe_int (pa_cons pe_int (pa_cons pe_int (pa_cons pe_int (pa_cons pe_int (pa_cons pe_int (pa_cons pe_int (pa_cons pe_int pa_nil))))))))) (pv 2) (fun _ _ => rfl)) (pe_op op_add (pe_op op_add (pv 0) (pv 2)) pe_int) (by first | exact nomark _ | rfl))
    (pss_one (ps_set (i := 1) sc__law_checks.nd rfl (Or.inl rfl) (pe_op op_add (pv 2) pe_int)))
    pss_nil)))
  (pss_one (ps_ret (pe_op op_cat (pe_lst (pa_cons pe_int pa_nil)) (pe_lc (own := [("k", 3)]) (g := gName 3) (tt := tYes) rfl sc__law_checks.nd (pi_range1 (by rfl) mz_range (pa_cons (pv 1) pa_nil)) (blkOk_by (N := N__law_checks) (sc := defScope s__law_checks) (by decide +kernel)) (fun _ _ _ _ _ => (pg_name (i := 3) sc__law_checks.nd rfl (Or.inl rfl))) (fun _ _ _ _ _ => pts_nil) (fun _ _ _ _ _ => (pe_ix (show IxR _ (rIxL K) from ix_list) (pe_lst (pa_cons pe_int (pa_cons pe_int (pa_cons pe_int (pa_cons pe_int (pa_cons pe_int (pa_cons pe_int pa_nil))))))) (pv 3) (fun _ _ => rfl))))))))), ?_⟩
    refine' q_asg (v := ?v2) ?e2 fun H2 e2 => ?_
    case e2 => walk_at "ev"
    refine q_forR1 (n := 8) (by walk_at "ea") (by omega) (fun i σ' H' => ∃ k : Option V, σ' = [some (.int (b : Int)), some (.int ((min i (rOf b) : Nat) : Int)), k, none] ∧ Ex H H') ?h0 ?hs ?hd
    case h0 => exact fun H3 e3 => ⟨none, by rw [Nat.zero_min]; rfl, e2.trans e3⟩
    case hs =>
      rintro i σ' H' hi ⟨k, rfl, eH⟩
      have hi8 : i < 8 := by omega
      have hx : ∀ i, i < 8 → ([.int 1, .int 2, .int 4, .int 8, .int 16, .int 32, .int 64, .int 128] : List V)[i]? = some (V.int ((2 ^ i : Nat) : Int)) := by decide
      have hlt : ∀ i b : Nat, 4 ≤ b → b ≤ 32 → i < 8 → (((2 ^ i : Nat) : Int) < (b : Int) + (i : Int) + 1 ↔ i < rOf b) := by
        intro i b h4 h32 hi
        have h : i = 0 ∨ i = 1 ∨ i = 2 ∨ i = 3 ∨ i = 4 ∨ i = 5 ∨ i = 6 ∨ i = 7 := by omega
        unfold rOf
        rcases h with rfl | rfl | rfl | rfl | rfl | rfl | rfl | rfl <;> (split <;> (try split) <;> (try split) <;> simp <;> omega)
      refine s_if (b := decide (((2 ^ i : Nat) : Int) < (b : Int) + (i : Int) + 1)) (et_test (ev_op (ev_ixN (el_lst (by walk_at "ea") (by decide)) (ev_var rfl) (atI_nat (hx i hi8))) (by walk_at "ev") rv_I0)) (fun hb H3 e3 => ?_) (fun hb H3 e3 => ?_)
      · have hb := (hlt i b h4 h32 hi8).mp (of_decide_eq_true hb)
        refine' s_asg (v := ?v4) ?e4 fun H4 e4 => ?_
        case e4 => walk_at "ev"
        refine ⟨some (.int (i : Int)), ?_, (eH.trans e3).trans e4⟩
        rw [Nat.min_eq_left (show i + 1 ≤ rOf b by omega)]
        rfl
      · have hb : ¬ i < rOf b := fun z => of_decide_eq_false hb ((hlt i b h4 h32 hi8).mpr z)
        refine ⟨some (.int (i : Int)), ?_, eH.trans e3⟩
        rw [Nat.min_eq_right (show rOf b ≤ i by omega), Nat.min_eq_right (show rOf b ≤ i + 1 by omega)]
        rfl
    case hd =>
      rintro σ' H' ⟨k, rfl, eH⟩
      rw [show (8 : Int).toNat = 8 from rfl, Nat.min_eq_right (by omega : rOf b ≤ 8)]
      have hx : ∀ i, i < 6 → ([.int 1, .int 2, .int 4, .int 8, .int 16, .int 32] : List V)[i]? = some (V.int ((2 ^ i : Nat) : Int)) := by decide
      refine s_retL (el_is (el_cat (xs := [.int 0]) (el_lst (by walk_at "ea") (by decide)) (el_lcR1 (n := ((rOf b : Nat) : Int)) (fun _ => true) (fun i => V.int ((2 ^ i : Nat) : Int)) (by walk_at "ea") (by omega) (fun _ => rfl) (fun i H1 e1 hi => fun H2 _ Q q => q H2 (Ex.refl H2)) (fun i H1 e1 hi _ => ev_ixN (el_lst (by walk_at "ea") (by decide)) (ev_var rfl) (atI_nat (hx i (by omega))))) ?hz) ?he) fun p H3 np e3 h3 => q p H3 (fresh_back eH np) (eH.trans e3) h3
      case hz =>
        have := given_len ((rOf b : Nat) : Int).toNat (fun _ => true) (fun i => V.int ((2 ^ i : Nat) : Int))
        show 1 + _ ≤ _
        omega
      case he =>
        rw [Int.toNat_natCast, given_ints, ← lc_ck b (by omega) h4]
        unfold lcN iL
        rw [List.filter_eq_self.mpr (fun _ _ => rfl), List.map_cons, List.map_cons, List.map_map (f := fun x => 2 ^ x)]
        rfl
theorem ok_lplaces (A : At K mg "_law_places" s__law_places) (D__law_checks : Dfn P w K mg base 1 "_law_checks" p__law_checks (spList ckN)) (mz_len : mg "len" = none) : Dfn P w K mg base 2 "_law_places" p__law_places spPlaces := by
  refine dfn_ok A sc__law_places (fun _ _ _ _ _ _ us hl => match us, hl with | [_], _ => rfl) (fun vs H Q E h => ?_) (fun f cdv A outer s H vs Q E hr h => ?_)
  · obtain ⟨b, rfl, _⟩ := h
    rfl
  · obtain ⟨b, rfl, h4, h32, q⟩ := h
    refine ⟨_, (pss_one (ps_ret (pe_op op_add (pv 0) (pe_callB (show CallR _ _ (rLenS K) from call_len_seq) (by rfl) mz_len PySem.boot_len (pa_cons (pe_d D__law_checks (hr.mono (by decide)) (pa_cons (pv 0) pa_nil)) pa_nil))))), ?_⟩
    refine s_ret (ev_is (ev_op (ev_var rfl) (ev_lenN2 (el_call (ea_cons (ev_var rfl) ea_nil) (SpList h4 h32))) rv_I0) ?he) q
    case he =>
      have := ck_len b (by omega) h4
      unfold iL
      rw [List.length_map, List.length_map]
      show V.int _ = V.int _
      rw [← this]
      simp
end

/-! ### the law -/
def spLaw (K : PySem.W.Frag) : Sp := fun vs H Q _ => ∃ (a : Addr) (ns : List Int), vs = [.ref a] ∧ SqL K H a (ns.map V.int) ∧ ns.length ≤ 63 ∧ ∀ H', Q (.bl true) H'
theorem dt_by (b : Nat) (h4 : 4 ≤ b) (h32 : b ≤ 32) : given (pl b) (fun i => !decide ((i : Int) ∈ iL (ckN b))) (fun i => V.int (i : Int)) = (iL (dtN b)).map V.int := by
  rw [given_eq (f' := fun i => !isPw i) (g' := fun i => V.int (i : Int)) (fun i hi => by rw [ck_mem b (by omega) h4 i hi]) (fun _ _ _ => rfl), given_ints]
  rfl
section
variable {P : Program} {w : World} {K : PySem.W.Frag} {mg : Str → Option Value} {base : Heap}
theorem SpNum {H : Hp} {a : Addr} {xs : List Int} {m : Int} (hA : SqL K H a (xs.map V.int)) (hx : xs.length ≤ 63) (hm : 0 ≤ m) (hm2 : m ≤ 900) : SpP (spNumbers K) ([.ref a, .int m] ++ []) H (fun ys => ∃ ns : List Int, ys = ns.map V.int ∧ (ns.length : Int) = m ∧ Small ns) :=
  fun H1 e Q q E => ⟨a, xs, m, rfl, ex_l e hA, hx, hm, hm2, fun ns p H' hl hs np e2 hp => q _ p H' ⟨ns, rfl, hl, hs⟩ np e2 hp⟩
theorem ok_law {f : Addr} {fd : FuncData} (F : Fun K "law" "law" s_law f fd) (D__law_numbers : Dfn P w K mg base 2 "_law_numbers" p__law_numbers (spNumbers K)) (D__law_checks : Dfn P w K mg base 1 "_law_checks" p__law_checks (spList ckN)) (D__law_places : Dfn P w K mg base 2 "_law_places" p__law_places spPlaces)
    (D_places_of : Dfn P w K mg base 1 "places_of" p_places_of spPlaces) (D_check_places : Dfn P w K mg base 2 "check_places" p_check_places (spList ckN)) (D_data_places : Dfn P w K mg base 2 "data_places" p_data_places (spList dtN))
    (mz_range : mg "range" = none) (mz_len : mg "len" = none) (mz_int : mg "int" = none) (mz_all : mg "all" = none) (mz_isinstance : mg "isinstance" = none) (mz_list : mg "list" = none) : FnOk P w K mg base CX0 3 f fd ["script"] (spLaw K) := by
  refine F.ok sc_law (fun vs H Q E h => ?_) (fun cdv A outer s H vs Q E hr h => ?_)
  · obtain ⟨a, ns, rfl, _⟩ := h
    rfl
  · obtain ⟨a, xs, rfl, hA, hx, q⟩ := h
    refine ⟨_, (pss_cons (ps_set (i := 1) sc_law.nd rfl (Or.inl rfl) (pe_d D__law_numbers (hr.mono (by decide)) (pa_cons (pv 0) (pa_cons pe_int pa_nil))))
  (pss_cons (ps_for PassesOwn.never rfl (pi_range2 (by rfl) mz_range (pa_cons pe_int (pa_cons pe_int pa_nil))) (pg_name (i := 2) sc_law.nd rfl (Or.inl rfl))
    (pss_cons (ps_set (i := 3) sc_law.nd rfl (Or.inr rfl) (pe_d D__law_checks (hr.mono (by decide)) (pa_cons (pv 2) pa_nil)))
  (pss_cons (ps_set (i := 4) sc_law.nd rfl (Or.inl rfl) (pe_d D__law_places (hr.mono (by decide)) (pa_cons (pv 2) pa_nil)))
  (pss_cons (ps_if (PW.pt (pw_or (pt_cmpR op_ne (pe_d D_places_of (hr.mono (by decide)) (pa_cons (pv 2) pa_nil)) (pv 4) (by first | exact nomark _ | rfl)) (pw_or1 (pt_cmpR op_ne (pe_op op_add (pe_callB (show CallR _ _ (rLenS K) from call_len_seq) (by rfl) mz_len PySem.boot_len (pa_cons (pv 3) pa_nil)) (pv 2)) (pv 4) (by first | exact nomark _ | rfl)))))
    (pss_one (ps_ret pe_bl))
    pss_nil)
  (pss_one (ps_for PassesOwn.never rfl (pi_range1 (by rfl) mz_range (pa_cons (pe_op op_add pe_int (pe_callTy call_int1 (by rfl) mz_int (by decide +kernel) (pa_cons (pe_cmpR op_eq (pe_op op_mod (pe_callTy call_int1 (by rfl) mz_int (by decide +kernel) (pa_cons (pe_ix (show IxR _ (rIxL K) from ix_list) (pv 1) pe_int (fun _ _ => rfl)) pa_nil)) pe_int) (pe_op op_sub (pv 2) pe_int) (by first | exact nomark _ | rfl)) pa_nil))) pa_nil)) (pg_name (i := 5) sc_law.nd rfl (Or.inl rfl))
    (pss_cons (ps_set (i := 6) sc_law.nd rfl (Or.inl rfl) (pe_lst (pa_cons (pe_d D_check_places (hr.mono (by decide)) (pa_cons (pv 2) pa_nil)) (pa_cons (pe_d D_data_places (hr.mono (by decide)) (pa_cons (pv 2) pa_nil)) pa_nil))))
  (pss_cons (ps_if (pt_cmpR (show OpR _ _ (rNeD K) from (op_neD hr.units)) (pv 6) (pe_lst (pa_cons (pv 3) (pa_cons (pe_lc (own := [("place", 7)]) (g := gName 7) rfl sc_law.nd (pi_range1 (by rfl) mz_range (pa_cons (pv 4) pa_nil)) (blkOk_by (N := N_law) (sc := defScope s_law) (by decide +kernel)) (fun _ _ _ _ _ => (pg_name (i := 7) sc_law.nd rfl (Or.inl rfl))) (fun _ _ _ _ _ => (pts_one (pt_cmpR (show OpR _ _ (rIn K true) from op_notIn_seq) (pv 7) (pv 3) (by first | exact nomark _ | rfl)))) (fun _ _ _ _ _ => (pv 7))) pa_nil))) (by first | exact nomark _ | rfl))
    (pss_one (ps_ret pe_bl))
    pss_nil)
  (pss_cons (ps_if (pt_not (pt_val (pe_callB (show CallR _ _ (rAll K) from (cr_all rfl)) (by rfl) mz_all (by decide +kernel) (pa_cons (pe_lc (own := [("one", 8)]) (g := gName 8) (tt := tYes) rfl sc_law.nd (show PI _ _ _ (iList K _) from pi_list (pv 6)) (blkOk_by (N := N_law) (sc := defScope s_law) (by decide +kernel)) (fun _ _ _ _ _ => (pg_name (i := 8) sc_law.nd rfl (Or.inl rfl))) (fun _ _ _ _ _ => pts_nil) (fun _ _ _ _ _ => (pe_callB (show CallR _ _ (rIsi K) from call_isi) (by rfl) mz_isinstance (by decide +kernel) (pa_cons (pv 8) (pa_cons (pe_bltn (v := .ty "list") (by rfl) mz_list (by first | exact PySem.boot_list | decide +kernel) rfl) pa_nil))))) pa_nil))))
    (pss_one (ps_ret pe_bl))
    pss_nil)
  (pss_cons (ps_expr (show PE _ _ (tBM K "list" _ _ _) from pe_bm PySem.F.plainAttrs_list PySem.F.slot_list_append PySem.F.type_list_append mt_append (pe_ix (show IxR _ (rIxL K) from ix_list) (pv 6) pe_int (fun _ _ => rfl)) (pa_cons pe_int pa_nil)))
  (pss_one (ps_expr (show PE _ _ (tBM0 K "list" _ _) from pe_bm0 PySem.F.plainAttrs_list PySem.F.slot_list_clear PySem.F.type_list_clear mt_clear (pe_ix (show IxR _ (rIxL K) from ix_list) (pv 6) pe_int (fun _ _ => rfl)))))))))))))))
  (pss_one (ps_ret pe_bl)))), ?_⟩
    refine q_asgP (P := fun ys => ∃ ns : List Int, ys = ns.map V.int ∧ (ns.length : Int) = 4 ∧ Small ns) (evP_call (ea_cons (ev_var rfl) (ea_cons ev_c ea_nil)) (SpNum hA hx (by decide) (by decide))) fun ys n H1 hys nn e1 hn => ?_
    obtain ⟨ns, rfl, hl, hS⟩ := hys
    obtain ⟨n0, hn0⟩ : ∃ n0, ns[0]? = some n0 := ⟨_, List.getElem?_eq_getElem (show 0 < ns.length by omega)⟩
    have hn0' : (ns.map V.int)[0]? = some (.int n0) := by rw [List.getElem?_map, hn0]; rfl
    refine q_forR2 (lo := 4) (n := 33) (by walk_at "ea") (by omega) (fun i σ' H' => ∃ u2 u3 u4 u5 u6, σ' = [some (.ref a), some (.ref n), u2, u3, u4, u5, u6, none, none] ∧ Ex H1 H') ?h0 ?hs ?hd
    case h0 => exact fun H3 e3 => ⟨none, none, none, none, none, rfl, e3⟩
    case hd =>
      rintro σ' H' ⟨u2, u3, u4, u5, u6, rfl, eH⟩
      exact s_ret ev_c fun H2 _ => q H2
    case hs =>
      rintro i σ' H' hi ⟨u2, u3, u4, u5, u6, rfl, eH⟩
      have eb : (4 : Int) + (i : Int) = ((4 + i : Nat) : Int) := by omega
      rw [eb]
      generalize hb : 4 + i = b
      have h4 : 4 ≤ b := by omega
      have h32 : b ≤ 32 := by omega
      have hpl := pl_le h32
      clear eb hb hi
      refine q_asgL (el_call (ea_cons (ev_var rfl) ea_nil) (SpList (f := ckN) h4 h32)) fun c H2 nc e2 hc => ?_
      refine q_asg (ev_call (ea_cons (ev_var rfl) ea_nil) (SpPlaces h4 h32)) fun H3 e3 => ?_
      have hc3 := e3 _ _ hc
      have elen : V.int (((iL (ckN b)).map V.int).length + (b : Int)) = V.int ((pl b : Nat) : Int) := by
        have := ck_len b (by omega) h4
        unfold iL
        rw [List.length_map, List.length_map, ← this]
        congr 1
        omega
      refine q_when (b := false) ?t1 (fun hb => Bool.noConfusion hb) fun _ H4 e4 => ?_
      case t1 =>
        refine et_is (et_or (a := false) (b := false) (et_is (et_test (ev_op (ev_call (ea_cons (ev_var rfl) ea_nil) (SpPlaces h4 h32)) (ev_var rfl) (rv_ne rfl))) ?c1) fun _ => et_is (et_test (ev_op (ev_op (ev_lenL (ev_var rfl) (sq_of hc3)) (ev_var rfl) rv_I0) (ev_var rfl) (rv_ne rfl))) ?c2) rfl
        case c1 => simp
        case c2 =>
          rw [elen]
          simp
      have e0 : Ex H1 H4 := (((eH.trans e2).trans e3).trans e4)
      have hn4 : H4 n = some (.lst (ns.map V.int)) := e0 _ _ hn
      have hc4 := e4 _ _ hc3
      obtain ⟨k, hk, hk0⟩ : ∃ k : Int, (1 : Int) + (if decide (V.int (n0 % 29) = V.int ((b : Int) - 4)) then 1 else 0) = k ∧ 0 ≤ k ∧ k ≤ 2 := ⟨_, rfl, by split <;> omega, by split <;> omega⟩
      refine s_forR1 (n := k) ?a1 ⟨hk0.1, by omega⟩ (fun j σ' H' => ∃ u5 u6, σ' = [some (.ref a), some (.ref n), some (.int (b : Int)), some (.ref c), some (.int ((pl b : Nat) : Int)), u5, u6, none, none] ∧ Ex H4 H') (fun H5 e5 => ⟨u5, u6, rfl, e5⟩) ?hs2 ?hd2
      case a1 =>
        rw [← hk]
        exact ea_cons (ev_op ev_c (ev_intB (ea_cons (ev_op (ev_op (ev_int (ea_cons (ev_ixI (ev_var rfl) ev_c (sq_of hn4) (atI_nat (j := 0) hn0')) ea_nil)) ev_c (rv_I (show (0 : Int) < 29 by decide))) (ev_op (ev_var rfl) ev_c rv_I0) (rv_eq rfl)) ea_nil)) rv_I0) ea_nil
      case hd2 =>
        rintro σ' H' ⟨u5, u6, rfl, e5⟩
        exact ⟨_, _, _, _, _, rfl, e0.trans e5⟩
      case hs2 =>
        rintro j σ' H' hj ⟨u5, u6, rfl, e5⟩
        -- told = [check_places(bits), data_places(bits)]
        refine q_asgG (P := fun v H7 => ∃ t p0 p1, v = .ref t ∧ H7 t = some (.lst [.ref p0, .ref p1]) ∧ H7 p0 = some (.lst ((iL (ckN b)).map V.int)) ∧ H7 p1 = some (.lst ((iL (dtN b)).map V.int)) ∧ H4 p0 = none ∧ H4 p1 = none ∧ p0 ≠ p1 ∧ t ≠ p0) ?told fun v H7 e7 hv => ?_
        case told =>
          intro H5 e6 Q q
          refine el_call (ea_cons (ev_var rfl) ea_nil) (SpList (f := ckN) h4 h32) H5 (Ex.refl _) _ fun p0 H6 n0 f0 h0 => el_call (ea_cons (ev_var rfl) ea_nil) (SpList (f := dtN) h4 h32) H6 (Ex.refl _) _ fun p1 H7 n1 f1 h1 => ⟨(by decide : 2 ≤ sizeLine), fun t nt => ?_⟩
          have ft : Ex H7 (upd H7 t (.lst [.ref p0, .ref p1])) := Ex.new nt
          exact q _ _ ((f0.trans f1).trans ft) ⟨t, p0, p1, rfl, upd_same, ft _ _ (f1 _ _ h0), ft _ _ h1, fresh_back (e5.trans e6) n0, fresh_back ((e5.trans e6).trans f0) n1, ne_of_none h0 n1, (ne_of_none (f1 _ _ h0) nt).symm⟩
        obtain ⟨t, p0, p1, rfl, gt, g0, g1, m0, m1, p01, pt0⟩ := hv
        have fall : Ex H4 H7 := e5.trans e7
        have gc := fall _ _ hc4
        have shD : SeqAt.shaped (.list [.list ((iL (ckN b)).map PyData.int), .list ((iL (dtN b)).map PyData.int)]) = true := (Lay.list (n := 5) (.cons (lay_ints _ (n := 4)) (.cons (lay_ints _ (n := 4)) .nil))).sh
        refine q_when (b := false) ?lc (fun hb => Bool.noConfusion hb) fun _ H8 e8 => ?_
        case lc =>
          refine et_test ?_
          intro H8 e8 Q q
          refine ⟨_, rfl, ⟨_, rfl, ?_⟩⟩
          refine el_is (ys := (iL (dtN b)).map V.int) (el_lcR1 (n := ((pl b : Nat) : Int)) (fun i => !decide ((i : Int) ∈ iL (ckN b))) (fun i => V.int (i : Int)) (by walk_at "ea") (by omega) (fun _ => rfl) (fun i H1 e1 hi => et_test (ev_op (ev_var rfl) (ev_var rfl) (rv_niI (sq_of (e1 _ _ gc))))) (fun i H1 e1 hi _ => by walk_at "ev")) ?he H8 e8 _ fun p2 H9 n2 e9 h9 => ⟨(by decide : 2 ≤ sizeLine), fun p3 n3 => ?_⟩
          case he =>
            rw [Int.toNat_natCast]
            exact dt_by b h4 h32
          have e10 : Ex H7 (upd H9 p3 (.lst [.ref c, .ref p2])) := (e8.trans e9).trans (Ex.new n3)
          have h10 : (upd H9 p3 (.lst [.ref c, .ref p2])) p2 = some (.lst ((iL (dtN b)).map V.int)) := Ex.new n3 _ _ h9
          refine rv_neS (d := .list [.list ((iL (ckN b)).map PyData.int), .list ((iL (dtN b)).map PyData.int)]) (.lst (sq_of (e10 _ _ gt)) (.cons (dp_ints (sq_of (e10 _ _ g0))) (.cons (dp_ints (sq_of (e10 _ _ g1))) .nil))) (.lst (sq_of upd_same) (.cons (dp_ints (sq_of (e10 _ _ gc))) (.cons (dp_ints (sq_of h10)) .nil))) shD _ (Ex.refl _) Q fun H11 e11 => q H11 (((e9.trans (Ex.new n3))).trans e11)
        -- all are lists
        have g0' := e8 _ _ g0
        have g1' := e8 _ _ g1
        have gt' := e8 _ _ gt
        refine q_when (b := false) (et_not (a := true) (et_B (ev_is (ev_allL (bs := [true, true]) (el_is (el_lcL (xs := [.ref p0, .ref p1]) (fun _ => true) (fun _ => V.bl true) (ev_var rfl) (sq_of gt') (show 2 ≤ 40000 by decide) (fun _ => rfl) (fun i x H1 e1 hi => fun H2 _ Q q => q H2 (Ex.refl H2)) (fun i x H1 e1 hi _ => ?isl)) rfl)) rfl))) (fun hb => Bool.noConfusion hb) fun _ H9 e9 => ?_
        case isl =>
          match i, hi with
          | 0, hi => cases hi; exact ev_isL (ev_var rfl) (e1 _ _ g0')
          | 1, hi => cases hi; exact ev_isL (ev_var rfl) (e1 _ _ g1')
        -- told[0].append(3); told[1].clear()
        have e79 : Ex H4 H9 := (fall.trans e8).trans e9
        refine q_app (e9 _ _ g0') (ev_ixI (ev_var rfl) ev_c (sq_of (e9 _ _ gt')) (atI_nat (j := 0) rfl)) ev_c ?sz fun H10 e10 => ?_
        case sz =>
          rw [List.length_map]
          unfold iL ckN
          rw [List.length_map]
          have := List.length_filter_le isPw (List.range (pl b))
          rw [List.length_range] at this
          omega
        have gt10 : (upd H10 p0 (.lst (((iL (ckN b)).map V.int) ++ [.int 3]))) t = some (.lst [.ref p0, .ref p1]) := by
          rw [upd_ne pt0]
          exact e10 _ _ (e9 _ _ gt')
        have g110 : (upd H10 p0 (.lst (((iL (ckN b)).map V.int) ++ [.int 3]))) p1 = some (.lst ((iL (dtN b)).map V.int)) := by
          rw [upd_ne p01.symm]
          exact e10 _ _ (e9 _ _ g1')
        refine ev_ixI (K := K) (ev_var rfl) ev_c (sq_of gt10) (atI_nat (j := 1) rfl) _ (Ex.refl _) _ fun H11 e11 => ⟨Or.inl ⟨rfl, _, sq_of (e11 _ _ g110)⟩, p1, _, rfl, rfl, e11 _ _ g110, ?_⟩
        exact ⟨_, _, rfl, Ex.mut ((Ex.mut (e79.trans e10) m0).trans e11) m1⟩
end
theorem all_mk {l : PySem.W.OpenLaw} {w : World} {K : PySem.W.Frag} {h : Heap} {mg : Str → Option Value} {fa : Addr} (X : K.In h) (G : h.Ns mainGlobals mg) (hfa : mg "law" = some (.ref fa))
    {f0 f1 f2 f3 f4 f5 f6 f7 : Addr} {od0 an0 od1 an1 od2 an2 od3 an3 od4 an4 od5 an5 od6 an6 od7 an7 : Option Addr} {sl0 sl1 sl2 sl3 sl4 sl5 sl6 sl7 : Array (Option Value)} {oc0 kV0 dc0 pm0 cd0 ct0 oc1 kV1 dc1 pm1 cd1 ct1 oc2 kV2 dc2 pm2 cd2 ct2 oc3 kV3 dc3 pm3 cd3 ct3 oc4 kV4 dc4 pm4 cd4 ct4 oc5 kV5 dc5 pm5 cd5 ct5 oc6 kV6 dc6 pm6 cd6 ct6 oc7 kV7 dc7 pm7 cd7 ct7 : Value}
    (a0 : PySem.W.nsIn K mainGlobals "_law_row" = some (some (.ref f0))) (l0 : K.lookup f0 = some ⟨oc0, od0, .func (PySem.W.fnOf "_law_row" "_law_row" (defArgs s__law_row) (defBody s__law_row) (defScope s__law_row) .none kV0 dc0 pm0 an0 cd0 ct0), sl0⟩) (c0 : PySem.W.codeIn K cd0 "_law_row" = true) (k0 : PySem.W.keepIn K (.ref f0) = true)
    (a1 : PySem.W.nsIn K mainGlobals "_law_numbers" = some (some (.ref f1))) (l1 : K.lookup f1 = some ⟨oc1, od1, .func (PySem.W.fnOf "_law_numbers" "_law_numbers" (defArgs s__law_numbers) (defBody s__law_numbers) (defScope s__law_numbers) .none kV1 dc1 pm1 an1 cd1 ct1), sl1⟩) (c1 : PySem.W.codeIn K cd1 "_law_numbers" = true) (k1 : PySem.W.keepIn K (.ref f1) = true)
    (a2 : PySem.W.nsIn K mainGlobals "_law_checks" = some (some (.ref f2))) (l2 : K.lookup f2 = some ⟨oc2, od2, .func (PySem.W.fnOf "_law_checks" "_law_checks" (defArgs s__law_checks) (defBody s__law_checks) (defScope s__law_checks) .none kV2 dc2 pm2 an2 cd2 ct2), sl2⟩) (c2 : PySem.W.codeIn K cd2 "_law_checks" = true) (k2 : PySem.W.keepIn K (.ref f2) = true)
    (a3 : PySem.W.nsIn K mainGlobals "_law_places" = some (some (.ref f3))) (l3 : K.lookup f3 = some ⟨oc3, od3, .func (PySem.W.fnOf "_law_places" "_law_places" (defArgs s__law_places) (defBody s__law_places) (defScope s__law_places) .none kV3 dc3 pm3 an3 cd3 ct3), sl3⟩) (c3 : PySem.W.codeIn K cd3 "_law_places" = true) (k3 : PySem.W.keepIn K (.ref f3) = true)
    (a4 : PySem.W.nsIn K mainGlobals "places_of" = some (some (.ref f4))) (l4 : K.lookup f4 = some ⟨oc4, od4, .func (PySem.W.fnOf "places_of" "places_of" (defArgs s_places_of) (defBody s_places_of) (defScope s_places_of) .none kV4 dc4 pm4 an4 cd4 ct4), sl4⟩) (c4 : PySem.W.codeIn K cd4 "places_of" = true) (k4 : PySem.W.keepIn K (.ref f4) = true)
    (a5 : PySem.W.nsIn K mainGlobals "check_places" = some (some (.ref f5))) (l5 : K.lookup f5 = some ⟨oc5, od5, .func (PySem.W.fnOf "check_places" "check_places" (defArgs s_check_places) (defBody s_check_places) (defScope s_check_places) .none kV5 dc5 pm5 an5 cd5 ct5), sl5⟩) (c5 : PySem.W.codeIn K cd5 "check_places" = true) (k5 : PySem.W.keepIn K (.ref f5) = true)
    (a6 : PySem.W.nsIn K mainGlobals "data_places" = some (some (.ref f6))) (l6 : K.lookup f6 = some ⟨oc6, od6, .func (PySem.W.fnOf "data_places" "data_places" (defArgs s_data_places) (defBody s_data_places) (defScope s_data_places) .none kV6 dc6 pm6 an6 cd6 ct6), sl6⟩) (c6 : PySem.W.codeIn K cd6 "data_places" = true) (k6 : PySem.W.keepIn K (.ref f6) = true)
    (a7 : PySem.W.nsIn K mainGlobals "law" = some (some (.ref f7))) (l7 : K.lookup f7 = some ⟨oc7, od7, .func (PySem.W.fnOf "law" "law" (defArgs s_law) (defBody s_law) (defScope s_law) .none kV7 dc7 pm7 an7 cd7 ct7), sl7⟩) (c7 : PySem.W.codeIn K cd7 "law" = true) (k7 : PySem.W.keepIn K (.ref f7) = true)
    (z_abs : PySem.W.nsIn K mainGlobals "abs" = some none)
    (z_all : PySem.W.nsIn K mainGlobals "all" = some none)
    (z_int : PySem.W.nsIn K mainGlobals "int" = some none)
    (z_isinstance : PySem.W.nsIn K mainGlobals "isinstance" = some none)
    (z_len : PySem.W.nsIn K mainGlobals "len" = some none)
    (z_list : PySem.W.nsIn K mainGlobals "list" = some none)
    (z_max : PySem.W.nsIn K mainGlobals "max" = some none)
    (z_range : PySem.W.nsIn K mainGlobals "range" = some none)
    : ∃ fd : FuncData, (∀ (s : Shared) (v : Value), BindsTo s fd ⟨[v], []⟩ [("script", v)]) ∧ ∀ base : Heap, K.In base → base.Ns mainGlobals mg → FnOk l.prog w K mg base CX0 3 fa fd ["script"] (spLaw K) := by
  have e := hfa.symm.trans (PySem.W.mg_of X G a7)
  cases e
  have mz_abs := PySem.W.mg_none_of X G z_abs
  have mz_all := PySem.W.mg_none_of X G z_all
  have mz_int := PySem.W.mg_none_of X G z_int
  have mz_isinstance := PySem.W.mg_none_of X G z_isinstance
  have mz_len := PySem.W.mg_none_of X G z_len
  have mz_list := PySem.W.mg_none_of X G z_list
  have mz_max := PySem.W.mg_none_of X G z_max
  have mz_range := PySem.W.mg_none_of X G z_range
  refine ⟨PySem.W.fnOf "law" "law" (defArgs s_law) (defBody s_law) (defScope s_law) .none kV7 dc7 pm7 an7 cd7 ct7, fun s v => .of_eq rfl, fun base _ _ => ?_⟩
  have A__law_row : At K mg "_law_row" s__law_row := ⟨_, _, fun_mk (st := s__law_row) l0 c0 k0, PySem.W.mg_of X G a0⟩
  have A__law_numbers : At K mg "_law_numbers" s__law_numbers := ⟨_, _, fun_mk (st := s__law_numbers) l1 c1 k1, PySem.W.mg_of X G a1⟩
  have A__law_checks : At K mg "_law_checks" s__law_checks := ⟨_, _, fun_mk (st := s__law_checks) l2 c2 k2, PySem.W.mg_of X G a2⟩
  have A__law_places : At K mg "_law_places" s__law_places := ⟨_, _, fun_mk (st := s__law_places) l3 c3 k3, PySem.W.mg_of X G a3⟩
  have A_places_of : At K mg "places_of" s_places_of := ⟨_, _, fun_mk (st := s_places_of) l4 c4 k4, PySem.W.mg_of X G a4⟩
  have A_check_places : At K mg "check_places" s_check_places := ⟨_, _, fun_mk (st := s_check_places) l5 c5 k5, PySem.W.mg_of X G a5⟩
  have A_data_places : At K mg "data_places" s_data_places := ⟨_, _, fun_mk (st := s_data_places) l6 c6 k6, PySem.W.mg_of X G a6⟩
  have F_law := fun_mk (st := s_law) l7 c7 k7
  have D_row : Dfn l.prog w K mg base 1 "_law_row" p__law_row spRow := ok_row A__law_row mz_abs mz_int mz_range
  have D_num : Dfn l.prog w K mg base 2 "_law_numbers" p__law_numbers (spNumbers K) := ok_numbers A__law_numbers D_row mz_len mz_max
  have D_ck : Dfn l.prog w K mg base 1 "_law_checks" p__law_checks (spList ckN) := ok_checks A__law_checks mz_range
  have D_pl : Dfn l.prog w K mg base 1 "places_of" p_places_of spPlaces := ok_places A_places_of
  exact ok_law F_law D_num D_ck (ok_lplaces A__law_places D_ck mz_len) D_pl (ok_check A_check_places D_pl mz_range) (ok_data A_data_places D_pl mz_range) mz_range mz_len mz_int mz_all mz_isinstance mz_list
end My_farword_k10_places_of_words
open PySem PySem.W PyProof.Rows
set_option maxRecDepth 100000 in
set_option maxHeartbeats 0 in
theorem PySem.Challenge.cw_farword_k10_places_of_words_holds : PySem.Challenge.rw_farword_k10_places_of_words.Holds := by
  w_on; o_law; k_head; (case hw => w_witness2)
  k_fill
  refine L2.walk_of (l := PySem.Challenge.rw_farword_k10_places_of_words) (n := 63) (k := 3) (x := "script") (CX := fun _ => L2.CX0) (sp := fun w => My_farword_k10_places_of_words.spLaw _) rfl (by decide) rfl ⟨rfl, by decide, by decide⟩ (fun w h Y => PySem.W.kIn_of Y) ?F (fun _ _ a ns hl _ hS => ⟨a, ns, rfl, hS, hl, fun _ => rfl⟩) (fun _ _ _ _ _ h => h)
  case F =>
    intro w mg fa h KX G hmg
    refine' My_farword_k10_places_of_words.all_mk KX G hmg ?a0 ?l0 ?c0 ?k0 ?a1 ?l1 ?c1 ?k1 ?a2 ?l2 ?c2 ?k2 ?a3 ?l3 ?c3 ?k3 ?a4 ?l4 ?c4 ?k4 ?a5 ?l5 ?c5 ?k5 ?a6 ?l6 ?c6 ?k6 ?a7 ?l7 ?c7 ?k7 ?z_abs ?z_all ?z_int ?z_isinstance ?z_len ?z_list ?z_max ?z_range
    (case a0 => k_is)
    (case l0 => k_is)
    (case c0 => k_is)
    (case k0 => k_is)
    (case a1 => k_is)
    (case l1 => k_is)
    (case c1 => k_is)
    (case k1 => k_is)
    (case a2 => k_is)
    (case l2 => k_is)
    (case c2 => k_is)
    (case k2 => k_is)
    (case a3 => k_is)
    (case l3 => k_is)
    (case c3 => k_is)
    (case k3 => k_is)
    (case a4 => k_is)
    (case l4 => k_is)
    (case c4 => k_is)
    (case k4 => k_is)
    (case a5 => k_is)
    (case l5 => k_is)
    (case c5 => k_is)
    (case k5 => k_is)
    (case a6 => k_is)
    (case l6 => k_is)
    (case c6 => k_is)
    (case k6 => k_is)
    (case a7 => k_is)
    (case l7 => k_is)
    (case c7 => k_is)
    (case k7 => k_is)
    (case z_abs => k_is)
    (case z_all => k_is)
    (case z_int => k_is)
    (case z_isinstance => k_is)
    (case z_len => k_is)
    (case z_list => k_is)
    (case z_max => k_is)
    (case z_range => k_is)
