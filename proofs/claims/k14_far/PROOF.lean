import PyProof.Rows.All
import Wide.All
import OpenK.AllK
import Wide.FinOn
import HandS.ForMost
import HandS.Evl
import HandS.IsInst
import HandS.WideBits
import KE.KSortedM
import HandS.Zip
import PySem.Challenge.RW_farword_k14_words_far_apart
set_option Elab.async false
set_option linter.all false
set_option maxRecDepth 100000
set_option maxHeartbeats 4000000
/-! ### Common ground of my proofs: a def as the law's text has it, what expressions evaluate to -/
namespace My
open PySem PySem.Spec PyProof.Rows L2 Evl

section
variable {P : Program} {w : World} {K : PySem.W.Frag} {mg : Str → Option Value} {base : Heap}
/-- the def st stands under its name -/
def At (K : PySem.W.Frag) (mg : Str → Option Value) (x : Str) (st : Stmt) : Prop := ∃ f fd, Fun K x x st f fd ∧ mg x = some (.ref f)
/-- a def of the module that keeps a promise -/
structure Dfn (P : Program) (w : World) (K : PySem.W.Frag) (mg : Str → Option Value) (base : Heap) (k : Nat) (x : Str) (ps : List Str) (sp : Sp) : Prop where
  ex : ∃ (f : Addr) (fd : FuncData), FnOk P w K mg base CX0 k f fd ps sp ∧ mg x = some (.ref f) ∧ PySem.W.keepIn K (.ref f) = true ∧ Binds K fd ps []
theorem dfn_ok {x : Str} {st : Stmt} {N ps : List Str} {k : Nat} {sp : Sp} (A : At K mg x st) (S : FnScope N ps (defScope st))
    (hb : ∀ (kV doc pm : Value) (an : Option Addr) (cdv ct : Value) (us : List Value), us.length = ps.length → bindArgs (PySem.W.fnOf x x (defArgs st) (defBody st) (defScope st) .none kV doc pm an cdv ct) ⟨us, []⟩ = pure (ps.zip us))
    (len : ∀ vs H Q E, sp vs H Q E → vs.length = ps.length)
    (hbody : ∀ (f : Addr) (cdv : Value) (A : Around) (outer : List Env) (s : Shared) (H : Hp) (vs : List V) (Q : VK) (E : XK), Room k (A.deeper (envOfC x (defScope st) s.heap.objs.size f cdv)) → sp vs H Q E →
      ∃ t, PSs (cxOf CX0 P w K mg base N x (defScope st) f cdv A outer s H E).nox (defBody st) t ∧ t { nx := fun _ H' => Q .non H', rt := Q } (start N vs) H) : Dfn P w K mg base (k + 1) x ps sp := by
  obtain ⟨f, fd, F, hm⟩ := A
  exact ⟨f, fd, F.ok S len (hbody f), hm, F.kp, F.binds hb⟩
theorem Dfn.mono {x : Str} {ps : List Str} {j k : Nat} {sp : Sp} (D : Dfn P w K mg base j x ps sp) (h : j ≤ k) : Dfn P w K mg base k x ps sp := by
  obtain ⟨f, fd, F, r⟩ := D.ex
  exact ⟨f, fd, F.mono h, r⟩
end
section
variable {X : Cx} {k : Nat} {x : Str} {ps : List Str} {sp : Sp} {e : Expr} {es : List Expr} {p pos : Pos} {t : TA}
theorem pe_d (D : Dfn X.prog X.w X.K X.mg X.base k x ps sp) (hr : Room k X.A) (ha : PA X (e :: es) t) (hg : Gl X x := by rfl) (hdb : (x == ("__debug__" : Str)) = false := by decide)
    (he : starEach (e :: es) X.env = (false, eval e X.env) :: starEach es X.env := by rfl) (hpl : (backTo pos (starEach es X.env)).any (·.1) = false := by rfl) : PE X (.Call (.Name x p) (e :: es) [] pos) (tCall sp [] E0 t) := by
  obtain ⟨f, fd, F, hm, hk, hb⟩ := D.ex
  exact pe_call F hr hg hm hk hb .nil pass0 ha hdb he hpl
end

section
variable {K : PySem.W.Frag} {σ : L2.St} {H H' : Hp} {ta tb te tx : TE} {t u : TT} {x y z v : V} {r : R2}
/-! ### what evaluates to what, more of it -/
theorem ev_abs {i : Int} (h : EvA (tCons te tNil) σ H [.int i]) : Ev (tCB (fun xs H Q => ∃ i, xs = [.int i] ∧ Q (.int (if i < 0 then -i else i)) H) (tCons te tNil)) σ H (.int (if i < 0 then -i else i)) :=
  ev_cb h fun H1 _ _ q => ⟨i, rfl, q H1 (Ex.refl H1)⟩
theorem ev_int {i : Int} {ta : TA} (h : EvA ta σ H [.int i]) : Ev (tCB (fun xs H Q => (∃ i, xs = [.int i] ∧ Q (.int i) H) ∨ ∃ k, xs = [.bl k] ∧ Q (.int (if k then 1 else 0)) H) ta) σ H (.int i) :=
  ev_cb h fun H1 _ _ q => Or.inl ⟨i, rfl, q H1 (Ex.refl H1)⟩
theorem ev_intB {k : Bool} {ta : TA} (h : EvA ta σ H [.bl k]) : Ev (tCB (fun xs H Q => (∃ i, xs = [.int i] ∧ Q (.int i) H) ∨ ∃ k, xs = [.bl k] ∧ Q (.int (if k then 1 else 0)) H) ta) σ H (.int (if k then 1 else 0)) :=
  ev_cb h fun H1 _ _ q => Or.inr ⟨k, rfl, q H1 (Ex.refl H1)⟩
theorem ev_ite {b : Bool} {v1 v2 : V} (h : EvT t σ H b) (h1 : Ev ta σ H v1) (h2 : Ev tb σ H v2) : Ev (tIf t ta tb) σ H (if b then v1 else v2) := by
  cases b with
  | true => exact ev_if h (fun _ => h1) fun e => Bool.noConfusion e
  | false => exact ev_if h (fun e => Bool.noConfusion e) fun _ => h2
theorem rv_chain {r r' : R2} {tc : TE} {b c : Bool} (ha : Ev ta σ H x) (hb : Ev tb σ H y) (hr : RV r x y H (.bl b)) (hc : b = true → Ev tc σ H z) (hr' : b = true → RV r' y z H (.bl c)) : Ev (tChain r r' ta tb tc) σ H (.bl (b && c)) := fun H1 e Q q =>
  ha H1 e _ fun H2 e2 => hb H2 (e.trans e2) _ fun H3 e3 => hr H3 ((e.trans e2).trans e3) _ fun H4 e4 => ⟨b, rfl, by
    cases b with
    | true =>
      have e5 := ((e.trans e2).trans e3).trans e4
      exact iteT (hc rfl H4 e5 _ fun H5 e6 => hr' rfl H5 (e5.trans e6) Q fun H6 e7 => q H6 ((((e2.trans e3).trans e4).trans e6).trans e7))
    | false => exact iteF (q H4 ((e2.trans e3).trans e4))⟩
/-- tuple(..) of a list or a tuple -/
def rTupS (K : PySem.W.Frag) : List V → Hp → VK → Prop := fun xs H Q => ∃ p ys, xs = [.ref p] ∧ ((SqL K H p ys ∧ ∀ l, H l = none → Q (.ref l) (upd H l (.tup ys))) ∨ (SqT K H p ys ∧ Q (.ref p) H))
def rTupT (K : PySem.W.Frag) : List V → Hp → VK → Prop := fun xs H Q => ∃ a ys, xs = [.ref a] ∧ SqT K H a ys ∧ Q (.ref a) H
/-- a list at an address evaluates to itself; a new list as a value somewhere -/
theorem EvL.any {xs : List V} (h : EvL te σ H xs) : ∀ H1, Ex H H1 → ∀ Q : VK, (∀ p H2, H2 p = some (.lst xs) → Ex H1 H2 → Q (.ref p) H2) → te σ H1 Q := fun H1 e Q q => h H1 e Q fun p H2 _ e2 h2 => q p H2 h2 e2
end
/-! ### new lists of which only a property is known -/
section
variable {K : PySem.W.Frag} {σ : L2.St} {H H' : Hp} {ta tb te tx tl : TE} {t u : TT} {x y z v : V} {r : R2} {D : Ends} {tu tw tz : TS} {g : TG}
def EvP (te : TE) (σ : L2.St) (H : Hp) (P : List V → Prop) : Prop := ∀ H1, Ex H H1 → ∀ Q : VK, (∀ xs p H2, P xs → H1 p = none → Ex H1 H2 → H2 p = some (.lst xs) → Q (.ref p) H2) → te σ H1 Q
def SpP (sp : Sp) (vs : List V) (H : Hp) (P : List V → Prop) : Prop := ∀ H1, Ex H H1 → ∀ Q : VK, (∀ xs p H2, P xs → H1 p = none → Ex H1 H2 → H2 p = some (.lst xs) → Q (.ref p) H2) → ∀ E : XK, sp vs H1 Q E
theorem evP_call {sp : Sp} {dvs vs : List V} {E : XK} {ta : TA} {P : List V → Prop} (h : EvA ta σ H vs) (hs : SpP sp (vs ++ dvs) H P) : EvP (tCall sp dvs E ta) σ H P := fun H1 e Q q =>
  h H1 e _ fun H2 e2 => hs H2 (e.trans e2) Q (fun xs p H3 hP hp e3 h3 => q xs p H3 hP (fresh_back e2 hp) (e2.trans e3) h3) E
theorem q_asgP {i : Nat} {P : List V → Prop} (h : EvP te σ H P) (k : ∀ xs p H1, P xs → H p = none → Ex H H1 → H1 p = some (.lst xs) → tz D (σ.set i (some (.ref p))) H1) : tSeq (tAsg te (gName i)) tz D σ H :=
  h H (Ex.refl H) _ fun xs p H1 hP hp e h1 => k xs p H1 hP hp e h1
theorem s_forP {P : List V → Prop} (h : EvP tl σ H P) (Pv : List V → Addr → Nat → L2.St → Hp → Prop) (h0 : ∀ xs p H1, P xs → H p = none → Ex H H1 → H1 p = some (.lst xs) → Pv xs p 0 σ H1)
    (hl : ∀ xs p i σ' H', i ≤ xs.length → Pv xs p i σ' H' → SqL K H' p xs) (hs : ∀ xs p i x σ' H', xs[i]? = some x → Pv xs p i σ' H' → g x σ' H' fun σ2 H2 => tu { D with nx := Pv xs p (i + 1), ct := Pv xs p (i + 1), bk := D.nx } σ2 H2)
    (hd : ∀ xs p σ' H', Pv xs p xs.length σ' H' → D.nx σ' H') : tFor (iList K tl) g tu D σ H :=
  h H (Ex.refl H) _ fun xs p H1 hP hp e h1 => ⟨p, rfl, ⟨xs, sq_of h1⟩, for_list (Pv xs p) (h0 xs p H1 hP hp e h1) (hl xs p) (hs xs p) (hd xs p)⟩
theorem cut_take (xs : List V) (k : Nat) : cutV xs none (some (k : Int)) = xs.take k := by
  unfold cutV
  rw [HT.sIx_none, HT.sIx_nat, List.drop_zero, Nat.sub_zero]
  by_cases h : k ≤ xs.length
  · rw [Nat.min_eq_left h]
  · rw [Nat.min_eq_right (by omega), List.take_of_length_le (Nat.le_refl _), List.take_of_length_le (by omega)]
theorem ev_max1 {i j : Int} {ta : TA} (h : EvA ta σ H [.int i, .int j]) : Ev (tCB (fun xs H Q => ∃ i j, xs = [.int i, .int j] ∧ Q (.int (if j > i then j else i)) H) ta) σ H (.int (if j > i then j else i)) :=
  ev_cb h fun H1 _ _ q => ⟨i, j, rfl, q H1 (Ex.refl H1)⟩
theorem ev_lenL {p : Addr} {xs : List V} (ha : Ev ta σ H (.ref p)) (h : SqL K H p xs) : Ev (tCB (rLenS K) (tCons ta tNil)) σ H (.int (xs.length : Int)) := fun H1 e Q q =>
  ha H1 e _ fun H2 e2 => ⟨p, xs, rfl, Or.inl (ex_l (e.trans e2) h), q H2 e2⟩
theorem int_at {ns : List Int} {i : Nat} {x : V} (h : (ns.map V.int)[i]? = some x) : ∃ n, ns[i]? = some n ∧ x = .int n := by
  rw [List.getElem?_map] at h
  cases e : ns[i]? with
  | none => rw [e] at h; cases h
  | some n => rw [e] at h; exact ⟨n, rfl, (Option.some.inj h).symm⟩
end
/-! ### data that are compared as wholes -/
def Lay (d : PyData) (n : Nat) : Prop := d.canLay0 = true ∧ d.depth ≤ n
def LayA (ds : List PyData) (n : Nat) : Prop := PyData.canLayAll0 ds = true ∧ PyData.depthAll ds ≤ n
theorem Lay.int (i : Int) {n : Nat} : Lay (.int i) n := ⟨by simp [PyData.canLay0], by simp [PyData.depth]⟩
theorem Lay.bool (b : Bool) {n : Nat} : Lay (.bool b) n := ⟨by simp [PyData.canLay0], by simp [PyData.depth]⟩
theorem Lay.str {x : Str} {n : Nat} (h : PyData.strOk x = true) : Lay (.str x) n := ⟨by simp [PyData.canLay0, h], by simp [PyData.depth]⟩
theorem Lay.none {n : Nat} : Lay .none n := ⟨by simp [PyData.canLay0], by simp [PyData.depth]⟩
theorem Lay.list {ds : List PyData} {n : Nat} (h : LayA ds n) : Lay (.list ds) (n + 1) := ⟨by simpa [PyData.canLay0] using h.1, by have := h.2; simp only [PyData.depth]; omega⟩
theorem Lay.tuple {ds : List PyData} {n : Nat} (h : LayA ds n) : Lay (.tuple ds) (n + 1) := ⟨by simpa [PyData.canLay0] using h.1, by have := h.2; simp only [PyData.depth]; omega⟩
theorem LayA.nil {n : Nat} : LayA [] n := ⟨by simp [PyData.canLayAll0], by simp [PyData.depthAll]⟩
theorem LayA.cons {d : PyData} {ds : List PyData} {n : Nat} (h : Lay d n) (h2 : LayA ds n) : LayA (d :: ds) n :=
  ⟨by simp [PyData.canLayAll0, h.1, h2.1], by have a := h.2; have b := h2.2; simp only [PyData.depthAll]; omega⟩
theorem LayA.map {α : Type} {f : α → PyData} {n : Nat} : ∀ {xs : List α}, (∀ x ∈ xs, Lay (f x) n) → LayA (xs.map f) n
  | [], _ => LayA.nil
  | _ :: xs, h => LayA.cons (h _ List.mem_cons_self) (LayA.map fun x hx => h x (List.mem_cons_of_mem _ hx))
theorem Lay.sh {d : PyData} {n : Nat} (h : Lay d n) (hn : n ≤ 64 := by decide) : SeqAt.shaped d = true := by
  unfold SeqAt.shaped
  rw [h.1, decide_eq_true (Nat.le_trans h.2 hn)]
  rfl
section
variable {K : PySem.W.Frag} {H H' : Hp}
mutual
theorem dp_ex (e : Ex H H') : ∀ {v : V} {d : PyData}, Dp K H v d → Dp K H' v d
  | _, _, .non => .non
  | _, _, .bl b => .bl b
  | _, _, .int i => .int i
  | _, _, .str x => .str x
  | _, _, .lst h a => .lst (ex_l e h) (dpa_ex e a)
  | _, _, .tup h a => .tup (ex_t e h) (dpa_ex e a)
theorem dpa_ex (e : Ex H H') : ∀ {vs : List V} {ds : List PyData}, DpAll K H vs ds → DpAll K H' vs ds
  | _, _, .nil => .nil
  | _, _, .cons h t => .cons (dp_ex e h) (dpa_ex e t)
end
theorem dpa_ints : ∀ ns : List Int, DpAll K H (ns.map V.int) (ns.map PyData.int)
  | [] => .nil
  | n :: r => .cons (.int n) (dpa_ints r)
theorem dp_ints {a : Addr} {ns : List Int} (h : SqL K H a (ns.map V.int)) : Dp K H (.ref a) (.list (ns.map PyData.int)) := .lst h (dpa_ints ns)
theorem dp_intsT {a : Addr} {ns : List Int} (h : SqT K H a (ns.map V.int)) : Dp K H (.ref a) (.tuple (ns.map PyData.int)) := .tup h (dpa_ints ns)
theorem lay_ints (ns : List Int) {n : Nat} : Lay (.list (ns.map PyData.int)) (n + 1) := .list (.map fun _ _ => .int _)
theorem lay_intsT (ns : List Int) {n : Nat} : Lay (.tuple (ns.map PyData.int)) (n + 1) := .tuple (.map fun _ _ => .int _)
theorem rv_neD {x y : V} {d e : PyData} (hx : Dp K H x d) (hy : Dp K H y e) (sd : SeqAt.shaped d = true) (se : SeqAt.shaped e = true) : RV (rNeD K) x y H (.bl (!PyData.eqv d e)) := fun H1 e1 Q q => ⟨d, e, dp_ex e1 hx, dp_ex e1 hy, sd, se, q H1 (Ex.refl H1)⟩
theorem rv_eqD {x y : V} {d e : PyData} (hx : Dp K H x d) (hy : Dp K H y e) (sd : SeqAt.shaped d = true) (se : SeqAt.shaped e = true) : RV (rEqD K) x y H (.bl (PyData.eqv d e)) := fun H1 e1 Q q => ⟨d, e, dp_ex e1 hx, dp_ex e1 hy, sd, se, q H1 (Ex.refl H1)⟩
theorem eqv_self {d : PyData} (h : SeqAt.shaped d = true) : PyData.eqv d d = true := SeqAt.eqv_refl d (SeqAt.canLay_of_shaped h)
/-- the same data: != is False, == is True -/
theorem rv_neS {x y : V} {d : PyData} (hx : Dp K H x d) (hy : Dp K H y d) (sd : SeqAt.shaped d = true) : RV (rNeD K) x y H (.bl false) := fun H1 e1 Q q => ⟨d, d, dp_ex e1 hx, dp_ex e1 hy, sd, sd, by rw [eqv_self sd]; exact q H1 (Ex.refl H1)⟩
theorem rv_eqS {x y : V} {d : PyData} (hx : Dp K H x d) (hy : Dp K H y d) (sd : SeqAt.shaped d = true) : RV (rEqD K) x y H (.bl true) := fun H1 e1 Q q => ⟨d, d, dp_ex e1 hx, dp_ex e1 hy, sd, sd, by rw [eqv_self sd]; exact q H1 (Ex.refl H1)⟩
end
/-! ### lists of ints: joined, filtered, looked into -/
section
variable {K : PySem.W.Frag} {σ : L2.St} {H H' : Hp} {ta tb te tx tl : TE} {t u : TT} {x y z v : V} {r : R2}
theorem el_cat {xs ys : List V} (ha : EvL ta σ H xs) (hb : EvL tb σ H ys) (hz : xs.length + ys.length ≤ 100000) : EvL (tOp rCat ta tb) σ H (xs ++ ys) := fun H1 e Q q =>
  ha H1 e _ fun p H2 np e2 hp => hb H2 (e.trans e2) _ fun p' H3 np' e3 hp' => ⟨p, p', xs, ys, rfl, rfl, e3 _ _ hp, hp', sz_of hz, fun l nl => q l _ (fresh_back (e2.trans e3) nl) ((e2.trans e3).trans (Ex.new nl)) upd_same⟩
theorem el_is {xs ys : List V} (h : EvL te σ H xs) (e : xs = ys) : EvL te σ H ys := by
  rw [← e]
  exact h
theorem inV_ints (i : Int) : ∀ ns : List Int, inV (.int i) (ns.map V.int) = decide (i ∈ ns)
  | [] => rfl
  | n :: r => by
    show ((n == i) || inV (.int i) (r.map V.int)) = decide (i ∈ n :: r)
    rw [inV_ints i r]
    by_cases h : n = i
    · subst h
      simp
    · have h2 : ¬ i = n := fun e => h e.symm
      simp [h, h2]
theorem flat_ints : ∀ ns : List Int, (ns.map V.int).all flatV = true
  | [] => rfl
  | n :: r => flat_ints r
theorem rv_inI {neg : Bool} {p : Addr} {i : Int} {ns : List Int} (h : SqL K H p (ns.map V.int)) : RV (rIn K neg) (.int i) (.ref p) H (.bl (if neg then !decide (i ∈ ns) else decide (i ∈ ns))) := by
  rw [← inV_ints]
  exact rv_inL h rfl (flat_ints ns)
theorem rv_isI {p : Addr} {i : Int} {ns : List Int} (h : SqL K H p (ns.map V.int)) : RV (rIn K false) (.int i) (.ref p) H (.bl (decide (i ∈ ns))) := rv_inI (neg := false) h
theorem rv_niI {p : Addr} {i : Int} {ns : List Int} (h : SqL K H p (ns.map V.int)) : RV (rIn K true) (.int i) (.ref p) H (.bl (!decide (i ∈ ns))) := rv_inI (neg := true) h
theorem given_ints (n : Nat) (f : Nat → Bool) (g : Nat → Int) : given n f (fun i => V.int (g i)) = (((List.range n).filter f).map g).map V.int := by
  unfold given
  rw [List.map_map]
  rfl
theorem given_eq {n : Nat} {f f' : Nat → Bool} {g g' : Nat → V} (hf : ∀ i, i < n → f i = f' i) (hg : ∀ i, i < n → f' i = true → g i = g' i) : given n f g = given n f' g' := by
  unfold given
  rw [List.filter_congr fun i hi => hf i (List.mem_range.mp hi)]
  exact List.map_congr_left fun i hi => hg i (List.mem_range.mp (List.mem_filter.mp hi).1) (List.mem_filter.mp hi).2
theorem ev_isL {p : Addr} {xs : List V} (ha : Ev ta σ H (.ref p)) (h : H p = some (.lst xs)) : Ev (tCB (rIsi K) (tCons ta (tCons (tC (.ty "list")) tNil))) σ H (.bl true) :=
  ev_cb (ea_cons ha (ea_cons ev_c ea_nil)) fun H1 e _ q => ⟨.ref p, .ty "list", .type "list", .type "list", true, rfl, .ty _, .base (.lst (e _ _ h)), kit_ty (by decide +kernel), q H1 (Ex.refl H1)⟩
theorem ev_allL {bs : List Bool} {ta : TE} (ha : EvL ta σ H (bs.map V.bl)) : Ev (tCB (rAll K) (tCons ta tNil)) σ H (.bl (bs.all id)) := fun H1 e Q q =>
  ha H1 e _ fun p H2 _ e2 hp => ⟨p, bs, rfl, sq_of hp, q H2 e2⟩
theorem ev_sumL {ns : List Int} {ta : TE} (ha : EvL ta σ H (ns.map V.int)) : Ev (tCB (rSum K) (tCons ta tNil)) σ H (.int ns.sum) := fun H1 e Q q =>
  ha H1 e _ fun p H2 _ e2 hp => ⟨p, ns, rfl, sq_of hp, q H2 e2⟩
/-- len of a new list -/
theorem ev_lenN2 {xs : List V} {ta : TE} (ha : EvL ta σ H xs) : Ev (tCB (rLenS K) (tCons ta tNil)) σ H (.int (xs.length : Int)) := fun H1 e Q q =>
  ha H1 e _ fun p H2 _ e2 h2 => ⟨p, xs, rfl, Or.inl (sq_of h2), q H2 e2⟩
/-- an item of a list that is made on the spot -/
theorem ev_ixN {xs : List V} {i : Int} (ha : EvL ta σ H xs) (hb : Ev tb σ H (.int i)) (hx : atI xs i = some v) : Ev (tOp (rIxL K) ta tb) σ H v :=
  ev_opL1 ha (fun H1 e => hb.mono e) fun p H1 hp _ => rv_ixL (sq_of hp) hx
theorem ev_ixI {p : Addr} {xs : List V} {i : Int} (ha : Ev ta σ H (.ref p)) (hb : Ev tb σ H (.int i)) (h : SqL K H p xs) (hx : atI xs i = some v) : Ev (tOp (rIxL K) ta tb) σ H v := ev_op ha hb (rv_ixL h hx)
end
/-! ### values of which only a property is known -/
section
variable {K : PySem.W.Frag} {σ : L2.St} {H H' : Hp} {ta tb te tx tl : TE} {t u : TT} {x y z v : V} {r : R2} {D : Ends} {tu tw tz : TS} {P : V → Hp → Prop}
def EvG (te : TE) (σ : L2.St) (H : Hp) (P : V → Hp → Prop) : Prop := ∀ H1, Ex H H1 → ∀ Q : VK, (∀ v H2, Ex H1 H2 → P v H2 → Q v H2) → te σ H1 Q
theorem q_asgG {i : Nat} (h : EvG te σ H P) (k : ∀ v H1, Ex H H1 → P v H1 → tz D (σ.set i (some v)) H1) : tSeq (tAsg te (gName i)) tz D σ H := h H (Ex.refl H) _ fun v H1 e p => k v H1 e p
theorem s_asgG {i : Nat} (h : EvG te σ H P) (k : ∀ v H1, Ex H H1 → P v H1 → D.nx (σ.set i (some v)) H1) : tAsg te (gName i) D σ H := h H (Ex.refl H) _ fun v H1 e p => k v H1 e p
theorem s_retG (h : EvG te σ H P) (k : ∀ v H1, Ex H H1 → P v H1 → D.rt v H1) : tRet te D σ H := h H (Ex.refl H) _ fun v H1 e p => k v H1 e p
theorem EvG.imp {P' : V → Hp → Prop} (h : EvG te σ H P) (i : ∀ v H1, Ex H H1 → P v H1 → P' v H1) : EvG te σ H P' := fun H1 e Q q => h H1 e Q fun v H2 e2 p => q v H2 e2 (i v H2 (e.trans e2) p)
theorem EvL.g {xs : List V} (h : EvL te σ H xs) : EvG te σ H (fun v H' => ∃ p, v = .ref p ∧ H p = none ∧ H' p = some (.lst xs)) := fun H1 e Q q => h H1 e Q fun p H2 np e2 hp => q _ H2 e2 ⟨p, rfl, fresh_back e np, hp⟩
theorem EvU.g {xs : List V} (h : EvU te σ H xs) : EvG te σ H (fun v H' => ∃ p, v = .ref p ∧ H p = none ∧ H' p = some (.tup xs)) := fun H1 e Q q => h H1 e Q fun p H2 np e2 hp => q _ H2 e2 ⟨p, rfl, fresh_back e np, hp⟩
theorem Ev.g (h : Ev te σ H v) : EvG te σ H (fun v' _ => v' = v) := fun H1 e Q q => h H1 e Q fun H2 e2 => q _ H2 e2 rfl
/-- a list, a tuple that is made of two values -/
theorem evG_lst2 {P1 P2 : V → Hp → Prop} (h1 : EvG ta σ H P1) (m1 : ∀ v H1 H2, Ex H1 H2 → P1 v H1 → P1 v H2) (h2 : ∀ v H1, Ex H H1 → P1 v H1 → EvG tb σ H1 P2) (m2 : ∀ v H1 H2, Ex H1 H2 → P2 v H1 → P2 v H2) :
    EvG (tLst (tCons ta (tCons tb tNil))) σ H (fun v H' => ∃ p a b, v = .ref p ∧ H p = none ∧ H' p = some (.lst [a, b]) ∧ P1 a H' ∧ P2 b H') := fun H1 e Q q =>
  h1 H1 e _ fun a H2 e2 p1 => h2 a H2 (e.trans e2) p1 H2 (Ex.refl _) _ fun b H3 e3 p2 => ⟨(by decide : 2 ≤ sizeLine), fun p np =>
    q _ _ ((e2.trans e3).trans (Ex.new np)) ⟨p, a, b, rfl, fresh_back ((e.trans e2).trans e3) np, upd_same, m1 _ _ _ (e3.trans (Ex.new np)) p1, m2 _ _ _ (Ex.new np) p2⟩⟩
/-- data, told as a whole, of a value -/
theorem opG {P1 P2 : V → Hp → Prop} (h1 : EvG ta σ H P1) (m1 : ∀ v H1 H2, Ex H1 H2 → P1 v H1 → P1 v H2) (h2 : EvG tb σ H P2) (hr : ∀ a b H1, Ex H H1 → P1 a H1 → P2 b H1 → RV r a b H1 z) : Ev (tOp r ta tb) σ H z := fun H1 e Q q =>
  h1 H1 e _ fun a H2 e2 p1 => h2 H2 (e.trans e2) _ fun b H3 e3 p2 => hr a b H3 ((e.trans e2).trans e3) (m1 _ _ _ e3 p1) p2 H3 (Ex.refl _) Q fun H4 e4 => q H4 ((e2.trans e3).trans e4)
end
/-! ### enumerate; bits; the truth of a value -/
/-- a test that is a value's truth -/
def tTr (K : PySem.W.Frag) (ta : TE) : TT := fun σ H Q => ta σ H fun x H' => ∃ k, TruV K x H' k ∧ Q k H'
section
variable {K : PySem.W.Frag} {σ : L2.St} {H H' : Hp} {ta tb te tx tl : TE} {t u tt : TT} {x y z v : V} {r : R2} {D : Ends} {tu tw tz : TS}
theorem et_truI {i : Int} (h : Ev ta σ H (.int i)) : EvT (tTr K ta) σ H (i != 0) := fun H1 e _ q => h H1 e _ fun H2 e2 => ⟨i != 0, rfl, q H2 e2⟩
theorem s_forE {xs : List V} {j1 j2 : Nat} (h : EvL tl σ H xs) (Pv : Addr → Nat → L2.St → Hp → Prop) (h0 : ∀ p H1, H p = none → Ex H H1 → H1 p = some (.lst xs) → Pv p 0 σ H1) (hl : ∀ p i σ' H', i ≤ xs.length → Pv p i σ' H' → SqL K H' p xs)
    (hs : ∀ p i x σ' H', xs[i]? = some x → Pv p i σ' H' → ∀ T, H' T = none → tu { D with nx := Pv p (i + 1), ct := Pv p (i + 1), bk := D.nx } ((σ'.set j1 (some (.int ((i : Nat) : Int)))).set j2 (some x)) (upd H' T (.tup [.int ((i : Nat) : Int), x])))
    (hd : ∀ p σ' H', Pv p xs.length σ' H' → D.nx σ' H') : tFor (iEnum K (tCons tl tNil)) (gTup K 2 (gCons (gName j1) (gCons (gName j2) gNil))) tu D σ H :=
  h H (Ex.refl H) _ fun p H1 np e h1 => ⟨p, xs, rfl, sq_of h1, fun i m σ' H' => m = xs.length - i ∧ i ≤ xs.length ∧ Pv p i σ' H', ⟨xs.length, by simp, Nat.zero_le _, h0 p H1 np e h1⟩, by
    rintro i m σ' H' ⟨rfl, hi, pp⟩
    have q := hl p i σ' H' hi pp
    by_cases hlt : i < xs.length
    · refine .inr ⟨⟨xs, xs[i], q, by simp [hlt]⟩, Pv p (i + 1), fun σ2 H2 p' => ⟨xs.length - (i + 1), by omega, rfl, hlt, p'⟩, fun v H2 y => ?_⟩
      obtain ⟨T, x, rfl, nT, rfl, hx⟩ := y
      exact ⟨T, _, rfl, st_of upd_same, rfl, _, _, rfl, _, _, rfl, rfl, hs p i x σ' H' (hx xs q) pp T nT⟩
    · have e : i = xs.length := by omega
      subst e
      exact .inl ⟨⟨xs, q, Nat.le_refl _⟩, hd p σ' H' pp⟩⟩
theorem q_forE {xs : List V} {j1 j2 : Nat} (h : EvL tl σ H xs) (Pv : Addr → Nat → L2.St → Hp → Prop) (h0 : ∀ p H1, H p = none → Ex H H1 → H1 p = some (.lst xs) → Pv p 0 σ H1) (hl : ∀ p i σ' H', i ≤ xs.length → Pv p i σ' H' → SqL K H' p xs)
    (hs : ∀ p i x σ' H', xs[i]? = some x → Pv p i σ' H' → ∀ T, H' T = none → tu { D with nx := Pv p (i + 1), ct := Pv p (i + 1), bk := tz D } ((σ'.set j1 (some (.int ((i : Nat) : Int)))).set j2 (some x)) (upd H' T (.tup [.int ((i : Nat) : Int), x])))
    (hd : ∀ p σ' H', Pv p xs.length σ' H' → tz D σ' H') : tSeq (tFor (iEnum K (tCons tl tNil)) (gTup K 2 (gCons (gName j1) (gCons (gName j2) gNil))) tu) tz D σ H :=
  s_forE (D := { D with nx := tz D }) h Pv h0 hl hs hd
/-- [e for i, x in enumerate(new list) if t] -/
theorem el_lcE {xs : List V} {j1 j2 : Nat} {vs : List Nat} (f : Nat → Bool) (g : Nat → V) (h : EvL tl σ H xs) (hz : xs.length ≤ 40000) (hw : ∀ x y, wipe (((wipe σ vs).set j1 (some x)).set j2 (some y)) vs = wipe σ vs)
    (ht : ∀ (i : Nat) (x : V) H1, Ex H H1 → xs[i]? = some x → EvT tt (((wipe σ vs).set j1 (some (.int (i : Int)))).set j2 (some x)) H1 (f i)) (he : ∀ (i : Nat) (x : V) H1, Ex H H1 → xs[i]? = some x → f i = true → Ev te (((wipe σ vs).set j1 (some (.int (i : Int)))).set j2 (some x)) H1 (g i)) :
    EvL (tLc (iEnum K (tCons tl tNil)) (gTup K 2 (gCons (gName j1) (gCons (gName j2) gNil))) tt te vs) σ H (given xs.length f g) := fun H0 e Q q => h H0 e _ fun a H1 na e1 hx => ⟨a, xs, rfl, sq_of hx, fun Dl hD => by
  refine ⟨fun i m H' => m = xs.length - i ∧ i ≤ xs.length ∧ Cw H1 f g Dl i H', ⟨xs.length, by simp, Nat.zero_le _, hD, Ex.new hD, upd_same⟩, ?_⟩
  rintro i m H' ⟨rfl, hi, pp⟩
  have qx : SqL K H' a xs := sq_of (pp.2.1 _ _ hx)
  by_cases hlt : i < xs.length
  · refine .inr ⟨⟨xs, xs[i], qx, by simp [hlt]⟩, Cw H1 f g Dl (i + 1), fun H2 p' => ⟨xs.length - (i + 1), by omega, rfl, hlt, p'⟩, fun v H2 y => ?_⟩
    obtain ⟨T, x, rfl, nT, rfl, hxx⟩ := y
    have hix := hxx xs qx
    have hDT : Dl ≠ T := ne_of_none pp.2.2 nT
    have pp2 : Cw H1 f g Dl i (upd H' T (.tup [.int ((i : Nat) : Int), x])) := ⟨pp.1, pp.2.1.trans (Ex.new nT), by rw [upd_ne hDT]; exact pp.2.2⟩
    exact ⟨T, _, rfl, st_of upd_same, rfl, _, _, rfl, _, _, rfl, rfl, hw _ _, cw_turn pp2 (by omega) (ht i x H1 (e.trans e1) hix) (fun hf => he i x H1 (e.trans e1) hix hf)⟩
  · have e' : i = xs.length := by omega
    subst e'
    exact .inl ⟨⟨xs, qx, Nat.le_refl _⟩, q Dl H' (fresh_back e1 pp.1) (e1.trans pp.2.1) pp.2.2⟩⟩
theorem bitI (n p : Nat) : Builtin.bitAnd ((n : Int) / 2 ^ ((p : Int)).toNat) 1 = ((n.testBit p).toNat : Int) := by
  have e1 : ((n : Int) / 2 ^ ((p : Int)).toNat) = ((n / 2 ^ p : Nat) : Int) := by
    rw [Int.toNat_natCast]
    simp
  have e2 := Bits.bitAnd_mask (x := ((n / 2 ^ p : Nat) : Int)) 1 (Int.natCast_nonneg _)
  rw [e1]
  have e3 : ((2 : Int) ^ 1 - 1) = 1 := by decide
  rw [e3] at e2
  rw [e2, Nat.testBit_eq_decide_div_mod_eq]
  have h := Nat.mod_two_eq_zero_or_one (n / 2 ^ p)
  show (((n / 2 ^ p : Nat) : Int) % 2) = _
  rcases h with h | h
  · rw [decide_eq_false (by omega)]; show _ = (0 : Int); omega
  · rw [decide_eq_true h]; show _ = (1 : Int); omega
/-- n >> p & 1 -/
theorem ev_bit {n p : Nat} (ha : Ev ta σ H (.int (n : Int))) (hb : Ev tb σ H (.int (p : Int))) :
    Ev (tOp (rI0 fun i j => .int (Builtin.bitAnd i j)) (tOp (rI (fun _ j => 0 ≤ j) fun i j => .int (i / 2 ^ j.toNat)) ta tb) (tC (.int 1))) σ H (.int ((n.testBit p).toNat : Int)) := by
  have h := ev_op (ev_op ha hb (rv_I (C := fun _ j => 0 ≤ j) (g := fun i j => .int (i / 2 ^ j.toNat)) (Int.natCast_nonneg p))) (ev_c (v := .int 1)) (rv_I0 (g := fun i j => .int (Builtin.bitAnd i j)))
  rw [bitI] at h
  exact h
theorem et_bit {n p : Nat} (ha : Ev ta σ H (.int (n : Int))) (hb : Ev tb σ H (.int (p : Int))) :
    EvT (tTr K (tOp (rI0 fun i j => .int (Builtin.bitAnd i j)) (tOp (rI (fun _ j => 0 ≤ j) fun i j => .int (i / 2 ^ j.toNat)) ta tb) (tC (.int 1)))) σ H (n.testBit p) := et_is (et_truI (ev_bit ha hb)) (by cases n.testBit p <;> rfl)
theorem xorI (a b : Nat) : Builtin.bitXor (a : Int) (b : Int) = ((a ^^^ b : Nat) : Int) := by rw [Bits.bitXor_pp (Int.natCast_nonneg _) (Int.natCast_nonneg _)]; rfl
theorem orI (a b : Nat) : Builtin.bitOr (a : Int) (b : Int) = ((a ||| b : Nat) : Int) := by rw [Bits.bitOr_pp (Int.natCast_nonneg _) (Int.natCast_nonneg _)]; rfl
theorem andI (a b : Nat) : Builtin.bitAnd (a : Int) (b : Int) = ((a &&& b : Nat) : Int) := by
  unfold Builtin.bitAnd
  rw [decide_eq_true (Int.natCast_nonneg a), decide_eq_true (Int.natCast_nonneg b)]
  rfl
theorem ev_xor {a b : Nat} (ha : Ev ta σ H (.int (a : Int))) (hb : Ev tb σ H (.int (b : Int))) : Ev (tOp (rI0 fun i j => .int (Builtin.bitXor i j)) ta tb) σ H (.int ((a ^^^ b : Nat) : Int)) := by
  have h := ev_op ha hb (rv_I0 (g := fun i j => .int (Builtin.bitXor i j)))
  rw [xorI] at h
  exact h
theorem ev_or {a b : Nat} (ha : Ev ta σ H (.int (a : Int))) (hb : Ev tb σ H (.int (b : Int))) : Ev (tOp (rI0 fun i j => .int (Builtin.bitOr i j)) ta tb) σ H (.int ((a ||| b : Nat) : Int)) := by
  have h := ev_op ha hb (rv_I0 (g := fun i j => .int (Builtin.bitOr i j)))
  rw [orI] at h
  exact h
theorem ev_and {a b : Nat} (ha : Ev ta σ H (.int (a : Int))) (hb : Ev tb σ H (.int (b : Int))) : Ev (tOp (rI0 fun i j => .int (Builtin.bitAnd i j)) ta tb) σ H (.int ((a &&& b : Nat) : Int)) := by
  have h := ev_op ha hb (rv_I0 (g := fun i j => .int (Builtin.bitAnd i j)))
  rw [andI] at h
  exact h
/-- a << p -/
theorem ev_shl {a p : Nat} (ha : Ev ta σ H (.int (a : Int))) (hb : Ev tb σ H (.int (p : Int))) (h1 : a < 2 ^ 64) (h2 : p ≤ 1000000) : Ev (tOp (rI CPow fun i j => .int (i * 2 ^ j.toNat)) ta tb) σ H (.int ((a * 2 ^ p : Nat) : Int)) := by
  have h := ev_op ha hb (rv_I (C := CPow) (g := fun i j => .int (i * 2 ^ j.toNat)) ⟨by omega, by omega, by omega⟩)
  have e : ((a : Int) * 2 ^ ((p : Int)).toNat) = ((a * 2 ^ p : Nat) : Int) := by rw [Int.toNat_natCast]; simp
  rw [e] at h
  exact h
theorem ev_bits {n : Nat} (ha : Ev ta σ H (.int (n : Int))) : Ev (tBits ta) σ H (.int ((Builtin.Int.intBits (n : Int) : Nat) : Int)) := fun H1 e Q q => ha H1 e _ fun H2 e2 => ⟨_, rfl, q H2 e2⟩
end
theorem bitsN (n : Nat) : Builtin.Int.intBits (n : Int) = if n = 0 then 0 else n.log2 + 1 := by
  unfold Builtin.Int.intBits
  by_cases h : n = 0
  · subst h; rfl
  · have h2 : ¬ ((n : Int) == 0) = true := by simp; exact h
    rw [if_neg h2, if_neg h]
    rfl
theorem bits_lt (n : Nat) : n < 2 ^ Builtin.Int.intBits (n : Int) := by
  rw [bitsN]
  split
  · subst_vars; decide
  · exact Nat.lt_log2_self
theorem bits_le {n k : Nat} (h : n < 2 ^ k) : Builtin.Int.intBits (n : Int) ≤ k := by
  rw [bitsN]
  split
  · exact Nat.zero_le _
  · rename_i h0
    have := (Nat.log2_lt h0).mpr h
    omega
end My
set_option linter.all false
/-! ### coded words: the mathematics -/
namespace My
/-- what comes by adding without carrying -/
def sx (l : List Nat) : Nat := l.foldl (· ^^^ ·) 0
theorem sx_from : ∀ (l : List Nat) (a : Nat), l.foldl (· ^^^ ·) a = a ^^^ sx l
  | [], a => by show a = a ^^^ 0; rw [Nat.xor_zero]
  | b :: r, a => by
    show r.foldl (· ^^^ ·) (a ^^^ b) = a ^^^ r.foldl (· ^^^ ·) (0 ^^^ b)
    rw [sx_from r, sx_from r, Nat.zero_xor, Nat.xor_assoc]
theorem sx_cons (a : Nat) (l : List Nat) : sx (a :: l) = a ^^^ sx l := by
  show l.foldl (· ^^^ ·) (0 ^^^ a) = _
  rw [Nat.zero_xor, sx_from]
theorem sx_append (l r : List Nat) : sx (l ++ r) = sx l ^^^ sx r := by
  unfold sx
  rw [List.foldl_append, sx_from r]
  rfl
theorem sx_one (a : Nat) : sx [a] = a := by rw [sx_cons]; exact Nat.xor_zero a
/-- places flipped, one after another -/
def flip (r : Nat) (ps : List Nat) : Nat := ps.foldl (fun r p => r ^^^ 2 ^ p) r
theorem flip_append (r : Nat) (a b : List Nat) : flip r (a ++ b) = flip (flip r a) b := by unfold flip; rw [List.foldl_append]
theorem tb_flip1 (r p q : Nat) : (r ^^^ 2 ^ p).testBit q = (r.testBit q ^^ decide (p = q)) := by rw [Nat.testBit_xor, Nat.testBit_two_pow]
/-- bits up to m -/
def bs (m n : Nat) : List Nat := (List.range m).filter fun p => n.testBit p
theorem bs_succ (m n : Nat) : bs (m + 1) n = bs m n ++ (if n.testBit m then [m] else []) := by
  unfold bs
  rw [List.range_succ, List.filter_append]
  by_cases h : n.testBit m = true
  · rw [if_pos h, List.filter_cons, if_pos h]; rfl
  · rw [if_neg h, List.filter_cons, if_neg h]; rfl
theorem bs_congr {m a b : Nat} (h : ∀ q, q < m → a.testBit q = b.testBit q) : bs m a = bs m b := by
  unfold bs
  exact List.filter_congr fun q hq => h q (List.mem_range.mp hq)
def spotN (m n : Nat) : Nat := sx (bs m n)
def parB (m n : Nat) : Bool := decide ((bs m n).length % 2 = 1)
theorem spot_succ (m n : Nat) : spotN (m + 1) n = spotN m n ^^^ (if n.testBit m then m else 0) := by
  unfold spotN
  rw [bs_succ, sx_append]
  split
  · rw [sx_one]
  · rfl
theorem par_succ (m n : Nat) : parB (m + 1) n = (parB m n ^^ n.testBit m) := by
  unfold parB
  rw [bs_succ, List.length_append]
  cases h : n.testBit m with
  | true =>
    rw [if_pos rfl]
    show decide (((bs m n).length + 1) % 2 = 1) = _
    by_cases e : (bs m n).length % 2 = 1
    · rw [decide_eq_true e, decide_eq_false (by omega)]; rfl
    · rw [decide_eq_false e, decide_eq_true (by omega)]; rfl
  | false =>
    rw [if_neg (by decide)]
    show decide (((bs m n).length + 0) % 2 = 1) = _
    rw [Nat.add_zero, Bool.xor_false]
theorem flip_low {m n p : Nat} (h : m ≤ p) : bs m (n ^^^ 2 ^ p) = bs m n := bs_congr fun q hq => by
  rw [tb_flip1, decide_eq_false (by omega), Bool.xor_false]
theorem spot_flip1 {m n p : Nat} (hp : p < m) : spotN m (n ^^^ 2 ^ p) = spotN m n ^^^ p := by
  induction m with
  | zero => omega
  | succ m ih =>
    rw [spot_succ, spot_succ, tb_flip1]
    by_cases e : p = m
    · subst e
      have h : spotN p (n ^^^ 2 ^ p) = spotN p n := by unfold spotN; rw [flip_low (Nat.le_refl _)]
      rw [h, decide_eq_true rfl]
      cases n.testBit p with
      | true =>
        show spotN p n ^^^ 0 = (spotN p n ^^^ p) ^^^ p
        rw [Nat.xor_assoc, Nat.xor_self]
      | false =>
        show spotN p n ^^^ p = (spotN p n ^^^ 0) ^^^ p
        rw [Nat.xor_zero]
    · rw [ih (by omega), decide_eq_false e, Bool.xor_false, Nat.xor_assoc, Nat.xor_assoc, Nat.xor_comm p]
theorem par_flip1 {m n p : Nat} (hp : p < m) : parB m (n ^^^ 2 ^ p) = !parB m n := by
  induction m with
  | zero => omega
  | succ m ih =>
    rw [par_succ, par_succ, tb_flip1]
    by_cases e : p = m
    · subst e
      have h : parB p (n ^^^ 2 ^ p) = parB p n := by unfold parB; rw [flip_low (Nat.le_refl _)]
      rw [h, decide_eq_true rfl]
      cases parB p n <;> cases n.testBit p <;> rfl
    · rw [ih (by omega), decide_eq_false e, Bool.xor_false]
      cases parB m n <;> cases n.testBit m <;> rfl
theorem spot_flip {m : Nat} : ∀ {ps : List Nat} {n : Nat}, (∀ p ∈ ps, p < m) → spotN m (flip n ps) = spotN m n ^^^ sx ps
  | [], n, _ => by show spotN m n = spotN m n ^^^ 0; rw [Nat.xor_zero]
  | p :: r, n, h => by
    show spotN m (flip (n ^^^ 2 ^ p) r) = _
    rw [spot_flip (fun q hq => h q (List.mem_cons_of_mem _ hq)), spot_flip1 (h p List.mem_cons_self), sx_cons, Nat.xor_assoc]
theorem par_flip {m : Nat} : ∀ {ps : List Nat} {n : Nat}, (∀ p ∈ ps, p < m) → parB m (flip n ps) = (parB m n ^^ decide (ps.length % 2 = 1))
  | [], n, _ => by show parB m n = _; simp
  | p :: r, n, h => by
    show parB m (flip (n ^^^ 2 ^ p) r) = _
    rw [par_flip (fun q hq => h q (List.mem_cons_of_mem _ hq)), par_flip1 (h p List.mem_cons_self), List.length_cons]
    by_cases e : r.length % 2 = 1
    · rw [decide_eq_true e, decide_eq_false (by omega)]; cases parB m n <;> rfl
    · rw [decide_eq_false e, decide_eq_true (by omega)]; cases parB m n <;> rfl
theorem bs_zero (m : Nat) : bs m 0 = [] := by
  unfold bs
  rw [List.filter_eq_nil_iff]
  intro q _
  simp
theorem spot_zero (m : Nat) : spotN m 0 = 0 := by unfold spotN; rw [bs_zero]; rfl
theorem par_zero (m : Nat) : parB m 0 = false := by unfold parB; rw [bs_zero]; rfl
/-! sums of powers -/
def rowOf (ps : List Nat) : Nat := (ps.map (2 ^ ·)).sum
theorem xor_mod2 (r s : Nat) : (r ^^^ s) % 2 = (r + s) % 2 := by
  have h : (r ^^^ s).testBit 0 = (r.testBit 0 ^^ s.testBit 0) := Nat.testBit_xor ..
  rw [Nat.testBit_zero, Nat.testBit_zero, Nat.testBit_zero] at h
  by_cases a : r % 2 = 1 <;> by_cases b : s % 2 = 1 <;> by_cases c : (r ^^^ s) % 2 = 1 <;> simp [a, b, c] at h <;> omega
theorem xor_add : ∀ (p r : Nat), r.testBit p = false → r ^^^ 2 ^ p = r + 2 ^ p
  | 0, r, h => by
    have h1 : r % 2 = 0 := by
      rw [Nat.testBit_zero] at h
      have := of_decide_eq_false h
      omega
    have a := Nat.xor_div_two (a := r) (b := 1)
    have b := xor_mod2 r 1
    have c : r / 2 ^^^ 1 / 2 = r / 2 := by
      show r / 2 ^^^ 0 = r / 2
      rw [Nat.xor_zero]
    rw [c] at a
    show r ^^^ 1 = r + 1
    omega
  | p + 1, r, h => by
    rw [Nat.testBit_succ] at h
    have ih := xor_add p (r / 2) h
    have a := Nat.xor_div_two (a := r) (b := 2 ^ (p + 1))
    have b := xor_mod2 r (2 ^ (p + 1))
    have e : 2 ^ (p + 1) / 2 = 2 ^ p := by rw [Nat.pow_succ]; omega
    have e2 : 2 ^ (p + 1) = 2 * 2 ^ p := by rw [Nat.pow_succ]; omega
    rw [e, ih] at a
    omega
theorem flip_sum : ∀ {ps : List Nat} {r : Nat}, ps.Nodup → (∀ p ∈ ps, r.testBit p = false) → flip r ps = r + rowOf ps
  | [], r, _, _ => rfl
  | p :: ps, r, nd, h => by
    have hn := List.nodup_cons.mp nd
    show flip (r ^^^ 2 ^ p) ps = r + (2 ^ p + rowOf ps)
    rw [flip_sum hn.2, xor_add p r (h p List.mem_cons_self), Nat.add_assoc]
    intro q hq
    rw [tb_flip1, h q (List.mem_cons_of_mem _ hq), decide_eq_false (by rintro rfl; exact hn.1 hq)]
    rfl
theorem flip_row {ps : List Nat} (nd : ps.Nodup) : flip 0 ps = rowOf ps := by
  rw [flip_sum nd (fun p _ => by simp), Nat.zero_add]
theorem tb_flip_nd : ∀ {ps : List Nat} {r q : Nat}, ps.Nodup → (flip r ps).testBit q = (r.testBit q ^^ decide (q ∈ ps))
  | [], r, q, _ => by show r.testBit q = _; simp
  | p :: ps, r, q, nd => by
    have hn := List.nodup_cons.mp nd
    show (flip (r ^^^ 2 ^ p) ps).testBit q = _
    rw [tb_flip_nd hn.2, tb_flip1]
    by_cases e : p = q
    · subst e
      rw [decide_eq_true rfl, decide_eq_false hn.1, decide_eq_true List.mem_cons_self]
      cases r.testBit p <;> rfl
    · rw [decide_eq_false e]
      have : (q ∈ p :: ps) ↔ q ∈ ps := by
        rw [List.mem_cons]
        exact ⟨fun h => h.elim (fun z => absurd z.symm e) id, Or.inr⟩
      rw [Bool.xor_false, decide_eq_decide.mpr this]
theorem bs_mem {m n q : Nat} : q ∈ bs m n ↔ q < m ∧ n.testBit q = true := by
  unfold bs
  rw [List.mem_filter, List.mem_range]
theorem bs_nodup (m n : Nat) : (bs m n).Nodup := List.Nodup.sublist List.filter_sublist List.nodup_range
theorem tb_row {ps : List Nat} {q : Nat} (nd : ps.Nodup) : (rowOf ps).testBit q = decide (q ∈ ps) := by
  rw [← flip_row nd, tb_flip_nd nd]
  simp
theorem row_bs {m n : Nat} (h : n < 2 ^ m) : rowOf (bs m n) = n := by
  refine Nat.eq_of_testBit_eq fun q => ?_
  rw [tb_row (bs_nodup m n)]
  by_cases hq : q < m
  · cases e : n.testBit q with
    | true => exact decide_eq_true (bs_mem.mpr ⟨hq, e⟩)
    | false => exact decide_eq_false fun z => by rw [(bs_mem.mp z).2] at e; cases e
  · rw [Nat.testBit_lt_two_pow (Nat.lt_of_lt_of_le h (Nat.pow_le_pow_right (by decide) (by omega)))]
    exact decide_eq_false fun z => hq (bs_mem.mp z).1
theorem row_lt {m : Nat} {ps : List Nat} (nd : ps.Nodup) (h : ∀ p ∈ ps, p < m) : rowOf ps < 2 ^ m := by
  refine Nat.lt_pow_two_of_testBit _ fun q hq => ?_
  rw [tb_row nd]
  exact decide_eq_false fun z => by have := h q z; omega
theorem bs_more {m k n : Nat} (h : n < 2 ^ m) (hk : m ≤ k) : bs k n = bs m n := by
  induction k with
  | zero => have : m = 0 := by omega
            subst this; rfl
  | succ k ih =>
    by_cases e : m = k + 1
    · rw [e]
    · rw [bs_succ, ih (by omega), Nat.testBit_lt_two_pow (Nat.lt_of_lt_of_le h (Nat.pow_le_pow_right (by decide) (by omega)))]
      simp
theorem bs_any {m k n : Nat} (h : n < 2 ^ m) (hk : n < 2 ^ k) : bs k n = bs m n := by
  by_cases e : m ≤ k
  · exact bs_more h e
  · exact (bs_more hk (by omega)).symm
/-- the digits of the sum of powers -/
theorem bs_filter {m : Nat} (f : Nat → Bool) : bs m (rowOf ((List.range m).filter f)) = (List.range m).filter f := by
  unfold bs
  refine List.filter_congr fun q hq => ?_
  rw [tb_row (List.Nodup.sublist List.filter_sublist List.nodup_range)]
  cases e : f q with
  | true => exact decide_eq_true (List.mem_filter.mpr ⟨hq, e⟩)
  | false => exact decide_eq_false fun z => by rw [(List.mem_filter.mp z).2] at e; cases e
theorem xor0 {a b : Nat} (h : a ^^^ b = 0) : a = b := by
  have e : a = (a ^^^ b) ^^^ b := by rw [Nat.xor_assoc, Nat.xor_self, Nat.xor_zero]
  rw [h, Nat.zero_xor] at e
  exact e
end My
set_option Elab.async false
set_option linter.all false
set_option maxRecDepth 100000
set_option maxHeartbeats 400000
/-! ### coded words: places, data places, the word of a value -/
namespace My
open PySem PySem.Spec PyProof.Rows L2 Evl
def rOf (b : Nat) : Nat := if b ≤ 4 then 3 else if b ≤ 11 then 4 else if b ≤ 26 then 5 else 6
def pl (b : Nat) : Nat := b + rOf b + 1
theorem rOf_le (b : Nat) : rOf b ≤ 6 := by unfold rOf; split <;> (try split) <;> (try split) <;> omega
theorem pow_lt {b t : Nat} (h4 : 4 ≤ b) (h32 : b ≤ 32) (ht : t ≤ 6) : ((1 : Int) * 2 ^ ((t : Int)).toNat < (b : Int) + (t : Int) + 1) ↔ t < rOf b := by
  have e : ((t : Int)).toNat = t := Int.toNat_natCast t
  rw [e]
  have h : t = 0 ∨ t = 1 ∨ t = 2 ∨ t = 3 ∨ t = 4 ∨ t = 5 ∨ t = 6 := by omega
  unfold rOf
  rcases h with rfl | rfl | rfl | rfl | rfl | rfl | rfl <;> (split <;> (try split) <;> (try split) <;> simp <;> omega)
def isPw (i : Nat) : Bool := i == 0 || i == 1 || i == 2 || i == 4 || i == 8 || i == 16 || i == 32
def ckN (b : Nat) : List Nat := (List.range (pl b)).filter isPw
def dtN (b : Nat) : List Nat := (List.range (pl b)).filter (fun i => !isPw i)
def iL (l : List Nat) : List Int := l.map fun (n : Nat) => (n : Int)
theorem pl_le {b : Nat} (h32 : b ≤ 32) : pl b ≤ 39 := by
  have := rOf_le b
  unfold pl
  omega
theorem pw_and : ∀ i, i < 40 → (decide (V.int (Builtin.bitAnd ((i : Nat) : Int) ((i : Int) - 1)) = V.int 0)) = isPw i := by decide +kernel
def lcN (b : Nat) : List Nat := 0 :: (List.range (rOf b)).map (2 ^ ·)
theorem lc_ck : ∀ b, b < 33 → 4 ≤ b → lcN b = ckN b := by decide +kernel
theorem ck_mem : ∀ b, b < 33 → 4 ≤ b → ∀ i, i < pl b → (decide ((i : Int) ∈ iL (ckN b))) = isPw i := by decide +kernel
theorem ck_len : ∀ b, b < 33 → 4 ≤ b → b + (ckN b).length = pl b := by decide +kernel
theorem dt_by (b : Nat) (h4 : 4 ≤ b) (h32 : b ≤ 32) : given (pl b) (fun i => !decide ((i : Int) ∈ iL (ckN b))) (fun i => V.int (i : Int)) = (iL (dtN b)).map V.int := by
  rw [given_eq (f' := fun i => !isPw i) (g' := fun i => V.int (i : Int)) (fun i hi => by rw [ck_mem b (by omega) h4 i hi]) (fun _ _ _ => rfl), given_ints]
  rfl

/-! ### data places by their numbers -/
def dt (b i : Nat) : Nat := (dtN b).getD i 0
theorem dt_len : ∀ b, b < 33 → 4 ≤ b → (dtN b).length = b := by decide +kernel
theorem dt_nodup (b : Nat) : (dtN b).Nodup := List.Nodup.sublist List.filter_sublist List.nodup_range
theorem ck_nodup (b : Nat) : (ckN b).Nodup := List.Nodup.sublist List.filter_sublist List.nodup_range
theorem dt_at {b i : Nat} (h4 : 4 ≤ b) (h32 : b ≤ 32) (h : i < b) : (dtN b)[i]? = some (dt b i) := by
  have hl := dt_len b (by omega) h4
  unfold dt
  rw [List.getD_eq_getElem?_getD, List.getElem?_eq_getElem (by omega)]
  rfl
theorem dt_mem {b i : Nat} (h4 : 4 ≤ b) (h32 : b ≤ 32) (h : i < b) : dt b i < pl b ∧ isPw (dt b i) = false := by
  have hm := List.mem_of_getElem? (dt_at h4 h32 h)
  unfold dtN at hm
  have hm := List.mem_filter.mp hm
  exact ⟨List.mem_range.mp hm.1, by have := hm.2; simpa using this⟩
theorem dt_inj {b i j : Nat} (h4 : 4 ≤ b) (h32 : b ≤ 32) (hi : i < b) (hj : j < b) (e : dt b i = dt b j) : i = j :=
  nd_ix (dt_nodup b) (dt_at h4 h32 hi) (by rw [e]; exact dt_at h4 h32 hj)
def onesN (b v : Nat) : List Nat := (bs b v).map (dt b)
theorem map_nodup {α β : Type} {f : α → β} : ∀ {l : List α}, l.Nodup → (∀ a ∈ l, ∀ c ∈ l, f a = f c → a = c) → (l.map f).Nodup
  | [], _, _ => List.nodup_nil
  | a :: r, nd, h => by
    have hn := List.nodup_cons.mp nd
    refine List.nodup_cons.mpr ⟨fun z => ?_, map_nodup hn.2 fun x hx y hy => h x (List.mem_cons_of_mem _ hx) y (List.mem_cons_of_mem _ hy)⟩
    obtain ⟨c, hc, e⟩ := List.mem_map.mp z
    have := h c (List.mem_cons_of_mem _ hc) a List.mem_cons_self e
    subst this
    exact hn.1 hc
theorem ones_nodup {b k v : Nat} (h4 : 4 ≤ b) (h32 : b ≤ 32) (hk : k ≤ b) : ((bs k v).map (dt b)).Nodup :=
  map_nodup (bs_nodup k v) fun x hx y hy e => dt_inj h4 h32 (by have := (bs_mem.mp hx).1; omega) (by have := (bs_mem.mp hy).1; omega) e
theorem ones_lt {b k v : Nat} (h4 : 4 ≤ b) (h32 : b ≤ 32) (hk : k ≤ b) : ∀ p ∈ (bs k v).map (dt b), p < pl b ∧ isPw p = false := fun p hp => by
  obtain ⟨i, hi, rfl⟩ := List.mem_map.mp hp
  exact dt_mem h4 h32 (by have := (bs_mem.mp hi).1; omega)
def cod0 (b v : Nat) : Nat := flip 0 (onesN b v)
def cksN (b s : Nat) : List Nat := (ckN b).filter fun p => (s &&& p) != 0
def cod1 (b v : Nat) : Nat := flip (cod0 b v) (cksN b (spotN (pl b) (cod0 b v)))
def cod (b v : Nat) : Nat := flip (cod1 b v) (if parB (pl b) (cod1 b v) then [0] else [])
theorem cks_lt (b s : Nat) : ∀ p ∈ cksN b s, p < pl b ∧ isPw p = true := fun p hp => by
  unfold cksN ckN at hp
  have h := List.mem_filter.mp (List.mem_filter.mp hp).1
  exact ⟨List.mem_range.mp h.1, h.2⟩
theorem cks_nodup (b s : Nat) : (cksN b s).Nodup := List.Nodup.sublist List.filter_sublist (ck_nodup b)
theorem cks_pos (b s : Nat) : 0 ∉ cksN b s := fun h => by
  unfold cksN at h
  have h := (List.mem_filter.mp h).2
  simp at h
/-- the check places of a spot add up to it -/
theorem cks_sx : ∀ r, r < 7 → 3 ≤ r → ∀ s, s < 2 ^ r → sx ((0 :: (List.range r).map (2 ^ ·)).filter fun p => (s &&& p) != 0) = s := by decide +kernel
theorem pl_pow {b : Nat} (h4 : 4 ≤ b) (h32 : b ≤ 32) : pl b ≤ 2 ^ rOf b := by
  have h : ∀ b, b < 33 → 4 ≤ b → pl b ≤ 2 ^ rOf b := by decide +kernel
  exact h b (by omega) h4
theorem sx_lt {r : Nat} : ∀ {l : List Nat}, (∀ p ∈ l, p < 2 ^ r) → sx l < 2 ^ r
  | [], _ => Nat.two_pow_pos r
  | a :: l, h => by
    rw [sx_cons]
    exact Nat.xor_lt_two_pow (h a List.mem_cons_self) (sx_lt fun p hp => h p (List.mem_cons_of_mem _ hp))
theorem spot_lt {b n : Nat} (h4 : 4 ≤ b) (h32 : b ≤ 32) : spotN (pl b) n < 2 ^ rOf b := sx_lt fun p hp => Nat.lt_of_lt_of_le (bs_mem.mp hp).1 (pl_pow h4 h32)
theorem cks_spot {b s : Nat} (h4 : 4 ≤ b) (h32 : b ≤ 32) (hs : s < 2 ^ rOf b) : sx (cksN b s) = s := by
  unfold cksN
  rw [← lc_ck b (by omega) h4]
  have h3 : 3 ≤ rOf b := by unfold rOf; split <;> (try split) <;> (try split) <;> omega
  exact cks_sx (rOf b) (by have := rOf_le b; omega) h3 s hs
theorem flip_lt {m : Nat} : ∀ {ps : List Nat} {n : Nat}, n < 2 ^ m → (∀ p ∈ ps, p < m) → flip n ps < 2 ^ m
  | [], _, h, _ => h
  | p :: r, n, h, hp => flip_lt (ps := r) (Nat.xor_lt_two_pow h (Nat.pow_lt_pow_right (by decide) (hp p List.mem_cons_self))) fun q hq => hp q (List.mem_cons_of_mem _ hq)
theorem pl_pos {b : Nat} : 0 < pl b := by unfold pl; omega
theorem or_xor {r p : Nat} (h : r.testBit p = false) : r ||| 2 ^ p = r ^^^ 2 ^ p := by
  refine Nat.eq_of_testBit_eq fun q => ?_
  rw [Nat.testBit_or, Nat.testBit_xor, Nat.testBit_two_pow]
  by_cases e : p = q
  · subst e
    rw [h, decide_eq_true rfl]
    rfl
  · rw [decide_eq_false e]
    cases r.testBit q <;> rfl
section
variable {b v : Nat} (h4 : 4 ≤ b) (h32 : b ≤ 32)
include h4 h32
theorem cod0_lt : cod0 b v < 2 ^ pl b := flip_lt (Nat.two_pow_pos _) fun p hp => (ones_lt h4 h32 (Nat.le_refl _) p hp).1
theorem cod1_lt : cod1 b v < 2 ^ pl b := flip_lt (cod0_lt h4 h32) fun p hp => (cks_lt _ _ p hp).1
theorem cod_lt : cod b v < 2 ^ pl b := flip_lt (cod1_lt h4 h32) fun p hp => by
  split at hp
  · rw [List.mem_singleton.mp hp]; exact pl_pos
  · cases hp
theorem cod1_spot : spotN (pl b) (cod1 b v) = 0 := by
  unfold cod1
  rw [spot_flip fun p hp => (cks_lt _ _ p hp).1, cks_spot h4 h32 (spot_lt h4 h32), Nat.xor_self]
theorem cod_spot : spotN (pl b) (cod b v) = 0 := by
  unfold cod
  rw [spot_flip, cod1_spot h4 h32]
  · split <;> rfl
  · intro p hp
    split at hp
    · rw [List.mem_singleton.mp hp]; exact pl_pos
    · cases hp
theorem cod_par : parB (pl b) (cod b v) = false := by
  unfold cod
  rw [par_flip]
  · cases parB (pl b) (cod1 b v) <;> rfl
  · intro p hp
    split at hp
    · rw [List.mem_singleton.mp hp]; exact pl_pos
    · cases hp
theorem cod1_bit0 : (cod1 b v).testBit 0 = false := by
  unfold cod1 cod0
  rw [tb_flip_nd (cks_nodup _ _), tb_flip_nd (show (onesN b v).Nodup from ones_nodup h4 h32 (Nat.le_refl _)), decide_eq_false (cks_pos _ _), decide_eq_false]
  · simp
  · intro z
    have := (ones_lt h4 h32 (Nat.le_refl _) 0 z).2
    cases this
/-- the word's end: the parity into the place 0 -/
theorem cod_end : cod1 b v ||| ((bs 40 (cod1 b v)).length &&& 1) = cod b v := by
  have hl : bs 40 (cod1 b v) = bs (pl b) (cod1 b v) := bs_more (cod1_lt h4 h32) (by have := pl_le h32; omega)
  rw [hl, Nat.and_one_is_mod]
  unfold cod parB
  rcases Nat.mod_two_eq_zero_or_one (bs (pl b) (cod1 b v)).length with h | h
  · rw [h]
    show cod1 b v ||| 0 = cod1 b v
    exact Nat.or_zero _
  · rw [h]
    show cod1 b v ||| 2 ^ 0 = cod1 b v ^^^ 2 ^ 0
    exact or_xor (cod1_bit0 h4 h32)
/-- the data places of the word -/
theorem cod_data {i : Nat} (hi : i < b) : (cod b v).testBit (dt b i) = v.testBit i := by
  have hd := dt_mem h4 h32 hi
  have hn : (if parB (pl b) (cod1 b v) then [0] else []).Nodup := by split <;> simp
  unfold cod
  rw [tb_flip_nd hn]
  unfold cod1 cod0
  rw [tb_flip_nd (cks_nodup _ _), tb_flip_nd (show (onesN b v).Nodup from ones_nodup h4 h32 (Nat.le_refl _))]
  have a1 : dt b i ∉ (if parB (pl b) (cod1 b v) then [0] else []) := by
    intro z
    split at z
    · rw [List.mem_singleton.mp z] at hd; exact Bool.noConfusion hd.2
    · cases z
  have a2 : dt b i ∉ cksN b (spotN (pl b) (flip 0 (onesN b v))) := fun z => by rw [(cks_lt _ _ _ z).2] at hd; exact Bool.noConfusion hd.2
  unfold cod1 cod0 at a1
  rw [decide_eq_false a1, decide_eq_false a2]
  have a3 : (dt b i ∈ onesN b v) ↔ v.testBit i = true := by
    constructor
    · intro z
      obtain ⟨j, hj, e⟩ := List.mem_map.mp z
      have hj := bs_mem.mp hj
      have := dt_inj h4 h32 hj.1 hi e
      subst this
      exact hj.2
    · exact fun z => List.mem_map.mpr ⟨i, bs_mem.mpr ⟨hi, z⟩, rfl⟩

  cases e : v.testBit i with
  | true => rw [decide_eq_true (a3.mpr e)]; simp
  | false => rw [decide_eq_false (fun z => by rw [a3.mp z] at e; cases e)]; simp
end
def valN (b n : Nat) : Nat := rowOf ((List.range b).filter fun i => n.testBit (dt b i))
theorem val_cod {b v : Nat} (h4 : 4 ≤ b) (h32 : b ≤ 32) (hv : v < 2 ^ b) : valN b (cod b v) = v := by
  unfold valN
  rw [List.filter_congr (q := fun i => v.testBit i) fun i hi => cod_data h4 h32 (List.mem_range.mp hi)]
  exact row_bs hv
/-! ### promises -/
def spPlaces : Sp := fun vs H Q _ => ∃ b : Nat, vs = [.int (b : Int)] ∧ 4 ≤ b ∧ b ≤ 32 ∧ ∀ H', Ex H H' → Q (.int ((pl b : Nat) : Int)) H'
theorem SpPlaces {H : Hp} {b : Nat} (h4 : 4 ≤ b) (h32 : b ≤ 32) : SpV spPlaces ([.int (b : Int)] ++ []) H (.int ((pl b : Nat) : Int)) := fun H1 e Q q E => ⟨b, rfl, h4, h32, q⟩
def spList (f : Nat → List Nat) : Sp := fun vs H Q _ => ∃ b : Nat, vs = [.int (b : Int)] ∧ 4 ≤ b ∧ b ≤ 32 ∧ ∀ p H', H p = none → Ex H H' → H' p = some (.lst ((iL (f b)).map V.int)) → Q (.ref p) H'
theorem SpList {f : Nat → List Nat} {H : Hp} {b : Nat} (h4 : 4 ≤ b) (h32 : b ≤ 32) : SpL (spList f) ([.int (b : Int)] ++ []) H ((iL (f b)).map V.int) := fun H1 e Q q E => ⟨b, rfl, h4, h32, q⟩

def spDiff : Sp := fun vs H Q _ => ∃ a c : Nat, vs = [.int (a : Int), .int (c : Int)] ∧ a < 2 ^ 40 ∧ c < 2 ^ 40 ∧ ∀ p H', H p = none → Ex H H' → H' p = some (.lst ((iL (bs 40 (a ^^^ c))).map V.int)) → Q (.ref p) H'
theorem SpDiff {H : Hp} {a c : Nat} (ha : a < 2 ^ 40) (hc : c < 2 ^ 40) : SpL spDiff ([.int (a : Int), .int (c : Int)] ++ []) H ((iL (bs 40 (a ^^^ c))).map V.int) := fun H1 e Q q E => ⟨a, c, rfl, ha, hc, q⟩
def spOnes : Sp := fun vs H Q _ => ∃ n : Nat, vs = [.int (n : Int)] ∧ n < 2 ^ 40 ∧ ∀ H', Ex H H' → Q (.int (((bs 40 n).length : Nat) : Int)) H'
theorem SpOnes {H : Hp} {n : Nat} (hn : n < 2 ^ 40) : SpV spOnes ([.int (n : Int)] ++ []) H (.int (((bs 40 n).length : Nat) : Int)) := fun H1 e Q q E => ⟨n, rfl, hn, q⟩
def spSpot : Sp := fun vs H Q _ => ∃ b n : Nat, vs = [.int (b : Int), .int (n : Int)] ∧ 4 ≤ b ∧ b ≤ 32 ∧ n < 2 ^ 40 ∧ ∀ H', Ex H H' → Q (.int ((spotN (pl b) n : Nat) : Int)) H'
theorem SpSpot {H : Hp} {b n : Nat} (h4 : 4 ≤ b) (h32 : b ≤ 32) (hn : n < 2 ^ 40) : SpV spSpot ([.int (b : Int), .int (n : Int)] ++ []) H (.int ((spotN (pl b) n : Nat) : Int)) := fun H1 e Q q E => ⟨b, n, rfl, h4, h32, hn, q⟩
def spFlip (K : PySem.W.Frag) : Sp := fun vs H Q _ => ∃ (n : Nat) (a : Addr) (ps : List Nat), vs = [.int (n : Int), .ref a] ∧ SqL K H a ((iL ps).map V.int) ∧ (∀ p ∈ ps, p < 64) ∧ ∀ H', Ex H H' → Q (.int ((flip n ps : Nat) : Int)) H'
theorem SpFlip {K : PySem.W.Frag} {H : Hp} {n : Nat} {a : Addr} {ps : List Nat} (h : SqL K H a ((iL ps).map V.int)) (hp : ∀ p ∈ ps, p < 64) : SpV (spFlip K) ([.int (n : Int), .ref a] ++ []) H (.int ((flip n ps : Nat) : Int)) := fun H1 e Q q E => ⟨n, a, ps, rfl, ex_l e h, hp, q⟩
def spCod : Sp := fun vs H Q _ => ∃ b v : Nat, vs = [.int (b : Int), .int (v : Int)] ∧ 4 ≤ b ∧ b ≤ 32 ∧ v < 2 ^ b ∧ ∀ H', Ex H H' → Q (.int ((cod b v : Nat) : Int)) H'
theorem SpCod {H : Hp} {b v : Nat} (h4 : 4 ≤ b) (h32 : b ≤ 32) (hn : v < 2 ^ b) : SpV spCod ([.int (b : Int), .int (v : Int)] ++ []) H (.int ((cod b v : Nat) : Int)) := fun H1 e Q q E => ⟨b, v, rfl, h4, h32, hn, q⟩
def spVal : Sp := fun vs H Q _ => ∃ b n : Nat, vs = [.int (b : Int), .int (n : Int)] ∧ 4 ≤ b ∧ b ≤ 32 ∧ ∀ H', Ex H H' → Q (.int ((valN b n : Nat) : Int)) H'
theorem SpVal {H : Hp} {b n : Nat} (h4 : 4 ≤ b) (h32 : b ≤ 32) : SpV spVal ([.int (b : Int), .int (n : Int)] ++ []) H (.int ((valN b n : Nat) : Int)) := fun H1 e Q q E => ⟨b, n, rfl, h4, h32, q⟩
/-- the state of a row -/
def stV (b n : Nat) : List V := if parB (pl b) n then (if spotN (pl b) n < pl b then [.str "one", .int ((spotN (pl b) n : Nat) : Int)] else [.str "more", .non]) else (if spotN (pl b) n = 0 then [.str "clean", .non] else [.str "more", .non])
def spState : Sp := fun vs H Q _ => ∃ b n : Nat, vs = [.int (b : Int), .int (n : Int)] ∧ 4 ≤ b ∧ b ≤ 32 ∧ n < 2 ^ pl b ∧ ∀ p H', H p = none → Ex H H' → H' p = some (.tup (stV b n)) → Q (.ref p) H'
def SpU (sp : Sp) (vs : List V) (H : Hp) (xs : List V) : Prop := ∀ H1, Ex H H1 → ∀ Q : VK, (∀ p H2, H1 p = none → Ex H1 H2 → H2 p = some (.tup xs) → Q (.ref p) H2) → ∀ E : XK, sp vs H1 Q E
theorem eu_call {σ : L2.St} {H : Hp} {sp : Sp} {dvs vs xs : List V} {E : XK} {ta : TA} (h : EvA ta σ H vs) (hs : SpU sp (vs ++ dvs) H xs) : EvU (tCall sp dvs E ta) σ H xs := fun H1 e Q q =>
  h H1 e _ fun H2 e2 => hs H2 (e.trans e2) Q (fun p H3 hp e3 h3 => q p H3 (fresh_back e2 hp) (e2.trans e3) h3) E
theorem SpState {H : Hp} {b n : Nat} (h4 : 4 ≤ b) (h32 : b ≤ 32) (hn : n < 2 ^ pl b) : SpU spState ([.int (b : Int), .int (n : Int)] ++ []) H (stV b n) := fun H1 e Q q E => ⟨b, n, rfl, h4, h32, hn, q⟩
theorem eu_ite {σ : L2.St} {H : Hp} {t : TT} {ta tb : TE} {b : Bool} {xs ys : List V} (h : EvT t σ H b) (h1 : EvU ta σ H xs) (h2 : EvU tb σ H ys) : EvU (tIf t ta tb) σ H (if b then xs else ys) := fun H1 e Q q => h H1 e _ fun H2 e2 => by
  cases b with
  | true => exact iteT (h1 H2 (e.trans e2) Q fun p H3 np e3 hp => q p H3 (fresh_back e2 np) (e2.trans e3) hp)
  | false => exact iteF (h2 H2 (e.trans e2) Q fun p H3 np e3 hp => q p H3 (fresh_back e2 np) (e2.trans e3) hp)
theorem eu_is {σ : L2.St} {H : Hp} {te : TE} {xs ys : List V} (h : EvU te σ H xs) (e : xs = ys) : EvU te σ H ys := by
  rw [← e]
  exact h
/-- a call whose second argument is a list made on the spot -/
theorem ev_callL2 {σ : L2.St} {H : Hp} {sp : Sp} {dvs ys : List V} {E : XK} {ta tb : TE} {x z : V} (ha : Ev ta σ H x) (hb : EvL tb σ H ys) (hs : ∀ p H1, Ex H H1 → H1 p = some (.lst ys) → SpV sp ([x, .ref p] ++ dvs) H1 z) : Ev (tCall sp dvs E (tCons ta (tCons tb tNil))) σ H z := fun H1 e Q q =>
  ha H1 e _ fun H2 e2 => hb H2 (e.trans e2) _ fun p H3 np e3 hp => hs p H3 ((e.trans e2).trans e3) hp H3 (Ex.refl _) Q (fun H4 e4 => q H4 ((e2.trans e3).trans e4)) E
theorem ev_callL1 {σ : L2.St} {H : Hp} {sp : Sp} {dvs ys : List V} {E : XK} {tb : TE} {z : V} (hb : EvL tb σ H ys) (hs : ∀ p H1, Ex H H1 → H1 p = some (.lst ys) → SpV sp ([.ref p] ++ dvs) H1 z) : Ev (tCall sp dvs E (tCons tb tNil)) σ H z := fun H1 e Q q =>
  hb H1 e _ fun p H3 np e3 hp => hs p H3 (e.trans e3) hp H3 (Ex.refl _) Q (fun H4 e4 => q H4 (e3.trans e4)) E
theorem iL_at {l : List Nat} {i : Nat} {x : V} (h : ((iL l).map V.int)[i]? = some x) : ∃ n, l[i]? = some n ∧ x = .int (n : Int) := by
  obtain ⟨k, hk, rfl⟩ := int_at h
  unfold iL at hk
  rw [List.getElem?_map] at hk
  cases e : l[i]? with
  | none => rw [e] at hk; cases hk
  | some n => rw [e] at hk; exact ⟨n, rfl, by rw [← Option.some.inj hk]⟩
theorem at_iL {l : List Nat} {i n : Nat} (h : l[i]? = some n) : ((iL l).map V.int)[i]? = some (.int (n : Int)) := by
  unfold iL
  rw [List.getElem?_map, List.getElem?_map, h]
  rfl
theorem iL_len (l : List Nat) : ((iL l).map V.int).length = l.length := by unfold iL; rw [List.length_map, List.length_map]
theorem iL_app (l r : List Nat) : (iL (l ++ r)).map V.int = (iL l).map V.int ++ (iL r).map V.int := by unfold iL; rw [List.map_append, List.map_append]
theorem given_iL (n : Nat) (f : Nat → Bool) : given n f (fun i => V.int ((i : Nat) : Int)) = (iL ((List.range n).filter f)).map V.int := given_ints n f _
theorem mem_iL {l : List Nat} {n : Nat} : ((n : Int) ∈ iL l) ↔ n ∈ l := by
  unfold iL
  rw [List.mem_map]
  constructor
  · rintro ⟨m, hm, e⟩
    have : m = n := by omega
    exact this ▸ hm
  · exact fun h => ⟨n, h, rfl⟩
theorem sum_iL : ∀ l : List Nat, (iL l).sum = ((l.sum : Nat) : Int)
  | [] => rfl
  | n :: r => by
    show ((n : Int) :: iL r).sum = _
    rw [List.sum_cons, sum_iL r, List.sum_cons]
    omega
/-- [e for place in list if t], the list's items known as numbers -/
theorem el_lcL' {K : PySem.W.Frag} {σ : L2.St} {H : Hp} {tl te : TE} {tt : TT} {j : Nat} {vs : List Nat} {l : List Nat} (f : Nat → Bool) (g : Nat → Nat) (h : EvL tl σ H ((iL l).map V.int)) (hz : l.length ≤ 40000) (hw : ∀ x, wipe ((wipe σ vs).set j (some x)) vs = wipe σ vs)
    (ht : ∀ (m : Nat), m ∈ l → ∀ H1, Ex H H1 → EvT tt ((wipe σ vs).set j (some (.int (m : Int)))) H1 (f m)) (he : ∀ (m : Nat), m ∈ l → ∀ H1, Ex H H1 → f m = true → Ev te ((wipe σ vs).set j (some (.int (m : Int)))) H1 (.int ((g m : Nat) : Int))) :
    EvL (tLc (iList K tl) (gName j) tt te vs) σ H ((iL ((l.filter f).map g)).map V.int) := by
  have key : ∀ l : List Nat, given l.length (fun i => f (l.getD i 0)) (fun i => V.int ((g (l.getD i 0) : Nat) : Int)) = (iL ((l.filter f).map g)).map V.int := by
    intro l
    unfold given
    have h1 : ((List.range l.length).filter (fun i => f (l.getD i 0))).map (fun i => l.getD i 0) = l.filter f := by
      have h2 : (List.range l.length).map (fun i => l.getD i 0) = l := by
        refine List.ext_getElem (by simp) fun i h1 h2 => ?_
        simp [List.getD_eq_getElem?_getD, List.getElem?_eq_getElem h2]
      have h3 : l.filter f = ((List.range l.length).map (fun i => l.getD i 0)).filter f := by rw [h2]
      rw [h3, List.filter_map]
      rfl
    rw [← h1]
    unfold iL
    rw [List.map_map, List.map_map, List.map_map]
    rfl
  have hd : ∀ {i : Nat} {m : Nat}, l[i]? = some m → l.getD i 0 = m := fun {i m} e => by rw [List.getD_eq_getElem?_getD, e]; rfl
  rw [← key l]
  have r := el_lcNL (K := K) (tl := tl) (j := j) (vs := vs) (t := tt) (te := te) (fun i => f (l.getD i 0)) (fun i => V.int ((g (l.getD i 0) : Nat) : Int)) h (by rw [iL_len]; exact hz) hw (fun i x H1 e1 hi => by
    obtain ⟨m, hm, rfl⟩ := iL_at hi
    rw [hd hm]
    exact ht m (List.mem_of_getElem? hm) H1 e1) (fun i x H1 e1 hi hf => by
    obtain ⟨m, hm, rfl⟩ := iL_at hi
    rw [hd hm] at hf ⊢
    exact he m (List.mem_of_getElem? hm) H1 e1 hf)
  rw [iL_len] at r
  exact r
/-- .. over a list that stands somewhere -/
theorem el_lcA' {K : PySem.W.Frag} {σ : L2.St} {H : Hp} {tl te : TE} {tt : TT} {j : Nat} {vs : List Nat} {l : List Nat} {a : Addr} (f : Nat → Bool) (g : Nat → Nat) (h : Ev tl σ H (.ref a)) (hx : SqL K H a ((iL l).map V.int)) (hz : l.length ≤ 40000) (hw : ∀ x, wipe ((wipe σ vs).set j (some x)) vs = wipe σ vs)
    (ht : ∀ (m : Nat), m ∈ l → ∀ H1, Ex H H1 → EvT tt ((wipe σ vs).set j (some (.int (m : Int)))) H1 (f m)) (he : ∀ (m : Nat), m ∈ l → ∀ H1, Ex H H1 → f m = true → Ev te ((wipe σ vs).set j (some (.int (m : Int)))) H1 (.int ((g m : Nat) : Int))) :
    EvL (tLc (iList K tl) (gName j) tt te vs) σ H ((iL ((l.filter f).map g)).map V.int) := by
  have key : ∀ l : List Nat, given l.length (fun i => f (l.getD i 0)) (fun i => V.int ((g (l.getD i 0) : Nat) : Int)) = (iL ((l.filter f).map g)).map V.int := by
    intro l
    unfold given
    have h1 : ((List.range l.length).filter (fun i => f (l.getD i 0))).map (fun i => l.getD i 0) = l.filter f := by
      have h2 : (List.range l.length).map (fun i => l.getD i 0) = l := by
        refine List.ext_getElem (by simp) fun i h1 h2 => ?_
        simp [List.getD_eq_getElem?_getD, List.getElem?_eq_getElem h2]
      have h3 : l.filter f = ((List.range l.length).map (fun i => l.getD i 0)).filter f := by rw [h2]
      rw [h3, List.filter_map]
      rfl
    rw [← h1]
    unfold iL
    rw [List.map_map, List.map_map, List.map_map]
    rfl
  have hd : ∀ {i : Nat} {m : Nat}, l[i]? = some m → l.getD i 0 = m := fun {i m} e => by rw [List.getD_eq_getElem?_getD, e]; rfl
  rw [← key l]
  have r := el_lcL (K := K) (tl := tl) (j := j) (vs := vs) (t := tt) (te := te) (fun i => f (l.getD i 0)) (fun i => V.int ((g (l.getD i 0) : Nat) : Int)) h hx (by rw [iL_len]; exact hz) hw (fun i x H1 e1 hi => by
    obtain ⟨m, hm, rfl⟩ := iL_at hi
    rw [hd hm]
    exact ht m (List.mem_of_getElem? hm) H1 e1) (fun i x H1 e1 hi hf => by
    obtain ⟨m, hm, rfl⟩ := iL_at hi
    rw [hd hm] at hf ⊢
    exact he m (List.mem_of_getElem? hm) H1 e1 hf)
  rw [iL_len] at r
  exact r
/-! ### what the law's own defs tell -/
def spDigits : Sp := fun vs H Q _ => ∃ n : Nat, vs = [.int (n : Int)] ∧ n < 2 ^ 64 ∧ ∀ p H', H p = none → Ex H H' → H' p = some (.lst ((iL (bs 64 n)).map V.int)) → Q (.ref p) H'
theorem SpDigits {H : Hp} {n : Nat} (hn : n < 2 ^ 64) : SpL spDigits ([.int (n : Int)] ++ []) H ((iL (bs 64 n)).map V.int) := fun H1 e Q q E => ⟨n, rfl, hn, q⟩
def spRowOf (K : PySem.W.Frag) : Sp := fun vs H Q _ => ∃ (a : Addr) (ps : List Nat), vs = [.ref a] ∧ SqL K H a ((iL ps).map V.int) ∧ (∀ p ∈ ps, p ≤ 40) ∧ ps.length ≤ 1000 ∧ ∀ H', Ex H H' → Q (.int ((rowOf ps : Nat) : Int)) H'
theorem SpRowOf {K : PySem.W.Frag} {H : Hp} {a : Addr} {ps : List Nat} (h : SqL K H a ((iL ps).map V.int)) (hp : ∀ p ∈ ps, p ≤ 40) (hl : ps.length ≤ 1000) : SpV (spRowOf K) ([.ref a] ++ []) H (.int ((rowOf ps : Nat) : Int)) := fun H1 e Q q E => ⟨a, ps, rfl, ex_l e h, hp, hl, q⟩
def spLspot : Sp := fun vs H Q _ => ∃ n : Nat, vs = [.int (n : Int)] ∧ n < 2 ^ 64 ∧ ∀ H', Ex H H' → Q (.int ((spotN 64 n : Nat) : Int)) H'
theorem SpLspot {H : Hp} {n : Nat} (hn : n < 2 ^ 64) : SpV spLspot ([.int (n : Int)] ++ []) H (.int ((spotN 64 n : Nat) : Int)) := fun H1 e Q q E => ⟨n, rfl, hn, q⟩
def spLvalue (K : PySem.W.Frag) : Sp := fun vs H Q _ => ∃ (a : Addr) (ns : List Int) (i b : Nat), vs = [.ref a, .int (i : Int), .int (b : Int)] ∧ SqL K H a (ns.map V.int) ∧ (∀ n ∈ ns, 0 ≤ n ∧ n < 1009) ∧ i + 3 < ns.length ∧ 4 ≤ b ∧ b ≤ 32 ∧ ∀ (v : Nat) H', v < 2 ^ b → Ex H H' → Q (.int (v : Int)) H'
/-- the digits of a sum without carrying -/
theorem tb_sx (k : Nat) : ∀ l : List Nat, (sx l).testBit k = decide ((l.filter fun p => p.testBit k).length % 2 = 1)
  | [] => by show (0 : Nat).testBit k = _; simp
  | a :: r => by
    rw [sx_cons, Nat.testBit_xor, tb_sx k r, List.filter_cons]
    cases e : a.testBit k with
    | true =>
      rw [if_pos rfl, List.length_cons]
      by_cases h : (r.filter fun p => p.testBit k).length % 2 = 1
      · rw [decide_eq_true h, decide_eq_false (by omega)]; rfl
      · rw [decide_eq_false h, decide_eq_true (by omega)]; rfl
    | false =>
      rw [if_neg (by decide)]
      simp
theorem spot64 {m n : Nat} (h : n < 2 ^ m) (hm : m ≤ 64) : spotN 64 n = spotN m n := by unfold spotN; rw [bs_more h hm]
theorem row_ext {b : Nat} (l : List Nat) : rowOf l = (l.map (2 ^ ·)).sum := rfl
/-- the two ways to the check places that are turned -/
theorem cks_eq {b s : Nat} (h4 : 4 ≤ b) (h32 : b ≤ 32) (hs : s < 64) : (ckN b).filter (fun c => decide (0 < c) && decide (s / c % 2 = 1)) = cksN b s := by
  have h : ∀ c, c < 40 → isPw c = true → ∀ s, s < 64 → (decide (0 < c) && decide (s / c % 2 = 1)) = ((s &&& c) != 0) := by decide +kernel
  unfold cksN
  refine List.filter_congr fun c hc => ?_
  have hc := List.mem_filter.mp hc
  have := pl_le h32
  exact h c (by have := List.mem_range.mp hc.1; omega) hc.2 s hs
/-- the word, as the law makes it -/
theorem cod_law {b v : Nat} (h4 : 4 ≤ b) (h32 : b ≤ 32) :
    rowOf ((onesN b v ++ cksN b (spotN (pl b) (cod0 b v))) ++ (if (onesN b v ++ cksN b (spotN (pl b) (cod0 b v))).length % 2 = 1 then [0] else [])) = cod b v := by
  have dis : ∀ x ∈ onesN b v, x ∉ cksN b (spotN (pl b) (cod0 b v)) := fun x hx hy => by
    have a := (ones_lt h4 h32 (Nat.le_refl _) x hx).2
    rw [(cks_lt _ _ x hy).2] at a
    cases a
  have nd : (onesN b v ++ cksN b (spotN (pl b) (cod0 b v))).Nodup := List.nodup_append.mpr ⟨ones_nodup h4 h32 (Nat.le_refl _), cks_nodup _ _, fun a ha c hc e => dis a ha (e ▸ hc)⟩
  have n0 : 0 ∉ onesN b v ++ cksN b (spotN (pl b) (cod0 b v)) := fun z => by
    rcases List.mem_append.mp z with z | z
    · have := (ones_lt h4 h32 (Nat.le_refl _) 0 z).2; cases this
    · exact cks_pos _ _ z
  have lt : ∀ p ∈ onesN b v ++ cksN b (spotN (pl b) (cod0 b v)), p < pl b := fun p hp => by
    rcases List.mem_append.mp hp with z | z
    · exact (ones_lt h4 h32 (Nat.le_refl _) p z).1
    · exact (cks_lt _ _ p z).1
  have f1 : flip 0 (onesN b v ++ cksN b (spotN (pl b) (cod0 b v))) = cod1 b v := by rw [flip_append]; rfl
  have par : parB (pl b) (cod1 b v) = decide ((onesN b v ++ cksN b (spotN (pl b) (cod0 b v))).length % 2 = 1) := by
    rw [← f1, par_flip lt, par_zero, Bool.false_xor]
  rw [← flip_row]
  · rw [flip_append, f1]
    unfold cod
    rw [par]
    by_cases h : (onesN b v ++ cksN b (spotN (pl b) (cod0 b v))).length % 2 = 1
    · rw [if_pos h, if_pos (decide_eq_true h)]
    · rw [if_neg h, if_neg (by rw [decide_eq_false h]; decide)]
  · split
    · exact List.nodup_append.mpr ⟨nd, by simp, fun a ha c hc e => by rw [List.mem_singleton.mp hc] at e; exact n0 (e ▸ ha)⟩
    · rw [List.append_nil]; exact nd
/-- xs + [..], xs a list that stands somewhere -/
theorem el_catA {σ : L2.St} {H : Hp} {ta tb : TE} {p : Addr} {xs ys : List V} (ha : Ev ta σ H (.ref p)) (hp : H p = some (.lst xs)) (hb : EvL tb σ H ys) (hz : xs.length + ys.length ≤ 100000) : EvL (tOp rCat ta tb) σ H (xs ++ ys) := fun H1 e Q q =>
  ha H1 e _ fun H2 e2 => hb H2 (e.trans e2) _ fun p' H3 np' e3 hp' => ⟨p, p', xs, ys, rfl, rfl, ((e.trans e2).trans e3) _ _ hp, hp', sz_of hz, fun l nl => q l _ (fresh_back (e2.trans e3) nl) ((e2.trans e3).trans (Ex.new nl)) upd_same⟩
theorem bs_len (m n : Nat) : (bs m n).length ≤ m := by
  have := List.length_filter_le (fun p => n.testBit p) (List.range m)
  rw [List.length_range] at this
  exact this
theorem ck_le (b : Nat) : (ckN b).length ≤ pl b := by
  have := List.length_filter_le isPw (List.range (pl b))
  rw [List.length_range] at this
  exact this
theorem cks_len (b s : Nat) : (cksN b s).length ≤ pl b := Nat.le_trans (List.length_filter_le _ _) (ck_le b)
def spLcod : Sp := spCod
/-! ### flips of words -/
theorem flip_xor : ∀ (l : List Nat) (n : Nat), flip n l = n ^^^ flip 0 l
  | [], n => by show n = n ^^^ 0; rw [Nat.xor_zero]
  | p :: r, n => by
    show flip (n ^^^ 2 ^ p) r = n ^^^ flip (0 ^^^ 2 ^ p) r
    rw [flip_xor r (n ^^^ 2 ^ p), flip_xor r (0 ^^^ 2 ^ p), Nat.zero_xor, Nat.xor_assoc]
theorem xor_flip (n : Nat) (l : List Nat) : n ^^^ flip n l = flip 0 l := by rw [flip_xor, ← Nat.xor_assoc, Nat.xor_self, Nat.zero_xor]
theorem flip_bs {n x m : Nat} (h : x < 2 ^ m) : flip n (bs m x) = n ^^^ x := by rw [flip_xor, flip_row (bs_nodup m x), row_bs h]
theorem bs_flip {m : Nat} {l : List Nat} (nd : l.Nodup) : bs m (flip 0 l) = (List.range m).filter fun q => decide (q ∈ l) := by
  unfold bs
  refine List.filter_congr fun q _ => ?_
  rw [tb_flip_nd nd]
  simp
theorem bs_flip1 : ∀ p, p < 40 → bs 40 (flip 0 [p]) = [p] := by decide +kernel
theorem bs_sorted (m n : Nat) : (iL (bs m n)).Pairwise (· ≤ ·) := by
  unfold iL bs
  rw [List.pairwise_map]
  have h : (List.range m).Pairwise (fun (a b : Nat) => (a : Int) ≤ (b : Int)) := List.Pairwise.imp (fun {a b} (h : a < b) => by omega) List.pairwise_lt_range
  exact h.filter _
theorem bs_perm {p q : Nat} (h : p ≠ q) (hp : p < 40) (hq : q < 40) : (bs 40 (flip 0 [p, q])).Perm [p, q] := by
  have nd : [p, q].Nodup := by simp [h]
  rw [bs_flip nd]
  refine (List.perm_ext_iff_of_nodup (List.Nodup.sublist List.filter_sublist List.nodup_range) nd).mpr fun a => ?_
  rw [List.mem_filter, List.mem_range, decide_eq_true_eq]
  constructor
  · exact fun z => z.2
  · intro z
    refine ⟨?_, z⟩
    rcases List.mem_cons.mp z with rfl | z
    · exact hp
    · rw [List.mem_singleton.mp z]; exact hq
/-- sorted([p, q]) -/
theorem ev_sort2 {K : PySem.W.Frag} {σ : L2.St} {H : Hp} {ta : TE} {p q : Nat} (ha : EvL ta σ H [.int (p : Int), .int (q : Int)]) (h : p ≠ q) (hp : p < 40) (hq : q < 40) : EvL (tCB (rSorted K) (tCons ta tNil)) σ H ((iL (bs 40 (flip 0 [p, q]))).map V.int) := fun H1 e Q k =>
  ha H1 e _ fun l H2 nl e2 hl => ⟨l, [(p : Int), (q : Int)], rfl, sq_of hl, (by show 2 < 64; decide), fun ns' s pm so ns => by
    have e3 : ns' = iL (bs 40 (flip 0 [p, q])) := PySem.W.ksm_same (pm.trans ((bs_perm h hp hq).symm.map (fun n : Nat => (n : Int)))) so (bs_sorted _ _)
    subst e3
    exact k s _ (fresh_back e2 ns) (e2.trans (Ex.new ns)) upd_same⟩
def menV (b n : Nat) : V := if parB (pl b) n then (if spotN (pl b) n < pl b then .int ((flip n [spotN (pl b) n] : Nat) : Int) else .non) else (if spotN (pl b) n = 0 then .int (n : Int) else .non)
theorem stV_cases (b n : Nat) : (stV b n = [.str "one", .int ((spotN (pl b) n : Nat) : Int)] ∧ menV b n = .int ((flip n [spotN (pl b) n] : Nat) : Int) ∧ spotN (pl b) n < pl b) ∨ (stV b n = [.str "more", .non] ∧ menV b n = .non) ∨ (stV b n = [.str "clean", .non] ∧ menV b n = .int (n : Int)) := by
  unfold stV menV
  split
  · split
    · exact Or.inl ⟨rfl, rfl, by assumption⟩
    · exact Or.inr (Or.inl ⟨rfl, rfl⟩)
  · split
    · exact Or.inr (Or.inr ⟨rfl, rfl⟩)
    · exact Or.inr (Or.inl ⟨rfl, rfl⟩)
def spMended : Sp := fun vs H Q _ => ∃ b n : Nat, vs = [.int (b : Int), .int (n : Int)] ∧ 4 ≤ b ∧ b ≤ 32 ∧ n < 2 ^ pl b ∧ ∀ H', Ex H H' → Q (menV b n) H'
theorem SpMended {H : Hp} {b n : Nat} (h4 : 4 ≤ b) (h32 : b ≤ 32) (hn : n < 2 ^ pl b) : SpV spMended ([.int (b : Int), .int (n : Int)] ++ []) H (menV b n) := fun H1 e Q q E => ⟨b, n, rfl, h4, h32, hn, q⟩
theorem rv_isN {H : Hp} {x : V} : RV (fun x y H Q => y = .non ∧ Q (.bl (decide (x = .non))) H) x .non H (.bl (decide (x = .non))) := fun H1 _ _ q => ⟨rfl, q H1 (Ex.refl H1)⟩
theorem rv_notN {H : Hp} {x : V} : RV (fun x y H Q => y = .non ∧ Q (.bl (!decide (x = .non))) H) x .non H (.bl (!decide (x = .non))) := fun H1 _ _ q => ⟨rfl, q H1 (Ex.refl H1)⟩
theorem two_out (f s : Nat) (h : f ≠ s) : ∀ m, ((List.range m).filter fun i => !decide (i = f ∨ i = s)).length + (if f < m then 1 else 0) + (if s < m then 1 else 0) = m
  | 0 => rfl
  | m + 1 => by
    have ih := two_out f s h m
    rw [List.range_succ, List.filter_append, List.length_append, List.filter_cons]
    by_cases a : m = f <;> by_cases c : m = s
    · omega
    · subst a
      rw [decide_eq_true (Or.inl rfl), if_neg (by decide)]
      simp only [List.filter_nil, List.length_nil]
      split at ih <;> split at ih <;> split <;> split <;> omega
    · subst c
      rw [decide_eq_true (Or.inr rfl), if_neg (by decide)]
      simp only [List.filter_nil, List.length_nil]
      split at ih <;> split at ih <;> split <;> split <;> omega
    · rw [decide_eq_false (by omega), if_pos (by decide)]
      simp only [List.filter_nil, List.length_cons, List.length_nil]
      split at ih <;> split at ih <;> split <;> split <;> omega
/-- four flips, three of them at different places, give another row -/
theorem flip4_ne {n f s t u : Nat} (h1 : f ≠ s) (h2 : f ≠ t) (h3 : s ≠ t) : flip n [f, s, t, u] ≠ n := fun e => by
  have b1 : (flip n [f, s, t, u]).testBit f = n.testBit f := by rw [e]
  have b2 : (flip n [f, s, t, u]).testBit s = n.testBit s := by rw [e]
  have r : ∀ q, (flip n [f, s, t, u]).testBit q = ((((n.testBit q ^^ decide (f = q)) ^^ decide (s = q)) ^^ decide (t = q)) ^^ decide (u = q)) := fun q => by
    show ((((n ^^^ 2 ^ f) ^^^ 2 ^ s) ^^^ 2 ^ t) ^^^ 2 ^ u).testBit q = _
    rw [tb_flip1, tb_flip1, tb_flip1, tb_flip1]
  rw [r] at b1 b2
  rw [decide_eq_true rfl, decide_eq_false h1.symm, decide_eq_false h2.symm] at b1
  rw [decide_eq_false h1, decide_eq_true rfl, decide_eq_false h3.symm] at b2
  have u1 : u = f := by
    by_cases c : u = f
    · exact c
    · rw [decide_eq_false c] at b1
      cases n.testBit f <;> simp at b1
  have u2 : u = s := by
    by_cases c : u = s
    · exact c
    · rw [decide_eq_false c] at b2
      cases n.testBit s <;> simp at b2
  exact h1 (u1.symm.trans u2)
theorem flip6 (n f s t : Nat) : flip n [f, s, f, t, t, t] = flip n [s, t] := by
  refine Nat.eq_of_testBit_eq fun q => ?_
  show ((((((n ^^^ 2 ^ f) ^^^ 2 ^ s) ^^^ 2 ^ f) ^^^ 2 ^ t) ^^^ 2 ^ t) ^^^ 2 ^ t).testBit q = ((n ^^^ 2 ^ s) ^^^ 2 ^ t).testBit q
  simp only [tb_flip1]
  cases n.testBit q <;> cases decide (f = q) <;> cases decide (s = q) <;> cases decide (t = q) <;> rfl
/-! ### comparisons that find the same -/
theorem et_stNe {K : PySem.W.Frag} {σ : L2.St} {H : Hp} {t1 t2 : TE} {s : Str} {y : V} {d : PyData} (h1 : EvU t1 σ H [.str s, y]) (h2 : EvU t2 σ H [.str s, y]) (hd : ∀ H, Dp K H y d) (ly : Lay d 3) (hs : PyData.strOk s = true) : EvT (tTest (tOp (rNeD K) t1 t2)) σ H false :=
  et_test (ev_opUU h1 h2 fun p p' H1 hp hp' _ => rv_neS (d := .tuple [.str s, d]) (.tup (st_of hp) (.cons (.str _) (.cons (hd _) .nil))) (.tup (st_of hp') (.cons (.str _) (.cons (hd _) .nil))) (Lay.tuple (n := 3) (.cons (.str hs) (.cons ly .nil))).sh)
theorem et_lsNe {K : PySem.W.Frag} {σ : L2.St} {H : Hp} {t1 t2 : TE} {l : List Int} (h1 : EvL t1 σ H (l.map V.int)) (h2 : EvL t2 σ H (l.map V.int)) : EvT (tTest (tOp (rNeD K) t1 t2)) σ H false :=
  et_test (ev_opLL h1 h2 fun p p' H1 hp hp' _ => rv_neS (dp_ints (sq_of hp)) (dp_ints (sq_of hp')) (lay_ints l (n := 3)).sh)
theorem et_lsNeA {K : PySem.W.Frag} {σ : L2.St} {H : Hp} {t1 t2 : TE} {l : List Int} {p q : Addr} (h1 : Ev t1 σ H (.ref p)) (hp : SqL K H p (l.map V.int)) (h2 : Ev t2 σ H (.ref q)) (hq : SqL K H q (l.map V.int)) : EvT (tTest (tOp (rNeD K) t1 t2)) σ H false :=
  et_test (ev_op h1 h2 (rv_neS (dp_ints hp) (dp_ints hq) (lay_ints l (n := 3)).sh))
theorem et_eq {σ : L2.St} {H : Hp} {t1 t2 : TE} {x y : V} (h1 : Ev t1 σ H x) (h2 : Ev t2 σ H y) (hs : scal x y = true) : EvT (tTest (tOp rEq t1 t2)) σ H (decide (x = y)) := et_test (ev_op h1 h2 (rv_eq hs))
theorem et_ne {σ : L2.St} {H : Hp} {t1 t2 : TE} {x y : V} (h1 : Ev t1 σ H x) (h2 : Ev t2 σ H y) (hs : scal x y = true) : EvT (tTest (tOp rNe t1 t2)) σ H (!decide (x = y)) := et_test (ev_op h1 h2 (rv_ne hs))
/-- != of two that are the same -/
theorem et_neS {σ : L2.St} {H : Hp} {t1 t2 : TE} {x y : V} (h1 : Ev t1 σ H x) (h2 : Ev t2 σ H y) (hs : scal x y = true) (e : x = y) : EvT (tTest (tOp rNe t1 t2)) σ H false := et_is (et_ne h1 h2 hs) (by rw [decide_eq_true e]; rfl)
/-- a or b, both false -/
theorem et_or0 {σ : L2.St} {H : Hp} {t u : TT} (h1 : EvT t σ H false) (h2 : EvT u σ H false) : EvT (tOr t u) σ H false := et_or (a := false) (b := false) h1 fun _ => h2
theorem lst1 {σ : L2.St} {H : Hp} {ta : TE} {x : V} (h : Ev ta σ H x) : EvL (tLst (tCons ta tNil)) σ H [x] := el_lst (ea_cons h ea_nil) (by show 1 ≤ 100000; decide)
theorem lst2 {σ : L2.St} {H : Hp} {ta tb : TE} {x y : V} (h : Ev ta σ H x) (h2 : Ev tb σ H y) : EvL (tLst (tCons ta (tCons tb tNil))) σ H [x, y] := el_lst (ea_cons h (ea_cons h2 ea_nil)) (by show 2 ≤ 100000; decide)
theorem lst3 {σ : L2.St} {H : Hp} {ta tb tc : TE} {x y z : V} (h : Ev ta σ H x) (h2 : Ev tb σ H y) (h3 : Ev tc σ H z) : EvL (tLst (tCons ta (tCons tb (tCons tc tNil)))) σ H [x, y, z] := el_lst (ea_cons h (ea_cons h2 (ea_cons h3 ea_nil))) (by show 3 ≤ 100000; decide)
theorem tup2 {σ : L2.St} {H : Hp} {ta tb : TE} {x y : V} (h : Ev ta σ H x) (h2 : Ev tb σ H y) : EvU (tTup (tCons ta (tCons tb tNil))) σ H [x, y] := eu_tup (ea_cons h (ea_cons h2 ea_nil)) (by show 2 ≤ 100000; decide)
/-- t[i], the tuple made on the spot -/
theorem ev_opU0 {K : PySem.W.Frag} {σ : L2.St} {H : Hp} {ta tb : TE} {xs : List V} {i : Int} {v : V} (ha : EvU ta σ H xs) (hb : Ev tb σ H (.int i)) (hx : atI xs i = some v) : Ev (tOp (rIxT K) ta tb) σ H v := fun H1 e Q q =>
  ha H1 e _ fun p H2 _ e2 hp => hb H2 (e.trans e2) _ fun H3 e3 => ⟨p, xs, i, v, rfl, rfl, st_of (e3 _ _ hp), hx, q H3 (e2.trans e3)⟩
/-! ### words far apart -/
theorem spot_xor {m a c : Nat} (hc : c < 2 ^ m) : spotN m (a ^^^ c) = spotN m a ^^^ spotN m c := by
  have e : a ^^^ c = flip a (bs m c) := (flip_bs hc).symm
  rw [e, spot_flip fun p hp => (bs_mem.mp hp).1]
  rfl
theorem par_xor {m a c : Nat} (hc : c < 2 ^ m) : parB m (a ^^^ c) = (parB m a ^^ parB m c) := by
  have e : a ^^^ c = flip a (bs m c) := (flip_bs hc).symm
  rw [e, par_flip fun p hp => (bs_mem.mp hp).1]
  rfl
theorem far {b u v : Nat} (h4 : 4 ≤ b) (h32 : b ≤ 32) (hu : u < 2 ^ b) (hv : v < 2 ^ b) (h : u ≠ v) : 4 ≤ (bs 40 (cod b u ^^^ cod b v)).length := by
  have hpl := pl_le h32
  have cu := cod_lt (v := u) h4 h32
  have cv := cod_lt (v := v) h4 h32
  have hx : cod b u ^^^ cod b v < 2 ^ pl b := Nat.xor_lt_two_pow cu cv
  have hs : spotN (pl b) (cod b u ^^^ cod b v) = 0 := by rw [spot_xor cv, cod_spot h4 h32, cod_spot h4 h32]; rfl
  have hp : parB (pl b) (cod b u ^^^ cod b v) = false := by rw [par_xor cv, cod_par h4 h32, cod_par h4 h32]; rfl
  rw [bs_more hx (by omega)]
  have hne : bs (pl b) (cod b u ^^^ cod b v) ≠ [] := fun z => by
    have e := row_bs hx
    rw [z] at e
    have e2 := xor0 e.symm
    have e3 := val_cod h4 h32 hu
    rw [e2, val_cod h4 h32 hv] at e3
    exact h e3.symm
  have nd := bs_nodup (pl b) (cod b u ^^^ cod b v)
  unfold spotN at hs
  unfold parB at hp
  have hp := of_decide_eq_false hp
  revert hne nd hs hp
  generalize bs (pl b) (cod b u ^^^ cod b v) = l
  intro hs hne nd hp
  match l, hs, hp, hne, nd with
  | [], _, _, hne, _ => exact absurd rfl hne
  | [a], _, hp, _, _ => exact absurd (show [a].length % 2 = 1 from rfl) hp
  | [a, c], hs, _, _, nd =>
    rw [sx_cons, sx_one] at hs
    have := xor0 hs
    subst this
    exact absurd nd (by simp)
  | [a, c, d], _, hp, _, _ => exact absurd (show [a, c, d].length % 2 = 1 by simp) hp
  | a :: c :: d :: e :: r, _, _, _, _ => simp
/-- [e for i, x in enumerate(xs) if t], xs a list that stands somewhere -/
theorem el_lcEA {K : PySem.W.Frag} {σ : L2.St} {H : Hp} {tl te : TE} {tt : TT} {q : Addr} {xs : List V} {j1 j2 : Nat} {vs : List Nat} (f : Nat → Bool) (g : Nat → V) (h : Ev tl σ H (.ref q)) (hq : SqL K H q xs) (hz : xs.length ≤ 40000) (hw : ∀ x y, wipe (((wipe σ vs).set j1 (some x)).set j2 (some y)) vs = wipe σ vs)
    (ht : ∀ (i : Nat) (x : V) H1, Ex H H1 → xs[i]? = some x → EvT tt (((wipe σ vs).set j1 (some (.int (i : Int)))).set j2 (some x)) H1 (f i)) (he : ∀ (i : Nat) (x : V) H1, Ex H H1 → xs[i]? = some x → f i = true → Ev te (((wipe σ vs).set j1 (some (.int (i : Int)))).set j2 (some x)) H1 (g i)) :
    EvL (tLc (iEnum K (tCons tl tNil)) (gTup K 2 (gCons (gName j1) (gCons (gName j2) gNil))) tt te vs) σ H (given xs.length f g) := fun H0 e Q k => h H0 e _ fun H1 e1 => ⟨q, xs, rfl, ex_l (e.trans e1) hq, fun Dl hD => by
  refine ⟨fun i m H' => m = xs.length - i ∧ i ≤ xs.length ∧ Cw H1 f g Dl i H', ⟨xs.length, by simp, Nat.zero_le _, hD, Ex.new hD, upd_same⟩, ?_⟩
  rintro i m H' ⟨rfl, hi, pp⟩
  have qx : SqL K H' q xs := ex_l ((e.trans e1).trans pp.2.1) hq
  by_cases hlt : i < xs.length
  · refine .inr ⟨⟨xs, xs[i], qx, by simp [hlt]⟩, Cw H1 f g Dl (i + 1), fun H2 p' => ⟨xs.length - (i + 1), by omega, rfl, hlt, p'⟩, fun v H2 y => ?_⟩
    obtain ⟨T, x, rfl, nT, rfl, hxx⟩ := y
    have hix := hxx xs qx
    have hDT : Dl ≠ T := ne_of_none pp.2.2 nT
    have pp2 : Cw H1 f g Dl i (upd H' T (.tup [.int ((i : Nat) : Int), x])) := ⟨pp.1, pp.2.1.trans (Ex.new nT), by rw [upd_ne hDT]; exact pp.2.2⟩
    exact ⟨T, _, rfl, st_of upd_same, rfl, _, _, rfl, _, _, rfl, rfl, hw _ _, cw_turn pp2 (by omega) (ht i x H1 (e.trans e1) hix) (fun hf => he i x H1 (e.trans e1) hix hf)⟩
  · have e' : i = xs.length := by omega
    subst e'
    exact .inl ⟨⟨xs, qx, Nat.le_refl _⟩, k Dl H' (fresh_back e1 pp.1) (e1.trans pp.2.1) pp.2.2⟩⟩
/-- [..] + ys, ys a list that stands somewhere -/
theorem el_catB {σ : L2.St} {H : Hp} {ta tb : TE} {p : Addr} {xs ys : List V} (ha : EvL ta σ H xs) (hb : Ev tb σ H (.ref p)) (hp : H p = some (.lst ys)) (hz : xs.length + ys.length ≤ 100000) : EvL (tOp rCat ta tb) σ H (xs ++ ys) := fun H1 e Q q =>
  ha H1 e _ fun p' H2 np' e2 hp' => hb H2 (e.trans e2) _ fun H3 e3 => ⟨p', p, xs, ys, rfl, rfl, e3 _ _ hp', ((e.trans e2).trans e3) _ _ hp, sz_of hz, fun l nl => q l _ (fresh_back (e2.trans e3) nl) ((e2.trans e3).trans (Ex.new nl)) upd_same⟩
/-- all but two objects are kept -/
def Kp (a b : Addr) (H H' : Hp) : Prop := ∀ c o, c ≠ a → c ≠ b → H c = some o → H' c = some o
theorem Kp.refl (a b : Addr) (H : Hp) : Kp a b H H := fun _ _ _ _ h => h
theorem Kp.ex {a b : Addr} {H H1 H2 : Hp} (k : Kp a b H H1) (e : Ex H1 H2) : Kp a b H H2 := fun c o h1 h2 h => e _ _ (k c o h1 h2 h)
theorem Kp.ua {a b : Addr} {H H1 : Hp} {o : HO} (k : Kp a b H H1) : Kp a b H (upd H1 a o) := fun c u h1 h2 h => by rw [upd_ne h1]; exact k c u h1 h2 h
theorem Kp.ub {a b : Addr} {H H1 : Hp} {o : HO} (k : Kp a b H H1) : Kp a b H (upd H1 b o) := fun c u h1 h2 h => by rw [upd_ne h2]; exact k c u h1 h2 h
def spCount : Sp := fun vs H Q _ => ∃ b : Nat, vs = [.int (b : Int)] ∧ 4 ≤ b ∧ b ≤ 32 ∧ ∀ p H', H p = none → Ex H H' → H' p = some (.tup [.int ((2 ^ b : Nat) : Int), .int (((2 ^ b : Nat) : Int) * ((pl b : Nat) : Int)), .int (((2 ^ pl b : Nat) : Int) - ((2 ^ b : Nat) : Int) - ((2 ^ b : Nat) : Int) * ((pl b : Nat) : Int))]) → Q (.ref p) H'
theorem SpCount {H : Hp} {b : Nat} (h4 : 4 ≤ b) (h32 : b ≤ 32) : SpU spCount ([.int (b : Int)] ++ []) H [.int ((2 ^ b : Nat) : Int), .int (((2 ^ b : Nat) : Int) * ((pl b : Nat) : Int)), .int (((2 ^ pl b : Nat) : Int) - ((2 ^ b : Nat) : Int) - ((2 ^ b : Nat) : Int) * ((pl b : Nat) : Int))] := fun H1 e Q q E => ⟨b, rfl, h4, h32, q⟩
def kd (n : Nat) : Nat := if parB 8 n then (if spotN 8 n < 8 then 1 else 2) else (if spotN 8 n = 0 then 0 else 2)
def kds (i j : Nat) : Nat := ((List.range i).filter fun n => decide (kd n = j)).length
theorem kds_succ (i j : Nat) : kds (i + 1) j = kds i j + (if kd i = j then 1 else 0) := by
  unfold kds
  rw [List.range_succ, List.filter_append, List.length_append, List.filter_cons]
  by_cases h : kd i = j
  · rw [if_pos (decide_eq_true h), if_pos h]; rfl
  · rw [if_neg (by rw [decide_eq_false h]; decide), if_neg h]; rfl
theorem kds_all : kds 256 0 = 16 ∧ kds 256 1 = 128 ∧ kds 256 2 = 112 := by decide +kernel
theorem stV_kd (n : Nat) : ∃ y, stV 4 n = [(if kd n = 0 then .str "clean" else if kd n = 1 then .str "one" else .str "more"), y] := by
  have h8 : pl 4 = 8 := by decide
  unfold stV kd
  rw [h8]
  split <;> split <;> exact ⟨_, rfl⟩
theorem kd_lt (n : Nat) : kd n = 0 ∨ kd n = 1 ∨ kd n = 2 := by
  unfold kd
  split <;> split <;> omega
theorem cmul_nat {n : Nat} {j : Int} (h : n < 2 ^ 64) : CMul (n : Int) j := Or.inl ⟨by omega, by omega⟩
theorem p64 {b : Nat} (h : b ≤ 40) : 2 ^ b < 2 ^ 64 := Nat.pow_lt_pow_right (by decide) (by omega)
/-! ### lists whose items have a property -/
def EaA (ta : TA) (σ : L2.St) (H : Hp) (k : Nat) (P : V → Hp → Prop) : Prop := ∀ H1, Ex H H1 → ∀ Q : List V → Hp → Prop, (∀ vs H2, Ex H1 H2 → vs.length = k → (∀ x ∈ vs, P x H2) → Q vs H2) → ta σ H1 Q
theorem eaA_nil {σ : L2.St} {H : Hp} {P : V → Hp → Prop} : EaA tNil σ H 0 P := fun H1 _ _ q => q [] H1 (Ex.refl H1) rfl fun _ z => nomatch z
theorem eaA_cons {σ : L2.St} {H : Hp} {ta : TE} {tr : TA} {k : Nat} {P : V → Hp → Prop} (m : ∀ v H1 H2, Ex H1 H2 → P v H1 → P v H2) (h : EvG ta σ H P) (hr : EaA tr σ H k P) : EaA (tCons ta tr) σ H (k + 1) P := fun H1 e _ q =>
  h H1 e _ fun v H2 e2 pv => hr H2 (e.trans e2) _ fun vs H3 e3 hl pr => q _ H3 (e2.trans e3) (by rw [List.length_cons, hl]) fun x hx => by
    rcases List.mem_cons.mp hx with rfl | hx
    · exact m _ _ _ e3 pv
    · exact pr x hx
theorem evG_lstA {σ : L2.St} {H : Hp} {ta : TA} {k : Nat} {P : V → Hp → Prop} (m : ∀ v H1 H2, Ex H1 H2 → P v H1 → P v H2) (h : EaA ta σ H k P) (hk : k ≤ 100000) : EvG (tLst ta) σ H (fun v H' => ∃ p xs, v = .ref p ∧ H' p = some (.lst xs) ∧ H p = none ∧ xs.length = k ∧ ∀ x ∈ xs, P x H') := fun H1 e Q q =>
  h H1 e _ fun vs H2 e2 hl pv => ⟨sz_of (by omega), fun p np => q _ _ (e2.trans (Ex.new np)) ⟨p, vs, rfl, upd_same, fresh_back (e.trans e2) np, hl, fun x hx => m _ _ _ (Ex.new np) (pv x hx)⟩⟩
theorem s_forG {K : PySem.W.Frag} {σ : L2.St} {H : Hp} {tl : TE} {g : TG} {tu : TS} {D : Ends} {R : Addr → List V → Hp → Prop} (h : EvG tl σ H (fun v H1 => ∃ p xs, v = .ref p ∧ H1 p = some (.lst xs) ∧ R p xs H1)) (Pv : Addr → List V → Nat → L2.St → Hp → Prop) (h0 : ∀ p xs H1, Ex H H1 → H1 p = some (.lst xs) → R p xs H1 → Pv p xs 0 σ H1)
    (hl : ∀ p xs i σ' H', i ≤ xs.length → Pv p xs i σ' H' → SqL K H' p xs) (hs : ∀ p xs i x σ' H', xs[i]? = some x → Pv p xs i σ' H' → g x σ' H' fun σ2 H2 => tu { D with nx := Pv p xs (i + 1), ct := Pv p xs (i + 1), bk := D.nx } σ2 H2)
    (hd : ∀ p xs σ' H', Pv p xs xs.length σ' H' → D.nx σ' H') : tFor (iList K tl) g tu D σ H :=
  h H (Ex.refl H) _ fun v H1 e ⟨p, xs, ev, hp, r⟩ => ⟨p, ev, ⟨xs, sq_of hp⟩, for_list (Pv p xs) (h0 p xs H1 e hp r) (hl p xs) (hs p xs) (hd p xs)⟩
theorem q_unp2 {K : PySem.W.Frag} {σ : L2.St} {H : Hp} {te : TE} {tz : TS} {D : Ends} {i j : Nat} {x y : V} (h : EvU te σ H [x, y]) (k : ∀ H1, Ex H H1 → tz D ((σ.set i (some x)).set j (some y)) H1) : tSeq (tAsg te (gTup K 2 (gCons (gName i) (gCons (gName j) gNil)))) tz D σ H :=
  h H (Ex.refl H) _ fun p H1 _ e hp => ⟨p, _, rfl, st_of hp, rfl, _, _, rfl, _, _, rfl, rfl, k H1 e⟩
/-- [..].index(y) -/
theorem ev_idx {K : PySem.W.Frag} {σ : L2.St} {H : Hp} {ta tb : TE} {ys : List V} {y z : V} {j : Nat} (ha : EvL ta σ H ys) (hb : Ev tb σ H y) (fy : flatV y = true) (fa : ys.all flatV = true) (hz : ys[j]? = some z) (he : eqV z y = true) (hn : ∀ (m : Nat) (z' : V), m < j → ys[m]? = some z' → eqV z' y = false) :
    Ev (tBM K "list" (rIndex K) ta (tCons tb tNil)) σ H (.int (j : Int)) := fun H1 e Q q =>
  ha H1 e _ fun p H2 _ e2 hp => ⟨Or.inl ⟨rfl, _, sq_of hp⟩, hb H2 (e.trans e2) _ fun H3 e3 => ⟨p, ys, y, j, z, rfl, rfl, sq_of (e3 _ _ hp), fy, fa, hz, he, hn, q H3 (e2.trans e3)⟩⟩
theorem eu_tupA {K : PySem.W.Frag} {σ : L2.St} {H : Hp} {ta : TE} {p : Addr} {xs : List V} (ha : Ev ta σ H (.ref p)) (h : SqL K H p xs) : EvU (tCB (rTupS K) (tCons ta tNil)) σ H xs := fun H1 e Q q =>
  ha H1 e _ fun H2 e2 => ⟨p, xs, rfl, Or.inl ⟨ex_l (e.trans e2) h, fun l nl => q l _ (fresh_back e2 nl) (e2.trans (Ex.new nl)) upd_same⟩⟩
/-! ### values known as data -/
section
variable {K : PySem.W.Frag} {σ : L2.St} {H : Hp} {ta tb te : TE} {r : R2}
def EvD (K : PySem.W.Frag) (te : TE) (σ : L2.St) (H : Hp) (d : PyData) : Prop := EvG te σ H (fun v H' => Dp K H' v d)
theorem Ev.d {v : V} {d : PyData} (h : Ev te σ H v) (hd : ∀ H, Dp K H v d) : EvD K te σ H d := fun H1 e Q q => h H1 e Q fun H2 e2 => q v H2 e2 (hd H2)
theorem Ev.dAt {v : V} {d : PyData} (h : Ev te σ H v) (hd : Dp K H v d) : EvD K te σ H d := fun H1 e Q q => h H1 e Q fun H2 e2 => q v H2 e2 (dp_ex (e.trans e2) hd)
theorem EvU.d {xs : List V} {ds : List PyData} (h : EvU te σ H xs) (hd : ∀ H, DpAll K H xs ds) : EvD K te σ H (.tuple ds) := fun H1 e Q q => h H1 e Q fun p H2 _ e2 hp => q _ H2 e2 (.tup (st_of hp) (hd H2))
theorem evG_tup2 {P1 P2 : V → Hp → Prop} (h1 : EvG ta σ H P1) (m1 : ∀ v H1 H2, Ex H1 H2 → P1 v H1 → P1 v H2) (h2 : EvG tb σ H P2) (m2 : ∀ v H1 H2, Ex H1 H2 → P2 v H1 → P2 v H2) :
    EvG (tTup (tCons ta (tCons tb tNil))) σ H (fun v H' => ∃ p a c, v = .ref p ∧ H p = none ∧ H' p = some (.tup [a, c]) ∧ P1 a H' ∧ P2 c H') := fun H1 e Q q =>
  h1 H1 e _ fun a H2 e2 p1 => h2 H2 (e.trans e2) _ fun c H3 e3 p2 => ⟨(by decide : 2 ≤ sizeLine), fun p np =>
    q _ _ ((e2.trans e3).trans (Ex.new np)) ⟨p, a, c, rfl, fresh_back ((e.trans e2).trans e3) np, upd_same, m1 _ _ _ (e3.trans (Ex.new np)) p1, m2 _ _ _ (Ex.new np) p2⟩⟩
theorem evD_tup2 {d1 d2 : PyData} (h1 : EvD K ta σ H d1) (h2 : EvD K tb σ H d2) : EvD K (tTup (tCons ta (tCons tb tNil))) σ H (.tuple [d1, d2]) :=
  (evG_tup2 h1 (fun _ _ _ e h => dp_ex e h) h2 (fun _ _ _ e h => dp_ex e h)).imp fun v H1 _ ⟨p, a, c, ev, _, hp, d1, d2⟩ => by
    subst ev
    exact .tup (st_of hp) (.cons d1 (.cons d2 .nil))
theorem et_neD {d : PyData} (h1 : EvD K ta σ H d) (h2 : EvD K tb σ H d) (sh : SeqAt.shaped d = true) : EvT (tTest (tOp (rNeD K) ta tb)) σ H false :=
  et_test (opG h1 (fun _ _ _ e h => dp_ex e h) h2 fun a c H1 _ da dc => rv_neS da dc sh)
theorem evG_op {P1 P2 P : V → Hp → Prop} (h1 : EvG ta σ H P1) (m1 : ∀ v H1 H2, Ex H1 H2 → P1 v H1 → P1 v H2) (h2 : EvG tb σ H P2) (hr : ∀ a c H1, Ex H H1 → P1 a H1 → P2 c H1 → ∀ Q : VK, (∀ v H2, Ex H1 H2 → P v H2 → Q v H2) → r a c H1 Q) : EvG (tOp r ta tb) σ H P := fun H1 e Q q =>
  h1 H1 e _ fun a H2 e2 p1 => h2 H2 (e.trans e2) _ fun c H3 e3 p2 => hr a c H3 ((e.trans e2).trans e3) (m1 _ _ _ e3 p1) p2 Q fun v H4 e4 p => q v H4 ((e2.trans e3).trans e4) p
theorem el_rep1 {x : V} {c : Bool} (ha : EvL ta σ H [x]) (hb : Ev tb σ H (.int (if c then 1 else 0))) : EvL (tOp rRep ta tb) σ H (if c then [x] else []) := fun H1 e Q q =>
  ha H1 e _ fun p H2 np e2 hp => hb H2 (e.trans e2) _ fun H3 e3 => ⟨p, _, [x], rfl, rfl, e3 _ _ hp, by split <;> decide, by split <;> decide, by split <;> first | (show 1 ≤ sizeLine; decide) | (show 0 ≤ sizeLine; decide), fun l nl => by
    refine q l _ (fresh_back (e2.trans e3) nl) ((e2.trans e3).trans (Ex.new nl)) ?_
    rw [upd_same]
    cases c <;> rfl⟩
theorem ev_lenSet {ns : List Int} {p : Addr} (ha : Ev ta σ H (.ref p)) (h : SqL K H p (ns.map V.int)) (nd : ns.Nodup) (hl : ns.length ≤ 4000) : Ev (RZ.tLenSetI K ta) σ H (.int ((ns.length : Nat) : Int)) := fun H1 e Q q =>
  ha H1 e _ fun H2 e2 => ⟨p, ns, rfl, ex_l (e.trans e2) h, nd, hl, q H2 e2⟩
end
/-! ### all rows and all words -/
def wordsN (b : Nat) : List Nat := (List.range (2 ^ b)).map (cod b)
theorem pw_bit : ∀ p, p < 40 → isPw p = true → ∀ k, k < 6 → p.testBit k = true → p = 2 ^ k := by decide +kernel
theorem pw_form : ∀ p, p < 40 → isPw p = true → p = 0 ∨ ∃ k, k < 6 ∧ p = 2 ^ k := by decide +kernel
theorem len1 {α : Type} {q : α} : ∀ {l : List α}, l.Nodup → q ∈ l → (∀ p ∈ l, p = q) → l.length = 1
  | [], _, h, _ => nomatch h
  | [a], _, _, _ => rfl
  | a :: c :: r, nd, _, h => by
    have h1 := h a List.mem_cons_self
    have h2 := h c (List.mem_cons_of_mem _ List.mem_cons_self)
    rw [h1, h2] at nd
    exact absurd List.mem_cons_self (List.nodup_cons.mp nd).1
theorem no_pow {l : List Nat} (nd : l.Nodup) (hp : ∀ p ∈ l, p < 40 ∧ isPw p = true) (hs : sx l = 0) : ∀ p ∈ l, p = 0 := fun p h => by
  rcases pw_form p (hp p h).1 (hp p h).2 with h0 | ⟨k, hk, e⟩
  · exact h0
  · have t := tb_sx k l
    rw [hs] at t
    have e1 : (l.filter fun p => p.testBit k).length = 1 := by
      refine len1 (q := p) (List.Nodup.sublist List.filter_sublist nd) (List.mem_filter.mpr ⟨h, by rw [e, Nat.testBit_two_pow]; simp⟩) fun z hz => ?_
      have hz := List.mem_filter.mp hz
      rw [e]
      exact pw_bit z (hp z hz.1).1 (hp z hz.1).2 k hk hz.2
    rw [e1] at t
    simp at t
theorem is_word {b n : Nat} (h4 : 4 ≤ b) (h32 : b ≤ 32) (hn : n < 2 ^ pl b) : n ∈ wordsN b ↔ (spotN (pl b) n = 0 ∧ parB (pl b) n = false) := by
  have hpl := pl_le h32
  constructor
  · intro h
    obtain ⟨v, _, rfl⟩ := List.mem_map.mp h
    exact ⟨cod_spot h4 h32, cod_par h4 h32⟩
  · rintro ⟨hs, hp⟩
    have hv : valN b n < 2 ^ b := row_lt (List.Nodup.sublist List.filter_sublist List.nodup_range) fun p hp => List.mem_range.mp (List.mem_filter.mp hp).1
    refine List.mem_map.mpr ⟨valN b n, List.mem_range.mpr hv, ?_⟩
    have cl := cod_lt (v := valN b n) h4 h32
    have hx : n ^^^ cod b (valN b n) < 2 ^ pl b := Nat.xor_lt_two_pow hn cl
    have sx0 : sx (bs (pl b) (n ^^^ cod b (valN b n))) = 0 := by
      show spotN _ _ = 0
      rw [spot_xor cl, hs, cod_spot h4 h32]; rfl
    have px : parB (pl b) (n ^^^ cod b (valN b n)) = false := by rw [par_xor cl, hp, cod_par h4 h32]; rfl
    have pw : ∀ p ∈ bs (pl b) (n ^^^ cod b (valN b n)), p < 40 ∧ isPw p = true := fun p hp => by
      have hm := bs_mem.mp hp
      refine ⟨by omega, ?_⟩
      cases e : isPw p with
      | true => rfl
      | false =>
        have hd : p ∈ dtN b := List.mem_filter.mpr ⟨List.mem_range.mpr hm.1, by rw [e]; rfl⟩
        obtain ⟨i, hi, ei⟩ := List.getElem_of_mem hd
        have hib : i < b := by have := dt_len b (by omega) h4; omega
        have ed : dt b i = p := by
          have := dt_at h4 h32 hib
          rw [List.getElem?_eq_getElem hi, ei] at this
          exact (Option.some.inj this).symm
        have t := hm.2
        rw [← ed, Nat.testBit_xor, cod_data h4 h32 hib] at t
        unfold valN at t
        rw [tb_row (List.Nodup.sublist List.filter_sublist List.nodup_range)] at t
        have iff : (i ∈ (List.range b).filter fun i => n.testBit (dt b i)) ↔ n.testBit (dt b i) = true := by
          rw [List.mem_filter, List.mem_range]
          exact ⟨fun z => z.2, fun z => ⟨hib, z⟩⟩
        cases c : n.testBit (dt b i) with
        | true => rw [c, decide_eq_true (iff.mpr c)] at t; cases t
        | false => rw [c, decide_eq_false (fun z => by rw [iff.mp z] at c; cases c)] at t; cases t
    have all0 := no_pow (bs_nodup _ _) pw sx0
    have nil : bs (pl b) (n ^^^ cod b (valN b n)) = [] := by
      have nd := bs_nodup (pl b) (n ^^^ cod b (valN b n))
      unfold parB at px
      have px := of_decide_eq_false px
      cases h : bs (pl b) (n ^^^ cod b (valN b n)) with
      | nil => rfl
      | cons a r =>
        rw [h] at nd px all0
        have := len1 (q := 0) nd (by rw [← all0 a List.mem_cons_self]; exact List.mem_cons_self) all0
        rw [this] at px
        exact absurd rfl px
    have e := row_bs hx
    rw [nil] at e
    exact (xor0 e.symm).symm
/-- what is due of a row -/
def dueD (b n : Nat) : PyData := if parB (pl b) n then (if spotN (pl b) n < pl b then .tuple [.tuple [.str "one", .int ((spotN (pl b) n : Nat) : Int)], .int ((flip n [spotN (pl b) n] : Nat) : Int)] else .tuple [.tuple [.str "more", .none], .none])
  else (if spotN (pl b) n = 0 then .tuple [.tuple [.str "clean", .none], .int (n : Int)] else .tuple [.tuple [.str "more", .none], .none])
def stD (b n : Nat) : PyData := if parB (pl b) n then (if spotN (pl b) n < pl b then .tuple [.str "one", .int ((spotN (pl b) n : Nat) : Int)] else .tuple [.str "more", .none]) else (if spotN (pl b) n = 0 then .tuple [.str "clean", .none] else .tuple [.str "more", .none])
def meD (b n : Nat) : PyData := if parB (pl b) n then (if spotN (pl b) n < pl b then .int ((flip n [spotN (pl b) n] : Nat) : Int) else .none) else (if spotN (pl b) n = 0 then .int (n : Int) else .none)
theorem due_eq (b n : Nat) : dueD b n = .tuple [stD b n, meD b n] := by
  unfold dueD stD meD
  split <;> split <;> rfl
theorem due_sh (b n : Nat) : SeqAt.shaped (dueD b n) = true := by
  have s1 : PyData.strOk ("one" : Str) = true := by decide +kernel
  have s2 : PyData.strOk ("more" : Str) = true := by decide +kernel
  have s3 : PyData.strOk ("clean" : Str) = true := by decide +kernel
  unfold dueD
  split <;> split
  · exact (Lay.tuple (n := 4) (.cons (.tuple (n := 3) (.cons (.str s1) (.cons (.int _) .nil))) (.cons (.int _) .nil))).sh
  · exact (Lay.tuple (n := 4) (.cons (.tuple (n := 3) (.cons (.str s2) (.cons .none .nil))) (.cons .none .nil))).sh
  · exact (Lay.tuple (n := 4) (.cons (.tuple (n := 3) (.cons (.str s3) (.cons .none .nil))) (.cons (.int _) .nil))).sh
  · exact (Lay.tuple (n := 4) (.cons (.tuple (n := 3) (.cons (.str s2) (.cons .none .nil))) (.cons .none .nil))).sh
theorem st_dp {K : PySem.W.Frag} (b n : Nat) : ∃ ds, stD b n = .tuple ds ∧ ∀ H, DpAll K H (stV b n) ds := by
  unfold stD stV
  split <;> split
  · exact ⟨_, rfl, fun H => .cons (.str _) (.cons (.int _) .nil)⟩
  · exact ⟨_, rfl, fun H => .cons (.str _) (.cons .non .nil)⟩
  · exact ⟨_, rfl, fun H => .cons (.str _) (.cons .non .nil)⟩
  · exact ⟨_, rfl, fun H => .cons (.str _) (.cons .non .nil)⟩
theorem me_dp {K : PySem.W.Frag} (b n : Nat) (H : Hp) : Dp K H (menV b n) (meD b n) := by
  unfold meD menV
  split <;> split
  · exact .int _
  · exact .non
  · exact .int _
  · exact .non
/-- a place turned in a list of places -/
def togg (l : List Nat) (p : Nat) : List Nat := l.filter (fun m => !decide (m = p)) ++ (if p ∉ l then [p] else [])
theorem togg_nodup {l : List Nat} {p : Nat} (nd : l.Nodup) : (togg l p).Nodup := by
  unfold togg
  refine List.nodup_append.mpr ⟨List.Nodup.sublist List.filter_sublist nd, by split <;> simp, fun a ha c hc e => ?_⟩
  split at hc
  · rename_i h
    rw [List.mem_singleton.mp hc] at e
    exact h (e ▸ (List.mem_filter.mp ha).1)
  · cases hc
theorem togg_mem {l : List Nat} {p q : Nat} : q ∈ togg l p ↔ ((q ∈ l ∧ q ≠ p) ∨ (q = p ∧ p ∉ l)) := by
  unfold togg
  rw [List.mem_append, List.mem_filter]
  by_cases h : p ∈ l
  · rw [if_neg (fun z => z h)]
    constructor
    · rintro (⟨a, c⟩ | z)
      · exact Or.inl ⟨a, fun e => by rw [decide_eq_true e] at c; cases c⟩
      · cases z
    · rintro (⟨a, c⟩ | ⟨_, z⟩)
      · exact Or.inl ⟨a, by rw [decide_eq_false c]; rfl⟩
      · exact absurd h z
  · rw [if_pos h]
    constructor
    · rintro (⟨a, c⟩ | z)
      · exact Or.inl ⟨a, fun e => by rw [decide_eq_true e] at c; cases c⟩
      · exact Or.inr ⟨List.mem_singleton.mp z, h⟩
    · rintro (⟨a, c⟩ | ⟨e, _⟩)
      · exact Or.inl ⟨a, by rw [decide_eq_false c]; rfl⟩
      · rw [e]; exact Or.inr (List.mem_singleton.mpr rfl)
theorem togg_row {l : List Nat} {p : Nat} (nd : l.Nodup) : rowOf (togg l p) = rowOf l ^^^ 2 ^ p := by
  refine Nat.eq_of_testBit_eq fun q => ?_
  rw [tb_row (togg_nodup nd), tb_flip1, tb_row nd]
  by_cases h : q ∈ l <;> by_cases e : p = q
  · subst e
    rw [decide_eq_true h, decide_eq_true rfl, decide_eq_false]
    · rfl
    · intro z
      rcases togg_mem.mp z with z | z
      · exact z.2 rfl
      · exact z.2 h
  · rw [decide_eq_true h, decide_eq_false e, decide_eq_true (togg_mem.mpr (Or.inl ⟨h, fun z => e z.symm⟩))]
    rfl
  · subst e
    rw [decide_eq_false h, decide_eq_true rfl, decide_eq_true (togg_mem.mpr (Or.inr ⟨rfl, h⟩))]
    rfl
  · rw [decide_eq_false h, decide_eq_false e, decide_eq_false]
    · rfl
    · intro z
      rcases togg_mem.mp z with z | z
      · exact h z.1
      · exact e z.1.symm
theorem togg_len {l : List Nat} {p : Nat} : (togg l p).length ≤ l.length + 1 := by
  unfold togg
  rw [List.length_append]
  have := List.length_filter_le (fun m => !decide (m = p)) l
  split
  · show _ + 1 ≤ _; omega
  · show _ + 0 ≤ _; omega
theorem togg_iL (l : List Nat) (p : Nat) : (iL (l.filter (fun m => !decide (V.int (m : Int) = V.int (p : Int))))).map V.int ++ (if (!decide ((p : Int) ∈ iL l)) = true then [V.int (p : Int)] else []) = (iL (togg l p)).map V.int := by
  unfold togg
  rw [iL_app]
  congr 1
  · congr 2
    refine List.filter_congr fun m _ => ?_
    congr 1
    refine decide_eq_decide.mpr ⟨fun z => ?_, fun z => by rw [z]⟩
    injection z with z
    omega
  · by_cases h : p ∈ l
    · rw [decide_eq_true (mem_iL.mpr h), if_neg (by decide), if_neg (fun z => z h)]; rfl
    · rw [decide_eq_false (fun z => h (mem_iL.mp z)), if_pos (by decide), if_pos h]; rfl
def spLstate (K : PySem.W.Frag) : Sp := fun vs H Q _ => ∃ (wa : Addr) (b n : Nat), vs = [.ref wa, .int ((pl b : Nat) : Int), .int (n : Int)] ∧ 4 ≤ b ∧ b ≤ 7 ∧ n < 2 ^ pl b ∧ SqL K H wa ((iL (wordsN b)).map V.int) ∧ ∀ x H', Dp K H' x (dueD b n) → Ex H H' → Q x H'
theorem s_appG {K : PySem.W.Frag} {σ : L2.St} {H : Hp} {ta te : TE} {D : Ends} {l : Addr} {xs : List V} {P : V → Hp → Prop} (hl : H l = some (.lst xs)) (ha : Ev ta σ H (.ref l)) (h : EvG te σ H P) (hz : xs.length < 100000) (k : ∀ v H1, Ex H H1 → P v H1 → D.nx σ (upd H1 l (.lst (xs ++ [v])))) :
    tDrop (tBM K "list" rAppend ta (tCons te tNil)) D σ H := ha H (Ex.refl H) _ fun H1 e1 =>
  ⟨Or.inl ⟨rfl, xs, sq_of (e1 l _ hl)⟩, h H1 e1 _ fun v H2 e2 pv => ⟨l, xs, v, rfl, rfl, e2 l _ (e1 l _ hl), sz_lt hz, k v H2 (e1.trans e2) pv⟩⟩
end My
set_option Elab.async false
set_option linter.all false
set_option maxRecDepth 100000
set_option maxHeartbeats 400000

namespace My_farword_k14_words_far_apart
open PySem PySem.Spec PyProof.Rows L2 Evl My
/-- the values' evaluation, told by the term: the value is found on the way -/
local macro_rules | `(tactic| walk_at "rv") => `(tactic| first
  | exact rv_I0
  | exact ru_neg
  | exact rv_eq rfl
  | exact rv_ne rfl
  | (refine' rv_I ?hc; case hc => first | (show (0 : Int) < _; omega) | (unfold CDiv; omega) | (unfold CPow; omega) | (unfold CMul; omega) | omega | decide))
local macro_rules | `(tactic| walk_at "ea") => `(tactic| first
  | exact ea_nil
  | (refine' ea_cons ?eah ?eat; (case eah => walk_at "ev"); (case eat => walk_at "ea")))
local macro_rules | `(tactic| walk_at "et") => `(tactic| first
  | (refine' et_test ?h; case h => walk_at "ev")
  | (refine' et_B ?h; case h => walk_at "ev")
  | (refine' et_not ?h; case h => walk_at "et"))
local macro_rules | `(tactic| walk_at "ev") => `(tactic| first
  | exact ev_c
  | exact ev_var rfl
  | (refine' ev_lenL ?h ?hl; (case h => walk_at "ev"); (case hl => walk_at "sq"))
  | (refine' ev_op ?eva ?evb ?evr; (case eva => walk_at "ev"); (case evb => walk_at "ev"); (case evr => walk_at "rv"))
  | (refine' ev_un ?eva ?evr; (case eva => walk_at "ev"); (case evr => walk_at "rv"))
  | (refine' ev_abs ?h; case h => walk_at "ea")
  | (refine' ev_int ?h; case h => walk_at "ea")
  | (refine' ev_intB ?h; case h => walk_at "ea")
  | (refine' ev_max1 ?h; case h => walk_at "ea")
  | (refine' ev_call ?h ?hs; (case h => walk_at "ea"); (case hs => walk_at "sp"))
  | (refine' ev_notV ?h; case h => walk_at "ev"))
local macro_rules | `(tactic| walk_at "sq") => `(tactic| first
  | assumption
  | (refine sq_of ?hq; case hq => assumption))
local macro_rules | `(tactic| walk_at "sp") => `(tactic| first
  | exact SpPlaces (by omega) (by omega)
  | exact SpOnes (by omega)
  | exact SpSpot (by omega) (by omega) (by omega))

/-! ### the text -/
def topS (i : Nat) : Stmt := PySem.Challenge.pw_farword_k14_words_far_apart.main.body.getD i (.Pass ⟨0, 0, 0, 0⟩)
abbrev s_places_of : Stmt := topS 1
abbrev N_places_of : List Str := ["bits", "turns"]
abbrev p_places_of : List Str := ["bits"]
theorem sc_places_of : FnScope N_places_of p_places_of (defScope s_places_of) := ⟨rfl, rfl, rfl, by decide +kernel, rfl, by decide +kernel, by decide +kernel⟩
abbrev s_check_places : Stmt := topS 2
abbrev N_check_places : List Str := ["bits", "place"]
abbrev p_check_places : List Str := ["bits"]
theorem sc_check_places : FnScope N_check_places p_check_places (defScope s_check_places) := ⟨rfl, rfl, rfl, by decide +kernel, rfl, by decide +kernel, by decide +kernel⟩
abbrev s_data_places : Stmt := topS 3
abbrev N_data_places : List Str := ["bits", "place"]
abbrev p_data_places : List Str := ["bits"]
theorem sc_data_places : FnScope N_data_places p_data_places (defScope s_data_places) := ⟨rfl, rfl, rfl, by decide +kernel, rfl, by decide +kernel, by decide +kernel⟩
abbrev s_coded : Stmt := topS 4
abbrev N_coded : List Str := ["bits", "value", "row", "at", "place", "spot"]
abbrev p_coded : List Str := ["bits", "value"]
theorem sc_coded : FnScope N_coded p_coded (defScope s_coded) := ⟨rfl, rfl, rfl, by decide +kernel, rfl, by decide +kernel, by decide +kernel⟩
abbrev s_ones_in : Stmt := topS 5
abbrev N_ones_in : List Str := ["row"]
abbrev p_ones_in : List Str := ["row"]
theorem sc_ones_in : FnScope N_ones_in p_ones_in (defScope s_ones_in) := ⟨rfl, rfl, rfl, by decide +kernel, rfl, by decide +kernel, by decide +kernel⟩
abbrev s_spot_of : Stmt := topS 6
abbrev N_spot_of : List Str := ["bits", "row", "spot", "place"]
abbrev p_spot_of : List Str := ["bits", "row"]
theorem sc_spot_of : FnScope N_spot_of p_spot_of (defScope s_spot_of) := ⟨rfl, rfl, rfl, by decide +kernel, rfl, by decide +kernel, by decide +kernel⟩
abbrev s_state_of : Stmt := topS 7
abbrev N_state_of : List Str := ["bits", "row", "spot"]
abbrev p_state_of : List Str := ["bits", "row"]
theorem sc_state_of : FnScope N_state_of p_state_of (defScope s_state_of) := ⟨rfl, rfl, rfl, by decide +kernel, rfl, by decide +kernel, by decide +kernel⟩
abbrev s_flipped : Stmt := topS 8
abbrev N_flipped : List Str := ["row", "places", "place"]
abbrev p_flipped : List Str := ["row", "places"]
theorem sc_flipped : FnScope N_flipped p_flipped (defScope s_flipped) := ⟨rfl, rfl, rfl, by decide +kernel, rfl, by decide +kernel, by decide +kernel⟩
abbrev s_differing : Stmt := topS 9
abbrev N_differing : List Str := ["one", "other", "change", "place"]
abbrev p_differing : List Str := ["one", "other"]
theorem sc_differing : FnScope N_differing p_differing (defScope s_differing) := ⟨rfl, rfl, rfl, by decide +kernel, rfl, by decide +kernel, by decide +kernel⟩
abbrev s_count_rows : Stmt := topS 10
abbrev N_count_rows : List Str := ["bits", "places", "clean", "one"]
abbrev p_count_rows : List Str := ["bits"]
theorem sc_count_rows : FnScope N_count_rows p_count_rows (defScope s_count_rows) := ⟨rfl, rfl, rfl, by decide +kernel, rfl, by decide +kernel, by decide +kernel⟩
abbrev s__law_row : Stmt := topS 12
abbrev N__law_row : List Str := ["cell", "many", "row", "rest", "state", "k"]
abbrev p__law_row : List Str := ["cell", "many"]
theorem sc__law_row : FnScope N__law_row p__law_row (defScope s__law_row) := ⟨rfl, rfl, rfl, by decide +kernel, rfl, by decide +kernel, by decide +kernel⟩
abbrev s__law_numbers : Stmt := topS 13
abbrev N__law_numbers : List Str := ["script", "many", "cells", "each", "numbers", "cell", "number"]
abbrev p__law_numbers : List Str := ["script", "many"]
theorem sc__law_numbers : FnScope N__law_numbers p__law_numbers (defScope s__law_numbers) := ⟨rfl, rfl, rfl, by decide +kernel, rfl, by decide +kernel, by decide +kernel⟩
abbrev s__law_checks : Stmt := topS 14
abbrev N__law_checks : List Str := ["bits", "r", "turn", "k"]
abbrev p__law_checks : List Str := ["bits"]
theorem sc__law_checks : FnScope N__law_checks p__law_checks (defScope s__law_checks) := ⟨rfl, rfl, rfl, by decide +kernel, rfl, by decide +kernel, by decide +kernel⟩
abbrev s__law_places : Stmt := topS 15
abbrev N__law_places : List Str := ["bits"]
abbrev p__law_places : List Str := ["bits"]
theorem sc__law_places : FnScope N__law_places p__law_places (defScope s__law_places) := ⟨rfl, rfl, rfl, by decide +kernel, rfl, by decide +kernel, by decide +kernel⟩
abbrev s__law_digits : Stmt := topS 16
abbrev N__law_digits : List Str := ["row", "found", "place"]
abbrev p__law_digits : List Str := ["row"]
theorem sc__law_digits : FnScope N__law_digits p__law_digits (defScope s__law_digits) := ⟨rfl, rfl, rfl, by decide +kernel, rfl, by decide +kernel, by decide +kernel⟩
abbrev s__law_row_of : Stmt := topS 17
abbrev N__law_row_of : List Str := ["places", "steps", "turn", "place"]
abbrev p__law_row_of : List Str := ["places"]
theorem sc__law_row_of : FnScope N__law_row_of p__law_row_of (defScope s__law_row_of) := ⟨rfl, rfl, rfl, by decide +kernel, rfl, by decide +kernel, by decide +kernel⟩
abbrev s__law_value : Stmt := topS 18
abbrev N__law_value : List Str := ["numbers", "at", "bits", "value", "top", "k"]
abbrev p__law_value : List Str := ["numbers", "at", "bits"]
theorem sc__law_value : FnScope N__law_value p__law_value (defScope s__law_value) := ⟨rfl, rfl, rfl, by decide +kernel, rfl, by decide +kernel, by decide +kernel⟩
abbrev s_law : Stmt := topS 19
abbrev N_law : List Str := ["script", "numbers", "bits", "words", "values", "k", "value", "ones", "other", "j", "more", "changed", "place", "many", "clean", "rows", "found", "row", "one"]
abbrev p_law : List Str := ["script"]
theorem sc_law : FnScope N_law p_law (defScope s_law) := ⟨rfl, rfl, rfl, by decide +kernel, rfl, by decide +kernel, by decide +kernel⟩

/-! ### the drawn numbers: all that is wanted of them is how many there are, and that each is from 0 to 1008 -/
def Small (ns : List Int) : Prop := ∀ n ∈ ns, 0 ≤ n ∧ n < 1009
theorem Small.app {ns : List Int} {n : Int} (h : Small ns) (h0 : 0 ≤ n) (h1 : n < 1009) : Small (ns ++ [n]) := fun z hz => by
  rcases List.mem_append.mp hz with hz | hz
  · exact h z hz
  · rw [List.mem_singleton.mp hz]
    exact ⟨h0, h1⟩
def spRow : Sp := fun vs H Q _ => ∃ (c m : Int), vs = [.int c, .int m] ∧ 0 ≤ m ∧ m ≤ 1000 ∧ ∀ (ns : List Int) p H', (ns.length : Int) = m → Small ns → H p = none → Ex H H' → H' p = some (.lst (ns.map V.int)) → Q (.ref p) H'
def spNumbers (K : PySem.W.Frag) : Sp := fun vs H Q _ => ∃ (a : Addr) (xs : List Int) (m : Int), vs = [.ref a, .int m] ∧ SqL K H a (xs.map V.int) ∧ xs.length ≤ 63 ∧ 0 ≤ m ∧ m ≤ 900 ∧
  ∀ (ns : List Int) p H', (ns.length : Int) = m → Small ns → H p = none → Ex H H' → H' p = some (.lst (ns.map V.int)) → Q (.ref p) H'
section
variable {P : Program} {w : World} {K : PySem.W.Frag} {mg : Str → Option Value} {base : Heap}
theorem ok_row (A : At K mg "_law_row" s__law_row) (mz_abs : mg "abs" = none) (mz_int : mg "int" = none) (mz_range : mg "range" = none) : Dfn P w K mg base 1 "_law_row" p__law_row spRow := by
  refine dfn_ok A sc__law_row (fun _ _ _ _ _ _ us hl => match us, hl with | [_, _], _ => rfl) (fun vs H Q E h => ?_) (fun f cdv A outer s H vs Q E hr h => ?_)
  · obtain ⟨c, m, rfl, _⟩ := h
    rfl
  · obtain ⟨c, m, rfl, hm, hm2, q⟩ := h
    refine ⟨_, (pss_cons (ps_set (i := 2) sc__law_row.nd rfl (Or.inl rfl) (pe_lst pa_nil))
  (pss_cons (ps_set (i := 3) sc__law_row.nd rfl (Or.inl rfl) pe_int)
  (pss_cons (ps_if (pt_cmpR op_ge (pe_callB call_abs (by rfl) mz_abs (by decide +kernel) (pa_cons (pv 0) pa_nil)) (pe_op op_pow pe_int pe_int) (by first | exact nomark _ | rfl))
    (pss_one (ps_set (i := 3) sc__law_row.nd rfl (Or.inl rfl) (pe_callB call_abs (by rfl) mz_abs (by decide +kernel) (pa_cons (pv 0) pa_nil))))
    pss_nil)
  (pss_cons (ps_set (i := 4) sc__law_row.nd rfl (Or.inl rfl) (pe_op op_mod (pe_callTy call_int1 (by rfl) mz_int (by decide +kernel) (pa_cons (pe_callB call_abs (by rfl) mz_abs (by decide +kernel) (pa_cons (pv 0) pa_nil)) pa_nil)) pe_int))
  (pss_cons (ps_for PassesOwn.never rfl (pi_range1 (by rfl) mz_range (pa_cons (pv 1) pa_nil)) (pg_name (i := 5) sc__law_row.nd rfl (Or.inl rfl))
    (pss_cons (ps_set (i := 4) sc__law_row.nd rfl (Or.inl rfl) (pe_op op_mod (pe_callTy call_int1 (by rfl) mz_int (by decide +kernel) (pa_cons (pe_op op_add (pe_op op_mul (pe_op op_add (pv 4) pe_int) pe_int) (pe_op op_mul pe_int (pv 5))) pa_nil)) pe_int))
  (pss_one (ps_if (pt_cmpR op_gt (pv 3) pe_int (by first | exact nomark _ | rfl))
    (pss_cons (ps_expr (show PE _ _ (tBM K "list" _ _ _) from pe_bm PySem.F.plainAttrs_list PySem.F.slot_list_append PySem.F.type_list_append mt_append (pv 2) (pa_cons (pe_op op_mod (pe_callTy call_int1 (by rfl) mz_int (by decide +kernel) (pa_cons (pv 3) pa_nil)) pe_int) pa_nil)))
  (pss_one (ps_set (i := 3) sc__law_row.nd rfl (Or.inl rfl) (pe_op op_fdiv (pv 3) pe_int))))
    (pss_one (ps_expr (show PE _ _ (tBM K "list" _ _ _) from pe_bm PySem.F.plainAttrs_list PySem.F.slot_list_append PySem.F.type_list_append mt_append (pv 2) (pa_cons (pe_op op_mod (pe_callTy call_int1 (by rfl) mz_int (by decide +kernel) (pa_cons (pe_op op_fdiv (pv 4) pe_int) pa_nil)) pe_int) pa_nil))))))))
  (pss_one (ps_ret (pv 2)))))))), ?_⟩
    refine q_asgL (xs := []) (by refine el_lst ea_nil (by decide)) fun p H1 np e1 h1 => ?_
    refine' q_asg (v := ?v2) ?e2 fun H2 e2 => ?_
    case e2 => walk_at "ev"
    refine' q_ifAsg (b := decide ((10:Int) ^ (18:Int).toNat ≤ if c < 0 then -c else c)) (v := .int (if (10:Int) ^ (18:Int).toNat ≤ (if c < 0 then -c else c) then (if c < 0 then -c else c) else 0)) ?b3 ?t3 ?f3 fun H3 e3 => ?_
    case b3 => walk_at "et"
    case t3 =>
      intro hb
      rw [if_pos (of_decide_eq_true hb)]
      walk_at "ev"
    case f3 =>
      intro hb
      rw [if_neg (of_decide_eq_false hb)]
      rfl
    generalize hr0 : (if (10:Int) ^ (18:Int).toNat ≤ (if c < 0 then -c else c) then (if c < 0 then -c else c) else 0) = r0
    have hr00 : 0 ≤ r0 := by
      rw [← hr0]
      split
      · split <;> omega
      · omega
    refine' q_asg (v := ?v4) ?e4 fun H4 e4 => ?_
    case e4 => walk_at "ev"
    have hs0 : 0 ≤ (if c < 0 then -c else c) % 2147483647 ∧ (if c < 0 then -c else c) % 2147483647 < 2147483647 := ⟨Int.emod_nonneg _ (by decide), Int.emod_lt_of_pos _ (by decide)⟩
    generalize (if c < 0 then -c else c) % 2147483647 = st0 at hs0
    refine q_forR1 (n := m) (by walk_at "ea") ⟨hm, by omega⟩ (fun i σ' H' => ∃ (st r : Int) (k : Option V) (ns : List Int), σ' = [some (.int c), some (.int m), some (.ref p), some (.int r), some (.int st), k] ∧ 0 ≤ st ∧ st < 2147483647 ∧ ns.length = i ∧ Small ns ∧ Ex H H' ∧ H' p = some (.lst (ns.map V.int))) ?h0 ?hs ?hd
    case h0 => exact fun H5 e5 => ⟨st0, r0, none, [], rfl, hs0.1, hs0.2, rfl, (fun _ z => nomatch z), (((e1.trans e2).trans e3).trans e4).trans e5, e5 _ _ (e4 _ _ (e3 _ _ (e2 _ _ h1)))⟩
    case hs =>
      rintro i σ' H' hi ⟨st, r, k, ns, rfl, s0, s1, hl, hS, eH, hp⟩
      refine' q_asg (v := ?v5) ?e5 fun H5 e5 => ?_
      case e5 => walk_at "ev"
      have hs2 : 0 ≤ ((st + 1) * 48271 + 69621 * (i : Int)) % 2147483647 ∧ ((st + 1) * 48271 + 69621 * (i : Int)) % 2147483647 < 2147483647 := ⟨Int.emod_nonneg _ (by decide), Int.emod_lt_of_pos _ (by decide)⟩
      generalize ((st + 1) * 48271 + 69621 * (i : Int)) % 2147483647 = st2 at hs2
      have hp5 := e5 _ _ hp
      have last : ∀ (x y : Int) H6, Ex H5 H6 → 0 ≤ x → x < 1009 → ∃ (st r : Int) (k : Option V) (ns' : List Int), ([some (.int c), some (.int m), some (.ref p), some (.int y), some (.int st2), some (.int (i : Int))] : L2.St) = [some (.int c), some (.int m), some (.ref p), some (.int r), some (.int st), k] ∧ 0 ≤ st ∧ st < 2147483647 ∧ ns'.length = i + 1 ∧ Small ns' ∧ Ex H (upd H6 p (.lst (ns.map V.int ++ [.int x]))) ∧ (upd H6 p (.lst (ns.map V.int ++ [.int x]))) p = some (.lst (ns'.map V.int)) := fun x y H6 e6 h0 h1 =>
        ⟨st2, y, _, ns ++ [x], rfl, hs2.1, hs2.2, by rw [List.length_append, hl]; rfl, hS.app h0 h1, Ex.mut ((eH.trans e5).trans e6) np, by rw [upd_same, List.map_append]; rfl⟩
      have hz : (ns.map V.int).length < 100000 := by rw [List.length_map]; omega
      refine' s_if (b := decide ((0:Int) < r)) ?b6 ?t6 ?f6
      case b6 => walk_at "et"
      case t6 =>
        intro _ H6 e6
        refine' q_app (e6 _ _ hp5) (ev_var rfl) ?e7 hz fun H7 e7 => ?_
        case e7 => walk_at "ev"
        refine' s_asg (v := ?v8) ?e8 fun H8 e8 => ?_
        case e8 => walk_at "ev"
        obtain ⟨a1, a2, a3, a4, b1, b2, b3, b4, b5, b6, b7⟩ := last (r % 1009) (r / 1009) H7 (e6.trans e7) (Int.emod_nonneg _ (by decide)) (Int.emod_lt_of_pos _ (by decide))
        exact ⟨a1, a2, a3, a4, b1, b2, b3, b4, b5, b6.trans e8, e8 _ _ b7⟩
      case f6 =>
        intro _ H6 e6
        refine' s_app (e6 _ _ hp5) (ev_var rfl) ?e7 hz fun H7 e7 => ?_
        case e7 => walk_at "ev"
        exact last (st2 / 2048 % 1009) r H7 (e6.trans e7) (Int.emod_nonneg _ (by decide)) (Int.emod_lt_of_pos _ (by decide))
    case hd =>
      rintro σ' H' ⟨st, r, k, ns, rfl, s0, s1, hl, hS, eH, hp⟩
      refine s_ret (ev_var rfl) fun H6 e6 => ?_
      exact q ns p H6 (by omega) hS np (eH.trans e6) (e6 _ _ hp)
theorem Small.app2 {ns ms : List Int} (h : Small ns) (h2 : Small ms) : Small (ns ++ ms) := fun z hz => (List.mem_append.mp hz).elim (h z) (h2 z)
theorem Small.take {ns : List Int} (h : Small ns) (k : Nat) : Small (ns.take k) := fun z hz => h z (List.mem_of_mem_take hz)
theorem Small.at {ns : List Int} (h : Small ns) {i : Nat} {n : Int} (e : ns[i]? = some n) : 0 ≤ n ∧ n < 1009 := h n (List.mem_of_getElem? e)
theorem ok_numbers (A : At K mg "_law_numbers" s__law_numbers) (D__law_row : Dfn P w K mg base 1 "_law_row" p__law_row spRow) (mz_len : mg "len" = none) (mz_max : mg "max" = none) : Dfn P w K mg base 2 "_law_numbers" p__law_numbers (spNumbers K) := by
  refine dfn_ok A sc__law_numbers (fun _ _ _ _ _ _ us hl => match us, hl with | [_, _], _ => rfl) (fun vs H Q E h => ?_) (fun f cdv A outer s H vs Q E hr h => ?_)
  · obtain ⟨a, xs, m, rfl, _⟩ := h
    rfl
  · obtain ⟨a, xs, m, rfl, hA, hx, hm, hm2, q⟩ := h
    refine ⟨_, (pss_cons (ps_set (i := 2) sc__law_numbers.nd rfl (Or.inl rfl) (pe_slice (show SlR _ (rSlL K) from sl_list) (pv 0) po_none (po_some pe_int)))
  (pss_cons (ps_set (i := 3) sc__law_numbers.nd rfl (Or.inl rfl) (pe_op op_add pe_int (pe_op op_fdiv (pv 1) (pe_callB (call_max2 rfl) (by rfl) mz_max (by decide +kernel) (pa_cons pe_int (pa_cons (pe_callB (show CallR _ _ (rLenS K) from call_len_seq) (by rfl) mz_len PySem.boot_len (pa_cons (pv 2) pa_nil)) pa_nil))))))
  (pss_cons (ps_set (i := 4) sc__law_numbers.nd rfl (Or.inl rfl) (pe_lst pa_nil))
  (pss_cons (ps_for PassesOwn.never rfl (show PI _ _ _ (iList K _) from pi_list (pv 2)) (pg_name (i := 5) sc__law_numbers.nd rfl (Or.inl rfl))
    (pss_one (ps_for PassesOwn.never rfl (show PI _ _ _ (iList K _) from pi_list (pe_d D__law_row (hr.mono (by decide)) (pa_cons (pv 5) (pa_cons (pv 3) pa_nil)))) (pg_name (i := 6) sc__law_numbers.nd rfl (Or.inl rfl))
    (pss_one (ps_expr (show PE _ _ (tBM K "list" _ _ _) from pe_bm PySem.F.plainAttrs_list PySem.F.slot_list_append PySem.F.type_list_append mt_append (pv 4) (pa_cons (pv 6) pa_nil)))))))
  (pss_cons (ps_while PassesOwn.never (pt_cmpR op_lt (pe_callB (show CallR _ _ (rLenS K) from call_len_seq) (by rfl) mz_len PySem.boot_len (pa_cons (pv 4) pa_nil)) (pv 1) (by first | exact nomark _ | rfl))
    (pss_one (ps_expr (show PE _ _ (tBM K "list" _ _ _) from pe_bm PySem.F.plainAttrs_list PySem.F.slot_list_append PySem.F.type_list_append mt_append (pv 4) (pa_cons pe_int pa_nil)))))
  (pss_one (ps_ret (pe_slice (show SlR _ (rSlL K) from sl_list) (pv 4) po_none (po_some (pv 1)))))))))), ?_⟩
    refine q_asgL (xs := xs.map V.int) ?c1 fun c H1 nc e1 h1 => ?_
    case c1 =>
      have e : xs.map V.int = cutV (xs.map V.int) none (some ((63 : Nat) : Int)) := by
        rw [cut_take, List.take_of_length_le (by rw [List.length_map]; exact hx)]
      rw [e]
      exact el_sl (ev_var rfl) eo_none (eo_some ev_c) hA
    have hlx : ((xs.map V.int).length : Int) ≤ 63 := by rw [List.length_map]; omega
    have hmx : 0 < (if ((xs.map V.int).length : Int) > 1 then ((xs.map V.int).length : Int) else 1) ∧ (if ((xs.map V.int).length : Int) > 1 then ((xs.map V.int).length : Int) else 1) < 1073741824 := by split <;> omega
    refine q_asg (ev_op ev_c (ev_op (ev_var rfl) (ev_max1 (ea_cons ev_c (ea_cons (ev_lenL (ev_var rfl) (sq_of h1)) ea_nil))) (rv_I hmx)) rv_I0) fun H2 e2 => ?_
    generalize hz : (1 + m / (if ((xs.map V.int).length : Int) > 1 then ((xs.map V.int).length : Int) else 1)) = each
    have h2 := e2 _ _ h1
    have hz1 : 0 ≤ each ∧ each ≤ 1000 := by
      have a1 := Int.ediv_nonneg hm (Int.le_of_lt hmx.1)
      have a2 := Int.ediv_le_self (if ((xs.map V.int).length : Int) > 1 then ((xs.map V.int).length : Int) else 1) hm
      omega
    clear hz
    refine q_asgL (xs := []) (by refine el_lst ea_nil (by decide)) fun p H3 np e3 h3 => ?_
    have e0 : Ex H H3 := (e1.trans e2).trans e3
    have np0 : H p = none := fresh_back (e1.trans e2) np
    have h3c := e3 _ _ h2
    have ncp : c ≠ p := ne_of_none h2 np
    refine q_forLn (xs := xs.map V.int) (a := c) (ev_var rfl) (sq_of h3c) (fun i σ' H' => ∃ (u v : Option V) (ns : List Int), σ' = [some (.ref a), some (.int m), some (.ref c), some (.int each), some (.ref p), u, v] ∧ ns.length ≤ i * 1000 ∧ Small ns ∧ Ex H H' ∧ H' c = some (.lst (xs.map V.int)) ∧ H' p = some (.lst (ns.map V.int))) ?h0 ?hl ?hs ?hd
    case h0 => exact fun H4 e4 => ⟨none, none, [], rfl, Nat.zero_le _, (fun _ z => nomatch z), e0.trans e4, e4 _ _ h3c, e4 _ _ h3⟩
    case hl => exact fun i σ' H' _ ⟨_, _, _, _, _, _, _, hc, _⟩ => sq_of hc
    case hs =>
      rintro i x σ' H' hi ⟨u, v, ns, rfl, hl, hS, eH, hc, hp⟩
      have hix : i < 63 := by
        have := (List.getElem?_eq_some_iff.mp hi).1
        rw [List.length_map] at this
        omega
      obtain ⟨n, hn, rfl⟩ := int_at hi
      refine s_forP (P := fun ys => ∃ ms : List Int, ys = ms.map V.int ∧ (ms.length : Int) = each ∧ Small ms) ?hp (fun ys q j σ2 H2 => ∃ (v : Option V) (ms : List Int), ys = ms.map V.int ∧ (ms.length : Int) = each ∧ Small ms ∧ σ2 = [some (.ref a), some (.int m), some (.ref c), some (.int each), some (.ref p), some (.int n), v] ∧ Ex H H2 ∧ H2 c = some (.lst (xs.map V.int)) ∧ H2 q = some (.lst ys) ∧ q ≠ p ∧ H2 p = some (.lst ((ns ++ ms.take j).map V.int))) ?g0 ?gl ?gs ?gd
      case hp =>
        refine evP_call (ea_cons (ev_var rfl) (ea_cons (ev_var rfl) ea_nil)) fun H1 e1 Q q E => ⟨n, each, rfl, hz1.1, hz1.2, fun ms p' H2 hm hS np' e2 h2 => q _ p' H2 ⟨ms, rfl, hm, hS⟩ np' e2 h2⟩
      case g0 =>
        rintro ys q' H1 ⟨ms, rfl, hml, hSm⟩ nq e1 hq
        refine ⟨v, ms, rfl, hml, hSm, rfl, eH.trans e1, e1 _ _ hc, hq, (ne_of_none hp nq).symm, ?_⟩
        rw [List.take_zero, List.append_nil]
        exact e1 _ _ hp
      case gl => exact fun ys q' j σ2 H2 _ ⟨_, _, _, _, _, _, _, _, hq, _⟩ => sq_of hq
      case gs =>
        rintro ys q' j x' σ2 H2 hj ⟨v, ms, rfl, hml, hSm, rfl, eH2, hc2, hq, nqp, hp2⟩
        obtain ⟨n2, hn2, rfl⟩ := int_at hj
        have hj2 := (List.getElem?_eq_some_iff.mp hn2).1
        refine s_app hp2 (ev_var rfl) (ev_var rfl) (by rw [List.length_map, List.length_append, List.length_take]; omega) fun H3 e3 => ?_
        refine ⟨_, ms, rfl, hml, hSm, rfl, Ex.mut (eH2.trans e3) np0, by rw [upd_ne ncp]; exact e3 _ _ hc2, by rw [upd_ne nqp]; exact e3 _ _ hq, nqp, ?_⟩
        rw [upd_same, List.take_add_one, hn2, ← List.append_assoc, List.map_append (l₁ := ns ++ ms.take j)]
        rfl
      case gd =>
        rintro ys q' σ2 H2 ⟨v, ms, rfl, hml, hSm, rfl, eH2, hc2, hq, nqp, hp2⟩
        rw [List.length_map, List.take_of_length_le (Nat.le_refl _)] at hp2
        exact ⟨_, _, _, rfl, by rw [List.length_append]; omega, hS.app2 hSm, eH2, hc2, hp2⟩
    case hd =>
      rintro σ' H' ⟨u, v, ns, rfl, hl, hS, eH, hc, hp⟩
      rw [List.length_map] at hl
      refine q_while (fun d σ2 H2 => ∃ ns : List Int, σ2 = [some (.ref a), some (.int m), some (.ref c), some (.int each), some (.ref p), u, v] ∧ d = m.toNat - ns.length ∧ ns.length ≤ 70000 ∧ Small ns ∧ Ex H H2 ∧ H2 p = some (.lst (ns.map V.int))) _ ⟨ns, rfl, rfl, by omega, hS, eH, hp⟩ ?_
      rintro d σ2 H2 ⟨ns, rfl, rfl, hl, hS, eH, hp⟩
      refine ⟨decide (((ns.map V.int).length : Int) < m), et_test (ev_op (ev_lenL (ev_var rfl) (sq_of hp)) (ev_var rfl) rv_I0), fun hb H3 e3 => ?_, fun hb H3 e3 => ?_⟩
      · have hb := of_decide_eq_true hb
        rw [List.length_map] at hb
        refine ⟨fun σ3 H4 => ∃ ns' : List Int, σ3 = [some (.ref a), some (.int m), some (.ref c), some (.int each), some (.ref p), u, v] ∧ ns'.length = ns.length + 1 ∧ Small ns' ∧ Ex H H4 ∧ H4 p = some (.lst (ns'.map V.int)), fun σ3 H4 ⟨ns', z1, z2, z3, z4, z5⟩ => ⟨_, by omega, ns', z1, rfl, by omega, z3, z4, z5⟩, ?_⟩
        refine s_app (e3 _ _ hp) (ev_var rfl) ev_c (by rw [List.length_map]; omega) fun H4 e4 => ?_
        exact ⟨ns ++ [0], rfl, by rw [List.length_append]; rfl, hS.app (by decide) (by decide), Ex.mut ((eH.trans e3).trans e4) np0, by rw [upd_same, List.map_append]; rfl⟩
      · have hb := of_decide_eq_false hb
        rw [List.length_map] at hb
        refine s_retL (el_sl (ev_var rfl) eo_none (eo_some (ev_var rfl)) (sq_of (e3 _ _ hp))) fun r H4 nr e4 h4 => ?_
        have em : m = ((m.toNat : Nat) : Int) := by omega
        rw [em, cut_take, ← List.map_take] at h4
        exact q _ r H4 (by rw [List.length_take]; omega) (hS.take _) (fresh_back (eH.trans e3) nr) ((eH.trans e3).trans e4) h4
end

section
variable {P : Program} {w : World} {K : PySem.W.Frag} {mg : Str → Option Value} {base : Heap}
theorem ok_places (A : At K mg "places_of" s_places_of) : Dfn P w K mg base 1 "places_of" p_places_of spPlaces := by
  refine dfn_ok A sc_places_of (fun _ _ _ _ _ _ us hl => match us, hl with | [_], _ => rfl) (fun vs H Q E h => ?_) (fun f cdv A outer s H vs Q E hr h => ?_)
  · obtain ⟨b, rfl, _⟩ := h
    rfl
  · obtain ⟨b, rfl, h4, h32, q⟩ := h
    refine ⟨_, (pss_cons (ps_set (i := 1) sc_places_of.nd rfl (Or.inl rfl) pe_int)
  (pss_cons (ps_while PassesOwn.never (pt_cmpR op_lt (pe_op op_shl pe_int (pv 1)) (pe_op op_add (pe_op op_add (pv 0) (pv 1)) pe_int) (by first | exact nomark _ | rfl))
    (pss_one (ps_set (i := 1) sc_places_of.nd rfl (Or.inl rfl) (pe_op op_add (pv 1) pe_int))))
  (pss_one (ps_ret (pe_op op_add (pe_op op_add (pv 0) (pv 1)) pe_int))))), ?_⟩
    refine' q_asg (v := ?v2) ?e2 fun H2 e2 => ?_
    case e2 => walk_at "ev"
    refine q_while (fun d σ2 H2 => ∃ t : Nat, σ2 = [some (.int (b : Int)), some (.int (t : Int))] ∧ d = 6 - t ∧ t ≤ rOf b ∧ Ex H H2) _ ⟨0, rfl, rfl, Nat.zero_le _, e2⟩ ?_
    rintro d σ2 H2 ⟨t, rfl, rfl, ht, eH⟩
    have h6 := rOf_le b
    have hp := pow_lt h4 h32 (show t ≤ 6 by omega)
    refine' ⟨_, (by walk_at "et" : EvT _ _ _ (decide ((1 : Int) * 2 ^ ((t : Int)).toNat < (b : Int) + (t : Int) + 1))), fun hb H3 e3 => ?_, fun hb H3 e3 => ?_⟩
    · have hb := hp.mp (of_decide_eq_true hb)
      refine ⟨fun σ3 H4 => σ3 = [some (.int (b : Int)), some (.int ((t + 1 : Nat) : Int))] ∧ Ex H H4, fun σ3 H4 ⟨z1, z2⟩ => ⟨_, by omega, t + 1, z1, rfl, by omega, z2⟩, ?_⟩
      refine' s_asg (v := ?v4) ?e4 fun H4 e4 => ?_
      case e4 => walk_at "ev"
      exact ⟨rfl, (eH.trans e3).trans e4⟩
    · have hb : ¬ t < rOf b := fun z => of_decide_eq_false hb (hp.mpr z)
      have et : t = rOf b := by omega
      subst et
      refine' s_ret (v := ?v5) ?e5 fun H4 e4 => ?_
      case e5 => walk_at "ev"
      have e : ((b : Int) + (rOf b : Int) + 1) = ((pl b : Nat) : Int) := by unfold pl; omega
      rw [e]
      exact q H4 ((eH.trans e3).trans e4)

theorem ok_check (A : At K mg "check_places" s_check_places) (D_places_of : Dfn P w K mg base 1 "places_of" p_places_of spPlaces) (mz_range : mg "range" = none) : Dfn P w K mg base 2 "check_places" p_check_places (spList ckN) := by
  refine dfn_ok A sc_check_places (fun _ _ _ _ _ _ us hl => match us, hl with | [_], _ => rfl) (fun vs H Q E h => ?_) (fun f cdv A outer s H vs Q E hr h => ?_)
  · obtain ⟨b, rfl, _⟩ := h
    rfl
  · obtain ⟨b, rfl, h4, h32, q⟩ := h
    have hpl := pl_le h32
    refine ⟨_, (pss_one (ps_ret (pe_lc (own := [("place", 1)]) (g := gName 1) rfl sc_check_places.nd (pi_range1 (by rfl) mz_range (pa_cons (pe_d D_places_of (hr.mono (by decide)) (pa_cons (pv 0) pa_nil)) pa_nil)) (blkOk_by (N := N_check_places) (sc := defScope s_check_places) (by decide +kernel)) (fun _ _ _ _ _ => (pg_name (i := 1) sc_check_places.nd rfl (Or.inl rfl))) (fun _ _ _ _ _ => (pts_one (pt_cmpR op_eq (pe_op op_and (pv 1) (pe_op op_sub (pv 1) pe_int)) pe_int (by first | exact nomark _ | rfl)))) (fun _ _ _ _ _ => (pv 1))))), ?_⟩
    refine s_retL (el_is (el_lcR1 (n := ((pl b : Nat) : Int)) (fun i => decide (V.int (Builtin.bitAnd ((i : Nat) : Int) ((i : Int) - 1)) = V.int 0)) (fun i => V.int (i : Int)) (by walk_at "ea") (by omega) (fun _ => rfl) (fun i H1 e1 hi => by walk_at "et") (fun i H1 e1 hi _ => by walk_at "ev")) ?he) q
    case he =>
      rw [Int.toNat_natCast, given_eq (f' := isPw) (g' := fun i => V.int (i : Int)) (fun i hi => pw_and i (by omega)) (fun _ _ _ => rfl), given_ints]
      rfl

theorem ok_data (A : At K mg "data_places" s_data_places) (D_places_of : Dfn P w K mg base 1 "places_of" p_places_of spPlaces) (mz_range : mg "range" = none) : Dfn P w K mg base 2 "data_places" p_data_places (spList dtN) := by
  refine dfn_ok A sc_data_places (fun _ _ _ _ _ _ us hl => match us, hl with | [_], _ => rfl) (fun vs H Q E h => ?_) (fun f cdv A outer s H vs Q E hr h => ?_)
  · obtain ⟨b, rfl, _⟩ := h
    rfl
  · obtain ⟨b, rfl, h4, h32, q⟩ := h
    have hpl := pl_le h32
    refine ⟨_, (pss_one (ps_ret (pe_lc (own := [("place", 1)]) (g := gName 1) rfl sc_data_places.nd (pi_range1 (by rfl) mz_range (pa_cons (pe_d D_places_of (hr.mono (by decide)) (pa_cons (pv 0) pa_nil)) pa_nil)) (blkOk_by (N := N_data_places) (sc := defScope s_data_places) (by decide +kernel)) (fun _ _ _ _ _ => (pg_name (i := 1) sc_data_places.nd rfl (Or.inl rfl))) (fun _ _ _ _ _ => (pts_one (pt_cmpR op_ne (pe_op op_and (pv 1) (pe_op op_sub (pv 1) pe_int)) pe_int (by first | exact nomark _ | rfl)))) (fun _ _ _ _ _ => (pv 1))))), ?_⟩
    refine s_retL (el_is (el_lcR1 (n := ((pl b : Nat) : Int)) (fun i => !decide (V.int (Builtin.bitAnd ((i : Nat) : Int) ((i : Int) - 1)) = V.int 0)) (fun i => V.int (i : Int)) (by walk_at "ea") (by omega) (fun _ => rfl) (fun i H1 e1 hi => by walk_at "et") (fun i H1 e1 hi _ => by walk_at "ev")) ?he) q
    case he =>
      rw [Int.toNat_natCast, given_eq (f' := fun i => !isPw i) (g' := fun i => V.int (i : Int)) (fun i hi => by rw [pw_and i (by omega)]) (fun _ _ _ => rfl), given_ints]
      rfl

theorem ok_checks (A : At K mg "_law_checks" s__law_checks) (mz_range : mg "range" = none) : Dfn P w K mg base 1 "_law_checks" p__law_checks (spList ckN) := by
  refine dfn_ok A sc__law_checks (fun _ _ _ _ _ _ us hl => match us, hl with | [_], _ => rfl) (fun vs H Q E h => ?_) (fun f cdv A outer s H vs Q E hr h => ?_)
  · obtain ⟨b, rfl, _⟩ := h
    rfl
  · obtain ⟨b, rfl, h4, h32, q⟩ := h
    have hpl := pl_le h32
    have hr6 := rOf_le b
    refine ⟨_, (pss_cons (ps_set (i := 1) sc__law_checks.nd rfl (Or.inl rfl) pe_int)
  (pss_cons (ps_for PassesOwn.never rfl (pi_range1 (by rfl) mz_range (pa_cons pe_int pa_nil)) (pg_name (i := 2) sc__law_checks.nd rfl (Or.inl rfl))
    (pss_one (ps_if (pt_cmpR op_lt (pe_ix (show IxR _ (rIxL K) from ix_list) (pe_lst (pa_cons pe_int (pa_cons pe_int (pa_cons pe_int (pa_cons pe_int (pa_cons pe_int (pa_cons pe_int (pa_cons pe_int (pa_cons pe_int pa_nil))))))))) (pv 2) (fun _ _ => rfl)) (pe_op op_add (pe_op op_add (pv 0) (pv 2)) pe_int) (by first | exact nomark _ | rfl))
    (pss_one (ps_set (i := 1) sc__law_checks.nd rfl (Or.inl rfl) (pe_op op_add (pv 2) pe_int)))
    pss_nil)))
  (pss_one (ps_ret (pe_op op_cat (pe_lst (pa_cons pe_int pa_nil)) (pe_lc (own := [("k", 3)]) (g := gName 3) (tt := tYes) rfl sc__law_checks.nd (pi_range1 (by rfl) mz_range (pa_cons (pv 1) pa_nil)) (blkOk_by (N := N__law_checks) (sc := defScope s__law_checks) (by decide +kernel)) (fun _ _ _ _ _ => (pg_name (i := 3) sc__law_checks.nd rfl (Or.inl rfl))) (fun _ _ _ _ _ => pts_nil) (fun _ _ _ _ _ => (pe_ix (show IxR _ (rIxL K) from ix_list) (pe_lst (pa_cons pe_int (pa_cons pe_int (pa_cons pe_int (pa_cons pe_int (pa_cons pe_int (pa_cons pe_int pa_nil))))))) (pv 3) (fun _ _ => rfl))))))))), ?_⟩
    refine' q_asg (v := ?v2) ?e2 fun H2 e2 => ?_
    case e2 => walk_at "ev"
    refine q_forR1 (n := 8) (by walk_at "ea") (by omega) (fun i σ' H' => ∃ k : Option V, σ' = [some (.int (b : Int)), some (.int ((min i (rOf b) : Nat) : Int)), k, none] ∧ Ex H H') ?h0 ?hs ?hd
    case h0 => exact fun H3 e3 => ⟨none, by rw [Nat.zero_min]; rfl, e2.trans e3⟩
    case hs =>
      rintro i σ' H' hi ⟨k, rfl, eH⟩
      have hi8 : i < 8 := by omega
      have hx : ∀ i, i < 8 → ([.int 1, .int 2, .int 4, .int 8, .int 16, .int 32, .int 64, .int 128] : List V)[i]? = some (V.int ((2 ^ i : Nat) : Int)) := by decide
      have hlt : ∀ i b : Nat, 4 ≤ b → b ≤ 32 → i < 8 → (((2 ^ i : Nat) : Int) < (b : Int) + (i : Int) + 1 ↔ i < rOf b) := by
        intro i b h4 h32 hi
        have h : i = 0 ∨ i = 1 ∨ i = 2 ∨ i = 3 ∨ i = 4 ∨ i = 5 ∨ i = 6 ∨ i = 7 := by omega
        unfold rOf
        rcases h with rfl | rfl | rfl | rfl | rfl | rfl | rfl | rfl <;> (split <;> (try split) <;> (try split) <;> simp <;> omega)
      refine s_if (b := decide (((2 ^ i : Nat) : Int) < (b : Int) + (i : Int) + 1)) (et_test (ev_op (ev_ixN (el_lst (by walk_at "ea") (by decide)) (ev_var rfl) (atI_nat (hx i hi8))) (by walk_at "ev") rv_I0)) (fun hb H3 e3 => ?_) (fun hb H3 e3 => ?_)
      · have hb := (hlt i b h4 h32 hi8).mp (of_decide_eq_true hb)
        refine' s_asg (v := ?v4) ?e4 fun H4 e4 => ?_
        case e4 => walk_at "ev"
        refine ⟨some (.int (i : Int)), ?_, (eH.trans e3).trans e4⟩
        rw [Nat.min_eq_left (show i + 1 ≤ rOf b by omega)]
        rfl
      · have hb : ¬ i < rOf b := fun z => of_decide_eq_false hb ((hlt i b h4 h32 hi8).mpr z)
        refine ⟨some (.int (i : Int)), ?_, eH.trans e3⟩
        rw [Nat.min_eq_right (show rOf b ≤ i by omega), Nat.min_eq_right (show rOf b ≤ i + 1 by omega)]
        rfl
    case hd =>
      rintro σ' H' ⟨k, rfl, eH⟩
      rw [show (8 : Int).toNat = 8 from rfl, Nat.min_eq_right (by omega : rOf b ≤ 8)]
      have hx : ∀ i, i < 6 → ([.int 1, .int 2, .int 4, .int 8, .int 16, .int 32] : List V)[i]? = some (V.int ((2 ^ i : Nat) : Int)) := by decide
      refine s_retL (el_is (el_cat (xs := [.int 0]) (el_lst (by walk_at "ea") (by decide)) (el_lcR1 (n := ((rOf b : Nat) : Int)) (fun _ => true) (fun i => V.int ((2 ^ i : Nat) : Int)) (by walk_at "ea") (by omega) (fun _ => rfl) (fun i H1 e1 hi => fun H2 _ Q q => q H2 (Ex.refl H2)) (fun i H1 e1 hi _ => ev_ixN (el_lst (by walk_at "ea") (by decide)) (ev_var rfl) (atI_nat (hx i (by omega))))) ?hz) ?he) fun p H3 np e3 h3 => q p H3 (fresh_back eH np) (eH.trans e3) h3
      case hz =>
        have := given_len ((rOf b : Nat) : Int).toNat (fun _ => true) (fun i => V.int ((2 ^ i : Nat) : Int))
        show 1 + _ ≤ _
        omega
      case he =>
        rw [Int.toNat_natCast, given_ints, ← lc_ck b (by omega) h4]
        unfold lcN iL
        rw [List.filter_eq_self.mpr (fun _ _ => rfl), List.map_cons, List.map_cons, List.map_map (f := fun x => 2 ^ x)]
        rfl

theorem ok_lplaces (A : At K mg "_law_places" s__law_places) (D__law_checks : Dfn P w K mg base 1 "_law_checks" p__law_checks (spList ckN)) (mz_len : mg "len" = none) : Dfn P w K mg base 2 "_law_places" p__law_places spPlaces := by
  refine dfn_ok A sc__law_places (fun _ _ _ _ _ _ us hl => match us, hl with | [_], _ => rfl) (fun vs H Q E h => ?_) (fun f cdv A outer s H vs Q E hr h => ?_)
  · obtain ⟨b, rfl, _⟩ := h
    rfl
  · obtain ⟨b, rfl, h4, h32, q⟩ := h
    refine ⟨_, (pss_one (ps_ret (pe_op op_add (pv 0) (pe_callB (show CallR _ _ (rLenS K) from call_len_seq) (by rfl) mz_len PySem.boot_len (pa_cons (pe_d D__law_checks (hr.mono (by decide)) (pa_cons (pv 0) pa_nil)) pa_nil))))), ?_⟩
    refine s_ret (ev_is (ev_op (ev_var rfl) (ev_lenN2 (el_call (ea_cons (ev_var rfl) ea_nil) (SpList h4 h32))) rv_I0) ?he) q
    case he =>
      have := ck_len b (by omega) h4
      unfold iL
      rw [List.length_map, List.length_map]
      show V.int _ = V.int _
      rw [← this]
      simp

theorem ok_differing (A : At K mg "differing" s_differing) (mz_range : mg "range" = none) : Dfn P w K mg base 1 "differing" p_differing spDiff := by
  refine dfn_ok A sc_differing (fun _ _ _ _ _ _ us hl => match us, hl with | [_, _], _ => rfl) (fun vs H Q E h => ?_) (fun f cdv A outer s H vs Q E hr h => ?_)
  · obtain ⟨a, c, rfl, _⟩ := h
    rfl
  · obtain ⟨a, c, rfl, ha, hc, q⟩ := h
    refine ⟨_, (pss_cons (ps_set (i := 2) sc_differing.nd rfl (Or.inr rfl) (pe_op op_xor (pv 0) (pv 1)))
  (pss_one (ps_ret (pe_lc (own := [("place", 3)]) (g := gName 3) rfl sc_differing.nd (pi_range1 (by rfl) mz_range (pa_cons (pe_bits (pv 2)) pa_nil)) (blkOk_by (N := N_differing) (sc := defScope s_differing) (by decide +kernel)) (fun _ _ _ _ _ => (pg_name (i := 3) sc_differing.nd rfl (Or.inl rfl))) (fun _ _ _ _ _ => (pts_one (show PT _ _ (tTr K _) from pt_truth (pe_op op_and (pe_op op_shr (pv 2) (pv 3)) pe_int) (by intro _; rfl)))) (fun _ _ _ _ _ => (pv 3)))))), ?_⟩
    refine q_asg (ev_xor (ev_var rfl) (ev_var rfl)) fun H2 e2 => ?_
    have hx : a ^^^ c < 2 ^ 40 := Nat.xor_lt_two_pow ha hc
    have hb := bits_le hx
    refine s_retL (el_is (el_lcR1 (n := ((Builtin.Int.intBits ((a ^^^ c : Nat) : Int) : Nat) : Int)) (fun i => (a ^^^ c).testBit i) (fun i => V.int (i : Int)) (ea_cons (ev_bits (ev_var rfl)) ea_nil) (by omega) (fun _ => rfl) (fun i H1 e1 hi => et_bit (ev_var rfl) (ev_var rfl)) (fun i H1 e1 hi _ => ev_var rfl)) ?he) fun p H3 np e3 h3 => q p H3 (fresh_back e2 np) (e2.trans e3) h3
    rw [Int.toNat_natCast, given_iL]
    show List.map V.int (iL (bs _ _)) = _
    rw [bs_any hx (bits_lt _)]

theorem ok_ones (A : At K mg "ones_in" s_ones_in) (D_differing : Dfn P w K mg base 1 "differing" p_differing spDiff) (mz_len : mg "len" = none) : Dfn P w K mg base 2 "ones_in" p_ones_in spOnes := by
  refine dfn_ok A sc_ones_in (fun _ _ _ _ _ _ us hl => match us, hl with | [_], _ => rfl) (fun vs H Q E h => ?_) (fun f cdv A outer s H vs Q E hr h => ?_)
  · obtain ⟨a, rfl, _⟩ := h
    rfl
  · obtain ⟨a, rfl, ha, q⟩ := h
    refine ⟨_, (pss_one (ps_ret (pe_callB (show CallR _ _ (rLenS K) from call_len_seq) (by rfl) mz_len PySem.boot_len (pa_cons (pe_d D_differing (hr.mono (by decide)) (pa_cons (pv 0) (pa_cons pe_int pa_nil))) pa_nil)))), ?_⟩
    refine s_ret (ev_is (ev_lenN2 (el_call (ea_cons (ev_var rfl) (ea_cons ev_c ea_nil)) (SpDiff (c := 0) ha (by decide)))) ?he) q
    rw [iL_len, Nat.xor_zero]

theorem ok_spot (A : At K mg "spot_of" s_spot_of) (D_places_of : Dfn P w K mg base 1 "places_of" p_places_of spPlaces) (mz_range : mg "range" = none) : Dfn P w K mg base 2 "spot_of" p_spot_of spSpot := by
  refine dfn_ok A sc_spot_of (fun _ _ _ _ _ _ us hl => match us, hl with | [_, _], _ => rfl) (fun vs H Q E h => ?_) (fun f cdv A outer s H vs Q E hr h => ?_)
  · obtain ⟨b, n, rfl, _⟩ := h
    rfl
  · obtain ⟨b, n, rfl, h4, h32, hn, q⟩ := h
    have hpl := pl_le h32
    refine ⟨_, (pss_cons (ps_set (i := 2) sc_spot_of.nd rfl (Or.inl rfl) pe_int)
  (pss_cons (ps_for PassesOwn.never rfl (pi_range1 (by rfl) mz_range (pa_cons (pe_d D_places_of (hr.mono (by decide)) (pa_cons (pv 0) pa_nil)) pa_nil)) (pg_name (i := 3) sc_spot_of.nd rfl (Or.inl rfl))
    (pss_one (ps_if (show PT _ _ (tTr K _) from pt_truth (pe_op op_and (pe_op op_shr (pv 1) (pv 3)) pe_int) (by intro _; rfl))
    (pss_one (ps_set (i := 2) sc_spot_of.nd rfl (Or.inl rfl) (pe_op op_xor (pv 2) (pv 3))))
    pss_nil)))
  (pss_one (ps_ret (pv 2))))), ?_⟩
    refine' q_asg (v := ?v2) ?e2 fun H2 e2 => ?_
    case e2 => walk_at "ev"
    refine q_forR1 (n := ((pl b : Nat) : Int)) (by walk_at "ea") (by omega) (fun i σ' H' => ∃ k, σ' = [some (.int (b : Int)), some (.int (n : Int)), some (.int ((spotN i n : Nat) : Int)), k] ∧ Ex H H') (fun H3 e3 => ⟨none, rfl, e2.trans e3⟩) ?hs ?hd
    case hs =>
      rintro i σ' H' hi ⟨k, rfl, eH⟩
      refine s_if (et_bit (n := n) (p := i) (ev_var rfl) (ev_var rfl)) (fun hb H3 e3 => ?_) (fun hb H3 e3 => ?_)
      · refine s_asg (ev_xor (a := spotN i n) (b := i) (ev_var rfl) (ev_var rfl)) fun H4 e4 => ⟨some (.int (i : Int)), ?_, (eH.trans e3).trans e4⟩
        rw [spot_succ, hb]
        rfl
      · refine ⟨some (.int (i : Int)), ?_, eH.trans e3⟩
        rw [spot_succ, hb]
        rw [if_neg (by decide), Nat.xor_zero]
        rfl
    case hd =>
      rintro σ' H' ⟨k, rfl, eH⟩
      rw [Int.toNat_natCast]
      exact s_ret (ev_var rfl) fun H3 e3 => q H3 (eH.trans e3)

theorem ok_flipped (A : At K mg "flipped" s_flipped) : Dfn P w K mg base 1 "flipped" p_flipped (spFlip K) := by
  refine dfn_ok A sc_flipped (fun _ _ _ _ _ _ us hl => match us, hl with | [_, _], _ => rfl) (fun vs H Q E h => ?_) (fun f cdv A outer s H vs Q E hr h => ?_)
  · obtain ⟨n, a, ps, rfl, _⟩ := h
    rfl
  · obtain ⟨n, a, ps, rfl, hS, hp, q⟩ := h
    refine ⟨_, (pss_cons (ps_for PassesOwn.never rfl (show PI _ _ _ (iList K _) from pi_list (pv 1)) (pg_name (i := 2) sc_flipped.nd rfl (Or.inl rfl))
    (pss_one (ps_set (i := 0) sc_flipped.nd rfl (Or.inl rfl) (pe_op op_xor (pv 0) (pe_op op_shl pe_int (pv 2))))))
  (pss_one (ps_ret (pv 0)))), ?_⟩
    refine q_forLn (xs := (iL ps).map V.int) (a := a) (ev_var rfl) hS (fun i σ' H' => ∃ k, σ' = [some (.int ((flip n (ps.take i) : Nat) : Int)), some (.ref a), k] ∧ Ex H H') (fun H3 e3 => ⟨none, rfl, e3⟩) (fun i σ' H' _ ⟨_, _, eH⟩ => ex_l eH hS) ?hs ?hd
    case hs =>
      rintro i x σ' H' hi ⟨k, rfl, eH⟩
      obtain ⟨m, hm, rfl⟩ := iL_at hi
      have hm64 := hp m (List.mem_of_getElem? hm)
      refine s_asg (ev_xor (a := flip n (ps.take i)) (b := 1 * 2 ^ m) (ev_var rfl) (ev_shl (a := 1) (p := m) ev_c (ev_var rfl) (by decide) (by omega))) fun H4 e4 => ⟨some (.int (m : Int)), ?_, eH.trans e4⟩
      have e : ps.take (i + 1) = ps.take i ++ [m] := by rw [List.take_add_one, hm]; rfl
      rw [e, flip_append, Nat.one_mul]
      rfl
    case hd =>
      rintro σ' H' ⟨k, rfl, eH⟩
      rw [iL_len, List.take_of_length_le (Nat.le_refl _)]
      exact s_ret (ev_var rfl) fun H3 e3 => q H3 (eH.trans e3)

theorem ok_coded (A : At K mg "coded" s_coded) (D_data_places : Dfn P w K mg base 2 "data_places" p_data_places (spList dtN)) (D_check_places : Dfn P w K mg base 2 "check_places" p_check_places (spList ckN)) (D_spot_of : Dfn P w K mg base 2 "spot_of" p_spot_of spSpot)
    (D_flipped : Dfn P w K mg base 1 "flipped" p_flipped (spFlip K)) (D_ones_in : Dfn P w K mg base 2 "ones_in" p_ones_in spOnes) (mz_enumerate : mg "enumerate" = none) : Dfn P w K mg base 3 "coded" p_coded spCod := by
  refine dfn_ok A sc_coded (fun _ _ _ _ _ _ us hl => match us, hl with | [_, _], _ => rfl) (fun vs H Q E h => ?_) (fun f cdv A outer s H vs Q E hr h => ?_)
  · obtain ⟨b, v, rfl, _⟩ := h
    rfl
  · obtain ⟨b, v, rfl, h4, h32, hv, q⟩ := h
    have hpl := pl_le h32
    have hlen := dt_len b (by omega) h4
    have p40 : 2 ^ pl b ≤ 2 ^ 40 := Nat.pow_le_pow_right (by decide) (by omega)
    have c0 : cod0 b v < 2 ^ 40 := Nat.lt_of_lt_of_le (cod0_lt h4 h32) p40
    have c1 : cod1 b v < 2 ^ 40 := Nat.lt_of_lt_of_le (cod1_lt h4 h32) p40
    refine ⟨_, (pss_cons (ps_set (i := 2) sc_coded.nd rfl (Or.inl rfl) pe_int)
  (pss_cons (ps_for PassesOwn.never rfl (show PI _ _ _ (iEnum K _) from pi_enum (by rfl) mz_enumerate (pa_cons (pe_d D_data_places (hr.mono (by decide)) (pa_cons (pv 0) pa_nil)) pa_nil)) (show PG _ _ (gTup K 2 _) from pg_tup rfl (pgs_cons (pg_name (i := 3) sc_coded.nd rfl (Or.inl rfl)) (pgs_cons (pg_name (i := 4) sc_coded.nd rfl (Or.inl rfl)) pgs_nil)))
    (pss_one (ps_set (i := 2) sc_coded.nd rfl (Or.inl rfl) (pe_op op_or (pv 2) (pe_op op_shl (pe_op op_and (pe_op op_shr (pv 1) (pv 3)) pe_int) (pv 4))))))
  (pss_cons (ps_set (i := 5) sc_coded.nd rfl (Or.inr rfl) (pe_d D_spot_of (hr.mono (by decide)) (pa_cons (pv 0) (pa_cons (pv 2) pa_nil))))
  (pss_cons (ps_set (i := 2) sc_coded.nd rfl (Or.inl rfl) (pe_d D_flipped (hr.mono (by decide)) (pa_cons (pv 2) (pa_cons (pe_lc (own := [("place", 4)]) (g := gName 4) rfl sc_coded.nd (show PI _ _ _ (iList K _) from pi_list (pe_d D_check_places (hr.mono (by decide)) (pa_cons (pv 0) pa_nil))) (blkOk_by (N := N_coded) (sc := defScope s_coded) (by decide +kernel)) (fun _ _ _ _ _ => (pg_name (i := 4) sc_coded.nd rfl (Or.inl rfl))) (fun _ _ _ _ _ => (pts_one (show PT _ _ (tTr K _) from pt_truth (pe_op op_and (pv 5) (pv 4)) (by intro _; rfl)))) (fun _ _ _ _ _ => (pv 4))) pa_nil))))
  (pss_one (ps_ret (pe_op op_or (pv 2) (pe_op op_and (pe_d D_ones_in (hr.mono (by decide)) (pa_cons (pv 2) pa_nil)) pe_int)))))))), ?_⟩
    refine' q_asg (v := ?v2) ?e2 fun H2 e2 => ?_
    case e2 => walk_at "ev"
    refine q_forE (xs := (iL (dtN b)).map V.int) (el_call (ea_cons (ev_var rfl) ea_nil) (SpList (f := dtN) h4 h32)) (fun p i σ' H' => ∃ u3 u4, σ' = [some (.int (b : Int)), some (.int (v : Int)), some (.int ((flip 0 ((bs i v).map (dt b)) : Nat) : Int)), u3, u4, none] ∧ Ex H H' ∧ H' p = some (.lst ((iL (dtN b)).map V.int))) (fun p H1 np e1 hp => ⟨none, none, rfl, e2.trans e1, hp⟩) (fun p i σ' H' _ ⟨_, _, _, _, hp⟩ => sq_of hp) ?hs ?hd
    case hs =>
      rintro p i x σ' H' hi ⟨u3, u4, rfl, eH, hp⟩ T nT
      obtain ⟨m, hm, rfl⟩ := iL_at hi
      have hib : i < b := by
        have := (List.getElem?_eq_some_iff.mp hm).1
        omega
      have em : m = dt b i := Option.some.inj (hm.symm.trans (dt_at h4 h32 hib))
      have eT : Ex H' (upd H' T (.tup [.int ((i : Nat) : Int), .int (m : Int)])) := Ex.new nT
      have hm64 : m < 64 := by
        have := (dt_mem h4 h32 hib).1
        omega
      refine s_asg (ev_or (a := flip 0 ((bs i v).map (dt b))) (b := (v.testBit i).toNat * 2 ^ m) (ev_var rfl) (ev_shl (a := (v.testBit i).toNat) (p := m) (ev_bit (n := v) (p := i) (ev_var rfl) (ev_var rfl)) (ev_var rfl) (by cases v.testBit i <;> decide) (by omega))) fun H4 e4 => ?_
      refine ⟨some (.int (i : Int)), some (.int (m : Int)), ?_, (eH.trans eT).trans e4, e4 _ _ (eT _ _ hp)⟩
      have key : flip 0 ((bs i v).map (dt b)) ||| (v.testBit i).toNat * 2 ^ m = flip 0 ((bs (i + 1) v).map (dt b)) := by
        rw [bs_succ, List.map_append, flip_append]
        cases hb : v.testBit i with
        | true =>
          rw [if_pos rfl]
          show _ ||| 1 * 2 ^ m = _ ^^^ 2 ^ dt b i
          rw [Nat.one_mul, em, or_xor]
          rw [tb_flip_nd (ones_nodup h4 h32 (by omega)), decide_eq_false]
          · simp
          · intro z
            obtain ⟨j, hj, e⟩ := List.mem_map.mp z
            have hj := (bs_mem.mp hj).1
            have := dt_inj h4 h32 (by omega) hib e
            omega
        | false =>
          rw [if_neg (by decide)]
          show _ ||| 0 * 2 ^ m = _
          rw [Nat.zero_mul, Nat.or_zero]
          rfl
      rw [key]
      rfl
    case hd =>
      rintro p σ' H' ⟨u3, u4, rfl, eH, hp⟩
      rw [iL_len, hlen]
      show tSeq _ _ _ ([some (.int (b : Int)), some (.int (v : Int)), some (.int ((cod0 b v : Nat) : Int)), u3, u4, none] : L2.St) H'
      refine q_asg (ev_call (ea_cons (ev_var rfl) (ea_cons (ev_var rfl) ea_nil)) (SpSpot h4 h32 c0)) fun H3 e3 => ?_
      refine q_asg (ev_is (ev_callL2 (sp := spFlip K) (z := .int ((cod1 b v : Nat) : Int)) (ev_var rfl) (el_is (ys := (iL (cksN b (spotN (pl b) (cod0 b v)))).map V.int) (el_lcL' (l := ckN b) (fun m => (spotN (pl b) (cod0 b v) &&& m) != 0) (fun m => m) (el_call (ea_cons (ev_var rfl) ea_nil) (SpList (f := ckN) h4 h32)) ?sz (fun _ => rfl) (fun m hm H1 e1 => ?tt) (fun m hm H1 e1 _ => ev_var rfl)) ?lst) (fun p' H1 e1 hp1 => ?sp)) rfl) fun H4 e4 => ?_
      case sz =>
        unfold ckN
        have := List.length_filter_le isPw (List.range (pl b))
        rw [List.length_range] at this
        omega
      case tt =>
        refine et_is (et_truI (ev_and (a := spotN (pl b) (cod0 b v)) (b := m) (ev_var rfl) (ev_var rfl))) ?_
        cases e : (spotN (pl b) (cod0 b v) &&& m) <;> rfl
      case lst => rw [List.map_id']; rfl
      case sp => exact SpFlip (sq_of hp1) fun z hz => by have := (cks_lt _ _ z hz).1; omega
      refine s_ret (ev_is (ev_or (a := cod1 b v) (b := (bs 40 (cod1 b v)).length &&& 1) (ev_var rfl) (ev_and (a := (bs 40 (cod1 b v)).length) (b := 1) (ev_call (ea_cons (ev_var rfl) ea_nil) (SpOnes c1)) ev_c)) ?_) fun H5 e5 => q H5 (((eH.trans e3).trans e4).trans e5)
      rw [cod_end h4 h32]

theorem ok_state (A : At K mg "state_of" s_state_of) (D_spot_of : Dfn P w K mg base 2 "spot_of" p_spot_of spSpot) (D_ones_in : Dfn P w K mg base 2 "ones_in" p_ones_in spOnes) (D_places_of : Dfn P w K mg base 1 "places_of" p_places_of spPlaces) : Dfn P w K mg base 3 "state_of" p_state_of spState := by
  refine dfn_ok A sc_state_of (fun _ _ _ _ _ _ us hl => match us, hl with | [_, _], _ => rfl) (fun vs H Q E h => ?_) (fun f cdv A outer s H vs Q E hr h => ?_)
  · obtain ⟨b, v, rfl, _⟩ := h
    rfl
  · obtain ⟨b, n, rfl, h4, h32, hn, q⟩ := h
    have hpl := pl_le h32
    have n40 : n < 2 ^ 40 := Nat.lt_of_lt_of_le hn (Nat.pow_le_pow_right (by decide) (by omega))
    refine ⟨_, (pss_cons (ps_set (i := 2) sc_state_of.nd rfl (Or.inl rfl) (pe_d D_spot_of (hr.mono (by decide)) (pa_cons (pv 0) (pa_cons (pv 1) pa_nil))))
  (pss_cons (ps_if (show PT _ _ (tTr K _) from pt_truth (pe_op op_and (pe_d D_ones_in (hr.mono (by decide)) (pa_cons (pv 1) pa_nil)) pe_int) (by intro _; rfl))
    (pss_one (ps_ret (pe_ifExp (pt_cmpR op_lt (pv 2) (pe_d D_places_of (hr.mono (by decide)) (pa_cons (pv 0) pa_nil)) (by first | exact nomark _ | rfl)) (pe_tup (pa_cons pe_str (pa_cons (pv 2) pa_nil))) (pe_tup (pa_cons pe_str (pa_cons pe_non pa_nil))))))
    pss_nil)
  (pss_one (ps_ret (pe_ifExp (pt_cmpR op_eq (pv 2) pe_int (by first | exact nomark _ | rfl)) (pe_tup (pa_cons pe_str (pa_cons pe_non pa_nil))) (pe_tup (pa_cons pe_str (pa_cons pe_non pa_nil)))))))), ?_⟩
    refine q_asg (ev_call (ea_cons (ev_var rfl) (ea_cons (ev_var rfl) ea_nil)) (SpSpot h4 h32 n40)) fun H2 e2 => ?_
    have hpar : ((((bs 40 n).length &&& 1 : Nat) : Int) != 0) = parB (pl b) n := by
      rw [bs_more hn (by omega), Nat.and_one_is_mod]
      unfold parB
      rcases Nat.mod_two_eq_zero_or_one (bs (pl b) n).length with h | h <;> rw [h] <;> rfl
    refine q_when (b := parB (pl b) n) (et_is (et_truI (ev_and (a := (bs 40 n).length) (b := 1) (ev_call (ea_cons (ev_var rfl) ea_nil) (SpOnes n40)) ev_c)) hpar) (fun hb H3 e3 => ?_) (fun hb H3 e3 => ?_)
    · refine s_retU (eu_is (ys := stV b n) (eu_ite (et_test (ev_op (ev_var rfl) (ev_call (ea_cons (ev_var rfl) ea_nil) (SpPlaces h4 h32)) rv_I0)) (eu_tup (by walk_at "ea") (by show 2 ≤ 100000; decide)) (eu_tup (by walk_at "ea") (by decide))) ?_) fun p H4 np e4 hp => q p H4 (fresh_back (e2.trans e3) np) ((e2.trans e3).trans e4) hp
      unfold stV
      rw [if_pos hb]
      by_cases h : spotN (pl b) n < pl b
      · rw [if_pos h, if_pos (decide_eq_true (by omega))]
      · rw [if_neg h, if_neg (by rw [decide_eq_false (by omega)]; decide)]
    · refine s_retU (eu_is (ys := stV b n) (eu_ite (et_test (ev_op (ev_var rfl) ev_c (rv_eq rfl))) (eu_tup (by walk_at "ea") (by decide)) (eu_tup (by walk_at "ea") (by decide))) ?_) fun p H4 np e4 hp => q p H4 (fresh_back (e2.trans e3) np) ((e2.trans e3).trans e4) hp
      unfold stV
      rw [hb, if_neg (c := false = true) (by decide)]
      by_cases h : spotN (pl b) n = 0
      · rw [if_pos h, if_pos (decide_eq_true (by rw [h]; rfl))]
      · rw [if_neg h, if_neg]
        intro z
        have z := of_decide_eq_true z
        injection z with z
        omega

theorem ok_count (A : At K mg "count_rows" s_count_rows) (D_places_of : Dfn P w K mg base 1 "places_of" p_places_of spPlaces) : Dfn P w K mg base 2 "count_rows" p_count_rows spCount := by
  refine dfn_ok A sc_count_rows (fun _ _ _ _ _ _ us hl => match us, hl with | [_], _ => rfl) (fun vs H Q E h => ?_) (fun f cdv A outer s H vs Q E hr h => ?_)
  · obtain ⟨b, rfl, _⟩ := h
    rfl
  · obtain ⟨b, rfl, h4, h32, q⟩ := h
    have hpl := pl_le h32
    have h2 : (2 ^ b : Nat) ≤ 2 ^ 32 := Nat.pow_le_pow_right (by decide) h32
    have h3 : (2 ^ pl b : Nat) ≤ 2 ^ 40 := Nat.pow_le_pow_right (by decide) (by omega)
    refine ⟨_, (pss_cons (ps_set (i := 1) sc_count_rows.nd rfl (Or.inl rfl) (pe_d D_places_of (hr.mono (by decide)) (pa_cons (pv 0) pa_nil)))
  (pss_cons (ps_set (i := 2) sc_count_rows.nd rfl (Or.inl rfl) (pe_op op_shl pe_int (pv 0)))
  (pss_cons (ps_set (i := 3) sc_count_rows.nd rfl (Or.inl rfl) (pe_op op_mul (pv 2) (pv 1)))
  (pss_one (ps_ret (pe_tup (pa_cons (pv 2) (pa_cons (pv 3) (pa_cons (pe_op op_sub (pe_op op_sub (pe_op op_shl pe_int (pv 1)) (pv 2)) (pv 3)) pa_nil))))))))), ?_⟩
    refine q_asg (ev_call (ea_cons (ev_var rfl) ea_nil) (SpPlaces h4 h32)) fun H1 e1 => ?_
    refine q_asg (v := .int ((2 ^ b : Nat) : Int)) (ev_is (ev_shl (a := 1) (p := b) ev_c (ev_var rfl) (by decide) (by omega)) (by rw [Nat.one_mul])) fun H2 e2 => ?_
    refine q_asg (ev_op (ev_var rfl) (ev_var rfl) (rv_I (C := CMul) (cmul_nat (p64 (by omega))))) fun H3 e3 => ?_
    refine s_retU (eu_tup (ea_cons (ev_var rfl) (ea_cons (ev_var rfl) (ea_cons (ev_op (ev_op (ev_is (v := .int ((1 * 2 ^ pl b : Nat) : Int)) (w := .int ((2 ^ pl b : Nat) : Int)) (ev_shl (a := 1) (p := pl b) ev_c (ev_var rfl) (by decide) (by omega)) (by rw [Nat.one_mul])) (ev_var rfl) rv_I0) (ev_var rfl) rv_I0) ea_nil))) (by show 3 ≤ 100000; decide)) fun p H4 np e4 hp => q p H4 (fresh_back ((e1.trans e2).trans e3) np) (((e1.trans e2).trans e3).trans e4) hp

theorem ok_digits (A : At K mg "_law_digits" s__law_digits) (mz_int : mg "int" = none) : Dfn P w K mg base 1 "_law_digits" p__law_digits spDigits := by
  refine dfn_ok A sc__law_digits (fun _ _ _ _ _ _ us hl => match us, hl with | [_], _ => rfl) (fun vs H Q E h => ?_) (fun f cdv A outer s H vs Q E hr h => ?_)
  · obtain ⟨n, rfl, _⟩ := h
    rfl
  · obtain ⟨n, rfl, hn, q⟩ := h
    refine ⟨_, (pss_cons (ps_set (i := 1) sc__law_digits.nd rfl (Or.inl rfl) (pe_lst pa_nil))
  (pss_cons (ps_set (i := 2) sc__law_digits.nd rfl (Or.inl rfl) pe_int)
  (pss_cons (ps_while PassesOwn.never (pt_cmpR op_gt (pv 0) pe_int (by first | exact nomark _ | rfl))
    (pss_cons (ps_if (pt_cmpR op_eq (pe_op op_mod (pe_callTy call_int1 (by rfl) mz_int (by decide +kernel) (pa_cons (pv 0) pa_nil)) pe_int) pe_int (by first | exact nomark _ | rfl))
    (pss_one (ps_expr (show PE _ _ (tBM K "list" _ _ _) from pe_bm PySem.F.plainAttrs_list PySem.F.slot_list_append PySem.F.type_list_append mt_append (pv 1) (pa_cons (pv 2) pa_nil))))
    pss_nil)
  (pss_cons (ps_set (i := 0) sc__law_digits.nd rfl (Or.inl rfl) (pe_op op_fdiv (pv 0) pe_int))
  (pss_one (ps_set (i := 2) sc__law_digits.nd rfl (Or.inl rfl) (pe_op op_add (pv 2) pe_int))))))
  (pss_one (ps_ret (pv 1)))))), ?_⟩
    refine q_asgL (xs := []) (by refine el_lst ea_nil (by decide)) fun p H1 np e1 h1 => ?_
    refine' q_asg (v := ?v2) ?e2 fun H2 e2 => ?_
    case e2 => walk_at "ev"
    refine q_while (fun d σ2 H2 => ∃ i : Nat, σ2 = [some (.int ((n / 2 ^ i : Nat) : Int)), some (.ref p), some (.int (i : Int))] ∧ d = 65 - i ∧ i ≤ 64 ∧ Ex H H2 ∧ H2 p = some (.lst ((iL (bs i n)).map V.int))) _ ⟨0, by rw [Nat.pow_zero, Nat.div_one]; rfl, rfl, Nat.zero_le _, e1.trans e2, e2 _ _ h1⟩ ?_
    rintro d σ2 H2 ⟨i, rfl, rfl, hi, eH, hp⟩
    refine ⟨decide ((0 : Int) < ((n / 2 ^ i : Nat) : Int)), et_test (ev_op (ev_var rfl) ev_c rv_I0), fun hb H3 e3 => ?_, fun hb H3 e3 => ?_⟩
    · have hb := of_decide_eq_true hb
      have hi2 : i < 64 := by
        refine Nat.lt_of_not_le fun z => ?_
        have e : i = 64 := by omega
        rw [e, Nat.div_eq_of_lt hn] at hb
        omega
      refine ⟨fun σ3 H4 => σ3 = [some (.int ((n / 2 ^ (i + 1) : Nat) : Int)), some (.ref p), some (.int ((i + 1 : Nat) : Int))] ∧ Ex H H4 ∧ H4 p = some (.lst ((iL (bs (i + 1) n)).map V.int)), fun σ3 H4 ⟨z1, z2, z3⟩ => ⟨_, by omega, i + 1, z1, rfl, by omega, z2, z3⟩, ?_⟩
      have hodd : (decide (V.int (((n / 2 ^ i : Nat) : Int) % 2) = V.int 1)) = n.testBit i := by
        rw [Nat.testBit_eq_decide_div_mod_eq]
        refine decide_eq_decide.mpr ⟨fun z => ?_, fun z => ?_⟩
        · injection z with z; omega
        · congr 1; omega
      have ediv : n / 2 ^ (i + 1) = n / 2 ^ i / 2 := by rw [Nat.pow_succ, Nat.div_div_eq_div_mul]
      have tail : ∀ H5, Ex H H5 → H5 p = some (.lst ((iL (bs (i + 1) n)).map V.int)) → tSeq (tAsg (tOp (rI CDiv fun i j => V.int (i / j)) (tVar 0) (tC (V.int 2))) (gName 0)) (tAsg (tOp (rI0 fun i j => V.int (i + j)) (tVar 2) (tC (V.int 1))) (gName 2))
          { nx := fun σ3 H4 => σ3 = [some (.int ((n / 2 ^ (i + 1) : Nat) : Int)), some (.ref p), some (.int ((i + 1 : Nat) : Int))] ∧ Ex H H4 ∧ H4 p = some (.lst ((iL (bs (i + 1) n)).map V.int)), rt := Q, ct := fun σ3 H4 => σ3 = [some (.int ((n / 2 ^ (i + 1) : Nat) : Int)), some (.ref p), some (.int ((i + 1 : Nat) : Int))] ∧ Ex H H4 ∧ H4 p = some (.lst ((iL (bs (i + 1) n)).map V.int)), bk := tRet (tVar 1) { nx := fun _ H' => Q V.non H', rt := Q } }
          ([some (.int ((n / 2 ^ i : Nat) : Int)), some (.ref p), some (.int (i : Int))] : L2.St) H5 := fun H5 e5 h5 => by
        refine' q_asg (v := ?v6) ?e6 fun H6 e6 => ?_
        case e6 => walk_at "ev"
        refine' s_asg (v := ?v7) ?e7 fun H7 e7 => ?_
        case e7 => walk_at "ev"
        refine ⟨?_, (e5.trans e6).trans e7, e7 _ _ (e6 _ _ h5)⟩
        rw [ediv]
        rfl
      refine q_when (b := n.testBit i) (et_is (by walk_at "et") hodd) (fun hb H4 e4 => ?_) (fun hb H4 e4 => ?_)
      · refine s_app (e4 _ _ (e3 _ _ hp)) (ev_var rfl) (ev_var rfl) (by rw [iL_len]; have := List.length_filter_le (fun p => n.testBit p) (List.range i); rw [List.length_range] at this; show (bs i n).length < _; unfold bs; omega) fun H5 e5 => ?_
        refine tail _ (Ex.mut (((eH.trans e3).trans e4).trans e5) np) ?_
        rw [upd_same, bs_succ, hb, if_pos rfl, iL_app]
        rfl
      · refine tail _ ((eH.trans e3).trans e4) ?_
        rw [bs_succ, hb, if_neg (by decide), List.append_nil]
        exact e4 _ _ (e3 _ _ hp)
    · have hb := of_decide_eq_false hb
      refine s_ret (ev_var rfl) fun H4 e4 => ?_
      have hlt : n < 2 ^ i := by
        refine Nat.lt_of_not_le fun z => ?_
        have := Nat.div_pos z (Nat.two_pow_pos i)
        omega
      have h4 := e4 _ _ (e3 _ _ hp)
      rw [bs_any hn hlt] at h4
      exact q p H4 np ((eH.trans e3).trans e4) h4

theorem ok_rowof (A : At K mg "_law_row_of" s__law_row_of) (mz_range : mg "range" = none) (mz_sum : mg "sum" = none) : Dfn P w K mg base 1 "_law_row_of" p__law_row_of (spRowOf K) := by
  refine dfn_ok A sc__law_row_of (fun _ _ _ _ _ _ us hl => match us, hl with | [_], _ => rfl) (fun vs H Q E h => ?_) (fun f cdv A outer s H vs Q E hr h => ?_)
  · obtain ⟨a, ps, rfl, _⟩ := h
    rfl
  · obtain ⟨a, ps, rfl, hS, hp, hl, q⟩ := h
    refine ⟨_, (pss_cons (ps_set (i := 1) sc__law_row_of.nd rfl (Or.inr rfl) (pe_lst (pa_cons pe_int pa_nil)))
  (pss_cons (ps_for PassesOwn.never rfl (pi_range1 (by rfl) mz_range (pa_cons pe_int pa_nil)) (pg_name (i := 2) sc__law_row_of.nd rfl (Or.inl rfl))
    (pss_one (ps_expr (show PE _ _ (tBM K "list" _ _ _) from pe_bm PySem.F.plainAttrs_list PySem.F.slot_list_append PySem.F.type_list_append mt_append (pv 1) (pa_cons (pe_op op_mul pe_int (pe_ix (show IxR _ (rIxL K) from ix_list) (pv 1) (pe_un un_neg pe_int) (fun _ _ => rfl))) pa_nil)))))
  (pss_one (ps_ret (pe_callB (show CallR _ _ (rSum K) from (cr_sum rfl)) (by rfl) mz_sum (by decide +kernel) (pa_cons (pe_lc (own := [("place", 3)]) (g := gName 3) (tt := tYes) rfl sc__law_row_of.nd (show PI _ _ _ (iList K _) from pi_list (pv 0)) (blkOk_by (N := N__law_row_of) (sc := defScope s__law_row_of) (by decide +kernel)) (fun _ _ _ _ _ => (pg_name (i := 3) sc__law_row_of.nd rfl (Or.inl rfl))) (fun _ _ _ _ _ => pts_nil) (fun _ _ _ _ _ => (pe_ix (show IxR _ (rIxL K) from ix_list) (pv 1) (pv 3) (fun _ _ => rfl)))) pa_nil)))))), ?_⟩
    refine q_asgL (xs := [.int 1]) (el_lst (by walk_at "ea") (by decide)) fun p H1 np e1 h1 => ?_
    refine q_forR1 (n := 40) (by walk_at "ea") (by omega) (fun i σ' H' => ∃ k, σ' = [some (.ref a), some (.ref p), k, none] ∧ Ex H H' ∧ H' p = some (.lst ((iL ((List.range (i + 1)).map (2 ^ ·))).map V.int))) (fun H3 e3 => ⟨none, rfl, e1.trans e3, e3 _ _ h1⟩) ?hs ?hd
    case hs =>
      rintro i σ' H' hi ⟨k, rfl, eH, hp⟩
      have el : (iL ((List.range (i + 1)).map (2 ^ ·))).map V.int = (iL ((List.range i).map (2 ^ ·))).map V.int ++ [.int ((2 ^ i : Nat) : Int)] := by
        rw [List.range_succ, List.map_append, iL_app]
        rfl
      have at1 : atI ((iL ((List.range (i + 1)).map (2 ^ ·))).map V.int) (-1) = some (.int ((2 ^ i : Nat) : Int)) := by
        rw [el]
        exact atI_last _ _
      refine s_app (v := .int (2 * ((2 ^ i : Nat) : Int))) hp (ev_var rfl) (ev_op ev_c (ev_ixI (ev_var rfl) (ev_un ev_c ru_neg) (sq_of hp) at1) (rv_I (C := CMul) (Or.inl (by omega)))) (by rw [iL_len, List.length_map, List.length_range]; omega) fun H4 e4 => ?_
      refine ⟨_, rfl, Ex.mut (eH.trans e4) np, ?_⟩
      rw [upd_same, List.range_succ (n := i + 1), List.map_append (l₁ := List.range (i + 1)), iL_app]
      have e2 : (2 : Int) * ((2 ^ i : Nat) : Int) = ((2 ^ (i + 1) : Nat) : Int) := by rw [Nat.pow_succ]; omega
      rw [e2]
      rfl
    case hd =>
      rintro σ' H' ⟨k, rfl, eH, hp'⟩
      refine s_ret (ev_is (ev_sumL (ns := iL ((ps.filter fun _ => true).map (2 ^ ·))) (el_lcA' (l := ps) (a := a) (fun _ => true) (fun m => 2 ^ m) (ev_var rfl) (ex_l eH hS) (by omega) (fun _ => rfl) (fun m hm H1 e1 => fun H2 _ Q q => q H2 (Ex.refl H2)) (fun m hm H1 e1 _ => ev_ixI (ev_var rfl) (ev_var rfl) (sq_of (e1 _ _ hp')) (atI_nat (at_iL ?ix))))) ?_) fun H3 e3 => q H3 (eH.trans e3)
      case ix =>
        have := hp m hm
        rw [List.getElem?_map, List.getElem?_range (by show m < (40 : Int).toNat + 1; have : (40 : Int).toNat = 40 := rfl; omega)]
        rfl
      rw [sum_iL, List.filter_eq_self.mpr (fun _ _ => rfl)]
      rfl

theorem ok_lvalue (A : At K mg "_law_value" s__law_value) (mz_range : mg "range" = none) (mz_int : mg "int" = none) : Dfn P w K mg base 1 "_law_value" p__law_value (spLvalue K) := by
  refine dfn_ok A sc__law_value (fun _ _ _ _ _ _ us hl => match us, hl with | [_, _, _], _ => rfl) (fun vs H Q E h => ?_) (fun f cdv A outer s H vs Q E hr h => ?_)
  · obtain ⟨a, ns, i, b, rfl, _⟩ := h
    rfl
  · obtain ⟨a, ns, i, b, rfl, hS, hs, hi, h4, h32, q⟩ := h
    have get : ∀ j, j ≤ 3 → ∃ n, atI (ns.map V.int) ((i : Int) + (j : Nat)) = some (.int n) ∧ 0 ≤ n ∧ n < 1009 := fun j hj => by
      have hlt : i + j < ns.length := by omega
      refine ⟨ns[i + j], ?_, hs _ (List.getElem_mem hlt)⟩
      have e : (i : Int) + (j : Nat) = ((i + j : Nat) : Int) := by omega
      rw [e]
      refine atI_nat ?_
      rw [List.getElem?_map, List.getElem?_eq_getElem hlt]
      rfl
    obtain ⟨n0, g0, a0, b0⟩ := get 0 (by omega)
    obtain ⟨n1, g1, a1, b1⟩ := get 1 (by omega)
    obtain ⟨n2, g2, a2, b2⟩ := get 2 (by omega)
    obtain ⟨n3, g3, a3, b3⟩ := get 3 (by omega)
    rw [show (i : Int) + ((0 : Nat) : Int) = (i : Int) by omega] at g0
    refine ⟨_, (pss_cons (ps_set (i := 3) sc__law_value.nd rfl (Or.inl rfl) (pe_op op_add (pe_op op_add (pe_op op_add (pe_ix (show IxR _ (rIxL K) from ix_list) (pv 0) (pv 1) (fun _ _ => rfl)) (pe_op op_mul pe_int (pe_ix (show IxR _ (rIxL K) from ix_list) (pv 0) (pe_op op_add (pv 1) pe_int) (fun _ _ => rfl)))) (pe_op op_mul (pe_op op_mul pe_int pe_int) (pe_ix (show IxR _ (rIxL K) from ix_list) (pv 0) (pe_op op_add (pv 1) pe_int) (fun _ _ => rfl)))) (pe_op op_mul (pe_op op_mul (pe_op op_mul pe_int pe_int) pe_int) (pe_ix (show IxR _ (rIxL K) from ix_list) (pv 0) (pe_op op_add (pv 1) pe_int) (fun _ _ => rfl)))))
  (pss_cons (ps_set (i := 4) sc__law_value.nd rfl (Or.inl rfl) pe_int)
  (pss_cons (ps_for PassesOwn.never rfl (pi_range1 (by rfl) mz_range (pa_cons (pe_op op_sub (pv 2) pe_int) pa_nil)) (pg_name (i := 5) sc__law_value.nd rfl (Or.inl rfl))
    (pss_one (ps_set (i := 4) sc__law_value.nd rfl (Or.inl rfl) (pe_op op_mul pe_int (pv 4)))))
  (pss_one (ps_ret (pe_ix (show IxR _ (rIxL K) from ix_list) (pe_lst (pa_cons (pe_op op_mod (pe_callTy call_int1 (by rfl) mz_int (by decide +kernel) (pa_cons (pv 3) pa_nil)) (pv 4)) (pa_cons (pe_op op_mod (pe_callTy call_int1 (by rfl) mz_int (by decide +kernel) (pa_cons (pv 3) pa_nil)) (pv 4)) (pa_cons (pe_op op_mod (pe_callTy call_int1 (by rfl) mz_int (by decide +kernel) (pa_cons (pv 3) pa_nil)) (pv 4)) (pa_cons pe_int (pa_cons (pe_op op_sub (pv 4) pe_int) pa_nil)))))) (pe_op op_mod (pe_callTy call_int1 (by rfl) mz_int (by decide +kernel) (pa_cons (pe_ix (show IxR _ (rIxL K) from ix_list) (pv 0) (pe_op op_add (pv 1) pe_int) (fun _ _ => rfl)) pa_nil)) pe_int) (fun _ _ => rfl))))))), ?_⟩
    refine q_asg (v := .int (n0 + 1009 * n1 + 1009 * 1009 * n2 + 1009 * 1009 * 1009 * n3)) ?v1 fun H1 e1 => ?_
    case v1 =>
      refine ev_op (ev_op (ev_op (ev_ixI (ev_var rfl) (ev_var rfl) hS g0) (ev_op ev_c (ev_ixI (ev_var rfl) (ev_op (ev_var rfl) ev_c rv_I0) hS g1) (rv_I (C := CMul) (Or.inl (by omega)))) rv_I0) (ev_op (ev_op ev_c ev_c (rv_I (C := CMul) (Or.inl (by omega)))) (ev_ixI (ev_var rfl) (ev_op (ev_var rfl) ev_c rv_I0) hS g2) (rv_I (C := CMul) (Or.inl (by omega)))) rv_I0) (ev_op (ev_op (ev_op ev_c ev_c (rv_I (C := CMul) (Or.inl (by omega)))) ev_c (rv_I (C := CMul) (Or.inl (by omega)))) (ev_ixI (ev_var rfl) (ev_op (ev_var rfl) ev_c rv_I0) hS g3) (rv_I (C := CMul) (Or.inl (by omega)))) rv_I0
    generalize n0 + 1009 * n1 + 1009 * 1009 * n2 + 1009 * 1009 * 1009 * n3 = x
    refine' q_asg (v := ?v2) ?e2 fun H2 e2 => ?_
    case e2 => walk_at "ev"
    refine q_forR1 (n := (b : Int) - 4) (by walk_at "ea") (by omega) (fun j σ' H' => ∃ k, σ' = [some (.ref a), some (.int (i : Int)), some (.int (b : Int)), some (.int x), some (.int ((2 ^ (4 + j) : Nat) : Int)), k] ∧ Ex H H') (fun H3 e3 => ⟨none, rfl, (e1.trans e2).trans e3⟩) ?hs ?hd
    case hs =>
      rintro j σ' H' hj ⟨k, rfl, eH⟩
      refine s_asg (ev_op ev_c (ev_var rfl) (rv_I (C := CMul) (Or.inl (by omega)))) fun H4 e4 => ⟨some (.int (j : Int)), ?_, eH.trans e4⟩
      have e : (2 : Int) * ((2 ^ (4 + j) : Nat) : Int) = ((2 ^ (4 + (j + 1)) : Nat) : Int) := by
        rw [show 4 + (j + 1) = (4 + j) + 1 by omega, Nat.pow_succ]
        omega
      rw [e]
      rfl
    case hd =>
      rintro σ' H' ⟨k, rfl, eH⟩
      have eb : 4 + ((b : Int) - 4).toNat = b := by omega
      rw [eb]
      have hpos : (0 : Int) < ((2 ^ b : Nat) : Int) := by
        have := Nat.two_pow_pos b
        omega
      have hm : 0 ≤ x % ((2 ^ b : Nat) : Int) ∧ x % ((2 ^ b : Nat) : Int) < ((2 ^ b : Nat) : Int) := ⟨Int.emod_nonneg _ (by omega), Int.emod_lt_of_pos _ hpos⟩
      have hA := ex_l eH hS
      have h5 : 0 ≤ n3 % 5 ∧ n3 % 5 < 5 := ⟨Int.emod_nonneg _ (by decide), Int.emod_lt_of_pos _ (by decide)⟩
      obtain ⟨v, hv, hv2⟩ : ∃ v : Nat, v < 2 ^ b ∧ ([.int (x % ((2 ^ b : Nat) : Int)), .int (x % ((2 ^ b : Nat) : Int)), .int (x % ((2 ^ b : Nat) : Int)), .int 0, .int (((2 ^ b : Nat) : Int) - 1)] : List V)[(n3 % 5).toNat]? = some (.int (v : Int)) := by
        have hv : ∀ y : Int, 0 ≤ y → y < ((2 ^ b : Nat) : Int) → ∃ v : Nat, v < 2 ^ b ∧ (v : Int) = y := fun y h0 h1 => ⟨y.toNat, by omega, by omega⟩
        have h : (n3 % 5).toNat = 0 ∨ (n3 % 5).toNat = 1 ∨ (n3 % 5).toNat = 2 ∨ (n3 % 5).toNat = 3 ∨ (n3 % 5).toNat = 4 := by omega
        rcases h with h | h | h | h | h <;> rw [h]
        · obtain ⟨v, a, e⟩ := hv _ hm.1 hm.2; exact ⟨v, a, by rw [e]; rfl⟩
        · obtain ⟨v, a, e⟩ := hv _ hm.1 hm.2; exact ⟨v, a, by rw [e]; rfl⟩
        · obtain ⟨v, a, e⟩ := hv _ hm.1 hm.2; exact ⟨v, a, by rw [e]; rfl⟩
        · exact ⟨0, Nat.two_pow_pos b, rfl⟩
        · obtain ⟨v, a, e⟩ := hv (((2 ^ b : Nat) : Int) - 1) (by omega) (by omega); exact ⟨v, a, by rw [e]; rfl⟩
      refine s_ret (v := .int (v : Int)) (ev_ixN (i := n3 % 5) (el_lst (vs := [.int (x % ((2 ^ b : Nat) : Int)), .int (x % ((2 ^ b : Nat) : Int)), .int (x % ((2 ^ b : Nat) : Int)), .int 0, .int (((2 ^ b : Nat) : Int) - 1)]) ?ea (by show 5 ≤ 100000; decide)) (ev_op (ev_int (ea_cons (ev_ixI (ev_var rfl) (ev_op (ev_var rfl) ev_c rv_I0) hA g3) ea_nil)) ev_c (rv_I (show (0 : Int) < 5 by decide))) ?hat) fun H3 e3 => q v H3 hv (eH.trans e3)
      case ea =>
        refine ea_cons (ev_op (ev_int (ea_cons (ev_var rfl) ea_nil)) (ev_var rfl) (rv_I hpos)) (ea_cons (ev_op (ev_int (ea_cons (ev_var rfl) ea_nil)) (ev_var rfl) (rv_I hpos)) (ea_cons (ev_op (ev_int (ea_cons (ev_var rfl) ea_nil)) (ev_var rfl) (rv_I hpos)) (ea_cons ev_c (ea_cons (ev_op (ev_var rfl) ev_c rv_I0) ea_nil))))
      case hat =>
        have e : n3 % 5 = (((n3 % 5).toNat : Nat) : Int) := by omega
        rw [e]
        exact atI_nat hv2

end
/-! ### the law -/
def spLaw (K : PySem.W.Frag) : Sp := fun vs H Q _ => ∃ (a : Addr) (ns : List Int), vs = [.ref a] ∧ SqL K H a (ns.map V.int) ∧ ns.length ≤ 63 ∧ ∀ H', Q (.bl true) H'
section
variable {P : Program} {w : World} {K : PySem.W.Frag} {mg : Str → Option Value} {base : Heap}
theorem SpNum {H : Hp} {a : Addr} {xs : List Int} {m : Int} (hA : SqL K H a (xs.map V.int)) (hx : xs.length ≤ 63) (hm : 0 ≤ m) (hm2 : m ≤ 900) : SpP (spNumbers K) ([.ref a, .int m] ++ []) H (fun ys => ∃ ns : List Int, ys = ns.map V.int ∧ (ns.length : Int) = m ∧ Small ns) :=
  fun H1 e Q q E => ⟨a, xs, m, rfl, ex_l e hA, hx, hm, hm2, fun ns p H' hl hs np e2 hp => q _ p H' ⟨ns, rfl, hl, hs⟩ np e2 hp⟩
theorem nodup_first (l : List Nat) (f : Nat → Bool) (hf : ∀ i, f i = true → l.getD i 0 ∉ l.take i) : (((List.range l.length).filter f).map fun i => l.getD i 0).Nodup := by
  refine map_nodup (List.Nodup.sublist List.filter_sublist List.nodup_range) ?_
  have key : ∀ a c, a < c → a ∈ (List.range l.length).filter f → c ∈ (List.range l.length).filter f → l.getD a 0 = l.getD c 0 → False := fun a c hac ha hc e => by
    have ha2 := List.mem_range.mp (List.mem_filter.mp ha).1
    refine hf c (List.mem_filter.mp hc).2 ?_
    rw [← e]
    refine List.mem_of_getElem? (i := a) ?_
    rw [List.getElem?_take, if_pos hac, List.getD_eq_getElem?_getD, List.getElem?_eq_getElem ha2]
    rfl
  intro a ha c hc e
  rcases Nat.lt_trichotomy a c with h | h | h
  · exact (key a c h ha hc e).elim
  · exact h
  · exact (key c a h hc ha e.symm).elim
/-- the words that have been made: at wa a list of lists of digits, at va the list of their values -/
def Made (b : Nat) (va wa : Addr) (m : Nat) (H' : Hp) : Prop := ∃ (vals : List Nat) (ps : List Addr), vals.Nodup ∧ (∀ v ∈ vals, v < 2 ^ b) ∧ vals.length ≤ m ∧ ps.length = vals.length ∧ H' va = some (.lst ((iL vals).map V.int)) ∧ H' wa = some (.lst (ps.map V.ref)) ∧
  ∀ (i v : Nat) (p : Addr), vals[i]? = some v → ps[i]? = some p → H' p = some (.lst ((iL (bs 64 (cod b v))).map V.int)) ∧ p ≠ va ∧ p ≠ wa
theorem Made.ex {b m : Nat} {va wa : Addr} {H H' : Hp} (h : Made b va wa m H) (e : Ex H H') : Made b va wa m H' := by
  obtain ⟨vals, ps, h1, h2, h3, h4, h5, h6, h7⟩ := h
  exact ⟨vals, ps, h1, h2, h3, h4, e _ _ h5, e _ _ h6, fun i v p a c => ⟨e _ _ (h7 i v p a c).1, (h7 i v p a c).2⟩⟩
theorem Made.le {b m k : Nat} {va wa : Addr} {H : Hp} (h : Made b va wa m H) (e : m ≤ k) : Made b va wa k H := by
  obtain ⟨vals, ps, h1, h2, h3, r⟩ := h
  exact ⟨vals, ps, h1, h2, by omega, r⟩
/-- a list of a few numbers below b, apart from va and wa -/
def Few (b : Nat) (va wa : Addr) (x : V) (H : Hp) : Prop := ∃ (p : Addr) (l : List Nat), x = .ref p ∧ H p = some (.lst ((iL l).map V.int)) ∧ l.length ≤ 2 ∧ (∀ z ∈ l, z < b) ∧ p ≠ va ∧ p ≠ wa
theorem Few.kp {b : Nat} {va wa : Addr} {x : V} {H H' : Hp} (h : Few b va wa x H) (e : Kp va wa H H') : Few b va wa x H' := by
  obtain ⟨p, l, h1, h2, h3, h4, h5, h6⟩ := h
  exact ⟨p, l, h1, e _ _ h5 h6 h2, h3, h4, h5, h6⟩
theorem ok_law {f : Addr} {fd : FuncData} (F : Fun K "law" "law" s_law f fd) (D__law_numbers : Dfn P w K mg base 2 "_law_numbers" p__law_numbers (spNumbers K)) (D__law_places : Dfn P w K mg base 2 "_law_places" p__law_places spPlaces)
    (D__law_value : Dfn P w K mg base 1 "_law_value" p__law_value (spLvalue K)) (D_coded : Dfn P w K mg base 3 "coded" p_coded spCod) (D_state_of : Dfn P w K mg base 3 "state_of" p_state_of spState) (D_count_rows : Dfn P w K mg base 2 "count_rows" p_count_rows spCount)
    (D__law_digits : Dfn P w K mg base 1 "_law_digits" p__law_digits spDigits) (D__law_row_of : Dfn P w K mg base 1 "_law_row_of" p__law_row_of (spRowOf K))
    (mz_range : mg "range" = none) (mz_len : mg "len" = none) (mz_int : mg "int" = none) (mz_enumerate : mg "enumerate" = none) (mz_tuple : mg "tuple" = none) : FnOk P w K mg base CX0 4 f fd ["script"] (spLaw K) := by
  refine F.ok sc_law (fun vs H Q E h => ?_) (fun cdv A outer s H vs Q E hr h => ?_)
  · obtain ⟨a, ns, rfl, _⟩ := h
    rfl
  · obtain ⟨a, xs, rfl, hA, hx, q⟩ := h
    refine ⟨_, (pss_cons (ps_set (i := 1) sc_law.nd rfl (Or.inl rfl) (pe_d D__law_numbers (hr.mono (by decide)) (pa_cons (pv 0) (pa_cons pe_int pa_nil))))
  (pss_cons (ps_set (i := 2) sc_law.nd rfl (Or.inl rfl) (pe_op op_add pe_int (pe_op op_mod (pe_callTy call_int1 (by rfl) mz_int (by decide +kernel) (pa_cons (pe_ix (show IxR _ (rIxL K) from ix_list) (pv 1) pe_int (fun _ _ => rfl)) pa_nil)) pe_int)))
  (pss_cons (ps_set (i := 3) sc_law.nd rfl (Or.inr rfl) (pe_lst pa_nil))
  (pss_cons (ps_set (i := 4) sc_law.nd rfl (Or.inl rfl) (pe_lst pa_nil))
  (pss_cons (ps_for PassesOwn.never rfl (pi_range1 (by rfl) mz_range (pa_cons pe_int pa_nil)) (pg_name (i := 5) sc_law.nd rfl (Or.inr rfl))
    (pss_cons (ps_set (i := 6) sc_law.nd rfl (Or.inl rfl) (pe_d D__law_value (hr.mono (by decide)) (pa_cons (pv 1) (pa_cons (pe_op op_add pe_int (pe_op op_mul pe_int (pv 5))) (pa_cons (pv 2) pa_nil)))))
  (pss_cons (ps_set (i := 7) sc_law.nd rfl (Or.inr rfl) (pe_d D__law_digits (hr.mono (by decide)) (pa_cons (pv 6) pa_nil)))
  (pss_one (ps_for PassesOwn.never rfl (show PI _ _ _ (iList K _) from pi_list (pe_lst (pa_cons (pe_lst pa_nil) (pa_cons (pe_lst (pa_cons pe_int pa_nil)) (pa_cons (pe_lst (pa_cons (pe_op op_sub (pv 2) pe_int) pa_nil)) (pa_cons (pe_lst (pa_cons (pe_op op_mod (pe_callTy call_int1 (by rfl) mz_int (by decide +kernel) (pa_cons (pe_ix (show IxR _ (rIxL K) from ix_list) (pv 1) (pe_op op_add pe_int (pv 5)) (fun _ _ => rfl)) pa_nil)) (pv 2)) pa_nil)) (pa_cons (pe_lst (pa_cons pe_int (pa_cons (pe_op op_mod (pe_callTy call_int1 (by rfl) mz_int (by decide +kernel) (pa_cons (pe_ix (show IxR _ (rIxL K) from ix_list) (pv 1) (pe_op op_add pe_int (pv 5)) (fun _ _ => rfl)) pa_nil)) (pv 2)) pa_nil))) pa_nil))))))) (pg_name (i := 8) sc_law.nd rfl (Or.inr rfl))
    (pss_cons (ps_setLc (i := 10) (own := [("j", 9), ("one", 18)]) rfl sc_law.nd rfl rfl (sw_true rfl rfl rfl (by decide +kernel)) (show PI _ _ _ (iEnum K _) from pi_enum (by rfl) mz_enumerate (pa_cons (pv 8) pa_nil)) (blkOk_by (N := N_law) (sc := defScope s_law) (by decide +kernel)) (fun _ _ _ _ _ => (show PG _ _ (gTup K 2 _) from pg_tup rfl (pgs_cons (pg_name (i := 9) sc_law.nd rfl (Or.inl rfl)) (pgs_cons (pg_name (i := 18) sc_law.nd rfl (Or.inl rfl)) pgs_nil)))) (fun _ _ _ _ _ => (pts_one (PW.pt (pw_and (pt_cmpR (show OpR _ _ (rIn K true) from op_notIn_seq) (pv 18) (pv 7) (by first | exact nomark _ | rfl)) (pw_and1 (pt_cmpR (show OpR _ _ (rIn K true) from op_notIn_seq) (pv 18) (pe_slice (show SlR _ (rSlL K) from sl_list) (pv 8) po_none (po_some (pv 9))) (by first | exact nomark _ | rfl))))))) (fun _ _ _ _ _ => (pv 18)))
  (pss_cons (ps_set (i := 11) sc_law.nd rfl (Or.inl rfl) (pe_d D__law_row_of (hr.mono (by decide)) (pa_cons (pe_op op_cat (pe_lc (own := [("one", 18)]) (g := gName 18) rfl sc_law.nd (show PI _ _ _ (iList K _) from pi_list (pv 7)) (blkOk_by (N := N_law) (sc := defScope s_law) (by decide +kernel)) (fun _ _ _ _ _ => (pg_name (i := 18) sc_law.nd rfl (Or.inl rfl))) (fun _ _ _ _ _ => (pts_one (pt_cmpR (show OpR _ _ (rIn K true) from op_notIn_seq) (pv 18) (pv 8) (by first | exact nomark _ | rfl)))) (fun _ _ _ _ _ => (pv 18))) (pv 10)) pa_nil)))
  (pss_one (ps_if (pt_cmpR (show OpR _ _ (rIn K true) from op_notIn_seq) (pv 11) (pv 4) (by first | exact nomark _ | rfl))
    (pss_cons (ps_expr (show PE _ _ (tBM K "list" _ _ _) from pe_bm PySem.F.plainAttrs_list PySem.F.slot_list_append PySem.F.type_list_append mt_append (pv 4) (pa_cons (pv 11) pa_nil)))
  (pss_one (ps_expr (show PE _ _ (tBM K "list" _ _ _) from pe_bm PySem.F.plainAttrs_list PySem.F.slot_list_append PySem.F.type_list_append mt_append (pv 3) (pa_cons (pe_d D__law_digits (hr.mono (by decide)) (pa_cons (pe_d D_coded (hr.mono (by decide)) (pa_cons (pv 2) (pa_cons (pv 11) pa_nil))) pa_nil)) pa_nil)))))
    pss_nil)))))))))
  (pss_cons (ps_for PassesOwn.never rfl (pi_range1 (by rfl) mz_range (pa_cons (pe_callB (show CallR _ _ (rLenS K) from call_len_seq) (by rfl) mz_len PySem.boot_len (pa_cons (pv 3) pa_nil)) pa_nil)) (pg_name (i := 5) sc_law.nd rfl (Or.inr rfl))
    (pss_one (ps_for PassesOwn.never rfl (pi_range1 (by rfl) mz_range (pa_cons (pv 5) pa_nil)) (pg_name (i := 9) sc_law.nd rfl (Or.inr rfl))
    (pss_one (ps_if (pt_cmpR op_lt (pe_callB (show CallR _ _ (rLenS K) from call_len_seq) (by rfl) mz_len PySem.boot_len (pa_cons (pe_lc (own := [("place", 12)]) (g := gName 12) rfl sc_law.nd (pi_range1 (by rfl) mz_range (pa_cons pe_int pa_nil)) (blkOk_by (N := N_law) (sc := defScope s_law) (by decide +kernel)) (fun _ _ _ _ _ => (pg_name (i := 12) sc_law.nd rfl (Or.inl rfl))) (fun _ _ _ _ _ => (pts_one (pt_cmpR op_ne (pe_cmpR (show OpR _ _ (rIn K false) from op_in_seq) (pv 12) (pe_ix (show IxR _ (rIxL K) from ix_list) (pv 3) (pv 5) (fun _ _ => rfl)) (by first | exact nomark _ | rfl)) (pe_cmpR (show OpR _ _ (rIn K false) from op_in_seq) (pv 12) (pe_ix (show IxR _ (rIxL K) from ix_list) (pv 3) (pv 9) (fun _ _ => rfl)) (by first | exact nomark _ | rfl)) (by first | exact nomark _ | rfl)))) (fun _ _ _ _ _ => (pv 12))) pa_nil)) pe_int (by first | exact nomark _ | rfl))
    (pss_one (ps_ret pe_bl))
    pss_nil)))))
  (pss_cons (ps_set (i := 13) sc_law.nd rfl (Or.inl rfl) (pe_d D__law_places (hr.mono (by decide)) (pa_cons (pv 2) pa_nil)))
  (pss_cons (ps_asg (pe_tup (pa_cons pe_int (pa_cons pe_int pa_nil))) (show PG _ _ (gTup K 2 _) from pg_tup rfl (pgs_cons (pg_name (i := 14) sc_law.nd rfl (Or.inl rfl)) (pgs_cons (pg_name (i := 15) sc_law.nd rfl (Or.inl rfl)) pgs_nil))))
  (pss_cons (ps_for PassesOwn.never rfl (pi_range1 (by rfl) mz_range (pa_cons (pv 2) pa_nil)) (pg_name (i := 5) sc_law.nd rfl (Or.inr rfl))
    (pss_one (ps_set (i := 14) sc_law.nd rfl (Or.inl rfl) (pe_op op_mul pe_int (pv 14)))))
  (pss_cons (ps_for PassesOwn.never rfl (pi_range1 (by rfl) mz_range (pa_cons (pv 13) pa_nil)) (pg_name (i := 5) sc_law.nd rfl (Or.inr rfl))
    (pss_one (ps_set (i := 15) sc_law.nd rfl (Or.inl rfl) (pe_op op_mul pe_int (pv 15)))))
  (pss_cons (ps_if (pt_cmpR (show OpR _ _ (rNeD K) from (op_neD hr.units)) (pe_d D_count_rows (hr.mono (by decide)) (pa_cons (pv 2) pa_nil)) (pe_tup (pa_cons (pv 14) (pa_cons (pe_op op_mul (pv 13) (pv 14)) (pa_cons (pe_op op_sub (pe_op op_sub (pv 15) (pv 14)) (pe_op op_mul (pv 13) (pv 14))) pa_nil)))) (by first | exact nomark _ | rfl))
    (pss_one (ps_ret pe_bl))
    pss_nil)
  (pss_cons (ps_set (i := 16) sc_law.nd rfl (Or.inl rfl) (pe_lst (pa_cons pe_int (pa_cons pe_int (pa_cons pe_int pa_nil)))))
  (pss_cons (ps_for PassesOwn.never rfl (pi_range1 (by rfl) mz_range (pa_cons pe_int pa_nil)) (pg_name (i := 17) sc_law.nd rfl (Or.inl rfl))
    (pss_cons (ps_set (i := 12) sc_law.nd rfl (Or.inl rfl) (show PE _ _ (tBM K "list" _ _ _) from pe_bm PySem.F.plainAttrs_list PySem.F.slot_list_index PySem.F.type_list_index mt_index (pe_lst (pa_cons pe_str (pa_cons pe_str (pa_cons pe_str pa_nil)))) (pa_cons (pe_ix (show IxR _ (rIxT K) from ix_tup) (pe_d D_state_of (hr.mono (by decide)) (pa_cons pe_int (pa_cons (pv 17) pa_nil))) pe_int (fun _ _ => rfl)) pa_nil)))
  (pss_one (ps_asg (pe_op op_add (pe_ix (show IxR _ (rIxL K) from ix_list) (pv 16) (pv 12) (fun _ _ => rfl)) pe_int) (pg_sub (pv 16) (pv 12) set_list)))))
  (pss_one (ps_ret (pe_cmpR (show OpR _ _ (rEqD K) from (op_eqD hr.units)) (pe_callTy (show CallR _ _ (rTupS K) from call_tuple_of) (by rfl) mz_tuple (by decide +kernel) (pa_cons (pv 16) pa_nil)) (pe_d D_count_rows (hr.mono (by decide)) (pa_cons pe_int pa_nil)) (by first | exact nomark _ | rfl))))))))))))))))), ?_⟩
    refine q_asgP (P := fun ys => ∃ ns : List Int, ys = ns.map V.int ∧ (ns.length : Int) = 60 ∧ Small ns) (evP_call (ea_cons (ev_var rfl) (ea_cons ev_c ea_nil)) (SpNum hA hx (by decide) (by decide))) fun ys n H1 hys nn e1 hn => ?_
    obtain ⟨ns, rfl, hl, hS⟩ := hys
    have get : ∀ j, j < 60 → (ns.map V.int)[j]? = some (.int (ns.getD j 0)) := fun j hj => by
      rw [List.getElem?_map, List.getElem?_eq_getElem (show j < ns.length by omega), List.getD_eq_getElem?_getD, List.getElem?_eq_getElem (show j < ns.length by omega)]
      rfl
    have nat : ∀ j, j < 60 → ∃ x : Nat, ns.getD j 0 = (x : Int) := fun j hj => by
      have hj2 : j < ns.length := by omega
      have h := hS _ (List.getElem_mem hj2)
      refine ⟨ns[j].toNat, ?_⟩
      rw [List.getD_eq_getElem?_getD, List.getElem?_eq_getElem hj2]
      show ns[j] = _
      omega
    refine q_asg (ev_op ev_c (ev_op (ev_int (ea_cons (ev_ixI (ev_var rfl) ev_c (sq_of hn) (atI_nat (j := 0) (get 0 (by decide)))) ea_nil)) ev_c (rv_I (show (0 : Int) < 29 by decide))) rv_I0) fun H2 e2 => ?_
    obtain ⟨b, hb, h4, h32⟩ : ∃ b : Nat, (4 : Int) + ns.getD 0 0 % 29 = (b : Int) ∧ 4 ≤ b ∧ b ≤ 32 := by
      have h1 : 0 ≤ ns.getD 0 0 % 29 := Int.emod_nonneg _ (by decide)
      have h2 : ns.getD 0 0 % 29 < 29 := Int.emod_lt_of_pos _ (by decide)
      exact ⟨((4 : Int) + ns.getD 0 0 % 29).toNat, by omega, by omega, by omega⟩
    rw [hb]
    clear hb
    have hpl := pl_le h32
    have hn2 := e2 _ _ hn
    have v64 : ∀ {v : Nat}, v < 2 ^ b → v < 2 ^ 64 := fun hv => Nat.lt_of_lt_of_le hv (Nat.pow_le_pow_right (by decide) (by omega))
    have c64 : ∀ v : Nat, cod b v < 2 ^ 64 := fun v => Nat.lt_of_lt_of_le (cod_lt h4 h32) (Nat.pow_le_pow_right (by decide) (by omega))
    refine q_asgL (xs := []) (by refine el_lst ea_nil (by decide)) fun wa H3 nwa e3 hwa => ?_
    refine q_asgL (xs := []) (by refine el_lst ea_nil (by decide)) fun va H4 nva e4 hva => ?_
    have nwv : wa ≠ va := ne_of_none hwa nva
    have hn4 := e4 _ _ (e3 _ _ hn2)
    have nnw : n ≠ wa := ne_of_none hn2 nwa
    have nnv : n ≠ va := ne_of_none (e3 _ _ hn2) nva
    -- the words
    refine q_forR1 (n := 5) (by walk_at "ea") (by omega) (fun k σ' H' => ∃ u5 u6 u7 u8 u9 u10 u11, σ' = [some (.ref a), some (.ref n), some (.int (b : Int)), some (.ref wa), some (.ref va), u5, u6, u7, u8, u9, u10, u11, none, none, none, none, none, none, none] ∧ Kp va wa H4 H' ∧ Made b va wa (5 * k) H') (fun H5 e5 => ⟨none, none, none, none, none, none, none, rfl, (Kp.refl _ _ _).ex e5, [], [], List.nodup_nil, (fun _ z => nomatch z), Nat.zero_le _, rfl, e5 _ _ hva, e5 _ _ (e4 _ _ hwa), fun (i : Nat) v p z => by simp at z⟩) ?hs1 ?hd1
    case hs1 =>
      rintro k σ' H' hk ⟨u5, u6, u7, u8, u9, u10, u11, rfl, kK, mK⟩
      have hnK := kK _ _ nnv nnw hn4
      refine q_asgG (P := fun x _ => ∃ v : Nat, v < 2 ^ b ∧ x = .int (v : Int)) ?val fun x H5 e5 hx => ?_
      case val =>
        intro H5 e5 Q q
        refine (ea_cons (ev_var rfl) (ea_cons (ev_op ev_c (ev_op ev_c (ev_var rfl) (rv_I (C := CMul) (Or.inl (by omega)))) rv_I0) (ea_cons (ev_var rfl) ea_nil)) : EvA _ _ H5 _) H5 (Ex.refl _) _ fun H6 e6 => ⟨n, ns, 1 + 4 * k, b, ?_, sq_of (e6 _ _ (e5 _ _ hnK)), hS, by omega, h4, h32, fun v H7 hv e7 => q _ _ (e6.trans e7) ⟨v, hv, rfl⟩⟩
        have e : (1 : Int) + 4 * (k : Int) = ((1 + 4 * k : Nat) : Int) := by omega
        rw [e]
        rfl
      obtain ⟨v, hv, rfl⟩ := hx
      refine q_asgL (el_call (ea_cons (ev_var rfl) ea_nil) (SpDigits (v64 hv))) fun oa H6 noa e6 hoa => ?_
      have hn6 := e6 _ _ (e5 _ _ hnK)
      have hoa' : H6 oa = some (.lst ((iL (bs b v)).map V.int)) := by rw [← bs_more (k := 64) hv (by omega)]; exact hoa
      have mK6 := (mK.ex e5).ex e6
      have nwH : H5 wa ≠ none := by
        obtain ⟨_, _, _, _, _, _, _, h6, _⟩ := mK.ex e5
        rw [h6]
        exact fun z => nomatch z
      have nvH : H5 va ≠ none := by
        obtain ⟨_, _, _, _, _, _, h5, _, _⟩ := mK.ex e5
        rw [h5]
        exact fun z => nomatch z
      have oav : oa ≠ va := fun z => nvH (z ▸ noa)
      have oaw : oa ≠ wa := fun z => nwH (z ▸ noa)
      obtain ⟨x22, hx22⟩ := nat (22 + k) (by omega)
      obtain ⟨x27, hx27⟩ := nat (27 + k) (by omega)
      have g22 : atI (ns.map V.int) ((22 : Int) + (k : Int)) = some (.int (x22 : Int)) := by
        rw [show (22 : Int) + (k : Int) = ((22 + k : Nat) : Int) by omega, ← hx22]; exact atI_nat (get _ (by omega))
      have g27 : atI (ns.map V.int) ((27 : Int) + (k : Int)) = some (.int (x27 : Int)) := by
        rw [show (27 : Int) + (k : Int) = ((27 + k : Nat) : Int) by omega, ← hx27]; exact atI_nat (get _ (by omega))
      have b0 : (0 : Int) < (b : Int) := by omega
      have mono : ∀ v H1 H2, Ex H1 H2 → Few b va wa v H1 → Few b va wa v H2 := fun v H1 H2 e h => h.kp ((Kp.refl _ _ _).ex e)
      have few : ∀ {te : TE} {σ : L2.St} {l : List Nat}, EvL te σ H6 ((iL l).map V.int) → l.length ≤ 2 → (∀ z ∈ l, z < b) → EvG te σ H6 (Few b va wa) := fun {te σ l} h h2 hz H1 e Q q => h H1 e Q fun p H2 np e2 hp => q _ H2 e2 ⟨p, l, rfl, hp, h2, hz, fun z => ?_, fun z => ?_⟩
      rotate_left
      · subst z
        exact nvH (fresh_back (e6.trans e) np)
      · subst z
        exact nwH (fresh_back (e6.trans e) np)
      refine s_forG (R := fun p xs H1 => H6 p = none ∧ xs.length = 5 ∧ ∀ x ∈ xs, Few b va wa x H1) (evG_lstA mono (eaA_cons mono (few (l := []) (el_lst ea_nil (by decide)) (by decide) (fun _ z => nomatch z)) (eaA_cons mono (few (l := [0]) (lst1 ev_c) (by decide) (fun z hz => by rw [List.mem_singleton.mp hz]; omega)) (eaA_cons mono (few (l := [b - 1]) (el_is (lst1 (ev_op (ev_var rfl) ev_c rv_I0)) ?l1) (by show 1 ≤ 2; decide) (fun z hz => by rw [List.mem_singleton.mp hz]; omega)) (eaA_cons mono (few (l := [x22 % b]) (el_is (lst1 (ev_op (ev_int (ea_cons (ev_ixI (ev_var rfl) (ev_op ev_c (ev_var rfl) rv_I0) (sq_of hn6) g22) ea_nil)) (ev_var rfl) (rv_I b0))) ?l2) (by show 1 ≤ 2; decide) (fun z hz => by rw [List.mem_singleton.mp hz]; exact Nat.mod_lt _ (by omega))) (eaA_cons mono (few (l := [1, x27 % b]) (el_is (lst2 ev_c (ev_op (ev_int (ea_cons (ev_ixI (ev_var rfl) (ev_op ev_c (ev_var rfl) rv_I0) (sq_of hn6) g27) ea_nil)) (ev_var rfl) (rv_I b0))) ?l3) (by show 2 ≤ 2; decide) ?l4) eaA_nil))))) (by decide))
        (fun p xs i σ' H' => ∃ u8 u9 u10 u11, σ' = [some (.ref a), some (.ref n), some (.int (b : Int)), some (.ref wa), some (.ref va), some (.int (k : Int)), some (.int (v : Int)), some (.ref oa), u8, u9, u10, u11, none, none, none, none, none, none, none] ∧ Kp va wa H6 H' ∧ Made b va wa (5 * k + i) H' ∧ xs.length = 5 ∧ H' p = some (.lst xs) ∧ p ≠ va ∧ p ≠ wa ∧ ∀ x ∈ xs, Few b va wa x H')
        (fun p xs H1 e hp ⟨np, hl, hx⟩ => ⟨_, _, _, _, rfl, (Kp.refl _ _ _).ex e, mK6.ex e, hl, hp, fun z => nvH (z ▸ fresh_back e6 np), fun z => nwH (z ▸ fresh_back e6 np), hx⟩) (fun p xs i σ' H' _ ⟨_, _, _, _, _, _, _, _, hp, _⟩ => sq_of hp) ?gs ?gd
      case l1 =>
        show [V.int ((b : Int) - 1)] = [V.int ((b - 1 : Nat) : Int)]
        congr 2
        omega
      case l2 =>
        show [V.int ((x22 : Int) % (b : Int))] = [V.int ((x22 % b : Nat) : Int)]
        congr 2
      case l3 =>
        show [V.int 1, V.int ((x27 : Int) % (b : Int))] = [V.int ((1 : Nat) : Int), V.int ((x27 % b : Nat) : Int)]
        congr 3
      case l4 =>
        intro z hz
        rcases List.mem_cons.mp hz with rfl | hz
        · omega
        · rw [List.mem_singleton.mp hz]; exact Nat.mod_lt _ (by omega)
      case gd =>
        rintro p xs σ' H' ⟨u8, u9, u10, u11, rfl, k6, mm, hl, hp, _⟩
        rw [hl] at mm
        refine ⟨_, _, _, _, _, _, _, rfl, ?_, mm.le (by omega)⟩
        exact fun c o h1 h2 h => k6 c o h1 h2 (e6 _ _ (e5 _ _ (kK c o h1 h2 h)))
      case gs =>
        rintro p xs i x σ' H' hi ⟨u8, u9, u10, u11, rfl, k6, mm, hl, hp, pva, pwa, hx⟩
        obtain ⟨q', l, rfl, hq, hl2, hlb, qva, qwa⟩ := hx x (List.mem_of_getElem? hi)
        have hoaK := k6 _ _ oav oaw hoa'
        have hbv : (bs b v).length ≤ 32 := by have := bs_len b v; omega
        generalize hfdef : (fun j : Nat => (!decide (((l.getD j 0 : Nat) : Int) ∈ iL (bs b v))) && !decide (((l.getD j 0 : Nat) : Int) ∈ iL (l.take j))) = ff
        have hlj : ∀ {j : Nat} {y : V}, ((iL l).map V.int)[j]? = some y → y = .int ((l.getD j 0 : Nat) : Int) := fun {j y} hj => by
          obtain ⟨m, hm, rfl⟩ := iL_at hj
          rw [List.getD_eq_getElem?_getD, hm]
          rfl
        refine q_asgL (xs := (iL (((List.range l.length).filter ff).map fun j => l.getD j 0)).map V.int) (el_is (el_lcEA (xs := (iL l).map V.int) ff (fun j => V.int ((l.getD j 0 : Nat) : Int)) (ev_var rfl) (sq_of hq) (by rw [iL_len]; omega) (fun _ _ => rfl) (fun j y H1 e1 hj => ?tt) (fun j y H1 e1 hj _ => ?ee)) ?ll) fun mo H7 nmo e7 hmo => ?_
        case tt =>
          have ey := hlj hj
          subst ey
          rw [← hfdef]
          refine et_and (et_test (ev_op (ev_var rfl) (ev_var rfl) (rv_niI (sq_of (e1 _ _ hoaK))))) fun _ => et_test (ev_opL (ev_var rfl) (el_is (ys := (iL (l.take j)).map V.int) (el_sl (ev_var rfl) eo_none (eo_some (ev_var rfl)) (sq_of (e1 _ _ hq))) ?_) fun p1 H2 hp1 _ => rv_niI (sq_of hp1))
          rw [cut_take]
          unfold iL
          rw [List.map_take, List.map_take]
        case ee =>
          have ey := hlj hj
          subst ey
          exact ev_var rfl
        case ll =>
          rw [iL_len]
          unfold given iL
          rw [List.map_map, List.map_map]
          rfl
        generalize hmoN : ((List.range l.length).filter ff).map (fun j => l.getD j 0) = moN at hmo
        have moNd : moN.Nodup := by
          rw [← hmoN]
          refine nodup_first l ff fun j hj z => ?_
          rw [← hfdef] at hj
          have h2 := (Bool.and_eq_true_iff.mp hj).2
          rw [decide_eq_true (mem_iL.mpr z)] at h2
          cases h2
        have moP : ∀ z ∈ moN, z < b ∧ z ∉ bs b v := fun z hz => by
          rw [← hmoN] at hz
          obtain ⟨j, hj, rfl⟩ := List.mem_map.mp hz
          have hj := List.mem_filter.mp hj
          have hjl := List.mem_range.mp hj.1
          have hm : l.getD j 0 ∈ l := by
            rw [List.getD_eq_getElem?_getD, List.getElem?_eq_getElem hjl]
            exact List.getElem_mem hjl
          refine ⟨hlb _ hm, fun zz => ?_⟩
          have h1 := hj.2
          rw [← hfdef] at h1
          have h1 := (Bool.and_eq_true_iff.mp h1).1
          rw [decide_eq_true (mem_iL.mpr zz)] at h1
          cases h1
        have moL : moN.length ≤ 2 := by
          rw [← hmoN, List.length_map]
          have := List.length_filter_le ff (List.range l.length)
          rw [List.length_range] at this
          omega
        clear hmoN hfdef
        obtain ⟨LL, hLL⟩ : ∃ LL : List Nat, ((bs b v).filter fun m : Nat => !decide ((m : Int) ∈ iL l)) ++ moN = LL := ⟨_, rfl⟩
        have LLnd : LL.Nodup := by
          rw [← hLL]
          exact List.nodup_append.mpr ⟨List.Nodup.sublist List.filter_sublist (bs_nodup b v), moNd, fun y hy z hz e => (moP z hz).2 (e ▸ (List.mem_filter.mp hy).1)⟩
        have LLb : ∀ z ∈ LL, z < b := fun z hz => by
          rw [← hLL] at hz
          rcases List.mem_append.mp hz with hz | hz
          · exact (bs_mem.mp (List.mem_filter.mp hz).1).1
          · exact (moP z hz).1
        have LLl : LL.length ≤ 100 := by
          rw [← hLL, List.length_append]
          have := List.length_filter_le (fun m : Nat => !decide ((m : Int) ∈ iL l)) (bs b v)
          omega
        have hc : rowOf LL < 2 ^ b := row_lt LLnd LLb
        have hq7 := e7 _ _ hq
        have hoa7 := e7 _ _ hoaK
        refine q_asg (v := .int ((rowOf LL : Nat) : Int)) (ev_callL1 (sp := spRowOf K) (el_is (el_catB (el_lcA' (l := bs b v) (a := oa) (fun m => !decide ((m : Int) ∈ iL l)) (fun m => m) (ev_var rfl) (sq_of hoa7) (by omega) (fun _ => rfl) (fun m hm H1 e1 => et_test (ev_op (ev_var rfl) (ev_var rfl) (rv_niI (sq_of (e1 _ _ hq7))))) (fun m hm H1 e1 _ => ev_var rfl)) (ev_var rfl) hmo ?sz) ?lst) (fun p1 H1 e1 hp1 => SpRowOf (ps := LL) (sq_of hp1) (fun z hz => by have := LLb z hz; omega) (by omega))) fun H8 e8 => ?_
        case sz =>
          rw [iL_len, iL_len, List.length_map]
          have := List.length_filter_le (fun m : Nat => !decide ((m : Int) ∈ iL l)) (bs b v)
          omega
        case lst =>
          rw [List.map_id', ← iL_app, hLL]
        have mm8 := (mm.ex e7).ex e8
        obtain ⟨vals, ps, m1, m2, m3, m4, m5, m6, m7⟩ := mm8
        have k68 : Kp va wa H6 H8 := (k6.ex e7).ex e8
        have hp8 := e8 _ _ (e7 _ _ hp)
        have hx8 : ∀ x ∈ xs, Few b va wa x H8 := fun x h => mono _ _ _ (e7.trans e8) (hx x h)
        have hk5 : 5 * k + i < 25 := by
          have := (List.getElem?_eq_some_iff.mp hi).1
          omega
        refine s_if (b := !decide (((rowOf LL : Nat) : Int) ∈ iL vals)) (et_test (ev_op (ev_var rfl) (ev_var rfl) (rv_niI (sq_of m5)))) (fun hb H9 e9 => ?_) (fun hb H9 e9 => ?_)
        · have hni : rowOf LL ∉ vals := fun z => by
            rw [decide_eq_true (mem_iL.mpr z)] at hb
            cases hb
          refine q_app (e9 _ _ m5) (ev_var rfl) (ev_var rfl) (by rw [iL_len]; omega) fun H10 e10 => ?_
          have w10 : (upd H10 va (.lst ((iL vals).map V.int ++ [.int ((rowOf LL : Nat) : Int)]))) wa = some (.lst (ps.map V.ref)) := by
            rw [upd_ne nwv]
            exact e10 _ _ (e9 _ _ m6)
          refine s_appL w10 (ev_var rfl) (el_call (ea_cons (ev_call (ea_cons (ev_var rfl) (ea_cons (ev_var rfl) ea_nil)) (SpCod h4 h32 hc)) ea_nil) (SpDigits (c64 _))) (by rw [List.length_map]; omega) fun wp H11 nwp e11 hwp => ?_
          have kk : ∀ H0, Kp va wa H0 H8 → Kp va wa H0 (upd H11 wa (.lst (ps.map V.ref ++ [.ref wp]))) := fun H0 h0 => Kp.ub ((Kp.ua ((h0.ex e9).ex e10)).ex e11)
          have va11 : H11 va = some (.lst ((iL vals).map V.int ++ [.int ((rowOf LL : Nat) : Int)])) := e11 _ _ upd_same
          have wpva : wp ≠ va := fun z => by rw [z, upd_same] at nwp; cases nwp
          have wpwa : wp ≠ wa := fun z => by rw [z] at nwp; rw [w10] at nwp; cases nwp
          refine ⟨_, _, _, _, rfl, kk H6 k68, ⟨vals ++ [rowOf LL], ps ++ [wp], ?_, ?_, ?_, ?_, ?_, ?_, ?_⟩, hl, kk H8 (Kp.refl _ _ _) _ _ pva pwa hp8, pva, pwa, fun x h => (hx8 x h).kp (kk H8 (Kp.refl _ _ _))⟩
          · exact List.nodup_append.mpr ⟨m1, by simp, fun y hy z hz e => by rw [List.mem_singleton.mp hz] at e; exact hni (e ▸ hy)⟩
          · intro y hy
            rcases List.mem_append.mp hy with hy | hy
            · exact m2 y hy
            · rw [List.mem_singleton.mp hy]; exact hc
          · rw [List.length_append]; show vals.length + 1 ≤ _; omega
          · rw [List.length_append, List.length_append, m4]; rfl
          · rw [upd_ne nwv.symm, va11, iL_app]; rfl
          · rw [upd_same, List.map_append]; rfl
          · intro j y z hy hz
            by_cases hj : j < vals.length
            · rw [List.getElem?_append_left hj] at hy
              rw [List.getElem?_append_left (by omega)] at hz
              obtain ⟨g1, g2, g3⟩ := m7 j y z hy hz
              exact ⟨kk H8 (Kp.refl _ _ _) _ _ g2 g3 g1, g2, g3⟩
            · have hjl := (List.getElem?_eq_some_iff.mp hy).1
              rw [List.length_append] at hjl
              have hjl : j < vals.length + 1 := hjl
              have ej : j = vals.length := by omega
              subst ej
              rw [List.getElem?_append_right (Nat.le_refl _), Nat.sub_self] at hy
              rw [List.getElem?_append_right (by omega), m4, Nat.sub_self] at hz
              cases hy
              cases hz
              refine ⟨?_, wpva, wpwa⟩
              rw [upd_ne wpwa]
              exact hwp
        · exact ⟨_, _, _, _, rfl, k68.ex e9, Made.le (Made.ex ⟨vals, ps, m1, m2, m3, m4, m5, m6, m7⟩ e9) (by omega), hl, e9 _ _ hp8, pva, pwa, fun x h => mono _ _ _ e9 (hx8 x h)⟩
    case hd1 =>
      rintro σ' H' ⟨u5, u6, u7, u8, u9, u10, u11, rfl, kK, vals, ps, m1, m2, m3, m4, m5, m6, m7⟩
      -- all words far apart
      refine q_forR1 (n := ((ps.map V.ref).length : Int)) (ea_cons (ev_lenL (ev_var rfl) (sq_of m6)) ea_nil) ⟨by omega, by rw [List.length_map]; omega⟩ (fun i σ2 H2 => ∃ u5 u9, σ2 = [some (.ref a), some (.ref n), some (.int (b : Int)), some (.ref wa), some (.ref va), u5, u6, u7, u8, u9, u10, u11, none, none, none, none, none, none, none] ∧ Ex H' H2) (fun H5 e5 => ⟨_, _, rfl, e5⟩) ?hs2 ?hd2
      case hs2 =>
        rintro i σ2 H2 hi ⟨u5, u9, rfl, eI⟩
        have hil : i < ps.length := by rw [List.length_map] at hi; omega
        refine s_forR1 (n := (i : Int)) (by walk_at "ea") (by omega) (fun j σ3 H3 => ∃ u9, σ3 = [some (.ref a), some (.ref n), some (.int (b : Int)), some (.ref wa), some (.ref va), some (.int (i : Int)), u6, u7, u8, u9, u10, u11, none, none, none, none, none, none, none] ∧ Ex H' H3) (fun H5 e5 => ⟨_, rfl, eI.trans e5⟩) ?hs3 ?hd3
        case hd3 =>
          rintro σ3 H3 ⟨u9, rfl, eJ⟩
          exact ⟨_, _, rfl, eJ⟩
        case hs3 =>
          rintro j σ3 H3 hj ⟨u9, rfl, eJ⟩
          have hji : j < i := by omega
          obtain ⟨pi, hpi⟩ : ∃ pi, ps[i]? = some pi := ⟨_, List.getElem?_eq_getElem hil⟩
          obtain ⟨pj, hpj⟩ : ∃ pj, ps[j]? = some pj := ⟨_, List.getElem?_eq_getElem (by omega)⟩
          obtain ⟨vi, hvi⟩ : ∃ vi, vals[i]? = some vi := ⟨_, List.getElem?_eq_getElem (by omega)⟩
          obtain ⟨vj, hvj⟩ : ∃ vj, vals[j]? = some vj := ⟨_, List.getElem?_eq_getElem (by omega)⟩
          have li := eJ _ _ (m7 i vi pi hvi hpi).1
          have lj := eJ _ _ (m7 j vj pj hvj hpj).1
          have lw := eJ _ _ m6
          have hne : vi ≠ vj := fun z => by
            subst z
            have := nd_ix m1 hvi hvj
            omega
          have hbi := m2 vi (List.mem_of_getElem? hvi)
          have hbj := m2 vj (List.mem_of_getElem? hvj)
          have hfar := far h4 h32 hbi hbj hne
          have ai : atI (ps.map V.ref) (i : Int) = some (.ref pi) := atI_nat (by rw [List.getElem?_map, hpi]; rfl)
          have aj : atI (ps.map V.ref) (j : Int) = some (.ref pj) := atI_nat (by rw [List.getElem?_map, hpj]; rfl)
          have hlen : ((given 40 (fun m => !decide (V.bl (decide ((m : Int) ∈ iL (bs 64 (cod b vi)))) = V.bl (decide ((m : Int) ∈ iL (bs 64 (cod b vj)))))) (fun m => V.int (m : Int))).length : Int) = ((bs 40 (cod b vi ^^^ cod b vj)).length : Int) := by
            rw [given_iL, iL_len]
            unfold bs
            congr 2
            refine List.filter_congr fun m hm => ?_
            have hm := List.mem_range.mp hm
            have mem : ∀ x : Nat, decide ((m : Int) ∈ iL (List.filter (fun p => x.testBit p) (List.range 64))) = x.testBit m := fun x => by
              cases e : x.testBit m with
              | true => exact decide_eq_true (mem_iL.mpr (List.mem_filter.mpr ⟨List.mem_range.mpr (by omega), e⟩))
              | false => exact decide_eq_false fun z => by rw [(List.mem_filter.mp (mem_iL.mp z)).2] at e; cases e
            rw [mem, mem, Nat.testBit_xor]
            cases (cod b vi).testBit m <;> cases (cod b vj).testBit m <;> decide
          refine s_when (b := false) (et_is (et_test (ev_op (ev_is (ev_lenN2 (el_lcR1 (n := 40) (fun m => !decide (V.bl (decide ((m : Int) ∈ iL (bs 64 (cod b vi)))) = V.bl (decide ((m : Int) ∈ iL (bs 64 (cod b vj)))))) (fun m => V.int (m : Int)) (by walk_at "ea") (by omega) (fun _ => rfl) (fun m H1 e1 hm => et_test (ev_op (ev_op (ev_var rfl) (ev_ixI (ev_var rfl) (ev_var rfl) (sq_of (e1 _ _ lw)) ai) (rv_isI (sq_of (e1 _ _ li)))) (ev_op (ev_var rfl) (ev_ixI (ev_var rfl) (ev_var rfl) (sq_of (e1 _ _ lw)) aj) (rv_isI (sq_of (e1 _ _ lj)))) (rv_ne rfl))) (fun m H1 e1 hm _ => ev_var rfl))) (by rw [show (40 : Int).toNat = 40 from rfl, hlen])) ev_c rv_I0)) (decide_eq_false (by omega))) (fun hb => Bool.noConfusion hb) fun _ H4 e4 => ⟨_, rfl, eJ.trans e4⟩
      case hd2 =>
        rintro σ2 H2 ⟨u5, u9, rfl, eI⟩
        refine q_asg (ev_call (ea_cons (ev_var rfl) ea_nil) (SpPlaces h4 h32)) fun H5 e5 => ?_
        -- clean, rows = 1, 1
        refine q_unp2 (tup2 ev_c ev_c) fun H6 e6 => ?_
        refine q_forR1 (n := (b : Int)) (by walk_at "ea") (by omega) (fun i σ3 H3 => ∃ u5, σ3 = [some (.ref a), some (.ref n), some (.int (b : Int)), some (.ref wa), some (.ref va), u5, u6, u7, u8, u9, u10, u11, none, some (.int ((pl b : Nat) : Int)), some (.int ((2 ^ i : Nat) : Int)), some (.int 1), none, none, none] ∧ Ex H2 H3) (fun H7 e7 => ⟨_, rfl, (e5.trans e6).trans e7⟩) ?hs4 ?hd4
        case hs4 =>
          rintro i σ3 H3 hi ⟨u5, rfl, eJ⟩
          refine s_asg (ev_op ev_c (ev_var rfl) (rv_I (C := CMul) (Or.inl (by omega)))) fun H7 e7 => ⟨some (.int (i : Int)), ?_, eJ.trans e7⟩
          have e : (2 : Int) * ((2 ^ i : Nat) : Int) = ((2 ^ (i + 1) : Nat) : Int) := by rw [Nat.pow_succ]; omega
          rw [e]
          rfl
        case hd4 =>
          rintro σ3 H3 ⟨u5, rfl, eJ⟩
          rw [Int.toNat_natCast]
          refine q_forR1 (n := ((pl b : Nat) : Int)) (by walk_at "ea") (by omega) (fun i σ4 H4 => ∃ u5, σ4 = [some (.ref a), some (.ref n), some (.int (b : Int)), some (.ref wa), some (.ref va), u5, u6, u7, u8, u9, u10, u11, none, some (.int ((pl b : Nat) : Int)), some (.int ((2 ^ b : Nat) : Int)), some (.int ((2 ^ i : Nat) : Int)), none, none, none] ∧ Ex H3 H4) (fun H7 e7 => ⟨_, rfl, e7⟩) ?hs5 ?hd5
          case hs5 =>
            rintro i σ4 H4 hi ⟨u5, rfl, eJ⟩
            refine s_asg (ev_op ev_c (ev_var rfl) (rv_I (C := CMul) (Or.inl (by omega)))) fun H7 e7 => ⟨some (.int (i : Int)), ?_, eJ.trans e7⟩
            have e : (2 : Int) * ((2 ^ i : Nat) : Int) = ((2 ^ (i + 1) : Nat) : Int) := by rw [Nat.pow_succ]; omega
            rw [e]
            rfl
          case hd5 =>
            rintro σ4 H4 ⟨u5, rfl, eJ⟩
            rw [Int.toNat_natCast]
            have ci : ∀ x y z : Int, ∀ p H, SqT K H p [.int x, .int y, .int z] → Dp K H (.ref p) (.tuple [.int x, .int y, .int z]) := fun x y z p H h => .tup h (.cons (.int _) (.cons (.int _) (.cons (.int _) .nil)))
            have sh : ∀ x y z : Int, SeqAt.shaped (.tuple [.int x, .int y, .int z]) = true := fun x y z => (Lay.tuple (n := 3) (.cons (.int _) (.cons (.int _) (.cons (.int _) .nil)))).sh
            refine q_when (b := false) (et_test (ev_opUU (eu_call (ea_cons (ev_var rfl) ea_nil) (SpCount h4 h32)) (eu_is (eu_tup (ea_cons (ev_var rfl) (ea_cons (ev_op (ev_var rfl) (ev_var rfl) (rv_I (C := CMul) (Or.inl (by omega)))) (ea_cons (ev_op (ev_op (ev_var rfl) (ev_var rfl) rv_I0) (ev_op (ev_var rfl) (ev_var rfl) (rv_I (C := CMul) (Or.inl (by omega)))) rv_I0) ea_nil))) (by show 3 ≤ 100000; decide)) ?tu) fun p p' H1 hp hp' _ => rv_neS (ci _ _ _ _ _ (st_of hp)) (ci _ _ _ _ _ (st_of hp')) (sh _ _ _))) (fun hb => Bool.noConfusion hb) fun _ H7 e7 => ?_
            case tu => rw [Int.mul_comm]
            -- all rows of four data bits
            refine q_asgL (xs := [.int 0, .int 0, .int 0]) (el_lst (ea_cons ev_c (ea_cons ev_c (ea_cons ev_c ea_nil))) (by show 3 ≤ 100000; decide)) fun fo H8 nfo e8 hfo => ?_
            refine q_forR1 (n := 256) (by walk_at "ea") (by omega) (fun i σ5 H9 => ∃ u12 u17, σ5 = [some (.ref a), some (.ref n), some (.int (b : Int)), some (.ref wa), some (.ref va), u5, u6, u7, u8, u9, u10, u11, u12, some (.int ((pl b : Nat) : Int)), some (.int ((2 ^ b : Nat) : Int)), some (.int ((2 ^ pl b : Nat) : Int)), some (.ref fo), u17, none] ∧ H9 fo = some (.lst [.int ((kds i 0 : Nat) : Int), .int ((kds i 1 : Nat) : Int), .int ((kds i 2 : Nat) : Int)])) (fun H9 e9 => ⟨_, _, rfl, e9 _ _ hfo⟩) ?hs6 ?hd6
            case hs6 =>
              rintro i σ5 H9 hi ⟨u12, u17, rfl, hf⟩
              obtain ⟨y, hst⟩ := stV_kd i
              have hkl := kd_lt i
              have i256 : i < 2 ^ pl 4 := by
                have : pl 4 = 8 := by decide
                rw [this]
                omega
              refine q_asg (ev_idx (ys := [.str "clean", .str "one", .str "more"]) (j := kd i) (z := if kd i = 0 then .str "clean" else if kd i = 1 then .str "one" else .str "more") (lst3 ev_c ev_c ev_c) (ev_opU0 (eu_is (eu_call (ea_cons ev_c (ea_cons (ev_var rfl) ea_nil)) (SpState (b := 4) (by decide) (by decide) i256)) hst) ev_c (atI_nat (j := 0) rfl)) ?fy rfl ?hz ?he ?hn) fun H10 e10 => ?_
              case fy => rcases hkl with h | h | h <;> rw [h] <;> rfl
              case hz => rcases hkl with h | h | h <;> rw [h] <;> rfl
              case he => rcases hkl with h | h | h <;> rw [h] <;> rfl
              case hn =>
                intro m z' hm hz
                have hm3 : m = 0 ∨ m = 1 := by omega
                rcases hkl with h | h | h <;> rw [h] at hm ⊢ <;> rcases hm3 with rfl | rfl <;> first | omega | (cases hz; decide)
              have hf10 := e10 _ _ hf
              have hk3 : kd i < 3 := by omega
              have hat : atI ([.int ((kds i 0 : Nat) : Int), .int ((kds i 1 : Nat) : Int), .int ((kds i 2 : Nat) : Int)] : List V) ((kd i : Nat) : Int) = some (.int ((kds i (kd i) : Nat) : Int)) := atI_nat (by rcases hkl with h | h | h <;> rw [h] <;> rfl)
              refine s_setL hf10 (ev_op (ev_ixI (ev_var rfl) (ev_var rfl) (sq_of hf10) hat) ev_c rv_I0) (ev_var rfl) (ev_var rfl) hk3 fun H11 e11 => ⟨_, _, rfl, ?_⟩
              rw [upd_same, kds_succ, kds_succ, kds_succ]
              rcases hkl with h | h | h <;> rw [h] <;> rfl
            case hd6 =>
              rintro σ5 H9 ⟨u12, u17, rfl, hf⟩
              obtain ⟨c0, c1, c2⟩ := kds_all
              rw [show (256 : Int).toNat = 256 from rfl, c0, c1, c2] at hf
              refine s_ret (v := .bl true) ?fin fun H10 _ => q H10
              refine ev_opUU (xs := [.int 16, .int 128, .int 112]) (eu_tupA (ev_var rfl) (sq_of hf)) (eu_is (eu_call (ea_cons ev_c ea_nil) (SpCount (b := 4) (by decide) (by decide))) ?cr) fun p p' H1 hp hp' _ => rv_eqS (ci _ _ _ _ _ (st_of hp)) (ci _ _ _ _ _ (st_of hp')) (sh _ _ _)
              case cr =>
                have : pl 4 = 8 := by decide
                rw [this]
                rfl
end
theorem all_mk {l : PySem.W.OpenLaw} {w : World} {K : PySem.W.Frag} {h : Heap} {mg : Str → Option Value} {fa : Addr} (X : K.In h) (G : h.Ns mainGlobals mg) (hfa : mg "law" = some (.ref fa))
    {f0 f1 f2 f3 f4 f5 f6 f7 f8 f9 f10 f11 f12 f13 f14 f15 f16 f17 : Addr} {od0 an0 od1 an1 od2 an2 od3 an3 od4 an4 od5 an5 od6 an6 od7 an7 od8 an8 od9 an9 od10 an10 od11 an11 od12 an12 od13 an13 od14 an14 od15 an15 od16 an16 od17 an17 : Option Addr} {sl0 sl1 sl2 sl3 sl4 sl5 sl6 sl7 sl8 sl9 sl10 sl11 sl12 sl13 sl14 sl15 sl16 sl17 : Array (Option Value)} {oc0 kV0 dc0 pm0 cd0 ct0 oc1 kV1 dc1 pm1 cd1 ct1 oc2 kV2 dc2 pm2 cd2 ct2 oc3 kV3 dc3 pm3 cd3 ct3 oc4 kV4 dc4 pm4 cd4 ct4 oc5 kV5 dc5 pm5 cd5 ct5 oc6 kV6 dc6 pm6 cd6 ct6 oc7 kV7 dc7 pm7 cd7 ct7 oc8 kV8 dc8 pm8 cd8 ct8 oc9 kV9 dc9 pm9 cd9 ct9 oc10 kV10 dc10 pm10 cd10 ct10 oc11 kV11 dc11 pm11 cd11 ct11 oc12 kV12 dc12 pm12 cd12 ct12 oc13 kV13 dc13 pm13 cd13 ct13 oc14 kV14 dc14 pm14 cd14 ct14 oc15 kV15 dc15 pm15 cd15 ct15 oc16 kV16 dc16 pm16 cd16 ct16 oc17 kV17 dc17 pm17 cd17 ct17 : Value}
    (a0 : PySem.W.nsIn K mainGlobals "_law_row" = some (some (.ref f0))) (l0 : K.lookup f0 = some ⟨oc0, od0, .func (PySem.W.fnOf "_law_row" "_law_row" (defArgs s__law_row) (defBody s__law_row) (defScope s__law_row) .none kV0 dc0 pm0 an0 cd0 ct0), sl0⟩) (c0 : PySem.W.codeIn K cd0 "_law_row" = true) (k0 : PySem.W.keepIn K (.ref f0) = true)
    (a1 : PySem.W.nsIn K mainGlobals "_law_numbers" = some (some (.ref f1))) (l1 : K.lookup f1 = some ⟨oc1, od1, .func (PySem.W.fnOf "_law_numbers" "_law_numbers" (defArgs s__law_numbers) (defBody s__law_numbers) (defScope s__law_numbers) .none kV1 dc1 pm1 an1 cd1 ct1), sl1⟩) (c1 : PySem.W.codeIn K cd1 "_law_numbers" = true) (k1 : PySem.W.keepIn K (.ref f1) = true)
    (a2 : PySem.W.nsIn K mainGlobals "_law_checks" = some (some (.ref f2))) (l2 : K.lookup f2 = some ⟨oc2, od2, .func (PySem.W.fnOf "_law_checks" "_law_checks" (defArgs s__law_checks) (defBody s__law_checks) (defScope s__law_checks) .none kV2 dc2 pm2 an2 cd2 ct2), sl2⟩) (c2 : PySem.W.codeIn K cd2 "_law_checks" = true) (k2 : PySem.W.keepIn K (.ref f2) = true)
    (a3 : PySem.W.nsIn K mainGlobals "_law_places" = some (some (.ref f3))) (l3 : K.lookup f3 = some ⟨oc3, od3, .func (PySem.W.fnOf "_law_places" "_law_places" (defArgs s__law_places) (defBody s__law_places) (defScope s__law_places) .none kV3 dc3 pm3 an3 cd3 ct3), sl3⟩) (c3 : PySem.W.codeIn K cd3 "_law_places" = true) (k3 : PySem.W.keepIn K (.ref f3) = true)
    (a4 : PySem.W.nsIn K mainGlobals "places_of" = some (some (.ref f4))) (l4 : K.lookup f4 = some ⟨oc4, od4, .func (PySem.W.fnOf "places_of" "places_of" (defArgs s_places_of) (defBody s_places_of) (defScope s_places_of) .none kV4 dc4 pm4 an4 cd4 ct4), sl4⟩) (c4 : PySem.W.codeIn K cd4 "places_of" = true) (k4 : PySem.W.keepIn K (.ref f4) = true)
    (a5 : PySem.W.nsIn K mainGlobals "check_places" = some (some (.ref f5))) (l5 : K.lookup f5 = some ⟨oc5, od5, .func (PySem.W.fnOf "check_places" "check_places" (defArgs s_check_places) (defBody s_check_places) (defScope s_check_places) .none kV5 dc5 pm5 an5 cd5 ct5), sl5⟩) (c5 : PySem.W.codeIn K cd5 "check_places" = true) (k5 : PySem.W.keepIn K (.ref f5) = true)
    (a6 : PySem.W.nsIn K mainGlobals "data_places" = some (some (.ref f6))) (l6 : K.lookup f6 = some ⟨oc6, od6, .func (PySem.W.fnOf "data_places" "data_places" (defArgs s_data_places) (defBody s_data_places) (defScope s_data_places) .none kV6 dc6 pm6 an6 cd6 ct6), sl6⟩) (c6 : PySem.W.codeIn K cd6 "data_places" = true) (k6 : PySem.W.keepIn K (.ref f6) = true)
    (a7 : PySem.W.nsIn K mainGlobals "coded" = some (some (.ref f7))) (l7 : K.lookup f7 = some ⟨oc7, od7, .func (PySem.W.fnOf "coded" "coded" (defArgs s_coded) (defBody s_coded) (defScope s_coded) .none kV7 dc7 pm7 an7 cd7 ct7), sl7⟩) (c7 : PySem.W.codeIn K cd7 "coded" = true) (k7 : PySem.W.keepIn K (.ref f7) = true)
    (a8 : PySem.W.nsIn K mainGlobals "ones_in" = some (some (.ref f8))) (l8 : K.lookup f8 = some ⟨oc8, od8, .func (PySem.W.fnOf "ones_in" "ones_in" (defArgs s_ones_in) (defBody s_ones_in) (defScope s_ones_in) .none kV8 dc8 pm8 an8 cd8 ct8), sl8⟩) (c8 : PySem.W.codeIn K cd8 "ones_in" = true) (k8 : PySem.W.keepIn K (.ref f8) = true)
    (a9 : PySem.W.nsIn K mainGlobals "spot_of" = some (some (.ref f9))) (l9 : K.lookup f9 = some ⟨oc9, od9, .func (PySem.W.fnOf "spot_of" "spot_of" (defArgs s_spot_of) (defBody s_spot_of) (defScope s_spot_of) .none kV9 dc9 pm9 an9 cd9 ct9), sl9⟩) (c9 : PySem.W.codeIn K cd9 "spot_of" = true) (k9 : PySem.W.keepIn K (.ref f9) = true)
    (a10 : PySem.W.nsIn K mainGlobals "state_of" = some (some (.ref f10))) (l10 : K.lookup f10 = some ⟨oc10, od10, .func (PySem.W.fnOf "state_of" "state_of" (defArgs s_state_of) (defBody s_state_of) (defScope s_state_of) .none kV10 dc10 pm10 an10 cd10 ct10), sl10⟩) (c10 : PySem.W.codeIn K cd10 "state_of" = true) (k10 : PySem.W.keepIn K (.ref f10) = true)
    (a11 : PySem.W.nsIn K mainGlobals "flipped" = some (some (.ref f11))) (l11 : K.lookup f11 = some ⟨oc11, od11, .func (PySem.W.fnOf "flipped" "flipped" (defArgs s_flipped) (defBody s_flipped) (defScope s_flipped) .none kV11 dc11 pm11 an11 cd11 ct11), sl11⟩) (c11 : PySem.W.codeIn K cd11 "flipped" = true) (k11 : PySem.W.keepIn K (.ref f11) = true)
    (a12 : PySem.W.nsIn K mainGlobals "differing" = some (some (.ref f12))) (l12 : K.lookup f12 = some ⟨oc12, od12, .func (PySem.W.fnOf "differing" "differing" (defArgs s_differing) (defBody s_differing) (defScope s_differing) .none kV12 dc12 pm12 an12 cd12 ct12), sl12⟩) (c12 : PySem.W.codeIn K cd12 "differing" = true) (k12 : PySem.W.keepIn K (.ref f12) = true)
    (a13 : PySem.W.nsIn K mainGlobals "count_rows" = some (some (.ref f13))) (l13 : K.lookup f13 = some ⟨oc13, od13, .func (PySem.W.fnOf "count_rows" "count_rows" (defArgs s_count_rows) (defBody s_count_rows) (defScope s_count_rows) .none kV13 dc13 pm13 an13 cd13 ct13), sl13⟩) (c13 : PySem.W.codeIn K cd13 "count_rows" = true) (k13 : PySem.W.keepIn K (.ref f13) = true)
    (a14 : PySem.W.nsIn K mainGlobals "_law_digits" = some (some (.ref f14))) (l14 : K.lookup f14 = some ⟨oc14, od14, .func (PySem.W.fnOf "_law_digits" "_law_digits" (defArgs s__law_digits) (defBody s__law_digits) (defScope s__law_digits) .none kV14 dc14 pm14 an14 cd14 ct14), sl14⟩) (c14 : PySem.W.codeIn K cd14 "_law_digits" = true) (k14 : PySem.W.keepIn K (.ref f14) = true)
    (a15 : PySem.W.nsIn K mainGlobals "_law_row_of" = some (some (.ref f15))) (l15 : K.lookup f15 = some ⟨oc15, od15, .func (PySem.W.fnOf "_law_row_of" "_law_row_of" (defArgs s__law_row_of) (defBody s__law_row_of) (defScope s__law_row_of) .none kV15 dc15 pm15 an15 cd15 ct15), sl15⟩) (c15 : PySem.W.codeIn K cd15 "_law_row_of" = true) (k15 : PySem.W.keepIn K (.ref f15) = true)
    (a16 : PySem.W.nsIn K mainGlobals "_law_value" = some (some (.ref f16))) (l16 : K.lookup f16 = some ⟨oc16, od16, .func (PySem.W.fnOf "_law_value" "_law_value" (defArgs s__law_value) (defBody s__law_value) (defScope s__law_value) .none kV16 dc16 pm16 an16 cd16 ct16), sl16⟩) (c16 : PySem.W.codeIn K cd16 "_law_value" = true) (k16 : PySem.W.keepIn K (.ref f16) = true)
    (a17 : PySem.W.nsIn K mainGlobals "law" = some (some (.ref f17))) (l17 : K.lookup f17 = some ⟨oc17, od17, .func (PySem.W.fnOf "law" "law" (defArgs s_law) (defBody s_law) (defScope s_law) .none kV17 dc17 pm17 an17 cd17 ct17), sl17⟩) (c17 : PySem.W.codeIn K cd17 "law" = true) (k17 : PySem.W.keepIn K (.ref f17) = true)
    (z_abs : PySem.W.nsIn K mainGlobals "abs" = some none)
    (z_enumerate : PySem.W.nsIn K mainGlobals "enumerate" = some none)
    (z_int : PySem.W.nsIn K mainGlobals "int" = some none)
    (z_len : PySem.W.nsIn K mainGlobals "len" = some none)
    (z_max : PySem.W.nsIn K mainGlobals "max" = some none)
    (z_range : PySem.W.nsIn K mainGlobals "range" = some none)
    (z_sum : PySem.W.nsIn K mainGlobals "sum" = some none)
    (z_tuple : PySem.W.nsIn K mainGlobals "tuple" = some none)
    : ∃ fd : FuncData, (∀ (s : Shared) (v : Value), BindsTo s fd ⟨[v], []⟩ [("script", v)]) ∧ ∀ base : Heap, K.In base → base.Ns mainGlobals mg → FnOk l.prog w K mg base CX0 4 fa fd ["script"] (spLaw K) := by
  have e := hfa.symm.trans (PySem.W.mg_of X G a17)
  cases e
  have mz_abs := PySem.W.mg_none_of X G z_abs
  have mz_enumerate := PySem.W.mg_none_of X G z_enumerate
  have mz_int := PySem.W.mg_none_of X G z_int
  have mz_len := PySem.W.mg_none_of X G z_len
  have mz_max := PySem.W.mg_none_of X G z_max
  have mz_range := PySem.W.mg_none_of X G z_range
  have mz_sum := PySem.W.mg_none_of X G z_sum
  have mz_tuple := PySem.W.mg_none_of X G z_tuple
  refine ⟨PySem.W.fnOf "law" "law" (defArgs s_law) (defBody s_law) (defScope s_law) .none kV17 dc17 pm17 an17 cd17 ct17, fun s v => .of_eq rfl, fun base _ _ => ?_⟩
  have A__law_row : At K mg "_law_row" s__law_row := ⟨_, _, fun_mk (st := s__law_row) l0 c0 k0, PySem.W.mg_of X G a0⟩
  have A__law_numbers : At K mg "_law_numbers" s__law_numbers := ⟨_, _, fun_mk (st := s__law_numbers) l1 c1 k1, PySem.W.mg_of X G a1⟩
  have A__law_checks : At K mg "_law_checks" s__law_checks := ⟨_, _, fun_mk (st := s__law_checks) l2 c2 k2, PySem.W.mg_of X G a2⟩
  have A__law_places : At K mg "_law_places" s__law_places := ⟨_, _, fun_mk (st := s__law_places) l3 c3 k3, PySem.W.mg_of X G a3⟩
  have A_places_of : At K mg "places_of" s_places_of := ⟨_, _, fun_mk (st := s_places_of) l4 c4 k4, PySem.W.mg_of X G a4⟩
  have A_check_places : At K mg "check_places" s_check_places := ⟨_, _, fun_mk (st := s_check_places) l5 c5 k5, PySem.W.mg_of X G a5⟩
  have A_data_places : At K mg "data_places" s_data_places := ⟨_, _, fun_mk (st := s_data_places) l6 c6 k6, PySem.W.mg_of X G a6⟩
  have A_coded : At K mg "coded" s_coded := ⟨_, _, fun_mk (st := s_coded) l7 c7 k7, PySem.W.mg_of X G a7⟩
  have A_ones_in : At K mg "ones_in" s_ones_in := ⟨_, _, fun_mk (st := s_ones_in) l8 c8 k8, PySem.W.mg_of X G a8⟩
  have A_spot_of : At K mg "spot_of" s_spot_of := ⟨_, _, fun_mk (st := s_spot_of) l9 c9 k9, PySem.W.mg_of X G a9⟩
  have A_state_of : At K mg "state_of" s_state_of := ⟨_, _, fun_mk (st := s_state_of) l10 c10 k10, PySem.W.mg_of X G a10⟩
  have A_flipped : At K mg "flipped" s_flipped := ⟨_, _, fun_mk (st := s_flipped) l11 c11 k11, PySem.W.mg_of X G a11⟩
  have A_differing : At K mg "differing" s_differing := ⟨_, _, fun_mk (st := s_differing) l12 c12 k12, PySem.W.mg_of X G a12⟩
  have A_count_rows : At K mg "count_rows" s_count_rows := ⟨_, _, fun_mk (st := s_count_rows) l13 c13 k13, PySem.W.mg_of X G a13⟩
  have A__law_digits : At K mg "_law_digits" s__law_digits := ⟨_, _, fun_mk (st := s__law_digits) l14 c14 k14, PySem.W.mg_of X G a14⟩
  have A__law_row_of : At K mg "_law_row_of" s__law_row_of := ⟨_, _, fun_mk (st := s__law_row_of) l15 c15 k15, PySem.W.mg_of X G a15⟩
  have A__law_value : At K mg "_law_value" s__law_value := ⟨_, _, fun_mk (st := s__law_value) l16 c16 k16, PySem.W.mg_of X G a16⟩
  have F_law := fun_mk (st := s_law) l17 c17 k17
  have D_row : Dfn l.prog w K mg base 1 "_law_row" p__law_row spRow := ok_row A__law_row mz_abs mz_int mz_range
  have D_num : Dfn l.prog w K mg base 2 "_law_numbers" p__law_numbers (spNumbers K) := ok_numbers A__law_numbers D_row mz_len mz_max
  have D_ck : Dfn l.prog w K mg base 1 "_law_checks" p__law_checks (spList ckN) := ok_checks A__law_checks mz_range
  have D_lp : Dfn l.prog w K mg base 2 "_law_places" p__law_places spPlaces := ok_lplaces A__law_places D_ck mz_len
  have D_pl : Dfn l.prog w K mg base 1 "places_of" p_places_of spPlaces := ok_places A_places_of
  have D_cp : Dfn l.prog w K mg base 2 "check_places" p_check_places (spList ckN) := ok_check A_check_places D_pl mz_range
  have D_dp : Dfn l.prog w K mg base 2 "data_places" p_data_places (spList dtN) := ok_data A_data_places D_pl mz_range
  have D_df : Dfn l.prog w K mg base 1 "differing" p_differing spDiff := ok_differing A_differing mz_range
  have D_on : Dfn l.prog w K mg base 2 "ones_in" p_ones_in spOnes := ok_ones A_ones_in D_df mz_len
  have D_sp : Dfn l.prog w K mg base 2 "spot_of" p_spot_of spSpot := ok_spot A_spot_of D_pl mz_range
  have D_fl : Dfn l.prog w K mg base 1 "flipped" p_flipped (spFlip K) := ok_flipped A_flipped
  have D_co : Dfn l.prog w K mg base 3 "coded" p_coded spCod := ok_coded A_coded D_dp D_cp D_sp D_fl D_on mz_enumerate
  have D_st : Dfn l.prog w K mg base 3 "state_of" p_state_of spState := ok_state A_state_of D_sp D_on D_pl
  have D_cr : Dfn l.prog w K mg base 2 "count_rows" p_count_rows spCount := ok_count A_count_rows D_pl
  have D_dg : Dfn l.prog w K mg base 1 "_law_digits" p__law_digits spDigits := ok_digits A__law_digits mz_int
  have D_ro : Dfn l.prog w K mg base 1 "_law_row_of" p__law_row_of (spRowOf K) := ok_rowof A__law_row_of mz_range mz_sum
  have D_lv : Dfn l.prog w K mg base 1 "_law_value" p__law_value (spLvalue K) := ok_lvalue A__law_value mz_range mz_int
  exact ok_law F_law D_num D_lp D_lv D_co D_st D_cr D_dg D_ro mz_range mz_len mz_int mz_enumerate mz_tuple
end My_farword_k14_words_far_apart
open PySem PySem.W PyProof.Rows
set_option maxRecDepth 100000 in
set_option maxHeartbeats 0 in
theorem My_top : PySem.Challenge.rw_farword_k14_words_far_apart.Holds := by
  w_on; o_law; k_head; (case hw => w_witness2)
  k_fill
  refine L2.walk_of (l := PySem.Challenge.rw_farword_k14_words_far_apart) (n := 63) (k := 4) (x := "script") (CX := fun _ => L2.CX0) (sp := fun w => My_farword_k14_words_far_apart.spLaw _) rfl (by decide) rfl ⟨rfl, by decide, by decide⟩ (fun w h Y => PySem.W.kIn_of Y) ?F (fun _ _ a ns hl _ hS => ⟨a, ns, rfl, hS, hl, fun _ => rfl⟩) (fun _ _ _ _ _ h => h)
  case F =>
    intro w mg fa h KX G hmg
    refine' My_farword_k14_words_far_apart.all_mk KX G hmg ?a0 ?l0 ?c0 ?k0 ?a1 ?l1 ?c1 ?k1 ?a2 ?l2 ?c2 ?k2 ?a3 ?l3 ?c3 ?k3 ?a4 ?l4 ?c4 ?k4 ?a5 ?l5 ?c5 ?k5 ?a6 ?l6 ?c6 ?k6 ?a7 ?l7 ?c7 ?k7 ?a8 ?l8 ?c8 ?k8 ?a9 ?l9 ?c9 ?k9 ?a10 ?l10 ?c10 ?k10 ?a11 ?l11 ?c11 ?k11 ?a12 ?l12 ?c12 ?k12 ?a13 ?l13 ?c13 ?k13 ?a14 ?l14 ?c14 ?k14 ?a15 ?l15 ?c15 ?k15 ?a16 ?l16 ?c16 ?k16 ?a17 ?l17 ?c17 ?k17 ?z_abs ?z_enumerate ?z_int ?z_len ?z_max ?z_range ?z_sum ?z_tuple
    (case a0 => k_is)
    (case l0 => k_is)
    (case c0 => k_is)
    (case k0 => k_is)
    (case a1 => k_is)
    (case l1 => k_is)
    (case c1 => k_is)
    (case k1 => k_is)
    (case a2 => k_is)
    (case l2 => k_is)
    (case c2 => k_is)
    (case k2 => k_is)
    (case a3 => k_is)
    (case l3 => k_is)
    (case c3 => k_is)
    (case k3 => k_is)
    (case a4 => k_is)
    (case l4 => k_is)
    (case c4 => k_is)
    (case k4 => k_is)
    (case a5 => k_is)
    (case l5 => k_is)
    (case c5 => k_is)
    (case k5 => k_is)
    (case a6 => k_is)
    (case l6 => k_is)
    (case c6 => k_is)
    (case k6 => k_is)
    (case a7 => k_is)
    (case l7 => k_is)
    (case c7 => k_is)
    (case k7 => k_is)
    (case a8 => k_is)
    (case l8 => k_is)
    (case c8 => k_is)
    (case k8 => k_is)
    (case a9 => k_is)
    (case l9 => k_is)
    (case c9 => k_is)
    (case k9 => k_is)
    (case a10 => k_is)
    (case l10 => k_is)
    (case c10 => k_is)
    (case k10 => k_is)
    (case a11 => k_is)
    (case l11 => k_is)
    (case c11 => k_is)
    (case k11 => k_is)
    (case a12 => k_is)
    (case l12 => k_is)
    (case c12 => k_is)
    (case k12 => k_is)
    (case a13 => k_is)
    (case l13 => k_is)
    (case c13 => k_is)
    (case k13 => k_is)
    (case a14 => k_is)
    (case l14 => k_is)
    (case c14 => k_is)
    (case k14 => k_is)
    (case a15 => k_is)
    (case l15 => k_is)
    (case c15 => k_is)
    (case k15 => k_is)
    (case a16 => k_is)
    (case l16 => k_is)
    (case c16 => k_is)
    (case k16 => k_is)
    (case a17 => k_is)
    (case l17 => k_is)
    (case c17 => k_is)
    (case k17 => k_is)
    (case z_abs => k_is)
    (case z_enumerate => k_is)
    (case z_int => k_is)
    (case z_len => k_is)
    (case z_max => k_is)
    (case z_range => k_is)
    (case z_sum => k_is)
    (case z_tuple => k_is)
theorem PySem.Challenge.cw_farword_k14_words_far_apart_holds : PySem.Challenge.rw_farword_k14_words_far_apart.Holds :=
  My_top
