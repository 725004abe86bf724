import PyProof.Rows.All
import Wide.All
import OpenK.AllK
import Wide.FinOn
import HandS.ForMost
import HandS.Evl
import HandS.IsInst
import HandS.WideBits
import KE.KSortedM
import HandS.Zip
import HandS.Gcd
import HandS.Codes
import KE.KMathGC
import KE.KTupSum
import KE.DataMinMax
import HandS.NoneIn
import HandS.SetFor
import HandS.Deep
import HandS.Nested
import HandS.ClsMeth
import HandS.ExcInit
import HandS.FStr
import KE.KExcSuper
import KE.KSuperObj
import HandS.ForExc
import HandS.ExcField
import HandS.ExcIs
import KE.KIsAll
import KE.KTryMore
import PySem.Challenge.RW_farword_k21_numbers_of_ways
set_option Elab.async false
set_option linter.all false
set_option maxRecDepth 100000
set_option maxHeartbeats 4000000
/-! ### Common ground of my proofs: a def as the law's text has it, what expressions evaluate to -/
namespace My
open PySem PySem.Spec PyProof.Rows L2 Evl

section
variable {P : Program} {w : World} {K : PySem.W.Frag} {mg : Str → Option Value} {base : Heap}
/-- the def st stands under its name -/
def At (K : PySem.W.Frag) (mg : Str → Option Value) (x : Str) (st : Stmt) : Prop := ∃ f fd, Fun K x x st f fd ∧ mg x = some (.ref f)
/-- a def of the module that keeps a promise -/
structure Dfn (P : Program) (w : World) (K : PySem.W.Frag) (mg : Str → Option Value) (base : Heap) (k : Nat) (x : Str) (ps : List Str) (sp : Sp) : Prop where
  ex : ∃ (f : Addr) (fd : FuncData), FnOk P w K mg base CX0 k f fd ps sp ∧ mg x = some (.ref f) ∧ PySem.W.keepIn K (.ref f) = true ∧ Binds K fd ps []
theorem dfn_ok {x : Str} {st : Stmt} {N ps : List Str} {k : Nat} {sp : Sp} (A : At K mg x st) (S : FnScope N ps (defScope st))
    (hb : ∀ (kV doc pm : Value) (an : Option Addr) (cdv ct : Value) (us : List Value), us.length = ps.length → bindArgs (PySem.W.fnOf x x (defArgs st) (defBody st) (defScope st) .none kV doc pm an cdv ct) ⟨us, []⟩ = pure (ps.zip us))
    (len : ∀ vs H Q E, sp vs H Q E → vs.length = ps.length)
    (hbody : ∀ (f : Addr) (cdv : Value) (A : Around) (outer : List Env) (s : Shared) (H : Hp) (vs : List V) (Q : VK) (E : XK), Room k (A.deeper (envOfC x (defScope st) s.heap.objs.size f cdv)) → sp vs H Q E →
      ∃ t, PSs (cxOf CX0 P w K mg base N x (defScope st) f cdv A outer s H E).nox (defBody st) t ∧ t { nx := fun _ H' => Q .non H', rt := Q } (start N vs) H) : Dfn P w K mg base (k + 1) x ps sp := by
  obtain ⟨f, fd, F, hm⟩ := A
  exact ⟨f, fd, F.ok S len (hbody f), hm, F.kp, F.binds hb⟩
theorem Dfn.mono {x : Str} {ps : List Str} {j k : Nat} {sp : Sp} (D : Dfn P w K mg base j x ps sp) (h : j ≤ k) : Dfn P w K mg base k x ps sp := by
  obtain ⟨f, fd, F, r⟩ := D.ex
  exact ⟨f, fd, F.mono h, r⟩
end
section
variable {X : Cx} {k : Nat} {x : Str} {ps : List Str} {sp : Sp} {e : Expr} {es : List Expr} {p pos : Pos} {t : TA}
theorem pe_d (D : Dfn X.prog X.w X.K X.mg X.base k x ps sp) (hr : Room k X.A) (ha : PA X (e :: es) t) (hg : Gl X x := by rfl) (hdb : (x == ("__debug__" : Str)) = false := by decide)
    (he : starEach (e :: es) X.env = (false, eval e X.env) :: starEach es X.env := by rfl) (hpl : (backTo pos (starEach es X.env)).any (·.1) = false := by rfl) : PE X (.Call (.Name x p) (e :: es) [] pos) (tCall sp [] E0 t) := by
  obtain ⟨f, fd, F, hm, hk, hb⟩ := D.ex
  exact pe_call F hr hg hm hk hb .nil pass0 ha hdb he hpl
end

section
variable {K : PySem.W.Frag} {σ : L2.St} {H H' : Hp} {ta tb te tx : TE} {t u : TT} {x y z v : V} {r : R2}
/-! ### what evaluates to what, more of it -/
theorem ev_abs {i : Int} (h : EvA (tCons te tNil) σ H [.int i]) : Ev (tCB (fun xs H Q => ∃ i, xs = [.int i] ∧ Q (.int (if i < 0 then -i else i)) H) (tCons te tNil)) σ H (.int (if i < 0 then -i else i)) :=
  ev_cb h fun H1 _ _ q => ⟨i, rfl, q H1 (Ex.refl H1)⟩
theorem ev_int {i : Int} {ta : TA} (h : EvA ta σ H [.int i]) : Ev (tCB (fun xs H Q => (∃ i, xs = [.int i] ∧ Q (.int i) H) ∨ ∃ k, xs = [.bl k] ∧ Q (.int (if k then 1 else 0)) H) ta) σ H (.int i) :=
  ev_cb h fun H1 _ _ q => Or.inl ⟨i, rfl, q H1 (Ex.refl H1)⟩
theorem ev_intB {k : Bool} {ta : TA} (h : EvA ta σ H [.bl k]) : Ev (tCB (fun xs H Q => (∃ i, xs = [.int i] ∧ Q (.int i) H) ∨ ∃ k, xs = [.bl k] ∧ Q (.int (if k then 1 else 0)) H) ta) σ H (.int (if k then 1 else 0)) :=
  ev_cb h fun H1 _ _ q => Or.inr ⟨k, rfl, q H1 (Ex.refl H1)⟩
theorem ev_ite {b : Bool} {v1 v2 : V} (h : EvT t σ H b) (h1 : Ev ta σ H v1) (h2 : Ev tb σ H v2) : Ev (tIf t ta tb) σ H (if b then v1 else v2) := by
  cases b with
  | true => exact ev_if h (fun _ => h1) fun e => Bool.noConfusion e
  | false => exact ev_if h (fun e => Bool.noConfusion e) fun _ => h2
theorem rv_chain {r r' : R2} {tc : TE} {b c : Bool} (ha : Ev ta σ H x) (hb : Ev tb σ H y) (hr : RV r x y H (.bl b)) (hc : b = true → Ev tc σ H z) (hr' : b = true → RV r' y z H (.bl c)) : Ev (tChain r r' ta tb tc) σ H (.bl (b && c)) := fun H1 e Q q =>
  ha H1 e _ fun H2 e2 => hb H2 (e.trans e2) _ fun H3 e3 => hr H3 ((e.trans e2).trans e3) _ fun H4 e4 => ⟨b, rfl, by
    cases b with
    | true =>
      have e5 := ((e.trans e2).trans e3).trans e4
      exact iteT (hc rfl H4 e5 _ fun H5 e6 => hr' rfl H5 (e5.trans e6) Q fun H6 e7 => q H6 ((((e2.trans e3).trans e4).trans e6).trans e7))
    | false => exact iteF (q H4 ((e2.trans e3).trans e4))⟩
/-- tuple(..) of a list or a tuple -/
def rTupS (K : PySem.W.Frag) : List V → Hp → VK → Prop := fun xs H Q => ∃ p ys, xs = [.ref p] ∧ ((SqL K H p ys ∧ ∀ l, H l = none → Q (.ref l) (upd H l (.tup ys))) ∨ (SqT K H p ys ∧ Q (.ref p) H))
def rTupT (K : PySem.W.Frag) : List V → Hp → VK → Prop := fun xs H Q => ∃ a ys, xs = [.ref a] ∧ SqT K H a ys ∧ Q (.ref a) H
/-- a list at an address evaluates to itself; a new list as a value somewhere -/
theorem EvL.any {xs : List V} (h : EvL te σ H xs) : ∀ H1, Ex H H1 → ∀ Q : VK, (∀ p H2, H2 p = some (.lst xs) → Ex H1 H2 → Q (.ref p) H2) → te σ H1 Q := fun H1 e Q q => h H1 e Q fun p H2 _ e2 h2 => q p H2 h2 e2
end
/-! ### new lists of which only a property is known -/
section
variable {K : PySem.W.Frag} {σ : L2.St} {H H' : Hp} {ta tb te tx tl : TE} {t u : TT} {x y z v : V} {r : R2} {D : Ends} {tu tw tz : TS} {g : TG}
def EvP (te : TE) (σ : L2.St) (H : Hp) (P : List V → Prop) : Prop := ∀ H1, Ex H H1 → ∀ Q : VK, (∀ xs p H2, P xs → H1 p = none → Ex H1 H2 → H2 p = some (.lst xs) → Q (.ref p) H2) → te σ H1 Q
def SpP (sp : Sp) (vs : List V) (H : Hp) (P : List V → Prop) : Prop := ∀ H1, Ex H H1 → ∀ Q : VK, (∀ xs p H2, P xs → H1 p = none → Ex H1 H2 → H2 p = some (.lst xs) → Q (.ref p) H2) → ∀ E : XK, sp vs H1 Q E
theorem evP_call {sp : Sp} {dvs vs : List V} {E : XK} {ta : TA} {P : List V → Prop} (h : EvA ta σ H vs) (hs : SpP sp (vs ++ dvs) H P) : EvP (tCall sp dvs E ta) σ H P := fun H1 e Q q =>
  h H1 e _ fun H2 e2 => hs H2 (e.trans e2) Q (fun xs p H3 hP hp e3 h3 => q xs p H3 hP (fresh_back e2 hp) (e2.trans e3) h3) E
theorem q_asgP {i : Nat} {P : List V → Prop} (h : EvP te σ H P) (k : ∀ xs p H1, P xs → H p = none → Ex H H1 → H1 p = some (.lst xs) → tz D (σ.set i (some (.ref p))) H1) : tSeq (tAsg te (gName i)) tz D σ H :=
  h H (Ex.refl H) _ fun xs p H1 hP hp e h1 => k xs p H1 hP hp e h1
theorem s_forP {P : List V → Prop} (h : EvP tl σ H P) (Pv : List V → Addr → Nat → L2.St → Hp → Prop) (h0 : ∀ xs p H1, P xs → H p = none → Ex H H1 → H1 p = some (.lst xs) → Pv xs p 0 σ H1)
    (hl : ∀ xs p i σ' H', i ≤ xs.length → Pv xs p i σ' H' → SqL K H' p xs) (hs : ∀ xs p i x σ' H', xs[i]? = some x → Pv xs p i σ' H' → g x σ' H' fun σ2 H2 => tu { D with nx := Pv xs p (i + 1), ct := Pv xs p (i + 1), bk := D.nx } σ2 H2)
    (hd : ∀ xs p σ' H', Pv xs p xs.length σ' H' → D.nx σ' H') : tFor (iList K tl) g tu D σ H :=
  h H (Ex.refl H) _ fun xs p H1 hP hp e h1 => ⟨p, rfl, ⟨xs, sq_of h1⟩, for_list (Pv xs p) (h0 xs p H1 hP hp e h1) (hl xs p) (hs xs p) (hd xs p)⟩
theorem cut_take (xs : List V) (k : Nat) : cutV xs none (some (k : Int)) = xs.take k := by
  unfold cutV
  rw [HT.sIx_none, HT.sIx_nat, List.drop_zero, Nat.sub_zero]
  by_cases h : k ≤ xs.length
  · rw [Nat.min_eq_left h]
  · rw [Nat.min_eq_right (by omega), List.take_of_length_le (Nat.le_refl _), List.take_of_length_le (by omega)]
theorem ev_max1 {i j : Int} {ta : TA} (h : EvA ta σ H [.int i, .int j]) : Ev (tCB (fun xs H Q => ∃ i j, xs = [.int i, .int j] ∧ Q (.int (if j > i then j else i)) H) ta) σ H (.int (if j > i then j else i)) :=
  ev_cb h fun H1 _ _ q => ⟨i, j, rfl, q H1 (Ex.refl H1)⟩
theorem ev_lenL {p : Addr} {xs : List V} (ha : Ev ta σ H (.ref p)) (h : SqL K H p xs) : Ev (tCB (rLenS K) (tCons ta tNil)) σ H (.int (xs.length : Int)) := fun H1 e Q q =>
  ha H1 e _ fun H2 e2 => ⟨p, xs, rfl, Or.inl (ex_l (e.trans e2) h), q H2 e2⟩
theorem int_at {ns : List Int} {i : Nat} {x : V} (h : (ns.map V.int)[i]? = some x) : ∃ n, ns[i]? = some n ∧ x = .int n := by
  rw [List.getElem?_map] at h
  cases e : ns[i]? with
  | none => rw [e] at h; cases h
  | some n => rw [e] at h; exact ⟨n, rfl, (Option.some.inj h).symm⟩
end
/-! ### data that are compared as wholes -/
def Lay (d : PyData) (n : Nat) : Prop := d.canLay0 = true ∧ d.depth ≤ n
def LayA (ds : List PyData) (n : Nat) : Prop := PyData.canLayAll0 ds = true ∧ PyData.depthAll ds ≤ n
theorem Lay.int (i : Int) {n : Nat} : Lay (.int i) n := ⟨by simp [PyData.canLay0], by simp [PyData.depth]⟩
theorem Lay.bool (b : Bool) {n : Nat} : Lay (.bool b) n := ⟨by simp [PyData.canLay0], by simp [PyData.depth]⟩
theorem Lay.str {x : Str} {n : Nat} (h : PyData.strOk x = true) : Lay (.str x) n := ⟨by simp [PyData.canLay0, h], by simp [PyData.depth]⟩
theorem Lay.none {n : Nat} : Lay .none n := ⟨by simp [PyData.canLay0], by simp [PyData.depth]⟩
theorem Lay.list {ds : List PyData} {n : Nat} (h : LayA ds n) : Lay (.list ds) (n + 1) := ⟨by simpa [PyData.canLay0] using h.1, by have := h.2; simp only [PyData.depth]; omega⟩
theorem Lay.tuple {ds : List PyData} {n : Nat} (h : LayA ds n) : Lay (.tuple ds) (n + 1) := ⟨by simpa [PyData.canLay0] using h.1, by have := h.2; simp only [PyData.depth]; omega⟩
theorem LayA.nil {n : Nat} : LayA [] n := ⟨by simp [PyData.canLayAll0], by simp [PyData.depthAll]⟩
theorem LayA.cons {d : PyData} {ds : List PyData} {n : Nat} (h : Lay d n) (h2 : LayA ds n) : LayA (d :: ds) n :=
  ⟨by simp [PyData.canLayAll0, h.1, h2.1], by have a := h.2; have b := h2.2; simp only [PyData.depthAll]; omega⟩
theorem LayA.map {α : Type} {f : α → PyData} {n : Nat} : ∀ {xs : List α}, (∀ x ∈ xs, Lay (f x) n) → LayA (xs.map f) n
  | [], _ => LayA.nil
  | _ :: xs, h => LayA.cons (h _ List.mem_cons_self) (LayA.map fun x hx => h x (List.mem_cons_of_mem _ hx))
theorem Lay.sh {d : PyData} {n : Nat} (h : Lay d n) (hn : n ≤ 64 := by decide) : SeqAt.shaped d = true := by
  unfold SeqAt.shaped
  rw [h.1, decide_eq_true (Nat.le_trans h.2 hn)]
  rfl
section
variable {K : PySem.W.Frag} {H H' : Hp}
mutual
theorem dp_ex (e : Ex H H') : ∀ {v : V} {d : PyData}, Dp K H v d → Dp K H' v d
  | _, _, .non => .non
  | _, _, .bl b => .bl b
  | _, _, .int i => .int i
  | _, _, .str x => .str x
  | _, _, .lst h a => .lst (ex_l e h) (dpa_ex e a)
  | _, _, .tup h a => .tup (ex_t e h) (dpa_ex e a)
theorem dpa_ex (e : Ex H H') : ∀ {vs : List V} {ds : List PyData}, DpAll K H vs ds → DpAll K H' vs ds
  | _, _, .nil => .nil
  | _, _, .cons h t => .cons (dp_ex e h) (dpa_ex e t)
end
theorem dpa_ints : ∀ ns : List Int, DpAll K H (ns.map V.int) (ns.map PyData.int)
  | [] => .nil
  | n :: r => .cons (.int n) (dpa_ints r)
theorem dp_ints {a : Addr} {ns : List Int} (h : SqL K H a (ns.map V.int)) : Dp K H (.ref a) (.list (ns.map PyData.int)) := .lst h (dpa_ints ns)
theorem dp_intsT {a : Addr} {ns : List Int} (h : SqT K H a (ns.map V.int)) : Dp K H (.ref a) (.tuple (ns.map PyData.int)) := .tup h (dpa_ints ns)
theorem lay_ints (ns : List Int) {n : Nat} : Lay (.list (ns.map PyData.int)) (n + 1) := .list (.map fun _ _ => .int _)
theorem lay_intsT (ns : List Int) {n : Nat} : Lay (.tuple (ns.map PyData.int)) (n + 1) := .tuple (.map fun _ _ => .int _)
theorem rv_neD {x y : V} {d e : PyData} (hx : Dp K H x d) (hy : Dp K H y e) (sd : SeqAt.shaped d = true) (se : SeqAt.shaped e = true) : RV (rNeD K) x y H (.bl (!PyData.eqv d e)) := fun H1 e1 Q q => ⟨d, e, dp_ex e1 hx, dp_ex e1 hy, sd, se, q H1 (Ex.refl H1)⟩
theorem rv_eqD {x y : V} {d e : PyData} (hx : Dp K H x d) (hy : Dp K H y e) (sd : SeqAt.shaped d = true) (se : SeqAt.shaped e = true) : RV (rEqD K) x y H (.bl (PyData.eqv d e)) := fun H1 e1 Q q => ⟨d, e, dp_ex e1 hx, dp_ex e1 hy, sd, se, q H1 (Ex.refl H1)⟩
theorem eqv_self {d : PyData} (h : SeqAt.shaped d = true) : PyData.eqv d d = true := SeqAt.eqv_refl d (SeqAt.canLay_of_shaped h)
/-- the same data: != is False, == is True -/
theorem rv_neS {x y : V} {d : PyData} (hx : Dp K H x d) (hy : Dp K H y d) (sd : SeqAt.shaped d = true) : RV (rNeD K) x y H (.bl false) := fun H1 e1 Q q => ⟨d, d, dp_ex e1 hx, dp_ex e1 hy, sd, sd, by rw [eqv_self sd]; exact q H1 (Ex.refl H1)⟩
theorem rv_eqS {x y : V} {d : PyData} (hx : Dp K H x d) (hy : Dp K H y d) (sd : SeqAt.shaped d = true) : RV (rEqD K) x y H (.bl true) := fun H1 e1 Q q => ⟨d, d, dp_ex e1 hx, dp_ex e1 hy, sd, sd, by rw [eqv_self sd]; exact q H1 (Ex.refl H1)⟩
end
/-! ### lists of ints: joined, filtered, looked into -/
section
variable {K : PySem.W.Frag} {σ : L2.St} {H H' : Hp} {ta tb te tx tl : TE} {t u : TT} {x y z v : V} {r : R2}
theorem el_cat {xs ys : List V} (ha : EvL ta σ H xs) (hb : EvL tb σ H ys) (hz : xs.length + ys.length ≤ 100000) : EvL (tOp rCat ta tb) σ H (xs ++ ys) := fun H1 e Q q =>
  ha H1 e _ fun p H2 np e2 hp => hb H2 (e.trans e2) _ fun p' H3 np' e3 hp' => ⟨p, p', xs, ys, rfl, rfl, e3 _ _ hp, hp', sz_of hz, fun l nl => q l _ (fresh_back (e2.trans e3) nl) ((e2.trans e3).trans (Ex.new nl)) upd_same⟩
theorem el_is {xs ys : List V} (h : EvL te σ H xs) (e : xs = ys) : EvL te σ H ys := by
  rw [← e]
  exact h
theorem inV_ints (i : Int) : ∀ ns : List Int, inV (.int i) (ns.map V.int) = decide (i ∈ ns)
  | [] => rfl
  | n :: r => by
    show ((n == i) || inV (.int i) (r.map V.int)) = decide (i ∈ n :: r)
    rw [inV_ints i r]
    by_cases h : n = i
    · subst h
      simp
    · have h2 : ¬ i = n := fun e => h e.symm
      simp [h, h2]
theorem flat_ints : ∀ ns : List Int, (ns.map V.int).all flatV = true
  | [] => rfl
  | n :: r => flat_ints r
theorem rv_inI {neg : Bool} {p : Addr} {i : Int} {ns : List Int} (h : SqL K H p (ns.map V.int)) : RV (rIn K neg) (.int i) (.ref p) H (.bl (if neg then !decide (i ∈ ns) else decide (i ∈ ns))) := by
  rw [← inV_ints]
  exact rv_inL h rfl (flat_ints ns)
theorem rv_isI {p : Addr} {i : Int} {ns : List Int} (h : SqL K H p (ns.map V.int)) : RV (rIn K false) (.int i) (.ref p) H (.bl (decide (i ∈ ns))) := rv_inI (neg := false) h
theorem rv_niI {p : Addr} {i : Int} {ns : List Int} (h : SqL K H p (ns.map V.int)) : RV (rIn K true) (.int i) (.ref p) H (.bl (!decide (i ∈ ns))) := rv_inI (neg := true) h
theorem given_ints (n : Nat) (f : Nat → Bool) (g : Nat → Int) : given n f (fun i => V.int (g i)) = (((List.range n).filter f).map g).map V.int := by
  unfold given
  rw [List.map_map]
  rfl
theorem given_eq {n : Nat} {f f' : Nat → Bool} {g g' : Nat → V} (hf : ∀ i, i < n → f i = f' i) (hg : ∀ i, i < n → f' i = true → g i = g' i) : given n f g = given n f' g' := by
  unfold given
  rw [List.filter_congr fun i hi => hf i (List.mem_range.mp hi)]
  exact List.map_congr_left fun i hi => hg i (List.mem_range.mp (List.mem_filter.mp hi).1) (List.mem_filter.mp hi).2
theorem ev_isL {p : Addr} {xs : List V} (ha : Ev ta σ H (.ref p)) (h : H p = some (.lst xs)) : Ev (tCB (rIsi K) (tCons ta (tCons (tC (.ty "list")) tNil))) σ H (.bl true) :=
  ev_cb (ea_cons ha (ea_cons ev_c ea_nil)) fun H1 e _ q => ⟨.ref p, .ty "list", .type "list", .type "list", true, rfl, .ty _, .base (.lst (e _ _ h)), kit_ty (by decide +kernel), q H1 (Ex.refl H1)⟩
theorem ev_allL {bs : List Bool} {ta : TE} (ha : EvL ta σ H (bs.map V.bl)) : Ev (tCB (rAll K) (tCons ta tNil)) σ H (.bl (bs.all id)) := fun H1 e Q q =>
  ha H1 e _ fun p H2 _ e2 hp => ⟨p, bs, rfl, sq_of hp, q H2 e2⟩
theorem ev_sumL {ns : List Int} {ta : TE} (ha : EvL ta σ H (ns.map V.int)) : Ev (tCB (rSum K) (tCons ta tNil)) σ H (.int ns.sum) := fun H1 e Q q =>
  ha H1 e _ fun p H2 _ e2 hp => ⟨p, ns, rfl, sq_of hp, q H2 e2⟩
/-- len of a new list -/
theorem ev_lenN2 {xs : List V} {ta : TE} (ha : EvL ta σ H xs) : Ev (tCB (rLenS K) (tCons ta tNil)) σ H (.int (xs.length : Int)) := fun H1 e Q q =>
  ha H1 e _ fun p H2 _ e2 h2 => ⟨p, xs, rfl, Or.inl (sq_of h2), q H2 e2⟩
/-- an item of a list that is made on the spot -/
theorem ev_ixN {xs : List V} {i : Int} (ha : EvL ta σ H xs) (hb : Ev tb σ H (.int i)) (hx : atI xs i = some v) : Ev (tOp (rIxL K) ta tb) σ H v :=
  ev_opL1 ha (fun H1 e => hb.mono e) fun p H1 hp _ => rv_ixL (sq_of hp) hx
theorem ev_ixI {p : Addr} {xs : List V} {i : Int} (ha : Ev ta σ H (.ref p)) (hb : Ev tb σ H (.int i)) (h : SqL K H p xs) (hx : atI xs i = some v) : Ev (tOp (rIxL K) ta tb) σ H v := ev_op ha hb (rv_ixL h hx)
end
/-! ### values of which only a property is known -/
section
variable {K : PySem.W.Frag} {σ : L2.St} {H H' : Hp} {ta tb te tx tl : TE} {t u : TT} {x y z v : V} {r : R2} {D : Ends} {tu tw tz : TS} {P : V → Hp → Prop}
def EvG (te : TE) (σ : L2.St) (H : Hp) (P : V → Hp → Prop) : Prop := ∀ H1, Ex H H1 → ∀ Q : VK, (∀ v H2, Ex H1 H2 → P v H2 → Q v H2) → te σ H1 Q
theorem q_asgG {i : Nat} (h : EvG te σ H P) (k : ∀ v H1, Ex H H1 → P v H1 → tz D (σ.set i (some v)) H1) : tSeq (tAsg te (gName i)) tz D σ H := h H (Ex.refl H) _ fun v H1 e p => k v H1 e p
theorem s_asgG {i : Nat} (h : EvG te σ H P) (k : ∀ v H1, Ex H H1 → P v H1 → D.nx (σ.set i (some v)) H1) : tAsg te (gName i) D σ H := h H (Ex.refl H) _ fun v H1 e p => k v H1 e p
theorem s_retG (h : EvG te σ H P) (k : ∀ v H1, Ex H H1 → P v H1 → D.rt v H1) : tRet te D σ H := h H (Ex.refl H) _ fun v H1 e p => k v H1 e p
theorem EvG.imp {P' : V → Hp → Prop} (h : EvG te σ H P) (i : ∀ v H1, Ex H H1 → P v H1 → P' v H1) : EvG te σ H P' := fun H1 e Q q => h H1 e Q fun v H2 e2 p => q v H2 e2 (i v H2 (e.trans e2) p)
theorem EvL.g {xs : List V} (h : EvL te σ H xs) : EvG te σ H (fun v H' => ∃ p, v = .ref p ∧ H p = none ∧ H' p = some (.lst xs)) := fun H1 e Q q => h H1 e Q fun p H2 np e2 hp => q _ H2 e2 ⟨p, rfl, fresh_back e np, hp⟩
theorem EvU.g {xs : List V} (h : EvU te σ H xs) : EvG te σ H (fun v H' => ∃ p, v = .ref p ∧ H p = none ∧ H' p = some (.tup xs)) := fun H1 e Q q => h H1 e Q fun p H2 np e2 hp => q _ H2 e2 ⟨p, rfl, fresh_back e np, hp⟩
theorem Ev.g (h : Ev te σ H v) : EvG te σ H (fun v' _ => v' = v) := fun H1 e Q q => h H1 e Q fun H2 e2 => q _ H2 e2 rfl
/-- a list, a tuple that is made of two values -/
theorem evG_lst2 {P1 P2 : V → Hp → Prop} (h1 : EvG ta σ H P1) (m1 : ∀ v H1 H2, Ex H1 H2 → P1 v H1 → P1 v H2) (h2 : ∀ v H1, Ex H H1 → P1 v H1 → EvG tb σ H1 P2) (m2 : ∀ v H1 H2, Ex H1 H2 → P2 v H1 → P2 v H2) :
    EvG (tLst (tCons ta (tCons tb tNil))) σ H (fun v H' => ∃ p a b, v = .ref p ∧ H p = none ∧ H' p = some (.lst [a, b]) ∧ P1 a H' ∧ P2 b H') := fun H1 e Q q =>
  h1 H1 e _ fun a H2 e2 p1 => h2 a H2 (e.trans e2) p1 H2 (Ex.refl _) _ fun b H3 e3 p2 => ⟨(by decide : 2 ≤ sizeLine), fun p np =>
    q _ _ ((e2.trans e3).trans (Ex.new np)) ⟨p, a, b, rfl, fresh_back ((e.trans e2).trans e3) np, upd_same, m1 _ _ _ (e3.trans (Ex.new np)) p1, m2 _ _ _ (Ex.new np) p2⟩⟩
/-- data, told as a whole, of a value -/
theorem opG {P1 P2 : V → Hp → Prop} (h1 : EvG ta σ H P1) (m1 : ∀ v H1 H2, Ex H1 H2 → P1 v H1 → P1 v H2) (h2 : EvG tb σ H P2) (hr : ∀ a b H1, Ex H H1 → P1 a H1 → P2 b H1 → RV r a b H1 z) : Ev (tOp r ta tb) σ H z := fun H1 e Q q =>
  h1 H1 e _ fun a H2 e2 p1 => h2 H2 (e.trans e2) _ fun b H3 e3 p2 => hr a b H3 ((e.trans e2).trans e3) (m1 _ _ _ e3 p1) p2 H3 (Ex.refl _) Q fun H4 e4 => q H4 ((e2.trans e3).trans e4)
end
/-! ### enumerate; bits; the truth of a value -/
/-- a test that is a value's truth -/
def tTr (K : PySem.W.Frag) (ta : TE) : TT := fun σ H Q => ta σ H fun x H' => ∃ k, TruV K x H' k ∧ Q k H'
section
variable {K : PySem.W.Frag} {σ : L2.St} {H H' : Hp} {ta tb te tx tl : TE} {t u tt : TT} {x y z v : V} {r : R2} {D : Ends} {tu tw tz : TS}
theorem et_truI {i : Int} (h : Ev ta σ H (.int i)) : EvT (tTr K ta) σ H (i != 0) := fun H1 e _ q => h H1 e _ fun H2 e2 => ⟨i != 0, rfl, q H2 e2⟩
theorem s_forE {xs : List V} {j1 j2 : Nat} (h : EvL tl σ H xs) (Pv : Addr → Nat → L2.St → Hp → Prop) (h0 : ∀ p H1, H p = none → Ex H H1 → H1 p = some (.lst xs) → Pv p 0 σ H1) (hl : ∀ p i σ' H', i ≤ xs.length → Pv p i σ' H' → SqL K H' p xs)
    (hs : ∀ p i x σ' H', xs[i]? = some x → Pv p i σ' H' → ∀ T, H' T = none → tu { D with nx := Pv p (i + 1), ct := Pv p (i + 1), bk := D.nx } ((σ'.set j1 (some (.int ((i : Nat) : Int)))).set j2 (some x)) (upd H' T (.tup [.int ((i : Nat) : Int), x])))
    (hd : ∀ p σ' H', Pv p xs.length σ' H' → D.nx σ' H') : tFor (iEnum K (tCons tl tNil)) (gTup K 2 (gCons (gName j1) (gCons (gName j2) gNil))) tu D σ H :=
  h H (Ex.refl H) _ fun p H1 np e h1 => ⟨p, xs, rfl, sq_of h1, fun i m σ' H' => m = xs.length - i ∧ i ≤ xs.length ∧ Pv p i σ' H', ⟨xs.length, by simp, Nat.zero_le _, h0 p H1 np e h1⟩, by
    rintro i m σ' H' ⟨rfl, hi, pp⟩
    have q := hl p i σ' H' hi pp
    by_cases hlt : i < xs.length
    · refine .inr ⟨⟨xs, xs[i], q, by simp [hlt]⟩, Pv p (i + 1), fun σ2 H2 p' => ⟨xs.length - (i + 1), by omega, rfl, hlt, p'⟩, fun v H2 y => ?_⟩
      obtain ⟨T, x, rfl, nT, rfl, hx⟩ := y
      exact ⟨T, _, rfl, st_of upd_same, rfl, _, _, rfl, _, _, rfl, rfl, hs p i x σ' H' (hx xs q) pp T nT⟩
    · have e : i = xs.length := by omega
      subst e
      exact .inl ⟨⟨xs, q, Nat.le_refl _⟩, hd p σ' H' pp⟩⟩
theorem q_forE {xs : List V} {j1 j2 : Nat} (h : EvL tl σ H xs) (Pv : Addr → Nat → L2.St → Hp → Prop) (h0 : ∀ p H1, H p = none → Ex H H1 → H1 p = some (.lst xs) → Pv p 0 σ H1) (hl : ∀ p i σ' H', i ≤ xs.length → Pv p i σ' H' → SqL K H' p xs)
    (hs : ∀ p i x σ' H', xs[i]? = some x → Pv p i σ' H' → ∀ T, H' T = none → tu { D with nx := Pv p (i + 1), ct := Pv p (i + 1), bk := tz D } ((σ'.set j1 (some (.int ((i : Nat) : Int)))).set j2 (some x)) (upd H' T (.tup [.int ((i : Nat) : Int), x])))
    (hd : ∀ p σ' H', Pv p xs.length σ' H' → tz D σ' H') : tSeq (tFor (iEnum K (tCons tl tNil)) (gTup K 2 (gCons (gName j1) (gCons (gName j2) gNil))) tu) tz D σ H :=
  s_forE (D := { D with nx := tz D }) h Pv h0 hl hs hd
/-- [e for i, x in enumerate(new list) if t] -/
theorem el_lcE {xs : List V} {j1 j2 : Nat} {vs : List Nat} (f : Nat → Bool) (g : Nat → V) (h : EvL tl σ H xs) (hz : xs.length ≤ 40000) (hw : ∀ x y, wipe (((wipe σ vs).set j1 (some x)).set j2 (some y)) vs = wipe σ vs)
    (ht : ∀ (i : Nat) (x : V) H1, Ex H H1 → xs[i]? = some x → EvT tt (((wipe σ vs).set j1 (some (.int (i : Int)))).set j2 (some x)) H1 (f i)) (he : ∀ (i : Nat) (x : V) H1, Ex H H1 → xs[i]? = some x → f i = true → Ev te (((wipe σ vs).set j1 (some (.int (i : Int)))).set j2 (some x)) H1 (g i)) :
    EvL (tLc (iEnum K (tCons tl tNil)) (gTup K 2 (gCons (gName j1) (gCons (gName j2) gNil))) tt te vs) σ H (given xs.length f g) := fun H0 e Q q => h H0 e _ fun a H1 na e1 hx => ⟨a, xs, rfl, sq_of hx, fun Dl hD => by
  refine ⟨fun i m H' => m = xs.length - i ∧ i ≤ xs.length ∧ Cw H1 f g Dl i H', ⟨xs.length, by simp, Nat.zero_le _, hD, Ex.new hD, upd_same⟩, ?_⟩
  rintro i m H' ⟨rfl, hi, pp⟩
  have qx : SqL K H' a xs := sq_of (pp.2.1 _ _ hx)
  by_cases hlt : i < xs.length
  · refine .inr ⟨⟨xs, xs[i], qx, by simp [hlt]⟩, Cw H1 f g Dl (i + 1), fun H2 p' => ⟨xs.length - (i + 1), by omega, rfl, hlt, p'⟩, fun v H2 y => ?_⟩
    obtain ⟨T, x, rfl, nT, rfl, hxx⟩ := y
    have hix := hxx xs qx
    have hDT : Dl ≠ T := ne_of_none pp.2.2 nT
    have pp2 : Cw H1 f g Dl i (upd H' T (.tup [.int ((i : Nat) : Int), x])) := ⟨pp.1, pp.2.1.trans (Ex.new nT), by rw [upd_ne hDT]; exact pp.2.2⟩
    exact ⟨T, _, rfl, st_of upd_same, rfl, _, _, rfl, _, _, rfl, rfl, hw _ _, cw_turn pp2 (by omega) (ht i x H1 (e.trans e1) hix) (fun hf => he i x H1 (e.trans e1) hix hf)⟩
  · have e' : i = xs.length := by omega
    subst e'
    exact .inl ⟨⟨xs, qx, Nat.le_refl _⟩, q Dl H' (fresh_back e1 pp.1) (e1.trans pp.2.1) pp.2.2⟩⟩
theorem bitI (n p : Nat) : Builtin.bitAnd ((n : Int) / 2 ^ ((p : Int)).toNat) 1 = ((n.testBit p).toNat : Int) := by
  have e1 : ((n : Int) / 2 ^ ((p : Int)).toNat) = ((n / 2 ^ p : Nat) : Int) := by
    rw [Int.toNat_natCast]
    simp
  have e2 := Bits.bitAnd_mask (x := ((n / 2 ^ p : Nat) : Int)) 1 (Int.natCast_nonneg _)
  rw [e1]
  have e3 : ((2 : Int) ^ 1 - 1) = 1 := by decide
  rw [e3] at e2
  rw [e2, Nat.testBit_eq_decide_div_mod_eq]
  have h := Nat.mod_two_eq_zero_or_one (n / 2 ^ p)
  show (((n / 2 ^ p : Nat) : Int) % 2) = _
  rcases h with h | h
  · rw [decide_eq_false (by omega)]; show _ = (0 : Int); omega
  · rw [decide_eq_true h]; show _ = (1 : Int); omega
/-- n >> p & 1 -/
theorem ev_bit {n p : Nat} (ha : Ev ta σ H (.int (n : Int))) (hb : Ev tb σ H (.int (p : Int))) :
    Ev (tOp (rI0 fun i j => .int (Builtin.bitAnd i j)) (tOp (rI (fun _ j => 0 ≤ j) fun i j => .int (i / 2 ^ j.toNat)) ta tb) (tC (.int 1))) σ H (.int ((n.testBit p).toNat : Int)) := by
  have h := ev_op (ev_op ha hb (rv_I (C := fun _ j => 0 ≤ j) (g := fun i j => .int (i / 2 ^ j.toNat)) (Int.natCast_nonneg p))) (ev_c (v := .int 1)) (rv_I0 (g := fun i j => .int (Builtin.bitAnd i j)))
  rw [bitI] at h
  exact h
theorem et_bit {n p : Nat} (ha : Ev ta σ H (.int (n : Int))) (hb : Ev tb σ H (.int (p : Int))) :
    EvT (tTr K (tOp (rI0 fun i j => .int (Builtin.bitAnd i j)) (tOp (rI (fun _ j => 0 ≤ j) fun i j => .int (i / 2 ^ j.toNat)) ta tb) (tC (.int 1)))) σ H (n.testBit p) := et_is (et_truI (ev_bit ha hb)) (by cases n.testBit p <;> rfl)
theorem xorI (a b : Nat) : Builtin.bitXor (a : Int) (b : Int) = ((a ^^^ b : Nat) : Int) := by rw [Bits.bitXor_pp (Int.natCast_nonneg _) (Int.natCast_nonneg _)]; rfl
theorem orI (a b : Nat) : Builtin.bitOr (a : Int) (b : Int) = ((a ||| b : Nat) : Int) := by rw [Bits.bitOr_pp (Int.natCast_nonneg _) (Int.natCast_nonneg _)]; rfl
theorem andI (a b : Nat) : Builtin.bitAnd (a : Int) (b : Int) = ((a &&& b : Nat) : Int) := by
  unfold Builtin.bitAnd
  rw [decide_eq_true (Int.natCast_nonneg a), decide_eq_true (Int.natCast_nonneg b)]
  rfl
theorem ev_xor {a b : Nat} (ha : Ev ta σ H (.int (a : Int))) (hb : Ev tb σ H (.int (b : Int))) : Ev (tOp (rI0 fun i j => .int (Builtin.bitXor i j)) ta tb) σ H (.int ((a ^^^ b : Nat) : Int)) := by
  have h := ev_op ha hb (rv_I0 (g := fun i j => .int (Builtin.bitXor i j)))
  rw [xorI] at h
  exact h
theorem ev_or {a b : Nat} (ha : Ev ta σ H (.int (a : Int))) (hb : Ev tb σ H (.int (b : Int))) : Ev (tOp (rI0 fun i j => .int (Builtin.bitOr i j)) ta tb) σ H (.int ((a ||| b : Nat) : Int)) := by
  have h := ev_op ha hb (rv_I0 (g := fun i j => .int (Builtin.bitOr i j)))
  rw [orI] at h
  exact h
theorem ev_and {a b : Nat} (ha : Ev ta σ H (.int (a : Int))) (hb : Ev tb σ H (.int (b : Int))) : Ev (tOp (rI0 fun i j => .int (Builtin.bitAnd i j)) ta tb) σ H (.int ((a &&& b : Nat) : Int)) := by
  have h := ev_op ha hb (rv_I0 (g := fun i j => .int (Builtin.bitAnd i j)))
  rw [andI] at h
  exact h
/-- a << p -/
theorem ev_shl {a p : Nat} (ha : Ev ta σ H (.int (a : Int))) (hb : Ev tb σ H (.int (p : Int))) (h1 : a < 2 ^ 64) (h2 : p ≤ 1000000) : Ev (tOp (rI CPow fun i j => .int (i * 2 ^ j.toNat)) ta tb) σ H (.int ((a * 2 ^ p : Nat) : Int)) := by
  have h := ev_op ha hb (rv_I (C := CPow) (g := fun i j => .int (i * 2 ^ j.toNat)) ⟨by omega, by omega, by omega⟩)
  have e : ((a : Int) * 2 ^ ((p : Int)).toNat) = ((a * 2 ^ p : Nat) : Int) := by rw [Int.toNat_natCast]; simp
  rw [e] at h
  exact h
theorem ev_bits {n : Nat} (ha : Ev ta σ H (.int (n : Int))) : Ev (tBits ta) σ H (.int ((Builtin.Int.intBits (n : Int) : Nat) : Int)) := fun H1 e Q q => ha H1 e _ fun H2 e2 => ⟨_, rfl, q H2 e2⟩
end
theorem bitsN (n : Nat) : Builtin.Int.intBits (n : Int) = if n = 0 then 0 else n.log2 + 1 := by
  unfold Builtin.Int.intBits
  by_cases h : n = 0
  · subst h; rfl
  · have h2 : ¬ ((n : Int) == 0) = true := by simp; exact h
    rw [if_neg h2, if_neg h]
    rfl
theorem bits_lt (n : Nat) : n < 2 ^ Builtin.Int.intBits (n : Int) := by
  rw [bitsN]
  split
  · subst_vars; decide
  · exact Nat.lt_log2_self
theorem bits_le {n k : Nat} (h : n < 2 ^ k) : Builtin.Int.intBits (n : Int) ≤ k := by
  rw [bitsN]
  split
  · exact Nat.zero_le _
  · rename_i h0
    have := (Nat.log2_lt h0).mpr h
    omega
end My
set_option linter.all false
/-! ### coded words: the mathematics -/
namespace My
/-- what comes by adding without carrying -/
def sx (l : List Nat) : Nat := l.foldl (· ^^^ ·) 0
theorem sx_from : ∀ (l : List Nat) (a : Nat), l.foldl (· ^^^ ·) a = a ^^^ sx l
  | [], a => by show a = a ^^^ 0; rw [Nat.xor_zero]
  | b :: r, a => by
    show r.foldl (· ^^^ ·) (a ^^^ b) = a ^^^ r.foldl (· ^^^ ·) (0 ^^^ b)
    rw [sx_from r, sx_from r, Nat.zero_xor, Nat.xor_assoc]
theorem sx_cons (a : Nat) (l : List Nat) : sx (a :: l) = a ^^^ sx l := by
  show l.foldl (· ^^^ ·) (0 ^^^ a) = _
  rw [Nat.zero_xor, sx_from]
theorem sx_append (l r : List Nat) : sx (l ++ r) = sx l ^^^ sx r := by
  unfold sx
  rw [List.foldl_append, sx_from r]
  rfl
theorem sx_one (a : Nat) : sx [a] = a := by rw [sx_cons]; exact Nat.xor_zero a
/-- places flipped, one after another -/
def flip (r : Nat) (ps : List Nat) : Nat := ps.foldl (fun r p => r ^^^ 2 ^ p) r
theorem flip_append (r : Nat) (a b : List Nat) : flip r (a ++ b) = flip (flip r a) b := by unfold flip; rw [List.foldl_append]
theorem tb_flip1 (r p q : Nat) : (r ^^^ 2 ^ p).testBit q = (r.testBit q ^^ decide (p = q)) := by rw [Nat.testBit_xor, Nat.testBit_two_pow]
/-- bits up to m -/
def bs (m n : Nat) : List Nat := (List.range m).filter fun p => n.testBit p
theorem bs_succ (m n : Nat) : bs (m + 1) n = bs m n ++ (if n.testBit m then [m] else []) := by
  unfold bs
  rw [List.range_succ, List.filter_append]
  by_cases h : n.testBit m = true
  · rw [if_pos h, List.filter_cons, if_pos h]; rfl
  · rw [if_neg h, List.filter_cons, if_neg h]; rfl
theorem bs_congr {m a b : Nat} (h : ∀ q, q < m → a.testBit q = b.testBit q) : bs m a = bs m b := by
  unfold bs
  exact List.filter_congr fun q hq => h q (List.mem_range.mp hq)
def spotN (m n : Nat) : Nat := sx (bs m n)
def parB (m n : Nat) : Bool := decide ((bs m n).length % 2 = 1)
theorem spot_succ (m n : Nat) : spotN (m + 1) n = spotN m n ^^^ (if n.testBit m then m else 0) := by
  unfold spotN
  rw [bs_succ, sx_append]
  split
  · rw [sx_one]
  · rfl
theorem par_succ (m n : Nat) : parB (m + 1) n = (parB m n ^^ n.testBit m) := by
  unfold parB
  rw [bs_succ, List.length_append]
  cases h : n.testBit m with
  | true =>
    rw [if_pos rfl]
    show decide (((bs m n).length + 1) % 2 = 1) = _
    by_cases e : (bs m n).length % 2 = 1
    · rw [decide_eq_true e, decide_eq_false (by omega)]; rfl
    · rw [decide_eq_false e, decide_eq_true (by omega)]; rfl
  | false =>
    rw [if_neg (by decide)]
    show decide (((bs m n).length + 0) % 2 = 1) = _
    rw [Nat.add_zero, Bool.xor_false]
theorem flip_low {m n p : Nat} (h : m ≤ p) : bs m (n ^^^ 2 ^ p) = bs m n := bs_congr fun q hq => by
  rw [tb_flip1, decide_eq_false (by omega), Bool.xor_false]
theorem spot_flip1 {m n p : Nat} (hp : p < m) : spotN m (n ^^^ 2 ^ p) = spotN m n ^^^ p := by
  induction m with
  | zero => omega
  | succ m ih =>
    rw [spot_succ, spot_succ, tb_flip1]
    by_cases e : p = m
    · subst e
      have h : spotN p (n ^^^ 2 ^ p) = spotN p n := by unfold spotN; rw [flip_low (Nat.le_refl _)]
      rw [h, decide_eq_true rfl]
      cases n.testBit p with
      | true =>
        show spotN p n ^^^ 0 = (spotN p n ^^^ p) ^^^ p
        rw [Nat.xor_assoc, Nat.xor_self]
      | false =>
        show spotN p n ^^^ p = (spotN p n ^^^ 0) ^^^ p
        rw [Nat.xor_zero]
    · rw [ih (by omega), decide_eq_false e, Bool.xor_false, Nat.xor_assoc, Nat.xor_assoc, Nat.xor_comm p]
theorem par_flip1 {m n p : Nat} (hp : p < m) : parB m (n ^^^ 2 ^ p) = !parB m n := by
  induction m with
  | zero => omega
  | succ m ih =>
    rw [par_succ, par_succ, tb_flip1]
    by_cases e : p = m
    · subst e
      have h : parB p (n ^^^ 2 ^ p) = parB p n := by unfold parB; rw [flip_low (Nat.le_refl _)]
      rw [h, decide_eq_true rfl]
      cases parB p n <;> cases n.testBit p <;> rfl
    · rw [ih (by omega), decide_eq_false e, Bool.xor_false]
      cases parB m n <;> cases n.testBit m <;> rfl
theorem spot_flip {m : Nat} : ∀ {ps : List Nat} {n : Nat}, (∀ p ∈ ps, p < m) → spotN m (flip n ps) = spotN m n ^^^ sx ps
  | [], n, _ => by show spotN m n = spotN m n ^^^ 0; rw [Nat.xor_zero]
  | p :: r, n, h => by
    show spotN m (flip (n ^^^ 2 ^ p) r) = _
    rw [spot_flip (fun q hq => h q (List.mem_cons_of_mem _ hq)), spot_flip1 (h p List.mem_cons_self), sx_cons, Nat.xor_assoc]
theorem par_flip {m : Nat} : ∀ {ps : List Nat} {n : Nat}, (∀ p ∈ ps, p < m) → parB m (flip n ps) = (parB m n ^^ decide (ps.length % 2 = 1))
  | [], n, _ => by show parB m n = _; simp
  | p :: r, n, h => by
    show parB m (flip (n ^^^ 2 ^ p) r) = _
    rw [par_flip (fun q hq => h q (List.mem_cons_of_mem _ hq)), par_flip1 (h p List.mem_cons_self), List.length_cons]
    by_cases e : r.length % 2 = 1
    · rw [decide_eq_true e, decide_eq_false (by omega)]; cases parB m n <;> rfl
    · rw [decide_eq_false e, decide_eq_true (by omega)]; cases parB m n <;> rfl
theorem bs_zero (m : Nat) : bs m 0 = [] := by
  unfold bs
  rw [List.filter_eq_nil_iff]
  intro q _
  simp
theorem spot_zero (m : Nat) : spotN m 0 = 0 := by unfold spotN; rw [bs_zero]; rfl
theorem par_zero (m : Nat) : parB m 0 = false := by unfold parB; rw [bs_zero]; rfl
/-! sums of powers -/
def rowOf (ps : List Nat) : Nat := (ps.map (2 ^ ·)).sum
theorem xor_mod2 (r s : Nat) : (r ^^^ s) % 2 = (r + s) % 2 := by
  have h : (r ^^^ s).testBit 0 = (r.testBit 0 ^^ s.testBit 0) := Nat.testBit_xor ..
  rw [Nat.testBit_zero, Nat.testBit_zero, Nat.testBit_zero] at h
  by_cases a : r % 2 = 1 <;> by_cases b : s % 2 = 1 <;> by_cases c : (r ^^^ s) % 2 = 1 <;> simp [a, b, c] at h <;> omega
theorem xor_add : ∀ (p r : Nat), r.testBit p = false → r ^^^ 2 ^ p = r + 2 ^ p
  | 0, r, h => by
    have h1 : r % 2 = 0 := by
      rw [Nat.testBit_zero] at h
      have := of_decide_eq_false h
      omega
    have a := Nat.xor_div_two (a := r) (b := 1)
    have b := xor_mod2 r 1
    have c : r / 2 ^^^ 1 / 2 = r / 2 := by
      show r / 2 ^^^ 0 = r / 2
      rw [Nat.xor_zero]
    rw [c] at a
    show r ^^^ 1 = r + 1
    omega
  | p + 1, r, h => by
    rw [Nat.testBit_succ] at h
    have ih := xor_add p (r / 2) h
    have a := Nat.xor_div_two (a := r) (b := 2 ^ (p + 1))
    have b := xor_mod2 r (2 ^ (p + 1))
    have e : 2 ^ (p + 1) / 2 = 2 ^ p := by rw [Nat.pow_succ]; omega
    have e2 : 2 ^ (p + 1) = 2 * 2 ^ p := by rw [Nat.pow_succ]; omega
    rw [e, ih] at a
    omega
theorem flip_sum : ∀ {ps : List Nat} {r : Nat}, ps.Nodup → (∀ p ∈ ps, r.testBit p = false) → flip r ps = r + rowOf ps
  | [], r, _, _ => rfl
  | p :: ps, r, nd, h => by
    have hn := List.nodup_cons.mp nd
    show flip (r ^^^ 2 ^ p) ps = r + (2 ^ p + rowOf ps)
    rw [flip_sum hn.2, xor_add p r (h p List.mem_cons_self), Nat.add_assoc]
    intro q hq
    rw [tb_flip1, h q (List.mem_cons_of_mem _ hq), decide_eq_false (by rintro rfl; exact hn.1 hq)]
    rfl
theorem flip_row {ps : List Nat} (nd : ps.Nodup) : flip 0 ps = rowOf ps := by
  rw [flip_sum nd (fun p _ => by simp), Nat.zero_add]
theorem tb_flip_nd : ∀ {ps : List Nat} {r q : Nat}, ps.Nodup → (flip r ps).testBit q = (r.testBit q ^^ decide (q ∈ ps))
  | [], r, q, _ => by show r.testBit q = _; simp
  | p :: ps, r, q, nd => by
    have hn := List.nodup_cons.mp nd
    show (flip (r ^^^ 2 ^ p) ps).testBit q = _
    rw [tb_flip_nd hn.2, tb_flip1]
    by_cases e : p = q
    · subst e
      rw [decide_eq_true rfl, decide_eq_false hn.1, decide_eq_true List.mem_cons_self]
      cases r.testBit p <;> rfl
    · rw [decide_eq_false e]
      have : (q ∈ p :: ps) ↔ q ∈ ps := by
        rw [List.mem_cons]
        exact ⟨fun h => h.elim (fun z => absurd z.symm e) id, Or.inr⟩
      rw [Bool.xor_false, decide_eq_decide.mpr this]
theorem bs_mem {m n q : Nat} : q ∈ bs m n ↔ q < m ∧ n.testBit q = true := by
  unfold bs
  rw [List.mem_filter, List.mem_range]
theorem bs_nodup (m n : Nat) : (bs m n).Nodup := List.Nodup.sublist List.filter_sublist List.nodup_range
theorem tb_row {ps : List Nat} {q : Nat} (nd : ps.Nodup) : (rowOf ps).testBit q = decide (q ∈ ps) := by
  rw [← flip_row nd, tb_flip_nd nd]
  simp
theorem row_bs {m n : Nat} (h : n < 2 ^ m) : rowOf (bs m n) = n := by
  refine Nat.eq_of_testBit_eq fun q => ?_
  rw [tb_row (bs_nodup m n)]
  by_cases hq : q < m
  · cases e : n.testBit q with
    | true => exact decide_eq_true (bs_mem.mpr ⟨hq, e⟩)
    | false => exact decide_eq_false fun z => by rw [(bs_mem.mp z).2] at e; cases e
  · rw [Nat.testBit_lt_two_pow (Nat.lt_of_lt_of_le h (Nat.pow_le_pow_right (by decide) (by omega)))]
    exact decide_eq_false fun z => hq (bs_mem.mp z).1
theorem row_lt {m : Nat} {ps : List Nat} (nd : ps.Nodup) (h : ∀ p ∈ ps, p < m) : rowOf ps < 2 ^ m := by
  refine Nat.lt_pow_two_of_testBit _ fun q hq => ?_
  rw [tb_row nd]
  exact decide_eq_false fun z => by have := h q z; omega
theorem bs_more {m k n : Nat} (h : n < 2 ^ m) (hk : m ≤ k) : bs k n = bs m n := by
  induction k with
  | zero => have : m = 0 := by omega
            subst this; rfl
  | succ k ih =>
    by_cases e : m = k + 1
    · rw [e]
    · rw [bs_succ, ih (by omega), Nat.testBit_lt_two_pow (Nat.lt_of_lt_of_le h (Nat.pow_le_pow_right (by decide) (by omega)))]
      simp
theorem bs_any {m k n : Nat} (h : n < 2 ^ m) (hk : n < 2 ^ k) : bs k n = bs m n := by
  by_cases e : m ≤ k
  · exact bs_more h e
  · exact (bs_more hk (by omega)).symm
/-- the digits of the sum of powers -/
theorem bs_filter {m : Nat} (f : Nat → Bool) : bs m (rowOf ((List.range m).filter f)) = (List.range m).filter f := by
  unfold bs
  refine List.filter_congr fun q hq => ?_
  rw [tb_row (List.Nodup.sublist List.filter_sublist List.nodup_range)]
  cases e : f q with
  | true => exact decide_eq_true (List.mem_filter.mpr ⟨hq, e⟩)
  | false => exact decide_eq_false fun z => by rw [(List.mem_filter.mp z).2] at e; cases e
theorem xor0 {a b : Nat} (h : a ^^^ b = 0) : a = b := by
  have e : a = (a ^^^ b) ^^^ b := by rw [Nat.xor_assoc, Nat.xor_self, Nat.xor_zero]
  rw [h, Nat.zero_xor] at e
  exact e
end My
set_option Elab.async false
set_option linter.all false
set_option maxRecDepth 100000
set_option maxHeartbeats 400000
/-! ### coded words: places, data places, the word of a value -/
namespace My
open PySem PySem.Spec PyProof.Rows L2 Evl
def rOf (b : Nat) : Nat := if b ≤ 4 then 3 else if b ≤ 11 then 4 else if b ≤ 26 then 5 else 6
def pl (b : Nat) : Nat := b + rOf b + 1
theorem rOf_le (b : Nat) : rOf b ≤ 6 := by unfold rOf; split <;> (try split) <;> (try split) <;> omega
theorem pow_lt {b t : Nat} (h4 : 4 ≤ b) (h32 : b ≤ 32) (ht : t ≤ 6) : ((1 : Int) * 2 ^ ((t : Int)).toNat < (b : Int) + (t : Int) + 1) ↔ t < rOf b := by
  have e : ((t : Int)).toNat = t := Int.toNat_natCast t
  rw [e]
  have h : t = 0 ∨ t = 1 ∨ t = 2 ∨ t = 3 ∨ t = 4 ∨ t = 5 ∨ t = 6 := by omega
  unfold rOf
  rcases h with rfl | rfl | rfl | rfl | rfl | rfl | rfl <;> (split <;> (try split) <;> (try split) <;> simp <;> omega)
def isPw (i : Nat) : Bool := i == 0 || i == 1 || i == 2 || i == 4 || i == 8 || i == 16 || i == 32
def ckN (b : Nat) : List Nat := (List.range (pl b)).filter isPw
def dtN (b : Nat) : List Nat := (List.range (pl b)).filter (fun i => !isPw i)
def iL (l : List Nat) : List Int := l.map fun (n : Nat) => (n : Int)
theorem pl_le {b : Nat} (h32 : b ≤ 32) : pl b ≤ 39 := by
  have := rOf_le b
  unfold pl
  omega
theorem pw_and : ∀ i, i < 40 → (decide (V.int (Builtin.bitAnd ((i : Nat) : Int) ((i : Int) - 1)) = V.int 0)) = isPw i := by decide +kernel
def lcN (b : Nat) : List Nat := 0 :: (List.range (rOf b)).map (2 ^ ·)
theorem lc_ck : ∀ b, b < 33 → 4 ≤ b → lcN b = ckN b := by decide +kernel
theorem ck_mem : ∀ b, b < 33 → 4 ≤ b → ∀ i, i < pl b → (decide ((i : Int) ∈ iL (ckN b))) = isPw i := by decide +kernel
theorem ck_len : ∀ b, b < 33 → 4 ≤ b → b + (ckN b).length = pl b := by decide +kernel
theorem dt_by (b : Nat) (h4 : 4 ≤ b) (h32 : b ≤ 32) : given (pl b) (fun i => !decide ((i : Int) ∈ iL (ckN b))) (fun i => V.int (i : Int)) = (iL (dtN b)).map V.int := by
  rw [given_eq (f' := fun i => !isPw i) (g' := fun i => V.int (i : Int)) (fun i hi => by rw [ck_mem b (by omega) h4 i hi]) (fun _ _ _ => rfl), given_ints]
  rfl

/-! ### data places by their numbers -/
def dt (b i : Nat) : Nat := (dtN b).getD i 0
theorem dt_len : ∀ b, b < 33 → 4 ≤ b → (dtN b).length = b := by decide +kernel
theorem dt_nodup (b : Nat) : (dtN b).Nodup := List.Nodup.sublist List.filter_sublist List.nodup_range
theorem ck_nodup (b : Nat) : (ckN b).Nodup := List.Nodup.sublist List.filter_sublist List.nodup_range
theorem dt_at {b i : Nat} (h4 : 4 ≤ b) (h32 : b ≤ 32) (h : i < b) : (dtN b)[i]? = some (dt b i) := by
  have hl := dt_len b (by omega) h4
  unfold dt
  rw [List.getD_eq_getElem?_getD, List.getElem?_eq_getElem (by omega)]
  rfl
theorem dt_mem {b i : Nat} (h4 : 4 ≤ b) (h32 : b ≤ 32) (h : i < b) : dt b i < pl b ∧ isPw (dt b i) = false := by
  have hm := List.mem_of_getElem? (dt_at h4 h32 h)
  unfold dtN at hm
  have hm := List.mem_filter.mp hm
  exact ⟨List.mem_range.mp hm.1, by have := hm.2; simpa using this⟩
theorem dt_inj {b i j : Nat} (h4 : 4 ≤ b) (h32 : b ≤ 32) (hi : i < b) (hj : j < b) (e : dt b i = dt b j) : i = j :=
  nd_ix (dt_nodup b) (dt_at h4 h32 hi) (by rw [e]; exact dt_at h4 h32 hj)
def onesN (b v : Nat) : List Nat := (bs b v).map (dt b)
theorem map_nodup {α β : Type} {f : α → β} : ∀ {l : List α}, l.Nodup → (∀ a ∈ l, ∀ c ∈ l, f a = f c → a = c) → (l.map f).Nodup
  | [], _, _ => List.nodup_nil
  | a :: r, nd, h => by
    have hn := List.nodup_cons.mp nd
    refine List.nodup_cons.mpr ⟨fun z => ?_, map_nodup hn.2 fun x hx y hy => h x (List.mem_cons_of_mem _ hx) y (List.mem_cons_of_mem _ hy)⟩
    obtain ⟨c, hc, e⟩ := List.mem_map.mp z
    have := h c (List.mem_cons_of_mem _ hc) a List.mem_cons_self e
    subst this
    exact hn.1 hc
theorem ones_nodup {b k v : Nat} (h4 : 4 ≤ b) (h32 : b ≤ 32) (hk : k ≤ b) : ((bs k v).map (dt b)).Nodup :=
  map_nodup (bs_nodup k v) fun x hx y hy e => dt_inj h4 h32 (by have := (bs_mem.mp hx).1; omega) (by have := (bs_mem.mp hy).1; omega) e
theorem ones_lt {b k v : Nat} (h4 : 4 ≤ b) (h32 : b ≤ 32) (hk : k ≤ b) : ∀ p ∈ (bs k v).map (dt b), p < pl b ∧ isPw p = false := fun p hp => by
  obtain ⟨i, hi, rfl⟩ := List.mem_map.mp hp
  exact dt_mem h4 h32 (by have := (bs_mem.mp hi).1; omega)
def cod0 (b v : Nat) : Nat := flip 0 (onesN b v)
def cksN (b s : Nat) : List Nat := (ckN b).filter fun p => (s &&& p) != 0
def cod1 (b v : Nat) : Nat := flip (cod0 b v) (cksN b (spotN (pl b) (cod0 b v)))
def cod (b v : Nat) : Nat := flip (cod1 b v) (if parB (pl b) (cod1 b v) then [0] else [])
theorem cks_lt (b s : Nat) : ∀ p ∈ cksN b s, p < pl b ∧ isPw p = true := fun p hp => by
  unfold cksN ckN at hp
  have h := List.mem_filter.mp (List.mem_filter.mp hp).1
  exact ⟨List.mem_range.mp h.1, h.2⟩
theorem cks_nodup (b s : Nat) : (cksN b s).Nodup := List.Nodup.sublist List.filter_sublist (ck_nodup b)
theorem cks_pos (b s : Nat) : 0 ∉ cksN b s := fun h => by
  unfold cksN at h
  have h := (List.mem_filter.mp h).2
  simp at h
/-- the check places of a spot add up to it -/
theorem cks_sx : ∀ r, r < 7 → 3 ≤ r → ∀ s, s < 2 ^ r → sx ((0 :: (List.range r).map (2 ^ ·)).filter fun p => (s &&& p) != 0) = s := by decide +kernel
theorem pl_pow {b : Nat} (h4 : 4 ≤ b) (h32 : b ≤ 32) : pl b ≤ 2 ^ rOf b := by
  have h : ∀ b, b < 33 → 4 ≤ b → pl b ≤ 2 ^ rOf b := by decide +kernel
  exact h b (by omega) h4
theorem sx_lt {r : Nat} : ∀ {l : List Nat}, (∀ p ∈ l, p < 2 ^ r) → sx l < 2 ^ r
  | [], _ => Nat.two_pow_pos r
  | a :: l, h => by
    rw [sx_cons]
    exact Nat.xor_lt_two_pow (h a List.mem_cons_self) (sx_lt fun p hp => h p (List.mem_cons_of_mem _ hp))
theorem spot_lt {b n : Nat} (h4 : 4 ≤ b) (h32 : b ≤ 32) : spotN (pl b) n < 2 ^ rOf b := sx_lt fun p hp => Nat.lt_of_lt_of_le (bs_mem.mp hp).1 (pl_pow h4 h32)
theorem cks_spot {b s : Nat} (h4 : 4 ≤ b) (h32 : b ≤ 32) (hs : s < 2 ^ rOf b) : sx (cksN b s) = s := by
  unfold cksN
  rw [← lc_ck b (by omega) h4]
  have h3 : 3 ≤ rOf b := by unfold rOf; split <;> (try split) <;> (try split) <;> omega
  exact cks_sx (rOf b) (by have := rOf_le b; omega) h3 s hs
theorem flip_lt {m : Nat} : ∀ {ps : List Nat} {n : Nat}, n < 2 ^ m → (∀ p ∈ ps, p < m) → flip n ps < 2 ^ m
  | [], _, h, _ => h
  | p :: r, n, h, hp => flip_lt (ps := r) (Nat.xor_lt_two_pow h (Nat.pow_lt_pow_right (by decide) (hp p List.mem_cons_self))) fun q hq => hp q (List.mem_cons_of_mem _ hq)
theorem pl_pos {b : Nat} : 0 < pl b := by unfold pl; omega
theorem or_xor {r p : Nat} (h : r.testBit p = false) : r ||| 2 ^ p = r ^^^ 2 ^ p := by
  refine Nat.eq_of_testBit_eq fun q => ?_
  rw [Nat.testBit_or, Nat.testBit_xor, Nat.testBit_two_pow]
  by_cases e : p = q
  · subst e
    rw [h, decide_eq_true rfl]
    rfl
  · rw [decide_eq_false e]
    cases r.testBit q <;> rfl
section
variable {b v : Nat} (h4 : 4 ≤ b) (h32 : b ≤ 32)
include h4 h32
theorem cod0_lt : cod0 b v < 2 ^ pl b := flip_lt (Nat.two_pow_pos _) fun p hp => (ones_lt h4 h32 (Nat.le_refl _) p hp).1
theorem cod1_lt : cod1 b v < 2 ^ pl b := flip_lt (cod0_lt h4 h32) fun p hp => (cks_lt _ _ p hp).1
theorem cod_lt : cod b v < 2 ^ pl b := flip_lt (cod1_lt h4 h32) fun p hp => by
  split at hp
  · rw [List.mem_singleton.mp hp]; exact pl_pos
  · cases hp
theorem cod1_spot : spotN (pl b) (cod1 b v) = 0 := by
  unfold cod1
  rw [spot_flip fun p hp => (cks_lt _ _ p hp).1, cks_spot h4 h32 (spot_lt h4 h32), Nat.xor_self]
theorem cod_spot : spotN (pl b) (cod b v) = 0 := by
  unfold cod
  rw [spot_flip, cod1_spot h4 h32]
  · split <;> rfl
  · intro p hp
    split at hp
    · rw [List.mem_singleton.mp hp]; exact pl_pos
    · cases hp
theorem cod_par : parB (pl b) (cod b v) = false := by
  unfold cod
  rw [par_flip]
  · cases parB (pl b) (cod1 b v) <;> rfl
  · intro p hp
    split at hp
    · rw [List.mem_singleton.mp hp]; exact pl_pos
    · cases hp
theorem cod1_bit0 : (cod1 b v).testBit 0 = false := by
  unfold cod1 cod0
  rw [tb_flip_nd (cks_nodup _ _), tb_flip_nd (show (onesN b v).Nodup from ones_nodup h4 h32 (Nat.le_refl _)), decide_eq_false (cks_pos _ _), decide_eq_false]
  · simp
  · intro z
    have := (ones_lt h4 h32 (Nat.le_refl _) 0 z).2
    cases this
/-- the word's end: the parity into the place 0 -/
theorem cod_end : cod1 b v ||| ((bs 40 (cod1 b v)).length &&& 1) = cod b v := by
  have hl : bs 40 (cod1 b v) = bs (pl b) (cod1 b v) := bs_more (cod1_lt h4 h32) (by have := pl_le h32; omega)
  rw [hl, Nat.and_one_is_mod]
  unfold cod parB
  rcases Nat.mod_two_eq_zero_or_one (bs (pl b) (cod1 b v)).length with h | h
  · rw [h]
    show cod1 b v ||| 0 = cod1 b v
    exact Nat.or_zero _
  · rw [h]
    show cod1 b v ||| 2 ^ 0 = cod1 b v ^^^ 2 ^ 0
    exact or_xor (cod1_bit0 h4 h32)
/-- the data places of the word -/
theorem cod_data {i : Nat} (hi : i < b) : (cod b v).testBit (dt b i) = v.testBit i := by
  have hd := dt_mem h4 h32 hi
  have hn : (if parB (pl b) (cod1 b v) then [0] else []).Nodup := by split <;> simp
  unfold cod
  rw [tb_flip_nd hn]
  unfold cod1 cod0
  rw [tb_flip_nd (cks_nodup _ _), tb_flip_nd (show (onesN b v).Nodup from ones_nodup h4 h32 (Nat.le_refl _))]
  have a1 : dt b i ∉ (if parB (pl b) (cod1 b v) then [0] else []) := by
    intro z
    split at z
    · rw [List.mem_singleton.mp z] at hd; exact Bool.noConfusion hd.2
    · cases z
  have a2 : dt b i ∉ cksN b (spotN (pl b) (flip 0 (onesN b v))) := fun z => by rw [(cks_lt _ _ _ z).2] at hd; exact Bool.noConfusion hd.2
  unfold cod1 cod0 at a1
  rw [decide_eq_false a1, decide_eq_false a2]
  have a3 : (dt b i ∈ onesN b v) ↔ v.testBit i = true := by
    constructor
    · intro z
      obtain ⟨j, hj, e⟩ := List.mem_map.mp z
      have hj := bs_mem.mp hj
      have := dt_inj h4 h32 hj.1 hi e
      subst this
      exact hj.2
    · exact fun z => List.mem_map.mpr ⟨i, bs_mem.mpr ⟨hi, z⟩, rfl⟩

  cases e : v.testBit i with
  | true => rw [decide_eq_true (a3.mpr e)]; simp
  | false => rw [decide_eq_false (fun z => by rw [a3.mp z] at e; cases e)]; simp
end
def valN (b n : Nat) : Nat := rowOf ((List.range b).filter fun i => n.testBit (dt b i))
theorem val_cod {b v : Nat} (h4 : 4 ≤ b) (h32 : b ≤ 32) (hv : v < 2 ^ b) : valN b (cod b v) = v := by
  unfold valN
  rw [List.filter_congr (q := fun i => v.testBit i) fun i hi => cod_data h4 h32 (List.mem_range.mp hi)]
  exact row_bs hv
/-! ### promises -/
def spPlaces : Sp := fun vs H Q _ => ∃ b : Nat, vs = [.int (b : Int)] ∧ 4 ≤ b ∧ b ≤ 32 ∧ ∀ H', Ex H H' → Q (.int ((pl b : Nat) : Int)) H'
theorem SpPlaces {H : Hp} {b : Nat} (h4 : 4 ≤ b) (h32 : b ≤ 32) : SpV spPlaces ([.int (b : Int)] ++ []) H (.int ((pl b : Nat) : Int)) := fun H1 e Q q E => ⟨b, rfl, h4, h32, q⟩
def spList (f : Nat → List Nat) : Sp := fun vs H Q _ => ∃ b : Nat, vs = [.int (b : Int)] ∧ 4 ≤ b ∧ b ≤ 32 ∧ ∀ p H', H p = none → Ex H H' → H' p = some (.lst ((iL (f b)).map V.int)) → Q (.ref p) H'
theorem SpList {f : Nat → List Nat} {H : Hp} {b : Nat} (h4 : 4 ≤ b) (h32 : b ≤ 32) : SpL (spList f) ([.int (b : Int)] ++ []) H ((iL (f b)).map V.int) := fun H1 e Q q E => ⟨b, rfl, h4, h32, q⟩

def spDiff : Sp := fun vs H Q _ => ∃ a c : Nat, vs = [.int (a : Int), .int (c : Int)] ∧ a < 2 ^ 40 ∧ c < 2 ^ 40 ∧ ∀ p H', H p = none → Ex H H' → H' p = some (.lst ((iL (bs 40 (a ^^^ c))).map V.int)) → Q (.ref p) H'
theorem SpDiff {H : Hp} {a c : Nat} (ha : a < 2 ^ 40) (hc : c < 2 ^ 40) : SpL spDiff ([.int (a : Int), .int (c : Int)] ++ []) H ((iL (bs 40 (a ^^^ c))).map V.int) := fun H1 e Q q E => ⟨a, c, rfl, ha, hc, q⟩
def spOnes : Sp := fun vs H Q _ => ∃ n : Nat, vs = [.int (n : Int)] ∧ n < 2 ^ 40 ∧ ∀ H', Ex H H' → Q (.int (((bs 40 n).length : Nat) : Int)) H'
theorem SpOnes {H : Hp} {n : Nat} (hn : n < 2 ^ 40) : SpV spOnes ([.int (n : Int)] ++ []) H (.int (((bs 40 n).length : Nat) : Int)) := fun H1 e Q q E => ⟨n, rfl, hn, q⟩
def spSpot : Sp := fun vs H Q _ => ∃ b n : Nat, vs = [.int (b : Int), .int (n : Int)] ∧ 4 ≤ b ∧ b ≤ 32 ∧ n < 2 ^ 40 ∧ ∀ H', Ex H H' → Q (.int ((spotN (pl b) n : Nat) : Int)) H'
theorem SpSpot {H : Hp} {b n : Nat} (h4 : 4 ≤ b) (h32 : b ≤ 32) (hn : n < 2 ^ 40) : SpV spSpot ([.int (b : Int), .int (n : Int)] ++ []) H (.int ((spotN (pl b) n : Nat) : Int)) := fun H1 e Q q E => ⟨b, n, rfl, h4, h32, hn, q⟩
def spFlip (K : PySem.W.Frag) : Sp := fun vs H Q _ => ∃ (n : Nat) (a : Addr) (ps : List Nat), vs = [.int (n : Int), .ref a] ∧ SqL K H a ((iL ps).map V.int) ∧ (∀ p ∈ ps, p < 64) ∧ ∀ H', Ex H H' → Q (.int ((flip n ps : Nat) : Int)) H'
theorem SpFlip {K : PySem.W.Frag} {H : Hp} {n : Nat} {a : Addr} {ps : List Nat} (h : SqL K H a ((iL ps).map V.int)) (hp : ∀ p ∈ ps, p < 64) : SpV (spFlip K) ([.int (n : Int), .ref a] ++ []) H (.int ((flip n ps : Nat) : Int)) := fun H1 e Q q E => ⟨n, a, ps, rfl, ex_l e h, hp, q⟩
def spCod : Sp := fun vs H Q _ => ∃ b v : Nat, vs = [.int (b : Int), .int (v : Int)] ∧ 4 ≤ b ∧ b ≤ 32 ∧ v < 2 ^ b ∧ ∀ H', Ex H H' → Q (.int ((cod b v : Nat) : Int)) H'
theorem SpCod {H : Hp} {b v : Nat} (h4 : 4 ≤ b) (h32 : b ≤ 32) (hn : v < 2 ^ b) : SpV spCod ([.int (b : Int), .int (v : Int)] ++ []) H (.int ((cod b v : Nat) : Int)) := fun H1 e Q q E => ⟨b, v, rfl, h4, h32, hn, q⟩
def spVal : Sp := fun vs H Q _ => ∃ b n : Nat, vs = [.int (b : Int), .int (n : Int)] ∧ 4 ≤ b ∧ b ≤ 32 ∧ ∀ H', Ex H H' → Q (.int ((valN b n : Nat) : Int)) H'
theorem SpVal {H : Hp} {b n : Nat} (h4 : 4 ≤ b) (h32 : b ≤ 32) : SpV spVal ([.int (b : Int), .int (n : Int)] ++ []) H (.int ((valN b n : Nat) : Int)) := fun H1 e Q q E => ⟨b, n, rfl, h4, h32, q⟩
/-- the state of a row -/
def stV (b n : Nat) : List V := if parB (pl b) n then (if spotN (pl b) n < pl b then [.str "one", .int ((spotN (pl b) n : Nat) : Int)] else [.str "more", .non]) else (if spotN (pl b) n = 0 then [.str "clean", .non] else [.str "more", .non])
def spState : Sp := fun vs H Q _ => ∃ b n : Nat, vs = [.int (b : Int), .int (n : Int)] ∧ 4 ≤ b ∧ b ≤ 32 ∧ n < 2 ^ pl b ∧ ∀ p H', H p = none → Ex H H' → H' p = some (.tup (stV b n)) → Q (.ref p) H'
def SpU (sp : Sp) (vs : List V) (H : Hp) (xs : List V) : Prop := ∀ H1, Ex H H1 → ∀ Q : VK, (∀ p H2, H1 p = none → Ex H1 H2 → H2 p = some (.tup xs) → Q (.ref p) H2) → ∀ E : XK, sp vs H1 Q E
theorem eu_call {σ : L2.St} {H : Hp} {sp : Sp} {dvs vs xs : List V} {E : XK} {ta : TA} (h : EvA ta σ H vs) (hs : SpU sp (vs ++ dvs) H xs) : EvU (tCall sp dvs E ta) σ H xs := fun H1 e Q q =>
  h H1 e _ fun H2 e2 => hs H2 (e.trans e2) Q (fun p H3 hp e3 h3 => q p H3 (fresh_back e2 hp) (e2.trans e3) h3) E
theorem SpState {H : Hp} {b n : Nat} (h4 : 4 ≤ b) (h32 : b ≤ 32) (hn : n < 2 ^ pl b) : SpU spState ([.int (b : Int), .int (n : Int)] ++ []) H (stV b n) := fun H1 e Q q E => ⟨b, n, rfl, h4, h32, hn, q⟩
theorem eu_ite {σ : L2.St} {H : Hp} {t : TT} {ta tb : TE} {b : Bool} {xs ys : List V} (h : EvT t σ H b) (h1 : EvU ta σ H xs) (h2 : EvU tb σ H ys) : EvU (tIf t ta tb) σ H (if b then xs else ys) := fun H1 e Q q => h H1 e _ fun H2 e2 => by
  cases b with
  | true => exact iteT (h1 H2 (e.trans e2) Q fun p H3 np e3 hp => q p H3 (fresh_back e2 np) (e2.trans e3) hp)
  | false => exact iteF (h2 H2 (e.trans e2) Q fun p H3 np e3 hp => q p H3 (fresh_back e2 np) (e2.trans e3) hp)
theorem eu_is {σ : L2.St} {H : Hp} {te : TE} {xs ys : List V} (h : EvU te σ H xs) (e : xs = ys) : EvU te σ H ys := by
  rw [← e]
  exact h
/-- a call whose second argument is a list made on the spot -/
theorem ev_callL2 {σ : L2.St} {H : Hp} {sp : Sp} {dvs ys : List V} {E : XK} {ta tb : TE} {x z : V} (ha : Ev ta σ H x) (hb : EvL tb σ H ys) (hs : ∀ p H1, Ex H H1 → H1 p = some (.lst ys) → SpV sp ([x, .ref p] ++ dvs) H1 z) : Ev (tCall sp dvs E (tCons ta (tCons tb tNil))) σ H z := fun H1 e Q q =>
  ha H1 e _ fun H2 e2 => hb H2 (e.trans e2) _ fun p H3 np e3 hp => hs p H3 ((e.trans e2).trans e3) hp H3 (Ex.refl _) Q (fun H4 e4 => q H4 ((e2.trans e3).trans e4)) E
theorem ev_callL1 {σ : L2.St} {H : Hp} {sp : Sp} {dvs ys : List V} {E : XK} {tb : TE} {z : V} (hb : EvL tb σ H ys) (hs : ∀ p H1, Ex H H1 → H1 p = some (.lst ys) → SpV sp ([.ref p] ++ dvs) H1 z) : Ev (tCall sp dvs E (tCons tb tNil)) σ H z := fun H1 e Q q =>
  hb H1 e _ fun p H3 np e3 hp => hs p H3 (e.trans e3) hp H3 (Ex.refl _) Q (fun H4 e4 => q H4 (e3.trans e4)) E
theorem iL_at {l : List Nat} {i : Nat} {x : V} (h : ((iL l).map V.int)[i]? = some x) : ∃ n, l[i]? = some n ∧ x = .int (n : Int) := by
  obtain ⟨k, hk, rfl⟩ := int_at h
  unfold iL at hk
  rw [List.getElem?_map] at hk
  cases e : l[i]? with
  | none => rw [e] at hk; cases hk
  | some n => rw [e] at hk; exact ⟨n, rfl, by rw [← Option.some.inj hk]⟩
theorem at_iL {l : List Nat} {i n : Nat} (h : l[i]? = some n) : ((iL l).map V.int)[i]? = some (.int (n : Int)) := by
  unfold iL
  rw [List.getElem?_map, List.getElem?_map, h]
  rfl
theorem iL_len (l : List Nat) : ((iL l).map V.int).length = l.length := by unfold iL; rw [List.length_map, List.length_map]
theorem iL_app (l r : List Nat) : (iL (l ++ r)).map V.int = (iL l).map V.int ++ (iL r).map V.int := by unfold iL; rw [List.map_append, List.map_append]
theorem given_iL (n : Nat) (f : Nat → Bool) : given n f (fun i => V.int ((i : Nat) : Int)) = (iL ((List.range n).filter f)).map V.int := given_ints n f _
theorem mem_iL {l : List Nat} {n : Nat} : ((n : Int) ∈ iL l) ↔ n ∈ l := by
  unfold iL
  rw [List.mem_map]
  constructor
  · rintro ⟨m, hm, e⟩
    have : m = n := by omega
    exact this ▸ hm
  · exact fun h => ⟨n, h, rfl⟩
theorem sum_iL : ∀ l : List Nat, (iL l).sum = ((l.sum : Nat) : Int)
  | [] => rfl
  | n :: r => by
    show ((n : Int) :: iL r).sum = _
    rw [List.sum_cons, sum_iL r, List.sum_cons]
    omega
/-- [e for place in list if t], the list's items known as numbers -/
theorem el_lcL' {K : PySem.W.Frag} {σ : L2.St} {H : Hp} {tl te : TE} {tt : TT} {j : Nat} {vs : List Nat} {l : List Nat} (f : Nat → Bool) (g : Nat → Nat) (h : EvL tl σ H ((iL l).map V.int)) (hz : l.length ≤ 40000) (hw : ∀ x, wipe ((wipe σ vs).set j (some x)) vs = wipe σ vs)
    (ht : ∀ (m : Nat), m ∈ l → ∀ H1, Ex H H1 → EvT tt ((wipe σ vs).set j (some (.int (m : Int)))) H1 (f m)) (he : ∀ (m : Nat), m ∈ l → ∀ H1, Ex H H1 → f m = true → Ev te ((wipe σ vs).set j (some (.int (m : Int)))) H1 (.int ((g m : Nat) : Int))) :
    EvL (tLc (iList K tl) (gName j) tt te vs) σ H ((iL ((l.filter f).map g)).map V.int) := by
  have key : ∀ l : List Nat, given l.length (fun i => f (l.getD i 0)) (fun i => V.int ((g (l.getD i 0) : Nat) : Int)) = (iL ((l.filter f).map g)).map V.int := by
    intro l
    unfold given
    have h1 : ((List.range l.length).filter (fun i => f (l.getD i 0))).map (fun i => l.getD i 0) = l.filter f := by
      have h2 : (List.range l.length).map (fun i => l.getD i 0) = l := by
        refine List.ext_getElem (by simp) fun i h1 h2 => ?_
        simp [List.getD_eq_getElem?_getD, List.getElem?_eq_getElem h2]
      have h3 : l.filter f = ((List.range l.length).map (fun i => l.getD i 0)).filter f := by rw [h2]
      rw [h3, List.filter_map]
      rfl
    rw [← h1]
    unfold iL
    rw [List.map_map, List.map_map, List.map_map]
    rfl
  have hd : ∀ {i : Nat} {m : Nat}, l[i]? = some m → l.getD i 0 = m := fun {i m} e => by rw [List.getD_eq_getElem?_getD, e]; rfl
  rw [← key l]
  have r := el_lcNL (K := K) (tl := tl) (j := j) (vs := vs) (t := tt) (te := te) (fun i => f (l.getD i 0)) (fun i => V.int ((g (l.getD i 0) : Nat) : Int)) h (by rw [iL_len]; exact hz) hw (fun i x H1 e1 hi => by
    obtain ⟨m, hm, rfl⟩ := iL_at hi
    rw [hd hm]
    exact ht m (List.mem_of_getElem? hm) H1 e1) (fun i x H1 e1 hi hf => by
    obtain ⟨m, hm, rfl⟩ := iL_at hi
    rw [hd hm] at hf ⊢
    exact he m (List.mem_of_getElem? hm) H1 e1 hf)
  rw [iL_len] at r
  exact r
/-- .. over a list that stands somewhere -/
theorem el_lcA' {K : PySem.W.Frag} {σ : L2.St} {H : Hp} {tl te : TE} {tt : TT} {j : Nat} {vs : List Nat} {l : List Nat} {a : Addr} (f : Nat → Bool) (g : Nat → Nat) (h : Ev tl σ H (.ref a)) (hx : SqL K H a ((iL l).map V.int)) (hz : l.length ≤ 40000) (hw : ∀ x, wipe ((wipe σ vs).set j (some x)) vs = wipe σ vs)
    (ht : ∀ (m : Nat), m ∈ l → ∀ H1, Ex H H1 → EvT tt ((wipe σ vs).set j (some (.int (m : Int)))) H1 (f m)) (he : ∀ (m : Nat), m ∈ l → ∀ H1, Ex H H1 → f m = true → Ev te ((wipe σ vs).set j (some (.int (m : Int)))) H1 (.int ((g m : Nat) : Int))) :
    EvL (tLc (iList K tl) (gName j) tt te vs) σ H ((iL ((l.filter f).map g)).map V.int) := by
  have key : ∀ l : List Nat, given l.length (fun i => f (l.getD i 0)) (fun i => V.int ((g (l.getD i 0) : Nat) : Int)) = (iL ((l.filter f).map g)).map V.int := by
    intro l
    unfold given
    have h1 : ((List.range l.length).filter (fun i => f (l.getD i 0))).map (fun i => l.getD i 0) = l.filter f := by
      have h2 : (List.range l.length).map (fun i => l.getD i 0) = l := by
        refine List.ext_getElem (by simp) fun i h1 h2 => ?_
        simp [List.getD_eq_getElem?_getD, List.getElem?_eq_getElem h2]
      have h3 : l.filter f = ((List.range l.length).map (fun i => l.getD i 0)).filter f := by rw [h2]
      rw [h3, List.filter_map]
      rfl
    rw [← h1]
    unfold iL
    rw [List.map_map, List.map_map, List.map_map]
    rfl
  have hd : ∀ {i : Nat} {m : Nat}, l[i]? = some m → l.getD i 0 = m := fun {i m} e => by rw [List.getD_eq_getElem?_getD, e]; rfl
  rw [← key l]
  have r := el_lcL (K := K) (tl := tl) (j := j) (vs := vs) (t := tt) (te := te) (fun i => f (l.getD i 0)) (fun i => V.int ((g (l.getD i 0) : Nat) : Int)) h hx (by rw [iL_len]; exact hz) hw (fun i x H1 e1 hi => by
    obtain ⟨m, hm, rfl⟩ := iL_at hi
    rw [hd hm]
    exact ht m (List.mem_of_getElem? hm) H1 e1) (fun i x H1 e1 hi hf => by
    obtain ⟨m, hm, rfl⟩ := iL_at hi
    rw [hd hm] at hf ⊢
    exact he m (List.mem_of_getElem? hm) H1 e1 hf)
  rw [iL_len] at r
  exact r
/-! ### what the law's own defs tell -/
def spDigits : Sp := fun vs H Q _ => ∃ n : Nat, vs = [.int (n : Int)] ∧ n < 2 ^ 64 ∧ ∀ p H', H p = none → Ex H H' → H' p = some (.lst ((iL (bs 64 n)).map V.int)) → Q (.ref p) H'
theorem SpDigits {H : Hp} {n : Nat} (hn : n < 2 ^ 64) : SpL spDigits ([.int (n : Int)] ++ []) H ((iL (bs 64 n)).map V.int) := fun H1 e Q q E => ⟨n, rfl, hn, q⟩
def spRowOf (K : PySem.W.Frag) : Sp := fun vs H Q _ => ∃ (a : Addr) (ps : List Nat), vs = [.ref a] ∧ SqL K H a ((iL ps).map V.int) ∧ (∀ p ∈ ps, p ≤ 40) ∧ ps.length ≤ 1000 ∧ ∀ H', Ex H H' → Q (.int ((rowOf ps : Nat) : Int)) H'
theorem SpRowOf {K : PySem.W.Frag} {H : Hp} {a : Addr} {ps : List Nat} (h : SqL K H a ((iL ps).map V.int)) (hp : ∀ p ∈ ps, p ≤ 40) (hl : ps.length ≤ 1000) : SpV (spRowOf K) ([.ref a] ++ []) H (.int ((rowOf ps : Nat) : Int)) := fun H1 e Q q E => ⟨a, ps, rfl, ex_l e h, hp, hl, q⟩
def spLspot : Sp := fun vs H Q _ => ∃ n : Nat, vs = [.int (n : Int)] ∧ n < 2 ^ 64 ∧ ∀ H', Ex H H' → Q (.int ((spotN 64 n : Nat) : Int)) H'
theorem SpLspot {H : Hp} {n : Nat} (hn : n < 2 ^ 64) : SpV spLspot ([.int (n : Int)] ++ []) H (.int ((spotN 64 n : Nat) : Int)) := fun H1 e Q q E => ⟨n, rfl, hn, q⟩
def spLvalue (K : PySem.W.Frag) : Sp := fun vs H Q _ => ∃ (a : Addr) (ns : List Int) (i b : Nat), vs = [.ref a, .int (i : Int), .int (b : Int)] ∧ SqL K H a (ns.map V.int) ∧ (∀ n ∈ ns, 0 ≤ n ∧ n < 1009) ∧ i + 3 < ns.length ∧ 4 ≤ b ∧ b ≤ 32 ∧ ∀ (v : Nat) H', v < 2 ^ b → Ex H H' → Q (.int (v : Int)) H'
/-- the digits of a sum without carrying -/
theorem tb_sx (k : Nat) : ∀ l : List Nat, (sx l).testBit k = decide ((l.filter fun p => p.testBit k).length % 2 = 1)
  | [] => by show (0 : Nat).testBit k = _; simp
  | a :: r => by
    rw [sx_cons, Nat.testBit_xor, tb_sx k r, List.filter_cons]
    cases e : a.testBit k with
    | true =>
      rw [if_pos rfl, List.length_cons]
      by_cases h : (r.filter fun p => p.testBit k).length % 2 = 1
      · rw [decide_eq_true h, decide_eq_false (by omega)]; rfl
      · rw [decide_eq_false h, decide_eq_true (by omega)]; rfl
    | false =>
      rw [if_neg (by decide)]
      simp
theorem spot64 {m n : Nat} (h : n < 2 ^ m) (hm : m ≤ 64) : spotN 64 n = spotN m n := by unfold spotN; rw [bs_more h hm]
theorem row_ext {b : Nat} (l : List Nat) : rowOf l = (l.map (2 ^ ·)).sum := rfl
/-- the two ways to the check places that are turned -/
theorem cks_eq {b s : Nat} (h4 : 4 ≤ b) (h32 : b ≤ 32) (hs : s < 64) : (ckN b).filter (fun c => decide (0 < c) && decide (s / c % 2 = 1)) = cksN b s := by
  have h : ∀ c, c < 40 → isPw c = true → ∀ s, s < 64 → (decide (0 < c) && decide (s / c % 2 = 1)) = ((s &&& c) != 0) := by decide +kernel
  unfold cksN
  refine List.filter_congr fun c hc => ?_
  have hc := List.mem_filter.mp hc
  have := pl_le h32
  exact h c (by have := List.mem_range.mp hc.1; omega) hc.2 s hs
/-- the word, as the law makes it -/
theorem cod_law {b v : Nat} (h4 : 4 ≤ b) (h32 : b ≤ 32) :
    rowOf ((onesN b v ++ cksN b (spotN (pl b) (cod0 b v))) ++ (if (onesN b v ++ cksN b (spotN (pl b) (cod0 b v))).length % 2 = 1 then [0] else [])) = cod b v := by
  have dis : ∀ x ∈ onesN b v, x ∉ cksN b (spotN (pl b) (cod0 b v)) := fun x hx hy => by
    have a := (ones_lt h4 h32 (Nat.le_refl _) x hx).2
    rw [(cks_lt _ _ x hy).2] at a
    cases a
  have nd : (onesN b v ++ cksN b (spotN (pl b) (cod0 b v))).Nodup := List.nodup_append.mpr ⟨ones_nodup h4 h32 (Nat.le_refl _), cks_nodup _ _, fun a ha c hc e => dis a ha (e ▸ hc)⟩
  have n0 : 0 ∉ onesN b v ++ cksN b (spotN (pl b) (cod0 b v)) := fun z => by
    rcases List.mem_append.mp z with z | z
    · have := (ones_lt h4 h32 (Nat.le_refl _) 0 z).2; cases this
    · exact cks_pos _ _ z
  have lt : ∀ p ∈ onesN b v ++ cksN b (spotN (pl b) (cod0 b v)), p < pl b := fun p hp => by
    rcases List.mem_append.mp hp with z | z
    · exact (ones_lt h4 h32 (Nat.le_refl _) p z).1
    · exact (cks_lt _ _ p z).1
  have f1 : flip 0 (onesN b v ++ cksN b (spotN (pl b) (cod0 b v))) = cod1 b v := by rw [flip_append]; rfl
  have par : parB (pl b) (cod1 b v) = decide ((onesN b v ++ cksN b (spotN (pl b) (cod0 b v))).length % 2 = 1) := by
    rw [← f1, par_flip lt, par_zero, Bool.false_xor]
  rw [← flip_row]
  · rw [flip_append, f1]
    unfold cod
    rw [par]
    by_cases h : (onesN b v ++ cksN b (spotN (pl b) (cod0 b v))).length % 2 = 1
    · rw [if_pos h, if_pos (decide_eq_true h)]
    · rw [if_neg h, if_neg (by rw [decide_eq_false h]; decide)]
  · split
    · exact List.nodup_append.mpr ⟨nd, by simp, fun a ha c hc e => by rw [List.mem_singleton.mp hc] at e; exact n0 (e ▸ ha)⟩
    · rw [List.append_nil]; exact nd
/-- xs + [..], xs a list that stands somewhere -/
theorem el_catA {σ : L2.St} {H : Hp} {ta tb : TE} {p : Addr} {xs ys : List V} (ha : Ev ta σ H (.ref p)) (hp : H p = some (.lst xs)) (hb : EvL tb σ H ys) (hz : xs.length + ys.length ≤ 100000) : EvL (tOp rCat ta tb) σ H (xs ++ ys) := fun H1 e Q q =>
  ha H1 e _ fun H2 e2 => hb H2 (e.trans e2) _ fun p' H3 np' e3 hp' => ⟨p, p', xs, ys, rfl, rfl, ((e.trans e2).trans e3) _ _ hp, hp', sz_of hz, fun l nl => q l _ (fresh_back (e2.trans e3) nl) ((e2.trans e3).trans (Ex.new nl)) upd_same⟩
theorem bs_len (m n : Nat) : (bs m n).length ≤ m := by
  have := List.length_filter_le (fun p => n.testBit p) (List.range m)
  rw [List.length_range] at this
  exact this
theorem ck_le (b : Nat) : (ckN b).length ≤ pl b := by
  have := List.length_filter_le isPw (List.range (pl b))
  rw [List.length_range] at this
  exact this
theorem cks_len (b s : Nat) : (cksN b s).length ≤ pl b := Nat.le_trans (List.length_filter_le _ _) (ck_le b)
def spLcod : Sp := spCod
/-! ### flips of words -/
theorem flip_xor : ∀ (l : List Nat) (n : Nat), flip n l = n ^^^ flip 0 l
  | [], n => by show n = n ^^^ 0; rw [Nat.xor_zero]
  | p :: r, n => by
    show flip (n ^^^ 2 ^ p) r = n ^^^ flip (0 ^^^ 2 ^ p) r
    rw [flip_xor r (n ^^^ 2 ^ p), flip_xor r (0 ^^^ 2 ^ p), Nat.zero_xor, Nat.xor_assoc]
theorem xor_flip (n : Nat) (l : List Nat) : n ^^^ flip n l = flip 0 l := by rw [flip_xor, ← Nat.xor_assoc, Nat.xor_self, Nat.zero_xor]
theorem flip_bs {n x m : Nat} (h : x < 2 ^ m) : flip n (bs m x) = n ^^^ x := by rw [flip_xor, flip_row (bs_nodup m x), row_bs h]
theorem bs_flip {m : Nat} {l : List Nat} (nd : l.Nodup) : bs m (flip 0 l) = (List.range m).filter fun q => decide (q ∈ l) := by
  unfold bs
  refine List.filter_congr fun q _ => ?_
  rw [tb_flip_nd nd]
  simp
theorem bs_flip1 : ∀ p, p < 40 → bs 40 (flip 0 [p]) = [p] := by decide +kernel
theorem bs_sorted (m n : Nat) : (iL (bs m n)).Pairwise (· ≤ ·) := by
  unfold iL bs
  rw [List.pairwise_map]
  have h : (List.range m).Pairwise (fun (a b : Nat) => (a : Int) ≤ (b : Int)) := List.Pairwise.imp (fun {a b} (h : a < b) => by omega) List.pairwise_lt_range
  exact h.filter _
theorem bs_perm {p q : Nat} (h : p ≠ q) (hp : p < 40) (hq : q < 40) : (bs 40 (flip 0 [p, q])).Perm [p, q] := by
  have nd : [p, q].Nodup := by simp [h]
  rw [bs_flip nd]
  refine (List.perm_ext_iff_of_nodup (List.Nodup.sublist List.filter_sublist List.nodup_range) nd).mpr fun a => ?_
  rw [List.mem_filter, List.mem_range, decide_eq_true_eq]
  constructor
  · exact fun z => z.2
  · intro z
    refine ⟨?_, z⟩
    rcases List.mem_cons.mp z with rfl | z
    · exact hp
    · rw [List.mem_singleton.mp z]; exact hq
/-- sorted([p, q]) -/
theorem ev_sort2 {K : PySem.W.Frag} {σ : L2.St} {H : Hp} {ta : TE} {p q : Nat} (ha : EvL ta σ H [.int (p : Int), .int (q : Int)]) (h : p ≠ q) (hp : p < 40) (hq : q < 40) : EvL (tCB (rSorted K) (tCons ta tNil)) σ H ((iL (bs 40 (flip 0 [p, q]))).map V.int) := fun H1 e Q k =>
  ha H1 e _ fun l H2 nl e2 hl => ⟨l, [(p : Int), (q : Int)], rfl, sq_of hl, (by show 2 < 64; decide), fun ns' s pm so ns => by
    have e3 : ns' = iL (bs 40 (flip 0 [p, q])) := PySem.W.ksm_same (pm.trans ((bs_perm h hp hq).symm.map (fun n : Nat => (n : Int)))) so (bs_sorted _ _)
    subst e3
    exact k s _ (fresh_back e2 ns) (e2.trans (Ex.new ns)) upd_same⟩
def menV (b n : Nat) : V := if parB (pl b) n then (if spotN (pl b) n < pl b then .int ((flip n [spotN (pl b) n] : Nat) : Int) else .non) else (if spotN (pl b) n = 0 then .int (n : Int) else .non)
theorem stV_cases (b n : Nat) : (stV b n = [.str "one", .int ((spotN (pl b) n : Nat) : Int)] ∧ menV b n = .int ((flip n [spotN (pl b) n] : Nat) : Int) ∧ spotN (pl b) n < pl b) ∨ (stV b n = [.str "more", .non] ∧ menV b n = .non) ∨ (stV b n = [.str "clean", .non] ∧ menV b n = .int (n : Int)) := by
  unfold stV menV
  split
  · split
    · exact Or.inl ⟨rfl, rfl, by assumption⟩
    · exact Or.inr (Or.inl ⟨rfl, rfl⟩)
  · split
    · exact Or.inr (Or.inr ⟨rfl, rfl⟩)
    · exact Or.inr (Or.inl ⟨rfl, rfl⟩)
def spMended : Sp := fun vs H Q _ => ∃ b n : Nat, vs = [.int (b : Int), .int (n : Int)] ∧ 4 ≤ b ∧ b ≤ 32 ∧ n < 2 ^ pl b ∧ ∀ H', Ex H H' → Q (menV b n) H'
theorem SpMended {H : Hp} {b n : Nat} (h4 : 4 ≤ b) (h32 : b ≤ 32) (hn : n < 2 ^ pl b) : SpV spMended ([.int (b : Int), .int (n : Int)] ++ []) H (menV b n) := fun H1 e Q q E => ⟨b, n, rfl, h4, h32, hn, q⟩
theorem rv_isN {H : Hp} {x : V} : RV (fun x y H Q => y = .non ∧ Q (.bl (decide (x = .non))) H) x .non H (.bl (decide (x = .non))) := fun H1 _ _ q => ⟨rfl, q H1 (Ex.refl H1)⟩
theorem rv_notN {H : Hp} {x : V} : RV (fun x y H Q => y = .non ∧ Q (.bl (!decide (x = .non))) H) x .non H (.bl (!decide (x = .non))) := fun H1 _ _ q => ⟨rfl, q H1 (Ex.refl H1)⟩
theorem two_out (f s : Nat) (h : f ≠ s) : ∀ m, ((List.range m).filter fun i => !decide (i = f ∨ i = s)).length + (if f < m then 1 else 0) + (if s < m then 1 else 0) = m
  | 0 => rfl
  | m + 1 => by
    have ih := two_out f s h m
    rw [List.range_succ, List.filter_append, List.length_append, List.filter_cons]
    by_cases a : m = f <;> by_cases c : m = s
    · omega
    · subst a
      rw [decide_eq_true (Or.inl rfl), if_neg (by decide)]
      simp only [List.filter_nil, List.length_nil]
      split at ih <;> split at ih <;> split <;> split <;> omega
    · subst c
      rw [decide_eq_true (Or.inr rfl), if_neg (by decide)]
      simp only [List.filter_nil, List.length_nil]
      split at ih <;> split at ih <;> split <;> split <;> omega
    · rw [decide_eq_false (by omega), if_pos (by decide)]
      simp only [List.filter_nil, List.length_cons, List.length_nil]
      split at ih <;> split at ih <;> split <;> split <;> omega
/-- four flips, three of them at different places, give another row -/
theorem flip4_ne {n f s t u : Nat} (h1 : f ≠ s) (h2 : f ≠ t) (h3 : s ≠ t) : flip n [f, s, t, u] ≠ n := fun e => by
  have b1 : (flip n [f, s, t, u]).testBit f = n.testBit f := by rw [e]
  have b2 : (flip n [f, s, t, u]).testBit s = n.testBit s := by rw [e]
  have r : ∀ q, (flip n [f, s, t, u]).testBit q = ((((n.testBit q ^^ decide (f = q)) ^^ decide (s = q)) ^^ decide (t = q)) ^^ decide (u = q)) := fun q => by
    show ((((n ^^^ 2 ^ f) ^^^ 2 ^ s) ^^^ 2 ^ t) ^^^ 2 ^ u).testBit q = _
    rw [tb_flip1, tb_flip1, tb_flip1, tb_flip1]
  rw [r] at b1 b2
  rw [decide_eq_true rfl, decide_eq_false h1.symm, decide_eq_false h2.symm] at b1
  rw [decide_eq_false h1, decide_eq_true rfl, decide_eq_false h3.symm] at b2
  have u1 : u = f := by
    by_cases c : u = f
    · exact c
    · rw [decide_eq_false c] at b1
      cases n.testBit f <;> simp at b1
  have u2 : u = s := by
    by_cases c : u = s
    · exact c
    · rw [decide_eq_false c] at b2
      cases n.testBit s <;> simp at b2
  exact h1 (u1.symm.trans u2)
theorem flip6 (n f s t : Nat) : flip n [f, s, f, t, t, t] = flip n [s, t] := by
  refine Nat.eq_of_testBit_eq fun q => ?_
  show ((((((n ^^^ 2 ^ f) ^^^ 2 ^ s) ^^^ 2 ^ f) ^^^ 2 ^ t) ^^^ 2 ^ t) ^^^ 2 ^ t).testBit q = ((n ^^^ 2 ^ s) ^^^ 2 ^ t).testBit q
  simp only [tb_flip1]
  cases n.testBit q <;> cases decide (f = q) <;> cases decide (s = q) <;> cases decide (t = q) <;> rfl
/-! ### comparisons that find the same -/
theorem et_stNe {K : PySem.W.Frag} {σ : L2.St} {H : Hp} {t1 t2 : TE} {s : Str} {y : V} {d : PyData} (h1 : EvU t1 σ H [.str s, y]) (h2 : EvU t2 σ H [.str s, y]) (hd : ∀ H, Dp K H y d) (ly : Lay d 3) (hs : PyData.strOk s = true) : EvT (tTest (tOp (rNeD K) t1 t2)) σ H false :=
  et_test (ev_opUU h1 h2 fun p p' H1 hp hp' _ => rv_neS (d := .tuple [.str s, d]) (.tup (st_of hp) (.cons (.str _) (.cons (hd _) .nil))) (.tup (st_of hp') (.cons (.str _) (.cons (hd _) .nil))) (Lay.tuple (n := 3) (.cons (.str hs) (.cons ly .nil))).sh)
theorem et_lsNe {K : PySem.W.Frag} {σ : L2.St} {H : Hp} {t1 t2 : TE} {l : List Int} (h1 : EvL t1 σ H (l.map V.int)) (h2 : EvL t2 σ H (l.map V.int)) : EvT (tTest (tOp (rNeD K) t1 t2)) σ H false :=
  et_test (ev_opLL h1 h2 fun p p' H1 hp hp' _ => rv_neS (dp_ints (sq_of hp)) (dp_ints (sq_of hp')) (lay_ints l (n := 3)).sh)
theorem et_lsNeA {K : PySem.W.Frag} {σ : L2.St} {H : Hp} {t1 t2 : TE} {l : List Int} {p q : Addr} (h1 : Ev t1 σ H (.ref p)) (hp : SqL K H p (l.map V.int)) (h2 : Ev t2 σ H (.ref q)) (hq : SqL K H q (l.map V.int)) : EvT (tTest (tOp (rNeD K) t1 t2)) σ H false :=
  et_test (ev_op h1 h2 (rv_neS (dp_ints hp) (dp_ints hq) (lay_ints l (n := 3)).sh))
theorem et_eq {σ : L2.St} {H : Hp} {t1 t2 : TE} {x y : V} (h1 : Ev t1 σ H x) (h2 : Ev t2 σ H y) (hs : scal x y = true) : EvT (tTest (tOp rEq t1 t2)) σ H (decide (x = y)) := et_test (ev_op h1 h2 (rv_eq hs))
theorem et_ne {σ : L2.St} {H : Hp} {t1 t2 : TE} {x y : V} (h1 : Ev t1 σ H x) (h2 : Ev t2 σ H y) (hs : scal x y = true) : EvT (tTest (tOp rNe t1 t2)) σ H (!decide (x = y)) := et_test (ev_op h1 h2 (rv_ne hs))
/-- != of two that are the same -/
theorem et_neS {σ : L2.St} {H : Hp} {t1 t2 : TE} {x y : V} (h1 : Ev t1 σ H x) (h2 : Ev t2 σ H y) (hs : scal x y = true) (e : x = y) : EvT (tTest (tOp rNe t1 t2)) σ H false := et_is (et_ne h1 h2 hs) (by rw [decide_eq_true e]; rfl)
/-- a or b, both false -/
theorem et_or0 {σ : L2.St} {H : Hp} {t u : TT} (h1 : EvT t σ H false) (h2 : EvT u σ H false) : EvT (tOr t u) σ H false := et_or (a := false) (b := false) h1 fun _ => h2
theorem lst1 {σ : L2.St} {H : Hp} {ta : TE} {x : V} (h : Ev ta σ H x) : EvL (tLst (tCons ta tNil)) σ H [x] := el_lst (ea_cons h ea_nil) (by show 1 ≤ 100000; decide)
theorem lst2 {σ : L2.St} {H : Hp} {ta tb : TE} {x y : V} (h : Ev ta σ H x) (h2 : Ev tb σ H y) : EvL (tLst (tCons ta (tCons tb tNil))) σ H [x, y] := el_lst (ea_cons h (ea_cons h2 ea_nil)) (by show 2 ≤ 100000; decide)
theorem lst3 {σ : L2.St} {H : Hp} {ta tb tc : TE} {x y z : V} (h : Ev ta σ H x) (h2 : Ev tb σ H y) (h3 : Ev tc σ H z) : EvL (tLst (tCons ta (tCons tb (tCons tc tNil)))) σ H [x, y, z] := el_lst (ea_cons h (ea_cons h2 (ea_cons h3 ea_nil))) (by show 3 ≤ 100000; decide)
theorem tup2 {σ : L2.St} {H : Hp} {ta tb : TE} {x y : V} (h : Ev ta σ H x) (h2 : Ev tb σ H y) : EvU (tTup (tCons ta (tCons tb tNil))) σ H [x, y] := eu_tup (ea_cons h (ea_cons h2 ea_nil)) (by show 2 ≤ 100000; decide)
/-- t[i], the tuple made on the spot -/
theorem ev_opU0 {K : PySem.W.Frag} {σ : L2.St} {H : Hp} {ta tb : TE} {xs : List V} {i : Int} {v : V} (ha : EvU ta σ H xs) (hb : Ev tb σ H (.int i)) (hx : atI xs i = some v) : Ev (tOp (rIxT K) ta tb) σ H v := fun H1 e Q q =>
  ha H1 e _ fun p H2 _ e2 hp => hb H2 (e.trans e2) _ fun H3 e3 => ⟨p, xs, i, v, rfl, rfl, st_of (e3 _ _ hp), hx, q H3 (e2.trans e3)⟩
/-! ### words far apart -/
theorem spot_xor {m a c : Nat} (hc : c < 2 ^ m) : spotN m (a ^^^ c) = spotN m a ^^^ spotN m c := by
  have e : a ^^^ c = flip a (bs m c) := (flip_bs hc).symm
  rw [e, spot_flip fun p hp => (bs_mem.mp hp).1]
  rfl
theorem par_xor {m a c : Nat} (hc : c < 2 ^ m) : parB m (a ^^^ c) = (parB m a ^^ parB m c) := by
  have e : a ^^^ c = flip a (bs m c) := (flip_bs hc).symm
  rw [e, par_flip fun p hp => (bs_mem.mp hp).1]
  rfl
theorem far {b u v : Nat} (h4 : 4 ≤ b) (h32 : b ≤ 32) (hu : u < 2 ^ b) (hv : v < 2 ^ b) (h : u ≠ v) : 4 ≤ (bs 40 (cod b u ^^^ cod b v)).length := by
  have hpl := pl_le h32
  have cu := cod_lt (v := u) h4 h32
  have cv := cod_lt (v := v) h4 h32
  have hx : cod b u ^^^ cod b v < 2 ^ pl b := Nat.xor_lt_two_pow cu cv
  have hs : spotN (pl b) (cod b u ^^^ cod b v) = 0 := by rw [spot_xor cv, cod_spot h4 h32, cod_spot h4 h32]; rfl
  have hp : parB (pl b) (cod b u ^^^ cod b v) = false := by rw [par_xor cv, cod_par h4 h32, cod_par h4 h32]; rfl
  rw [bs_more hx (by omega)]
  have hne : bs (pl b) (cod b u ^^^ cod b v) ≠ [] := fun z => by
    have e := row_bs hx
    rw [z] at e
    have e2 := xor0 e.symm
    have e3 := val_cod h4 h32 hu
    rw [e2, val_cod h4 h32 hv] at e3
    exact h e3.symm
  have nd := bs_nodup (pl b) (cod b u ^^^ cod b v)
  unfold spotN at hs
  unfold parB at hp
  have hp := of_decide_eq_false hp
  revert hne nd hs hp
  generalize bs (pl b) (cod b u ^^^ cod b v) = l
  intro hs hne nd hp
  match l, hs, hp, hne, nd with
  | [], _, _, hne, _ => exact absurd rfl hne
  | [a], _, hp, _, _ => exact absurd (show [a].length % 2 = 1 from rfl) hp
  | [a, c], hs, _, _, nd =>
    rw [sx_cons, sx_one] at hs
    have := xor0 hs
    subst this
    exact absurd nd (by simp)
  | [a, c, d], _, hp, _, _ => exact absurd (show [a, c, d].length % 2 = 1 by simp) hp
  | a :: c :: d :: e :: r, _, _, _, _ => simp
/-- [e for i, x in enumerate(xs) if t], xs a list that stands somewhere -/
theorem el_lcEA {K : PySem.W.Frag} {σ : L2.St} {H : Hp} {tl te : TE} {tt : TT} {q : Addr} {xs : List V} {j1 j2 : Nat} {vs : List Nat} (f : Nat → Bool) (g : Nat → V) (h : Ev tl σ H (.ref q)) (hq : SqL K H q xs) (hz : xs.length ≤ 40000) (hw : ∀ x y, wipe (((wipe σ vs).set j1 (some x)).set j2 (some y)) vs = wipe σ vs)
    (ht : ∀ (i : Nat) (x : V) H1, Ex H H1 → xs[i]? = some x → EvT tt (((wipe σ vs).set j1 (some (.int (i : Int)))).set j2 (some x)) H1 (f i)) (he : ∀ (i : Nat) (x : V) H1, Ex H H1 → xs[i]? = some x → f i = true → Ev te (((wipe σ vs).set j1 (some (.int (i : Int)))).set j2 (some x)) H1 (g i)) :
    EvL (tLc (iEnum K (tCons tl tNil)) (gTup K 2 (gCons (gName j1) (gCons (gName j2) gNil))) tt te vs) σ H (given xs.length f g) := fun H0 e Q k => h H0 e _ fun H1 e1 => ⟨q, xs, rfl, ex_l (e.trans e1) hq, fun Dl hD => by
  refine ⟨fun i m H' => m = xs.length - i ∧ i ≤ xs.length ∧ Cw H1 f g Dl i H', ⟨xs.length, by simp, Nat.zero_le _, hD, Ex.new hD, upd_same⟩, ?_⟩
  rintro i m H' ⟨rfl, hi, pp⟩
  have qx : SqL K H' q xs := ex_l ((e.trans e1).trans pp.2.1) hq
  by_cases hlt : i < xs.length
  · refine .inr ⟨⟨xs, xs[i], qx, by simp [hlt]⟩, Cw H1 f g Dl (i + 1), fun H2 p' => ⟨xs.length - (i + 1), by omega, rfl, hlt, p'⟩, fun v H2 y => ?_⟩
    obtain ⟨T, x, rfl, nT, rfl, hxx⟩ := y
    have hix := hxx xs qx
    have hDT : Dl ≠ T := ne_of_none pp.2.2 nT
    have pp2 : Cw H1 f g Dl i (upd H' T (.tup [.int ((i : Nat) : Int), x])) := ⟨pp.1, pp.2.1.trans (Ex.new nT), by rw [upd_ne hDT]; exact pp.2.2⟩
    exact ⟨T, _, rfl, st_of upd_same, rfl, _, _, rfl, _, _, rfl, rfl, hw _ _, cw_turn pp2 (by omega) (ht i x H1 (e.trans e1) hix) (fun hf => he i x H1 (e.trans e1) hix hf)⟩
  · have e' : i = xs.length := by omega
    subst e'
    exact .inl ⟨⟨xs, qx, Nat.le_refl _⟩, k Dl H' (fresh_back e1 pp.1) (e1.trans pp.2.1) pp.2.2⟩⟩
/-- [..] + ys, ys a list that stands somewhere -/
theorem el_catB {σ : L2.St} {H : Hp} {ta tb : TE} {p : Addr} {xs ys : List V} (ha : EvL ta σ H xs) (hb : Ev tb σ H (.ref p)) (hp : H p = some (.lst ys)) (hz : xs.length + ys.length ≤ 100000) : EvL (tOp rCat ta tb) σ H (xs ++ ys) := fun H1 e Q q =>
  ha H1 e _ fun p' H2 np' e2 hp' => hb H2 (e.trans e2) _ fun H3 e3 => ⟨p', p, xs, ys, rfl, rfl, e3 _ _ hp', ((e.trans e2).trans e3) _ _ hp, sz_of hz, fun l nl => q l _ (fresh_back (e2.trans e3) nl) ((e2.trans e3).trans (Ex.new nl)) upd_same⟩
/-- all but two objects are kept -/
def Kp (a b : Addr) (H H' : Hp) : Prop := ∀ c o, c ≠ a → c ≠ b → H c = some o → H' c = some o
theorem Kp.refl (a b : Addr) (H : Hp) : Kp a b H H := fun _ _ _ _ h => h
theorem Kp.ex {a b : Addr} {H H1 H2 : Hp} (k : Kp a b H H1) (e : Ex H1 H2) : Kp a b H H2 := fun c o h1 h2 h => e _ _ (k c o h1 h2 h)
theorem Kp.ua {a b : Addr} {H H1 : Hp} {o : HO} (k : Kp a b H H1) : Kp a b H (upd H1 a o) := fun c u h1 h2 h => by rw [upd_ne h1]; exact k c u h1 h2 h
theorem Kp.ub {a b : Addr} {H H1 : Hp} {o : HO} (k : Kp a b H H1) : Kp a b H (upd H1 b o) := fun c u h1 h2 h => by rw [upd_ne h2]; exact k c u h1 h2 h
def spCount : Sp := fun vs H Q _ => ∃ b : Nat, vs = [.int (b : Int)] ∧ 4 ≤ b ∧ b ≤ 32 ∧ ∀ p H', H p = none → Ex H H' → H' p = some (.tup [.int ((2 ^ b : Nat) : Int), .int (((2 ^ b : Nat) : Int) * ((pl b : Nat) : Int)), .int (((2 ^ pl b : Nat) : Int) - ((2 ^ b : Nat) : Int) - ((2 ^ b : Nat) : Int) * ((pl b : Nat) : Int))]) → Q (.ref p) H'
theorem SpCount {H : Hp} {b : Nat} (h4 : 4 ≤ b) (h32 : b ≤ 32) : SpU spCount ([.int (b : Int)] ++ []) H [.int ((2 ^ b : Nat) : Int), .int (((2 ^ b : Nat) : Int) * ((pl b : Nat) : Int)), .int (((2 ^ pl b : Nat) : Int) - ((2 ^ b : Nat) : Int) - ((2 ^ b : Nat) : Int) * ((pl b : Nat) : Int))] := fun H1 e Q q E => ⟨b, rfl, h4, h32, q⟩
def kd (n : Nat) : Nat := if parB 8 n then (if spotN 8 n < 8 then 1 else 2) else (if spotN 8 n = 0 then 0 else 2)
def kds (i j : Nat) : Nat := ((List.range i).filter fun n => decide (kd n = j)).length
theorem kds_succ (i j : Nat) : kds (i + 1) j = kds i j + (if kd i = j then 1 else 0) := by
  unfold kds
  rw [List.range_succ, List.filter_append, List.length_append, List.filter_cons]
  by_cases h : kd i = j
  · rw [if_pos (decide_eq_true h), if_pos h]; rfl
  · rw [if_neg (by rw [decide_eq_false h]; decide), if_neg h]; rfl
theorem kds_all : kds 256 0 = 16 ∧ kds 256 1 = 128 ∧ kds 256 2 = 112 := by decide +kernel
theorem stV_kd (n : Nat) : ∃ y, stV 4 n = [(if kd n = 0 then .str "clean" else if kd n = 1 then .str "one" else .str "more"), y] := by
  have h8 : pl 4 = 8 := by decide
  unfold stV kd
  rw [h8]
  split <;> split <;> exact ⟨_, rfl⟩
theorem kd_lt (n : Nat) : kd n = 0 ∨ kd n = 1 ∨ kd n = 2 := by
  unfold kd
  split <;> split <;> omega
theorem cmul_nat {n : Nat} {j : Int} (h : n < 2 ^ 64) : CMul (n : Int) j := Or.inl ⟨by omega, by omega⟩
theorem p64 {b : Nat} (h : b ≤ 40) : 2 ^ b < 2 ^ 64 := Nat.pow_lt_pow_right (by decide) (by omega)
/-! ### lists whose items have a property -/
def EaA (ta : TA) (σ : L2.St) (H : Hp) (k : Nat) (P : V → Hp → Prop) : Prop := ∀ H1, Ex H H1 → ∀ Q : List V → Hp → Prop, (∀ vs H2, Ex H1 H2 → vs.length = k → (∀ x ∈ vs, P x H2) → Q vs H2) → ta σ H1 Q
theorem eaA_nil {σ : L2.St} {H : Hp} {P : V → Hp → Prop} : EaA tNil σ H 0 P := fun H1 _ _ q => q [] H1 (Ex.refl H1) rfl fun _ z => nomatch z
theorem eaA_cons {σ : L2.St} {H : Hp} {ta : TE} {tr : TA} {k : Nat} {P : V → Hp → Prop} (m : ∀ v H1 H2, Ex H1 H2 → P v H1 → P v H2) (h : EvG ta σ H P) (hr : EaA tr σ H k P) : EaA (tCons ta tr) σ H (k + 1) P := fun H1 e _ q =>
  h H1 e _ fun v H2 e2 pv => hr H2 (e.trans e2) _ fun vs H3 e3 hl pr => q _ H3 (e2.trans e3) (by rw [List.length_cons, hl]) fun x hx => by
    rcases List.mem_cons.mp hx with rfl | hx
    · exact m _ _ _ e3 pv
    · exact pr x hx
theorem evG_lstA {σ : L2.St} {H : Hp} {ta : TA} {k : Nat} {P : V → Hp → Prop} (m : ∀ v H1 H2, Ex H1 H2 → P v H1 → P v H2) (h : EaA ta σ H k P) (hk : k ≤ 100000) : EvG (tLst ta) σ H (fun v H' => ∃ p xs, v = .ref p ∧ H' p = some (.lst xs) ∧ H p = none ∧ xs.length = k ∧ ∀ x ∈ xs, P x H') := fun H1 e Q q =>
  h H1 e _ fun vs H2 e2 hl pv => ⟨sz_of (by omega), fun p np => q _ _ (e2.trans (Ex.new np)) ⟨p, vs, rfl, upd_same, fresh_back (e.trans e2) np, hl, fun x hx => m _ _ _ (Ex.new np) (pv x hx)⟩⟩
theorem s_forG {K : PySem.W.Frag} {σ : L2.St} {H : Hp} {tl : TE} {g : TG} {tu : TS} {D : Ends} {R : Addr → List V → Hp → Prop} (h : EvG tl σ H (fun v H1 => ∃ p xs, v = .ref p ∧ H1 p = some (.lst xs) ∧ R p xs H1)) (Pv : Addr → List V → Nat → L2.St → Hp → Prop) (h0 : ∀ p xs H1, Ex H H1 → H1 p = some (.lst xs) → R p xs H1 → Pv p xs 0 σ H1)
    (hl : ∀ p xs i σ' H', i ≤ xs.length → Pv p xs i σ' H' → SqL K H' p xs) (hs : ∀ p xs i x σ' H', xs[i]? = some x → Pv p xs i σ' H' → g x σ' H' fun σ2 H2 => tu { D with nx := Pv p xs (i + 1), ct := Pv p xs (i + 1), bk := D.nx } σ2 H2)
    (hd : ∀ p xs σ' H', Pv p xs xs.length σ' H' → D.nx σ' H') : tFor (iList K tl) g tu D σ H :=
  h H (Ex.refl H) _ fun v H1 e ⟨p, xs, ev, hp, r⟩ => ⟨p, ev, ⟨xs, sq_of hp⟩, for_list (Pv p xs) (h0 p xs H1 e hp r) (hl p xs) (hs p xs) (hd p xs)⟩
theorem q_unp2 {K : PySem.W.Frag} {σ : L2.St} {H : Hp} {te : TE} {tz : TS} {D : Ends} {i j : Nat} {x y : V} (h : EvU te σ H [x, y]) (k : ∀ H1, Ex H H1 → tz D ((σ.set i (some x)).set j (some y)) H1) : tSeq (tAsg te (gTup K 2 (gCons (gName i) (gCons (gName j) gNil)))) tz D σ H :=
  h H (Ex.refl H) _ fun p H1 _ e hp => ⟨p, _, rfl, st_of hp, rfl, _, _, rfl, _, _, rfl, rfl, k H1 e⟩
/-- [..].index(y) -/
theorem ev_idx {K : PySem.W.Frag} {σ : L2.St} {H : Hp} {ta tb : TE} {ys : List V} {y z : V} {j : Nat} (ha : EvL ta σ H ys) (hb : Ev tb σ H y) (fy : flatV y = true) (fa : ys.all flatV = true) (hz : ys[j]? = some z) (he : eqV z y = true) (hn : ∀ (m : Nat) (z' : V), m < j → ys[m]? = some z' → eqV z' y = false) :
    Ev (tBM K "list" (rIndex K) ta (tCons tb tNil)) σ H (.int (j : Int)) := fun H1 e Q q =>
  ha H1 e _ fun p H2 _ e2 hp => ⟨Or.inl ⟨rfl, _, sq_of hp⟩, hb H2 (e.trans e2) _ fun H3 e3 => ⟨p, ys, y, j, z, rfl, rfl, sq_of (e3 _ _ hp), fy, fa, hz, he, hn, q H3 (e2.trans e3)⟩⟩
theorem eu_tupA {K : PySem.W.Frag} {σ : L2.St} {H : Hp} {ta : TE} {p : Addr} {xs : List V} (ha : Ev ta σ H (.ref p)) (h : SqL K H p xs) : EvU (tCB (rTupS K) (tCons ta tNil)) σ H xs := fun H1 e Q q =>
  ha H1 e _ fun H2 e2 => ⟨p, xs, rfl, Or.inl ⟨ex_l (e.trans e2) h, fun l nl => q l _ (fresh_back e2 nl) (e2.trans (Ex.new nl)) upd_same⟩⟩
/-! ### values known as data -/
section
variable {K : PySem.W.Frag} {σ : L2.St} {H : Hp} {ta tb te : TE} {r : R2}
def EvD (K : PySem.W.Frag) (te : TE) (σ : L2.St) (H : Hp) (d : PyData) : Prop := EvG te σ H (fun v H' => Dp K H' v d)
theorem Ev.d {v : V} {d : PyData} (h : Ev te σ H v) (hd : ∀ H, Dp K H v d) : EvD K te σ H d := fun H1 e Q q => h H1 e Q fun H2 e2 => q v H2 e2 (hd H2)
theorem Ev.dAt {v : V} {d : PyData} (h : Ev te σ H v) (hd : Dp K H v d) : EvD K te σ H d := fun H1 e Q q => h H1 e Q fun H2 e2 => q v H2 e2 (dp_ex (e.trans e2) hd)
theorem EvU.d {xs : List V} {ds : List PyData} (h : EvU te σ H xs) (hd : ∀ H, DpAll K H xs ds) : EvD K te σ H (.tuple ds) := fun H1 e Q q => h H1 e Q fun p H2 _ e2 hp => q _ H2 e2 (.tup (st_of hp) (hd H2))
theorem evG_tup2 {P1 P2 : V → Hp → Prop} (h1 : EvG ta σ H P1) (m1 : ∀ v H1 H2, Ex H1 H2 → P1 v H1 → P1 v H2) (h2 : EvG tb σ H P2) (m2 : ∀ v H1 H2, Ex H1 H2 → P2 v H1 → P2 v H2) :
    EvG (tTup (tCons ta (tCons tb tNil))) σ H (fun v H' => ∃ p a c, v = .ref p ∧ H p = none ∧ H' p = some (.tup [a, c]) ∧ P1 a H' ∧ P2 c H') := fun H1 e Q q =>
  h1 H1 e _ fun a H2 e2 p1 => h2 H2 (e.trans e2) _ fun c H3 e3 p2 => ⟨(by decide : 2 ≤ sizeLine), fun p np =>
    q _ _ ((e2.trans e3).trans (Ex.new np)) ⟨p, a, c, rfl, fresh_back ((e.trans e2).trans e3) np, upd_same, m1 _ _ _ (e3.trans (Ex.new np)) p1, m2 _ _ _ (Ex.new np) p2⟩⟩
theorem evD_tup2 {d1 d2 : PyData} (h1 : EvD K ta σ H d1) (h2 : EvD K tb σ H d2) : EvD K (tTup (tCons ta (tCons tb tNil))) σ H (.tuple [d1, d2]) :=
  (evG_tup2 h1 (fun _ _ _ e h => dp_ex e h) h2 (fun _ _ _ e h => dp_ex e h)).imp fun v H1 _ ⟨p, a, c, ev, _, hp, d1, d2⟩ => by
    subst ev
    exact .tup (st_of hp) (.cons d1 (.cons d2 .nil))
theorem et_neD {d : PyData} (h1 : EvD K ta σ H d) (h2 : EvD K tb σ H d) (sh : SeqAt.shaped d = true) : EvT (tTest (tOp (rNeD K) ta tb)) σ H false :=
  et_test (opG h1 (fun _ _ _ e h => dp_ex e h) h2 fun a c H1 _ da dc => rv_neS da dc sh)
theorem evG_op {P1 P2 P : V → Hp → Prop} (h1 : EvG ta σ H P1) (m1 : ∀ v H1 H2, Ex H1 H2 → P1 v H1 → P1 v H2) (h2 : EvG tb σ H P2) (hr : ∀ a c H1, Ex H H1 → P1 a H1 → P2 c H1 → ∀ Q : VK, (∀ v H2, Ex H1 H2 → P v H2 → Q v H2) → r a c H1 Q) : EvG (tOp r ta tb) σ H P := fun H1 e Q q =>
  h1 H1 e _ fun a H2 e2 p1 => h2 H2 (e.trans e2) _ fun c H3 e3 p2 => hr a c H3 ((e.trans e2).trans e3) (m1 _ _ _ e3 p1) p2 Q fun v H4 e4 p => q v H4 ((e2.trans e3).trans e4) p
theorem el_rep1 {x : V} {c : Bool} (ha : EvL ta σ H [x]) (hb : Ev tb σ H (.int (if c then 1 else 0))) : EvL (tOp rRep ta tb) σ H (if c then [x] else []) := fun H1 e Q q =>
  ha H1 e _ fun p H2 np e2 hp => hb H2 (e.trans e2) _ fun H3 e3 => ⟨p, _, [x], rfl, rfl, e3 _ _ hp, by split <;> decide, by split <;> decide, by split <;> first | (show 1 ≤ sizeLine; decide) | (show 0 ≤ sizeLine; decide), fun l nl => by
    refine q l _ (fresh_back (e2.trans e3) nl) ((e2.trans e3).trans (Ex.new nl)) ?_
    rw [upd_same]
    cases c <;> rfl⟩
theorem ev_lenSet {ns : List Int} {p : Addr} (ha : Ev ta σ H (.ref p)) (h : SqL K H p (ns.map V.int)) (nd : ns.Nodup) (hl : ns.length ≤ 4000) : Ev (RZ.tLenSetI K ta) σ H (.int ((ns.length : Nat) : Int)) := fun H1 e Q q =>
  ha H1 e _ fun H2 e2 => ⟨p, ns, rfl, ex_l (e.trans e2) h, nd, hl, q H2 e2⟩
end
/-! ### all rows and all words -/
def wordsN (b : Nat) : List Nat := (List.range (2 ^ b)).map (cod b)
theorem pw_bit : ∀ p, p < 40 → isPw p = true → ∀ k, k < 6 → p.testBit k = true → p = 2 ^ k := by decide +kernel
theorem pw_form : ∀ p, p < 40 → isPw p = true → p = 0 ∨ ∃ k, k < 6 ∧ p = 2 ^ k := by decide +kernel
theorem len1 {α : Type} {q : α} : ∀ {l : List α}, l.Nodup → q ∈ l → (∀ p ∈ l, p = q) → l.length = 1
  | [], _, h, _ => nomatch h
  | [a], _, _, _ => rfl
  | a :: c :: r, nd, _, h => by
    have h1 := h a List.mem_cons_self
    have h2 := h c (List.mem_cons_of_mem _ List.mem_cons_self)
    rw [h1, h2] at nd
    exact absurd List.mem_cons_self (List.nodup_cons.mp nd).1
theorem no_pow {l : List Nat} (nd : l.Nodup) (hp : ∀ p ∈ l, p < 40 ∧ isPw p = true) (hs : sx l = 0) : ∀ p ∈ l, p = 0 := fun p h => by
  rcases pw_form p (hp p h).1 (hp p h).2 with h0 | ⟨k, hk, e⟩
  · exact h0
  · have t := tb_sx k l
    rw [hs] at t
    have e1 : (l.filter fun p => p.testBit k).length = 1 := by
      refine len1 (q := p) (List.Nodup.sublist List.filter_sublist nd) (List.mem_filter.mpr ⟨h, by rw [e, Nat.testBit_two_pow]; simp⟩) fun z hz => ?_
      have hz := List.mem_filter.mp hz
      rw [e]
      exact pw_bit z (hp z hz.1).1 (hp z hz.1).2 k hk hz.2
    rw [e1] at t
    simp at t
theorem is_word {b n : Nat} (h4 : 4 ≤ b) (h32 : b ≤ 32) (hn : n < 2 ^ pl b) : n ∈ wordsN b ↔ (spotN (pl b) n = 0 ∧ parB (pl b) n = false) := by
  have hpl := pl_le h32
  constructor
  · intro h
    obtain ⟨v, _, rfl⟩ := List.mem_map.mp h
    exact ⟨cod_spot h4 h32, cod_par h4 h32⟩
  · rintro ⟨hs, hp⟩
    have hv : valN b n < 2 ^ b := row_lt (List.Nodup.sublist List.filter_sublist List.nodup_range) fun p hp => List.mem_range.mp (List.mem_filter.mp hp).1
    refine List.mem_map.mpr ⟨valN b n, List.mem_range.mpr hv, ?_⟩
    have cl := cod_lt (v := valN b n) h4 h32
    have hx : n ^^^ cod b (valN b n) < 2 ^ pl b := Nat.xor_lt_two_pow hn cl
    have sx0 : sx (bs (pl b) (n ^^^ cod b (valN b n))) = 0 := by
      show spotN _ _ = 0
      rw [spot_xor cl, hs, cod_spot h4 h32]; rfl
    have px : parB (pl b) (n ^^^ cod b (valN b n)) = false := by rw [par_xor cl, hp, cod_par h4 h32]; rfl
    have pw : ∀ p ∈ bs (pl b) (n ^^^ cod b (valN b n)), p < 40 ∧ isPw p = true := fun p hp => by
      have hm := bs_mem.mp hp
      refine ⟨by omega, ?_⟩
      cases e : isPw p with
      | true => rfl
      | false =>
        have hd : p ∈ dtN b := List.mem_filter.mpr ⟨List.mem_range.mpr hm.1, by rw [e]; rfl⟩
        obtain ⟨i, hi, ei⟩ := List.getElem_of_mem hd
        have hib : i < b := by have := dt_len b (by omega) h4; omega
        have ed : dt b i = p := by
          have := dt_at h4 h32 hib
          rw [List.getElem?_eq_getElem hi, ei] at this
          exact (Option.some.inj this).symm
        have t := hm.2
        rw [← ed, Nat.testBit_xor, cod_data h4 h32 hib] at t
        unfold valN at t
        rw [tb_row (List.Nodup.sublist List.filter_sublist List.nodup_range)] at t
        have iff : (i ∈ (List.range b).filter fun i => n.testBit (dt b i)) ↔ n.testBit (dt b i) = true := by
          rw [List.mem_filter, List.mem_range]
          exact ⟨fun z => z.2, fun z => ⟨hib, z⟩⟩
        cases c : n.testBit (dt b i) with
        | true => rw [c, decide_eq_true (iff.mpr c)] at t; cases t
        | false => rw [c, decide_eq_false (fun z => by rw [iff.mp z] at c; cases c)] at t; cases t
    have all0 := no_pow (bs_nodup _ _) pw sx0
    have nil : bs (pl b) (n ^^^ cod b (valN b n)) = [] := by
      have nd := bs_nodup (pl b) (n ^^^ cod b (valN b n))
      unfold parB at px
      have px := of_decide_eq_false px
      cases h : bs (pl b) (n ^^^ cod b (valN b n)) with
      | nil => rfl
      | cons a r =>
        rw [h] at nd px all0
        have := len1 (q := 0) nd (by rw [← all0 a List.mem_cons_self]; exact List.mem_cons_self) all0
        rw [this] at px
        exact absurd rfl px
    have e := row_bs hx
    rw [nil] at e
    exact (xor0 e.symm).symm
/-- what is due of a row -/
def dueD (b n : Nat) : PyData := if parB (pl b) n then (if spotN (pl b) n < pl b then .tuple [.tuple [.str "one", .int ((spotN (pl b) n : Nat) : Int)], .int ((flip n [spotN (pl b) n] : Nat) : Int)] else .tuple [.tuple [.str "more", .none], .none])
  else (if spotN (pl b) n = 0 then .tuple [.tuple [.str "clean", .none], .int (n : Int)] else .tuple [.tuple [.str "more", .none], .none])
def stD (b n : Nat) : PyData := if parB (pl b) n then (if spotN (pl b) n < pl b then .tuple [.str "one", .int ((spotN (pl b) n : Nat) : Int)] else .tuple [.str "more", .none]) else (if spotN (pl b) n = 0 then .tuple [.str "clean", .none] else .tuple [.str "more", .none])
def meD (b n : Nat) : PyData := if parB (pl b) n then (if spotN (pl b) n < pl b then .int ((flip n [spotN (pl b) n] : Nat) : Int) else .none) else (if spotN (pl b) n = 0 then .int (n : Int) else .none)
theorem due_eq (b n : Nat) : dueD b n = .tuple [stD b n, meD b n] := by
  unfold dueD stD meD
  split <;> split <;> rfl
theorem due_sh (b n : Nat) : SeqAt.shaped (dueD b n) = true := by
  have s1 : PyData.strOk ("one" : Str) = true := by decide +kernel
  have s2 : PyData.strOk ("more" : Str) = true := by decide +kernel
  have s3 : PyData.strOk ("clean" : Str) = true := by decide +kernel
  unfold dueD
  split <;> split
  · exact (Lay.tuple (n := 4) (.cons (.tuple (n := 3) (.cons (.str s1) (.cons (.int _) .nil))) (.cons (.int _) .nil))).sh
  · exact (Lay.tuple (n := 4) (.cons (.tuple (n := 3) (.cons (.str s2) (.cons .none .nil))) (.cons .none .nil))).sh
  · exact (Lay.tuple (n := 4) (.cons (.tuple (n := 3) (.cons (.str s3) (.cons .none .nil))) (.cons (.int _) .nil))).sh
  · exact (Lay.tuple (n := 4) (.cons (.tuple (n := 3) (.cons (.str s2) (.cons .none .nil))) (.cons .none .nil))).sh
theorem st_dp {K : PySem.W.Frag} (b n : Nat) : ∃ ds, stD b n = .tuple ds ∧ ∀ H, DpAll K H (stV b n) ds := by
  unfold stD stV
  split <;> split
  · exact ⟨_, rfl, fun H => .cons (.str _) (.cons (.int _) .nil)⟩
  · exact ⟨_, rfl, fun H => .cons (.str _) (.cons .non .nil)⟩
  · exact ⟨_, rfl, fun H => .cons (.str _) (.cons .non .nil)⟩
  · exact ⟨_, rfl, fun H => .cons (.str _) (.cons .non .nil)⟩
theorem me_dp {K : PySem.W.Frag} (b n : Nat) (H : Hp) : Dp K H (menV b n) (meD b n) := by
  unfold meD menV
  split <;> split
  · exact .int _
  · exact .non
  · exact .int _
  · exact .non
/-- a place turned in a list of places -/
def togg (l : List Nat) (p : Nat) : List Nat := l.filter (fun m => !decide (m = p)) ++ (if p ∉ l then [p] else [])
theorem togg_nodup {l : List Nat} {p : Nat} (nd : l.Nodup) : (togg l p).Nodup := by
  unfold togg
  refine List.nodup_append.mpr ⟨List.Nodup.sublist List.filter_sublist nd, by split <;> simp, fun a ha c hc e => ?_⟩
  split at hc
  · rename_i h
    rw [List.mem_singleton.mp hc] at e
    exact h (e ▸ (List.mem_filter.mp ha).1)
  · cases hc
theorem togg_mem {l : List Nat} {p q : Nat} : q ∈ togg l p ↔ ((q ∈ l ∧ q ≠ p) ∨ (q = p ∧ p ∉ l)) := by
  unfold togg
  rw [List.mem_append, List.mem_filter]
  by_cases h : p ∈ l
  · rw [if_neg (fun z => z h)]
    constructor
    · rintro (⟨a, c⟩ | z)
      · exact Or.inl ⟨a, fun e => by rw [decide_eq_true e] at c; cases c⟩
      · cases z
    · rintro (⟨a, c⟩ | ⟨_, z⟩)
      · exact Or.inl ⟨a, by rw [decide_eq_false c]; rfl⟩
      · exact absurd h z
  · rw [if_pos h]
    constructor
    · rintro (⟨a, c⟩ | z)
      · exact Or.inl ⟨a, fun e => by rw [decide_eq_true e] at c; cases c⟩
      · exact Or.inr ⟨List.mem_singleton.mp z, h⟩
    · rintro (⟨a, c⟩ | ⟨e, _⟩)
      · exact Or.inl ⟨a, by rw [decide_eq_false c]; rfl⟩
      · rw [e]; exact Or.inr (List.mem_singleton.mpr rfl)
theorem togg_row {l : List Nat} {p : Nat} (nd : l.Nodup) : rowOf (togg l p) = rowOf l ^^^ 2 ^ p := by
  refine Nat.eq_of_testBit_eq fun q => ?_
  rw [tb_row (togg_nodup nd), tb_flip1, tb_row nd]
  by_cases h : q ∈ l <;> by_cases e : p = q
  · subst e
    rw [decide_eq_true h, decide_eq_true rfl, decide_eq_false]
    · rfl
    · intro z
      rcases togg_mem.mp z with z | z
      · exact z.2 rfl
      · exact z.2 h
  · rw [decide_eq_true h, decide_eq_false e, decide_eq_true (togg_mem.mpr (Or.inl ⟨h, fun z => e z.symm⟩))]
    rfl
  · subst e
    rw [decide_eq_false h, decide_eq_true rfl, decide_eq_true (togg_mem.mpr (Or.inr ⟨rfl, h⟩))]
    rfl
  · rw [decide_eq_false h, decide_eq_false e, decide_eq_false]
    · rfl
    · intro z
      rcases togg_mem.mp z with z | z
      · exact h z.1
      · exact e z.1.symm
theorem togg_len {l : List Nat} {p : Nat} : (togg l p).length ≤ l.length + 1 := by
  unfold togg
  rw [List.length_append]
  have := List.length_filter_le (fun m => !decide (m = p)) l
  split
  · show _ + 1 ≤ _; omega
  · show _ + 0 ≤ _; omega
theorem togg_iL (l : List Nat) (p : Nat) : (iL (l.filter (fun m => !decide (V.int (m : Int) = V.int (p : Int))))).map V.int ++ (if (!decide ((p : Int) ∈ iL l)) = true then [V.int (p : Int)] else []) = (iL (togg l p)).map V.int := by
  unfold togg
  rw [iL_app]
  congr 1
  · congr 2
    refine List.filter_congr fun m _ => ?_
    congr 1
    refine decide_eq_decide.mpr ⟨fun z => ?_, fun z => by rw [z]⟩
    injection z with z
    omega
  · by_cases h : p ∈ l
    · rw [decide_eq_true (mem_iL.mpr h), if_neg (by decide), if_neg (fun z => z h)]; rfl
    · rw [decide_eq_false (fun z => h (mem_iL.mp z)), if_pos (by decide), if_pos h]; rfl
def spLstate (K : PySem.W.Frag) : Sp := fun vs H Q _ => ∃ (wa : Addr) (b n : Nat), vs = [.ref wa, .int ((pl b : Nat) : Int), .int (n : Int)] ∧ 4 ≤ b ∧ b ≤ 7 ∧ n < 2 ^ pl b ∧ SqL K H wa ((iL (wordsN b)).map V.int) ∧ ∀ x H', Dp K H' x (dueD b n) → Ex H H' → Q x H'
theorem s_appG {K : PySem.W.Frag} {σ : L2.St} {H : Hp} {ta te : TE} {D : Ends} {l : Addr} {xs : List V} {P : V → Hp → Prop} (hl : H l = some (.lst xs)) (ha : Ev ta σ H (.ref l)) (h : EvG te σ H P) (hz : xs.length < 100000) (k : ∀ v H1, Ex H H1 → P v H1 → D.nx σ (upd H1 l (.lst (xs ++ [v])))) :
    tDrop (tBM K "list" rAppend ta (tCons te tNil)) D σ H := ha H (Ex.refl H) _ fun H1 e1 =>
  ⟨Or.inl ⟨rfl, xs, sq_of (e1 l _ hl)⟩, h H1 e1 _ fun v H2 e2 pv => ⟨l, xs, v, rfl, rfl, e2 l _ (e1 l _ hl), sz_lt hz, k v H2 (e1.trans e2) pv⟩⟩
end My
set_option Elab.async false
set_option linter.all false
set_option maxRecDepth 100000
set_option maxHeartbeats 400000
/-! ### math.comb; sum and min of a tuple of ints -/
namespace My
open PySem PySem.Spec PyProof.Rows L2 Evl
section
variable {X : Cx}
def CComb : Int → Int → Prop := fun a b => 0 ≤ a ∧ 0 ≤ b ∧ a < 1000
def rComb : List V → Hp → VK → Prop := fun vs H Q => ∃ a b : Int, vs = [.int a, .int b] ∧ CComb a b ∧ Q (.int (PySem.W.mcComb a b)) H
theorem cr_comb : CallR X (.builtin "math.comb") rComb := by
  intro pins s σ H vs us Q I r h
  obtain ⟨a, b, rfl, ⟨h1, h2, h3⟩, q⟩ := h
  obtain ⟨t, u, rfl⟩ := Vals.int2 r
  refine call_function_meets PySem.W.MGF.kind_comb PySem.W.MGF.plain_comb PySem.W.MGF.entry_comb (PySem.W.MGF.args_comb _ _) (PySem.W.mc_gives_comb t u h1 h2 (by omega) (Or.inr (by omega))).meets ?_
  exact ⟨.int _, H, I.tok _, ⟨_, rfl⟩, q⟩
def rSumU (K : PySem.W.Frag) : List V → Hp → VK → Prop := fun vs H Q => ∃ (a : Addr) (ns : List Int), vs = [V.ref a] ∧ SqT K H a (ns.map V.int) ∧ Q (.int ns.sum) H
theorem cr_sumU (hc : X.calm = true) : CallR X (.builtin "sum") (rSumU X.K) := by
  intro pins s σ H vs us Q I r h
  obtain ⟨a, ns, rfl, hs, q⟩ := h
  obtain ⟨its, rv, hl, _⟩ := I.tuple hs
  rw [Vals.ref1 r]
  have hi := rv.ints
  obtain ⟨xs, e⟩ := hi.allInts.items
  have hn : numsOf (intItems xs).toList = ns := by rw [← e]; exact hi.numsOf
  rw [nums_intItems] at hn
  rw [e] at hl
  refine PySem.W.ktm_sumG (I.ok.hd hc) hl fun h' tk t' hk => ?_
  have := (⟨.int _, H, I.kept hk, ⟨_, rfl⟩, q⟩ : ∃ x H', Inv X pins σ H' { s with heap := h', toks := tk } ∧ RelV x (.int ns.sum t') ∧ Q x H')
  rw [preSum_eq, List.take_of_length_le (by simp), hn]
  exact this
def rMinU (K : PySem.W.Frag) : List V → Hp → VK → Prop := fun vs H Q => ∃ (a : Addr) (n : Int) (ns : List Int), vs = [V.ref a] ∧ SqT K H a ((n :: ns).map V.int) ∧ Q (.int (ns.foldl min n)) H
theorem ra_ints {h : Heap} : ∀ {vs : List Value} {ns : List Int}, IntsAre vs ns → ∃ as, ReadsAll h vs (ns.map PyData.int) as
  | _, _, .nil => ⟨_, .nil⟩
  | _, _, .cons n t r => by
    obtain ⟨as, h2⟩ := ra_ints (h := h) r
    exact ⟨_, .cons (.int n t) h2⟩
theorem ak_ints (ns : List Int) : PySem.W.AlikeAll (ns.map PyData.int) := by
  refine ⟨fun x hx y hy => ?_, fun x hx => ?_⟩
  · obtain ⟨i, _, rfl⟩ := List.mem_map.mp hx
    obtain ⟨j, _, rfl⟩ := List.mem_map.mp hy
    rfl
  · obtain ⟨i, _, rfl⟩ := List.mem_map.mp hx
    exact fun h => nomatch h
theorem da_ints : ∀ ns : List Int, PyData.depthAll (ns.map PyData.int) ≤ 1
  | [] => by simp [PyData.depthAll]
  | n :: r => by
    have := da_ints r
    simp [PyData.depthAll, PyData.depth]
    omega
theorem cr_minU (hc : X.calm = true) (hu : X.A.units + 64 < cLine) : CallR X (.builtin "min") (rMinU X.K) := by
  intro pins s σ H vs us Q I r h
  obtain ⟨a, n, ns, rfl, hs, q⟩ := h
  obtain ⟨its, rv, hl, _⟩ := I.tuple hs
  rw [Vals.ref1 r]
  have hi := rv.ints
  obtain ⟨as, hr⟩ := ra_ints (h := s.heap) hi
  have hd := da_ints (n :: ns)
  refine PySem.W.min_tuple_data (xs := ns.map PyData.int) (x := .int n) (I.ok.hd hc) hl hr (ak_ints (n :: ns)) (by have : PyData.depthAll (PyData.int n :: ns.map PyData.int) ≤ 1 := hd; omega) fun i v h' tk bs hv hrd hk => ?_
  rw [PySem.W.minD_ints] at hrd
  cases hrd
  exact ⟨.int _, H, I.kept hk, ⟨_, rfl⟩, q⟩
end
section
variable {K : PySem.W.Frag} {σ : L2.St} {H : Hp} {ta tb te : TE}
theorem ev_comb {a b : Int} {ta : TA} (h : EvA ta σ H [.int a, .int b]) (hc : CComb a b) : Ev (tCB rComb ta) σ H (.int (PySem.W.mcComb a b)) := ev_cb h fun H1 _ _ q => ⟨a, b, rfl, hc, q H1 (Ex.refl H1)⟩
theorem ev_sumU {ns : List Int} (h : EvU ta σ H (ns.map V.int)) : Ev (tCB (rSumU K) (tCons ta tNil)) σ H (.int ns.sum) := fun H1 e Q q =>
  h H1 e _ fun p H2 _ e2 hp => ⟨p, ns, rfl, st_of hp, q H2 e2⟩
theorem ev_minA {p : Addr} {n : Int} {ns : List Int} (h : Ev ta σ H (.ref p)) (hp : SqT K H p ((n :: ns).map V.int)) : Ev (tCB (rMinU K) (tCons ta tNil)) σ H (.int (ns.foldl min n)) := fun H1 e Q q =>
  h H1 e _ fun H2 e2 => ⟨p, n, ns, rfl, ex_t (e.trans e2) hp, q H2 e2⟩
end
section
variable {K : PySem.W.Frag} {σ : L2.St} {H : Hp} {ta tb te : TE}
theorem eu_slT {tl th : TO} {a : Addr} {xs : List V} {lo hi : Option Int} (h : Ev te σ H (.ref a)) (h1 : EvO tl σ H lo) (h2 : EvO th σ H hi) (hs : SqT K H a xs) (hw : ¬ (HT.sIx xs.length 0 lo = 0 ∧ HT.sIx xs.length xs.length hi = xs.length)) : EvU (tSl (rSlT K) te tl th) σ H (cutV xs lo hi) := fun H1 e _ q =>
  h H1 e _ fun H2 e2 => h1 H2 (e.trans e2) _ fun H3 e3 => h2 H3 ((e.trans e2).trans e3) _ fun H4 e4 =>
    ⟨a, xs, rfl, ex_t (((e.trans e2).trans e3).trans e4) hs, hw, fun p hp => q p _ (fresh_back ((e2.trans e3).trans e4) hp) (((e2.trans e3).trans e4).trans (Ex.new hp)) upd_same⟩
theorem ev_isTup {p : Addr} {xs : List V} (ha : Ev ta σ H (.ref p)) (h : H p = some (.tup xs)) : Ev (tCB (rIsi K) (tCons ta (tCons (tC (.ty "tuple")) tNil))) σ H (.bl true) :=
  ev_cb (ea_cons ha (ea_cons ev_c ea_nil)) fun H1 e _ q => ⟨.ref p, .ty "tuple", .type "tuple", .type "tuple", true, rfl, .ty _, .base (.tup (e _ _ h)), kit_ty (by decide +kernel), q H1 (Ex.refl H1)⟩
/-- two tuples of ints that are alike -/
theorem et_tuNe {t1 t2 : TE} {l : List Int} (h1 : EvU t1 σ H (l.map V.int)) (h2 : EvU t2 σ H (l.map V.int)) : EvT (tTest (tOp (rNeD K) t1 t2)) σ H false :=
  et_test (ev_opUU h1 h2 fun p p' H1 hp hp' _ => rv_neS (dp_intsT (st_of hp)) (dp_intsT (st_of hp')) (lay_intsT l (n := 3)).sh)
end
/-! the ways, as numbers -/
def mc (a b : Nat) : Int := PySem.W.mcComb (a : Int) (b : Int)
def wBits (b m : Nat) : Int := mc b m * 3 ^ m
def wWords (b m : Nat) : Int := if m = 0 then 1 else 3 * mc b m
def wStep (b m s : Nat) (acc : Int) : Int := if m - 2 * s = s then acc + 3 * mc b s * mc b (m - 2 * s) - 2 * mc b s else acc + 3 * mc b s * mc b (m - 2 * s)
def wWrong (b m : Nat) : Nat → Int
  | 0 => 0
  | k + 1 => wStep b m (k + 1) (wWrong b m k)
def waysL (b m : Nat) : List Int := [mc (3 * b) m, wBits b m, wWords b m, wWrong b m (m / 2), mc (3 * b) m - wWords b m - wWrong b m (m / 2)]
def waysChk (b m : Nat) : Bool := decide (wWords b m ≤ wBits b m) && decide (0 ≤ wWrong b m (m / 2)) && decide (0 ≤ mc (3 * b) m - wWords b m - wWrong b m (m / 2)) && decide (0 ≤ wWords b m) && decide (0 ≤ mc (3 * b) m)
/-! promises -/
def spW (f : Nat → Nat → Int) : Sp := fun vs H Q _ => ∃ b m : Nat, vs = [.int (b : Int), .int (m : Int)] ∧ b ≤ 32 ∧ m ≤ 96 ∧ ∀ H', Ex H H' → Q (.int (f b m)) H'
theorem SpW {f : Nat → Nat → Int} {H : Hp} {b m : Nat} (hb : b ≤ 32) (hm : m ≤ 96) : SpV (spW f) ([.int (b : Int), .int (m : Int)] ++ []) H (.int (f b m)) := fun H1 e Q q E => ⟨b, m, rfl, hb, hm, q⟩
def spWays : Sp := fun vs H Q _ => ∃ b m : Nat, vs = [.int (b : Int), .int (m : Int)] ∧ b ≤ 32 ∧ m ≤ 96 ∧ ∀ p H', H p = none → Ex H H' → H' p = some (.tup ((waysL b m).map V.int)) → Q (.ref p) H'
theorem SpWays {H : Hp} {b m : Nat} (hb : b ≤ 32) (hm : m ≤ 96) : SpU spWays ([.int (b : Int), .int (m : Int)] ++ []) H ((waysL b m).map V.int) := fun H1 e Q q E => ⟨b, m, rfl, hb, hm, q⟩
theorem mc_small_tab : ((List.range 33).all fun b => (List.range 97).all fun m => decide (mc b m < 2 ^ 60 ∧ 0 ≤ mc b m)) = true := by decide +kernel
theorem mc_small {b m : Nat} (hb : b ≤ 32) (hm : m ≤ 96) : mc b m < 2 ^ 60 ∧ 0 ≤ mc b m := of_decide_eq_true (List.all_eq_true.mp (List.all_eq_true.mp mc_small_tab b (List.mem_range.mpr (by omega))) m (List.mem_range.mpr (by omega)))
end My
set_option Elab.async false
set_option maxRecDepth 100000
set_option maxHeartbeats 4000000
/-! ### the ways: what the kernel reckons -/
namespace My
open PySem
theorem ways_tab : ((List.range 33).all fun b => (List.range (3 * b + 1)).all fun m => waysChk b m) = true := by decide +kernel
theorem ways_at {b m : Nat} (hb : b ≤ 32) (hm : m ≤ 3 * b) : wWords b m ≤ wBits b m ∧ 0 ≤ wWrong b m (m / 2) ∧ 0 ≤ mc (3 * b) m - wWords b m - wWrong b m (m / 2) ∧ 0 ≤ wWords b m ∧ 0 ≤ mc (3 * b) m := by
  have h := List.all_eq_true.mp (List.all_eq_true.mp ways_tab b (List.mem_range.mpr (by omega))) m (List.mem_range.mpr (by omega))
  unfold waysChk at h
  simp only [Bool.and_eq_true, decide_eq_true_eq] at h
  exact ⟨h.1.1.1.1, h.1.1.1.2, h.1.1.2, h.1.2, h.2⟩
theorem ways_small : ((List.range 33).all fun b => b == 0 || (waysL b 0 == [1, 1, 1, 0, 0] && waysL b 1 == [3 * (b : Int), 3 * (b : Int), 3 * (b : Int), 0, 0] && decide ((waysL b 2).getD 0 0 = 3 * (b : Int) * (3 * (b : Int) - 1) / 2) && decide ((waysL b 2).getD 0 0 - (waysL b 2).getD 1 0 = 3 * (b : Int)) && decide ((waysL b 2).getD 3 0 = 3 * (b : Int)))) = true := by decide +kernel
theorem ways_one {b : Nat} (h1 : 1 ≤ b) (hb : b ≤ 32) : waysL b 0 = [1, 1, 1, 0, 0] ∧ waysL b 1 = [3 * (b : Int), 3 * (b : Int), 3 * (b : Int), 0, 0] ∧ mc (3 * b) 2 = 3 * (b : Int) * (3 * (b : Int) - 1) / 2 ∧ mc (3 * b) 2 - wBits b 2 = 3 * (b : Int) ∧ wWrong b 2 1 = 3 * (b : Int) := by
  have h := List.all_eq_true.mp ways_small b (List.mem_range.mpr (by omega))
  have hb0 : (b == 0) = false := by rw [beq_eq_false_iff_ne]; omega
  rw [hb0] at h
  simp only [Bool.and_eq_true, Bool.or_eq_true, decide_eq_true_eq, beq_iff_eq, Bool.false_or] at h
  exact ⟨h.1.1.1.1, h.1.1.1.2, h.1.1.2, h.1.2, h.2⟩
def sumC (a : Nat) : Nat → Int
  | 0 => 0
  | k + 1 => sumC a k + mc a k
theorem sum_tab : ((List.range 33).all fun b => decide (sumC (3 * b) (3 * b + 1) = 2 ^ (3 * b))) = true := by decide +kernel
theorem sum_all {b : Nat} (hb : b ≤ 32) : sumC (3 * b) (3 * b + 1) = 2 ^ (3 * b) := of_decide_eq_true (List.all_eq_true.mp sum_tab b (List.mem_range.mpr (by omega)))
theorem ways_over {b m : Nat} (h : b < m) : wBits b m = 0 ∧ wWords b m = 0 := by
  have h1 : mc b m = 0 := PySem.W.mcComb_above (by omega)
  unfold wBits wWords
  rw [h1, if_neg (by omega)]
  simp
end My
set_option Elab.async false
set_option linter.all false
set_option maxRecDepth 100000
set_option maxHeartbeats 400000
/-! ### three copies: mathematics and what lists of three need -/
namespace My
open PySem PySem.Spec PyProof.Rows L2 Evl
section
variable {K : PySem.W.Frag} {σ : L2.St} {H : Hp} {ta tb te : TE} {tz : TS} {D : Ends}
theorem q_unl3 {i j l : Nat} {x y z : V} {a : Addr} (h : Ev te σ H (.ref a)) (hx : SqL K H a [x, y, z]) (k : ∀ H1, Ex H H1 → tz D (((σ.set i (some x)).set j (some y)).set l (some z)) H1) : tSeq (tAsg te (gUnl K 3 (gCons (gName i) (gCons (gName j) (gCons (gName l) gNil))))) tz D σ H :=
  h H (Ex.refl H) _ fun H1 e => ⟨a, _, rfl, ex_l e hx, rfl, _, _, rfl, _, _, rfl, _, _, rfl, rfl, k H1 e⟩
theorem ev_cnt {p : Addr} {ns : List Int} {k : Int} (ha : Ev ta σ H (.ref p)) (hp : SqL K H p (ns.map V.int)) (hb : Ev tb σ H (.int k)) : Ev (tBM K "list" (rCntI K) ta (tCons tb tNil)) σ H (.int ((ns.count k : Nat) : Int)) := fun H1 e Q q =>
  ha H1 e _ fun H2 e2 => ⟨Or.inl ⟨rfl, _, ex_l (e.trans e2) hp⟩, hb H2 (e.trans e2) _ fun H3 e3 => ⟨p, ns, k, rfl, rfl, ex_l ((e.trans e2).trans e3) hp, q H3 (e2.trans e3)⟩⟩
end
def maj (a b c : Nat) : Nat := (a &&& b ||| a &&& c) ||| b &&& c
theorem maj_bit (a b c p : Nat) : (maj a b c).testBit p = decide (1 < (a.testBit p).toNat + (b.testBit p).toNat + (c.testBit p).toNat) := by
  unfold maj
  rw [Nat.testBit_or, Nat.testBit_or, Nat.testBit_and, Nat.testBit_and, Nat.testBit_and]
  cases a.testBit p <;> cases b.testBit p <;> cases c.testBit p <;> decide
theorem maj_lt {a b c m : Nat} (ha : a < 2 ^ m) (hb : b < 2 ^ m) (hc : c < 2 ^ m) : maj a b c < 2 ^ m := by
  unfold maj
  exact Nat.or_lt_two_pow (Nat.or_lt_two_pow (Nat.and_lt_two_pow _ hb) (Nat.and_lt_two_pow _ hc)) (Nat.and_lt_two_pow _ hc)
theorem maj_rot (a b c : Nat) : maj b c a = maj a b c := by
  refine Nat.eq_of_testBit_eq fun p => ?_
  rw [maj_bit, maj_bit]
  cases a.testBit p <;> cases b.testBit p <;> cases c.testBit p <;> decide
theorem maj_row {a b c m : Nat} (ha : a < 2 ^ m) (hb : b < 2 ^ m) (hc : c < 2 ^ m) : rowOf ((List.range m).filter fun p => decide (1 < (a.testBit p).toNat + (b.testBit p).toNat + (c.testBit p).toNat)) = maj a b c := by
  have h := row_bs (maj_lt ha hb hc)
  unfold bs at h
  rw [← h]
  congr 1
  exact List.filter_congr fun p _ => (maj_bit a b c p).symm
/-- the value by words -/
def wrd (a b c : Nat) : V := if a = b ∨ a = c then .int (a : Int) else if b = c then .int (b : Int) else .non
theorem wrd_rot (a b c : Nat) : wrd b c a = wrd a b c := by
  unfold wrd
  by_cases h1 : a = b
  · subst h1
    by_cases h2 : a = c
    · subst h2; simp
    · simp [h2]
  · have h1' : ¬ b = a := fun h => h1 h.symm
    by_cases h2 : a = c
    · subst h2; simp [h1, h1']
    · have h2' : ¬ c = a := fun h => h2 h.symm
      by_cases h3 : b = c
      · subst h3; simp [h1, h1']
      · simp [h1, h1', h2, h2', h3]
theorem tab4 : ∀ p : Nat, p < 32 → atI [V.int 1, .int 256, .int 65536, .int 16777216] ((p : Int) / 8) = some (.int ((2 ^ (8 * (p / 8)) : Nat) : Int)) := by decide +kernel
theorem tab8 : ∀ p : Nat, p < 32 → atI [V.int 1, .int 2, .int 4, .int 8, .int 16, .int 32, .int 64, .int 128] ((p : Int) % 8) = some (.int ((2 ^ (p % 8) : Nat) : Int)) := by decide +kernel
theorem pow_two_parts : ∀ p : Nat, p < 32 → 2 ^ (8 * (p / 8)) < 2 ^ 30 ∧ 2 ^ (p % 8) < 2 ^ 30 := by decide +kernel
theorem pow_parts (p : Nat) : 2 ^ (8 * (p / 8)) * 2 ^ (p % 8) = 2 ^ p := by
  rw [← Nat.pow_add]
  congr 1
  omega
theorem digit_eq (n p : Nat) : ((n : Int) / ((2 ^ (8 * (p / 8)) : Nat) : Int) / ((2 ^ (p % 8) : Nat) : Int)) % 2 = ((n.testBit p).toNat : Int) := by
  have h : (n : Int) / ((2 ^ (8 * (p / 8)) : Nat) : Int) / ((2 ^ (p % 8) : Nat) : Int) = ((n / 2 ^ p : Nat) : Int) := by
    rw [← Int.natCast_ediv, ← Int.natCast_ediv, Nat.div_div_eq_div_mul, pow_parts]
  rw [h, Nat.testBit_eq_decide_div_mod_eq]
  have h2 := Nat.mod_two_eq_zero_or_one (n / 2 ^ p)
  rcases h2 with h2 | h2
  · rw [decide_eq_false (by omega)]; show _ = (0 : Int); omega
  · rw [decide_eq_true h2]; show _ = (1 : Int); omega
/-! promises -/
def spLdig : Sp := fun vs H Q _ => ∃ n p : Nat, vs = [.int (n : Int), .int (p : Int)] ∧ p < 32 ∧ ∀ H', Ex H H' → Q (.int ((n.testBit p).toNat : Int)) H'
theorem SpLdig {H : Hp} {n p : Nat} (hp : p < 32) : SpV spLdig ([.int (n : Int), .int (p : Int)] ++ []) H (.int ((n.testBit p).toNat : Int)) := fun H1 e Q q E => ⟨n, p, rfl, hp, q⟩
def spLstep : Sp := fun vs H Q _ => ∃ p : Nat, vs = [.int (p : Int)] ∧ p < 32 ∧ ∀ H', Ex H H' → Q (.int ((2 ^ p : Nat) : Int)) H'
theorem SpLstep {H : Hp} {p : Nat} (hp : p < 32) : SpV spLstep ([.int (p : Int)] ++ []) H (.int ((2 ^ p : Nat) : Int)) := fun H1 e Q q E => ⟨p, rfl, hp, q⟩
def spLval2 (K : PySem.W.Frag) : Sp := fun vs H Q _ => ∃ (a : Addr) (ns : List Int) (i b : Nat), vs = [.ref a, .int (i : Int), .int (b : Int)] ∧ SqL K H a (ns.map V.int) ∧ (∀ n ∈ ns, 0 ≤ n ∧ n < 1009) ∧ i + 3 < ns.length ∧ b ≤ 32 ∧ ∀ (v : Nat) H', v < 2 ^ b → Ex H H' → Q (.int (v : Int)) H'
def spLcopies (K : PySem.W.Frag) : Sp := fun vs H Q _ => ∃ (a : Addr) (ns : List Int) (i b : Nat), vs = [.ref a, .int (i : Int), .int (b : Int)] ∧ SqL K H a (ns.map V.int) ∧ (∀ n ∈ ns, 0 ≤ n ∧ n < 1009) ∧ i + 10 < ns.length ∧ 1 ≤ b ∧ b ≤ 32 ∧
  ∀ (x y z : Nat) p H', x < 2 ^ b → y < 2 ^ b → z < 2 ^ b → H p = none → Ex H H' → H' p = some (.lst [.int (x : Int), .int (y : Int), .int (z : Int)]) → Q (.ref p) H'
def spByBits (K : PySem.W.Frag) : Sp := fun vs H Q _ => ∃ (p : Addr) (a b c : Nat), vs = [.ref p] ∧ SqL K H p [.int (a : Int), .int (b : Int), .int (c : Int)] ∧ ∀ H', Ex H H' → Q (.int ((maj a b c : Nat) : Int)) H'
theorem SpByBits {K : PySem.W.Frag} {H : Hp} {p : Addr} {a b c : Nat} (h : SqL K H p [.int (a : Int), .int (b : Int), .int (c : Int)]) : SpV (spByBits K) ([.ref p] ++ []) H (.int ((maj a b c : Nat) : Int)) := fun H1 e Q q E => ⟨p, a, b, c, rfl, ex_l e h, q⟩
def spByWords (K : PySem.W.Frag) : Sp := fun vs H Q _ => ∃ (p : Addr) (a b c : Nat), vs = [.ref p] ∧ SqL K H p [.int (a : Int), .int (b : Int), .int (c : Int)] ∧ ∀ H', Ex H H' → Q (wrd a b c) H'
theorem SpByWords {K : PySem.W.Frag} {H : Hp} {p : Addr} {a b c : Nat} (h : SqL K H p [.int (a : Int), .int (b : Int), .int (c : Int)]) : SpV (spByWords K) ([.ref p] ++ []) H (wrd a b c) := fun H1 e Q q E => ⟨p, a, b, c, rfl, ex_l e h, q⟩
/-- the numbers of the copies that are not the value -/
def odd3 (a b c : Nat) : List Nat := (List.range 3).filter fun i => !decide ([a, b, c].getD i 0 = maj a b c)
def spOdd (K : PySem.W.Frag) : Sp := fun vs H Q _ => ∃ (p : Addr) (a b c : Nat), vs = [.ref p] ∧ SqL K H p [.int (a : Int), .int (b : Int), .int (c : Int)] ∧ ∀ r H', H r = none → Ex H H' → H' r = some (.lst ((iL (odd3 a b c)).map V.int)) → Q (.ref r) H'
theorem SpOdd {K : PySem.W.Frag} {H : Hp} {p : Addr} {a b c : Nat} (h : SqL K H p [.int (a : Int), .int (b : Int), .int (c : Int)]) : SpL (spOdd K) ([.ref p] ++ []) H ((iL (odd3 a b c)).map V.int) := fun H1 e Q q E => ⟨p, a, b, c, rfl, ex_l e h, q⟩
section
variable {K : PySem.W.Frag} {σ : L2.St} {H : Hp} {ta tb te : TE}
theorem ev_isIB {i : Int} (h : Ev ta σ H (.int i)) : Ev (tCB (rIsi K) (tCons ta (tCons (tC (.ty "bool")) tNil))) σ H (.bl false) :=
  ev_cb (ea_cons h (ea_cons ev_c ea_nil)) fun H1 e _ q => ⟨_, _, .type "int", .type "bool", false, rfl, .ty _, .base (.int _), kit_ty (by decide +kernel), q H1 (Ex.refl H1)⟩
theorem et_lsNe2 {t1 t2 : TE} {l : List Int} {p : Addr} (h1 : Ev t1 σ H (.ref p)) (hp : SqL K H p (l.map V.int)) (h2 : EvL t2 σ H (l.map V.int)) : EvT (tTest (tOp (rNeD K) t1 t2)) σ H false :=
  et_test (ev_opL h1 h2 fun q H1 hq e => rv_neS (dp_ints (ex_l e hp)) (dp_ints (sq_of hq)) (lay_ints l (n := 3)).sh)
theorem ev_isBB {c : Bool} (h : Ev ta σ H (.bl c)) : Ev (tCB (rIsi K) (tCons ta (tCons (tC (.ty "bool")) tNil))) σ H (.bl true) :=
  ev_cb (ea_cons h (ea_cons ev_c ea_nil)) fun H1 e _ q => ⟨_, _, .type "bool", .type "bool", true, rfl, .ty _, .base (.bl _), kit_ty (by decide +kernel), q H1 (Ex.refl H1)⟩
/-- the copies that come twice or more -/
def sameF (ns : List Int) : Nat → Bool := fun i => decide ((1 : Int) < ((ns.count (ns.getD i 0) : Nat) : Int))
def sameV (x y z : Nat) : List V := given 3 (sameF [(x : Int), (y : Int), (z : Int)]) (fun i => V.int ([(x : Int), (y : Int), (z : Int)].getD i 0))
theorem same_wrd (x y z : Nat) : atI (sameV x y z ++ [.non]) 0 = some (wrd x y z) := by
  have r : List.range 3 = [0, 1, 2] := rfl
  have key : ∀ l : List V, ∀ v, (l ++ [V.non])[0]? = some v → atI (l ++ [.non]) 0 = some v := fun l v h => atI_nat (j := 0) h
  refine key _ _ ?_
  unfold sameV given sameF wrd
  rw [r]
  by_cases h1 : x = y
  · subst h1
    by_cases h2 : x = z
    · subst h2; simp [List.count_cons, List.filter_cons]
    · have i1 : ¬ (x : Int) = z := by omega
      have i2 : ¬ (z : Int) = x := by omega
      simp [List.count_cons, List.filter_cons, i1, i2]
  · have i1 : ¬ (x : Int) = y := by omega
    have i2 : ¬ (y : Int) = x := by omega
    by_cases h2 : x = z
    · subst h2
      simp [List.count_cons, List.filter_cons, h1, i1, i2]
    · have i3 : ¬ (x : Int) = z := by omega
      have i4 : ¬ (z : Int) = x := by omega
      by_cases h3 : y = z
      · subst h3
        simp [List.count_cons, List.filter_cons, h1, i1, i2]
      · have i5 : ¬ (y : Int) = z := by omega
        have i6 : ¬ (z : Int) = y := by omega
        simp [List.count_cons, List.filter_cons, h1, h2, h3, i1, i2, i3, i4, i5, i6]
theorem same_len (x y z : Nat) : (sameV x y z).length ≤ 3 := given_len _ _ _
theorem inj_at {x y z i : Nat} {v : V} (h : ([V.int (x : Int), .int (y : Int), .int (z : Int)])[i]? = some v) : v = .int ([(x : Int), (y : Int), (z : Int)].getD i 0) ∧ i < 3 ∧ v = .int (([x, y, z].getD i 0 : Nat) : Int) := by
  match i, h with
  | 0, h => exact ⟨(Option.some.inj h).symm, by omega, (Option.some.inj h).symm⟩
  | 1, h => exact ⟨(Option.some.inj h).symm, by omega, (Option.some.inj h).symm⟩
  | 2, h => exact ⟨(Option.some.inj h).symm, by omega, (Option.some.inj h).symm⟩
end
theorem xor_row {a c m : Nat} (ha : a < 2 ^ m) (hc : c < 2 ^ m) : rowOf ((List.range m).filter fun p => !decide (V.int ((a.testBit p).toNat : Int) = V.int ((c.testBit p).toNat : Int))) = a ^^^ c := by
  have h := row_bs (Nat.xor_lt_two_pow ha hc)
  unfold bs at h
  rw [← h]
  congr 1
  refine List.filter_congr fun p _ => ?_
  rw [Nat.testBit_xor]
  cases a.testBit p <;> cases c.testBit p <;> decide
section
variable {K : PySem.W.Frag} {σ : L2.St} {H : Hp} {T1 T2 : TE} {ta : TA}
theorem ev_sumx {j : Nat} {vs : List Nat} {a c b : Nat} (hb : b ≤ 32) (ha : a < 2 ^ b) (hc : c < 2 ^ b) (h : EvA ta σ H [.int (b : Int)]) (hw : ∀ x, wipe ((wipe σ vs).set j (some x)) vs = wipe σ vs) (hj : ∀ x : V, ((wipe σ vs).set j (some x))[j]? = some (some x))
    (h1 : ∀ (p : Nat) H1, Ex H H1 → Ev T1 ((wipe σ vs).set j (some (.int (p : Int)))) H1 (.int (a : Int))) (h2 : ∀ (p : Nat) H1, Ex H H1 → Ev T2 ((wipe σ vs).set j (some (.int (p : Int)))) H1 (.int (c : Int))) :
    Ev (tCB (rSum K) (tCons (tLc (iRng1 ta) (gName j) (tTest (tOp rNe (tCall spLdig [] E0 (tCons T1 (tCons (tVar j) tNil))) (tCall spLdig [] E0 (tCons T2 (tCons (tVar j) tNil))))) (tCall spLstep [] E0 (tCons (tVar j) tNil)) vs) tNil)) σ H (.int ((a ^^^ c : Nat) : Int)) := by
  refine ev_is (ev_sumL (ns := iL (((List.range b).filter fun p => !decide (V.int ((a.testBit p).toNat : Int) = V.int ((c.testBit p).toNat : Int))).map (2 ^ ·))) (el_is (el_lcR1 (n := (b : Int)) (fun p => !decide (V.int ((a.testBit p).toNat : Int) = V.int ((c.testBit p).toNat : Int))) (fun p => V.int ((2 ^ p : Nat) : Int)) h (by omega) hw (fun p H1 e1 hp => et_ne (ev_call (ea_cons (h1 p H1 e1) (ea_cons (ev_var (hj _)) ea_nil)) (SpLdig (by omega))) (ev_call (ea_cons (h2 p H1 e1) (ea_cons (ev_var (hj _)) ea_nil)) (SpLdig (by omega))) rfl) (fun p H1 e1 hp _ => ev_call (ea_cons (ev_var (hj _)) ea_nil) (SpLstep (by omega)))) ?ll)) ?vv
  case ll =>
    rw [Int.toNat_natCast, given_ints]
    unfold iL
    simp only [List.map_map]
    rfl
  case vv =>
    rw [sum_iL]
    show V.int ((rowOf _ : Nat) : Int) = _
    rw [xor_row ha hc]
end
theorem maj_xor (a b c v : Nat) : maj (a ^^^ v) (b ^^^ v) (c ^^^ v) = maj a b c ^^^ v := by
  refine Nat.eq_of_testBit_eq fun p => ?_
  rw [Nat.testBit_xor, maj_bit, maj_bit, Nat.testBit_xor, Nat.testBit_xor, Nat.testBit_xor]
  cases a.testBit p <;> cases b.testBit p <;> cases c.testBit p <;> cases v.testBit p <;> decide
theorem xor_inj {a b v : Nat} : a ^^^ v = b ^^^ v ↔ a = b := by
  constructor
  · intro h
    have h2 : (a ^^^ v) ^^^ v = (b ^^^ v) ^^^ v := by rw [h]
    rw [Nat.xor_assoc, Nat.xor_assoc, Nat.xor_self, Nat.xor_zero, Nat.xor_zero] at h2
    exact h2
  · intro h; rw [h]
/-- the outcome by words -/
def outc (a b c : Nat) : Str := if wrd a b c = .non then "none" else if wrd a b c = .int 0 then "right" else "wrong"
theorem wrd_xor (a b c v : Nat) : (wrd a b c = .non ∧ wrd (a ^^^ v) (b ^^^ v) (c ^^^ v) = .non) ∨ ∃ x : Nat, wrd a b c = .int (x : Int) ∧ wrd (a ^^^ v) (b ^^^ v) (c ^^^ v) = .int ((x ^^^ v : Nat) : Int) ∧ (x = 0 → maj a b c = 0) := by
  have hm : ∀ b c, maj 0 b c = b &&& c := fun b c => by unfold maj; simp
  unfold wrd
  simp only [xor_inj]
  by_cases h1 : a = b ∨ a = c
  · rw [if_pos h1, if_pos h1]
    refine Or.inr ⟨a, rfl, rfl, fun h => ?_⟩
    subst h
    rw [hm]
    rcases h1 with h1 | h1
    · rw [← h1]; simp
    · rw [← h1]; simp
  · rw [if_neg h1, if_neg h1]
    by_cases h2 : b = c
    · rw [if_pos h2, if_pos h2]
      refine Or.inr ⟨b, rfl, rfl, fun h => ?_⟩
      subst h
      subst h2
      unfold maj
      simp
    · rw [if_neg h2, if_neg h2]
      exact Or.inl ⟨rfl, rfl⟩
def spSure (K : PySem.W.Frag) : Sp := fun vs H Q _ => ∃ (p : Addr) (a b c : Nat), vs = [.ref p] ∧ SqL K H p [.int (a : Int), .int (b : Int), .int (c : Int)] ∧ ∀ H', Ex H H' → Q (.bl (decide (maj a b c = 0))) H'
theorem SpSure {K : PySem.W.Frag} {H : Hp} {p : Addr} {a b c : Nat} (h : SqL K H p [.int (a : Int), .int (b : Int), .int (c : Int)]) : SpV (spSure K) ([.ref p] ++ []) H (.bl (decide (maj a b c = 0))) := fun H1 e Q q E => ⟨p, a, b, c, rfl, ex_l e h, q⟩
def spOutc (K : PySem.W.Frag) : Sp := fun vs H Q _ => ∃ (p : Addr) (a b c : Nat), vs = [.ref p] ∧ SqL K H p [.int (a : Int), .int (b : Int), .int (c : Int)] ∧ ∀ H', Ex H H' → Q (.str (outc a b c)) H'
theorem SpOutc {K : PySem.W.Frag} {H : Hp} {p : Addr} {a b c : Nat} (h : SqL K H p [.int (a : Int), .int (b : Int), .int (c : Int)]) : SpV (spOutc K) ([.ref p] ++ []) H (.str (outc a b c)) := fun H1 e Q q E => ⟨p, a, b, c, rfl, ex_l e h, q⟩
end My
set_option Elab.async false
set_option linter.all false
set_option maxRecDepth 100000
set_option maxHeartbeats 400000
/-! ### l.count(x) where items are data of any depth; comprehensions whose elements are known by a property -/
namespace My
open PySem PySem.Spec PyProof.Rows L2 Evl
section
variable {X : Cx}
def rCntD (K : PySem.W.Frag) : V → List V → Hp → VK → Prop := fun x xs H Q => ∃ (a : Addr) (y : V) (d : PyData) (ds : List PyData), x = V.ref a ∧ xs = [y] ∧ Dp K H (V.ref a) (.list ds) ∧ Dp K H y d ∧
  SeqAt.shaped (.list ds) = true ∧ SeqAt.shaped d = true ∧ Q (.int ((ds.countP fun z => PyData.eqv z d : Nat) : Int)) H
theorem mt_cntD (hu : X.A.units + 65 < cLine) : MtR X "list.count" (rCntD X.K) := by
  intro pins s σ H x xs v us Q I rx rxs h
  obtain ⟨a, y, d, ds, rfl, rfl, hl, hy, sl, sd, q⟩ := h
  cases rx
  cases rxs with
  | cons ry rt =>
    rename_i uy ut
    cases rt
    obtain ⟨bs, r1⟩ := Dp.reads I d y uy hy ry
    have hxs : PyData.canLayAll0 ds = true := SeqAt.canLay_of_shaped sl
    have hroom : X.A.units + 1 + min (PyData.depthAll ds) d.depth < cLine := room_in_shaped sd hu
    cases hl with
    | lst hs ha =>
      obtain ⟨its, rv, ⟨⟨cls, dd, data, sls⟩, n, ho, hc, hdn, hdt⟩, hlen⟩ := I.list hs
      simp only at hc hdt
      subst hc hdt
      obtain ⟨as, h4⟩ := Dp.readsAll I ds _ its ha rv
      have hmap : its.map (SeqAt.readOf s.heap) = ds := SeqAt.readsAll_map ds its as hxs h4
      refine call_meets PySem.F.slot_list_count ⟨_, ho, rfl⟩ PySem.F.entry_list_count (PySem.F.args_list_count_2 _ _)
        (SeqAt.list_countAt a its.toArray n dd sls uy (fun u => PyData.eqv (SeqAt.readOf s.heap u) d)) ⟨ho, SeqAt.items_eqAt (vs := its.toArray) (show ReadsAll s.heap its.toArray.toList ds as from h4) r1 hxs (SeqAt.canLay_of_shaped sd) hroom, ?_⟩
      have ec : its.toArray.toList.countP (fun u => PyData.eqv (SeqAt.readOf s.heap u) d) = ds.countP fun z => PyData.eqv z d := by
        rw [← hmap, List.countP_map]
        rfl
      refine ⟨.int ((ds.countP fun z => PyData.eqv z d : Nat) : Int), H, I.tok _, ⟨s.toks, ?_⟩, q⟩
      show Value.int ((its.toArray.toList.countP (fun u => PyData.eqv (SeqAt.readOf s.heap u) d) : Nat) : Int) s.toks = Value.int _ s.toks
      rw [ec]
end
end My
namespace My
open PySem PySem.Spec PyProof.Rows L2 Evl
section
variable {X : Cx}
def bI (b : Bool) : Int := if b = true then 1 else 0
def rSumB (K : PySem.W.Frag) : List V → Hp → VK → Prop := fun vs H Q => ∃ (a : Addr) (bs : List Bool), vs = [V.ref a] ∧ SqL K H a (bs.map V.bl) ∧ Q (.int (bs.map bI).sum) H
theorem vals_bl : ∀ {bs : List Bool} {its : List Value}, Vals (bs.map V.bl) its → its = bs.map Value.bool
  | [], _, r => by rw [List.map_nil] at r; cases r; rfl
  | b :: bs, _, r => by
    rw [List.map_cons] at r
    cases r with
    | cons h t =>
      have e := vals_bl t
      subst e
      cases (show _ = Value.bool b from h)
      rfl
theorem cr_sumB (hc : X.calm = true) : CallR X (.builtin "sum") (rSumB X.K) := by
  intro pins s σ H vs us Q I r h
  obtain ⟨a, bs, rfl, hs, q⟩ := h
  obtain ⟨its, rv, hl, _⟩ := I.list hs
  rw [Vals.ref1 r]
  have e := vals_bl rv
  subst e
  have hl := hl.isList
  have hlt : a < s.heap.objs.size := by obtain ⟨_, e, _⟩ := hl; exact Heap.lt_size e
  have W := (Walks.list (prog := X.prog) (w := X.w) (A := X.A.in1) (I.ok.hd hc) s.heap.objs.size a (Nat.ne_of_lt hlt) (bs.map Value.bool).toArray).toS
  refine call_sum_walkAnyB (wpAny_pyIter_list hl ⟨s.heap.objs.size, _, _, _, _, _, _, fun j => (bs.map bI).getD j 0, rfl, W, ⟨⟨_, Heap.get?_push_size _ rfl, rfl, rfl⟩, hl.push _⟩, fun b hb => ?_, fun i v hP => ?_, fun s' t' hm => ?_⟩)
  · show b < (s.heap.push _).objs.size
    rw [Heap.size_push]
    rcases List.mem_cons.mp hb with rfl | hb
    · exact Nat.lt_succ_self _
    · rcases List.mem_cons.mp hb with rfl | hb
      · exact Nat.lt_succ_of_lt hlt
      · cases hb
  · have hP : (bs.map Value.bool).toArray[i]? = some v := hP
    rw [List.getElem?_toArray, List.getElem?_map] at hP
    cases hb : bs[i]? with
    | none => rw [hb] at hP; cases hP
    | some b =>
      rw [hb] at hP
      cases hP
      refine .inr ⟨b, rfl, ?_⟩
      show (bs.map bI).getD i 0 = _
      rw [List.getD_eq_getElem?_getD, List.getElem?_map, hb]
      rfl
  · obtain ⟨h', g', d', tk', os'⟩ := s'
    have e1 : g' = s.gens := hm.gens
    have e2 : d' = s.drawn := hm.drawn
    have e3 : os' = s.os := hm.os
    subst e1 e2 e3
    have hk : ∀ b o, s.heap.get? b = some o → h'.get? b = some o := fun b o e => hm.heap b o (fun hb => absurd (Heap.lt_size e) ((List.mem_singleton.mp hb) ▸ Nat.lt_irrefl _)) (Heap.get?_push_of_some _ e)
    have e := preSum_getD (bs.map bI) (bs.map Value.bool).toArray.size
    rw [List.take_of_length_le (by simp)] at e
    rw [e]
    exact ⟨.int _, H, I.kept hk, ⟨_, rfl⟩, q⟩
end
section
variable {K : PySem.W.Frag} {σ : L2.St} {H : Hp} {ta te tl : TE}
theorem ev_sumB {bs : List Bool} (ha : EvL ta σ H (bs.map V.bl)) : Ev (tCB (rSumB K) (tCons ta tNil)) σ H (.int (bs.map bI).sum) := fun H1 e Q q =>
  ha H1 e _ fun p H2 np e2 hp => ⟨p, bs, rfl, sq_of hp, q H2 e2⟩
/-- what is made is new, and is o -/
def EvN (te : TE) (σ : L2.St) (H : Hp) (o : HO) : Prop := ∀ H1, Ex H H1 → ∀ Q : VK, (∀ p H2, H1 p = none → Ex H1 H2 → H2 p = some o → Q (.ref p) H2) → te σ H1 Q
/-- the new lists that a comprehension makes, up to the turn i -/
def Cn (H : Hp) (l : Nat → HO) (Dl : Addr) (i : Nat) (H' : Hp) : Prop := H Dl = none ∧ Ex H H' ∧ ∃ qs : List Addr, qs.length = i ∧ H' Dl = some (.lst (qs.map V.ref)) ∧ qs.Nodup ∧ ∀ k q, qs[k]? = some q → q ≠ Dl ∧ H q = none ∧ H' q = some (l k)
theorem cn_zero {H : Hp} {l : Nat → HO} {Dl : Addr} (h : H Dl = none) : Cn H l Dl 0 (upd H Dl (.lst [])) := ⟨h, Ex.new h, [], rfl, upd_same, List.nodup_nil, fun k q z => by cases z⟩
theorem cn_turn {H H' : Hp} {l : Nat → HO} {Dl : Addr} {i : Nat} {σ2 : L2.St} (p : Cn H l Dl i H') (hi : i < 50000) (he : EvN te σ2 H (l i)) :
    tYes σ2 H' fun b H3 => if b = true then te σ2 H3 fun y H4 => ∃ acc, H4 Dl = some (.lst acc) ∧ acc.length < sizeLine ∧ Cn H l Dl (i + 1) (upd H4 Dl (.lst (acc ++ [y]))) else Cn H l Dl (i + 1) H3 := by
  obtain ⟨p1, p2, qs, hq1, hq2, hq3, hq4⟩ := p
  show te σ2 H' fun y H4 => ∃ acc, H4 Dl = some (.lst acc) ∧ acc.length < sizeLine ∧ Cn H l Dl (i + 1) (upd H4 Dl (.lst (acc ++ [y])))
  refine he H' p2 _ fun q H4 nq e4 hq => ⟨qs.map V.ref, e4 _ _ hq2, sz_lt (by rw [List.length_map]; omega), p1, Ex.mut (p2.trans e4) p1, qs ++ [q], ?_, ?_, ?_, ?_⟩
  · rw [List.length_append, hq1]; rfl
  · rw [upd_same, List.map_append]; rfl
  · refine List.nodup_append.mpr ⟨hq3, by simp, fun a ha c hc e => ?_⟩
    rw [List.mem_singleton.mp hc] at e
    subst e
    obtain ⟨k, hk⟩ := List.getElem?_of_mem ha
    rw [(hq4 k _ hk).2.2] at nq
    cases nq
  · intro k z hz
    by_cases hk : k < qs.length
    · rw [List.getElem?_append_left hk] at hz
      obtain ⟨h1, h2, h3⟩ := hq4 k z hz
      exact ⟨h1, h2, by rw [upd_ne h1]; exact e4 _ _ h3⟩
    · have hk2 : k = qs.length := by
        have := (List.getElem?_eq_some_iff.mp hz).1
        rw [List.length_append] at this
        have h1 : [q].length = 1 := rfl
        omega
      subst hk2
      rw [List.getElem?_append_right (Nat.le_refl _), Nat.sub_self] at hz
      cases hz
      have ne : q ≠ Dl := fun e => by rw [e, hq2] at nq; cases nq
      exact ⟨ne, fresh_back p2 nq, by rw [upd_ne ne, hq1]; exact hq⟩
/-- at p a list of n lists, all new since H -/
def NewLs (H H' : Hp) (p : Addr) (n : Nat) (l : Nat → HO) : Prop := H p = none ∧ ∃ qs : List Addr, qs.length = n ∧ H' p = some (.lst (qs.map V.ref)) ∧ qs.Nodup ∧ ∀ k q, qs[k]? = some q → q ≠ p ∧ H q = none ∧ H' q = some (l k)
theorem evG_lcR {tv : TA} {j : Nat} {vs : List Nat} {n : Int} (l : Nat → HO) (h : EvA tv σ H [.int n]) (hn : 0 ≤ n ∧ n ≤ 40000) (hw : ∀ x, wipe ((wipe σ vs).set j (some x)) vs = wipe σ vs)
    (he : ∀ (i : Nat) H1, Ex H H1 → (i : Int) < n → EvN te ((wipe σ vs).set j (some (.int (i : Int)))) H1 (l i)) :
    EvG (tLc (iRng1 tv) (gName j) tYes te vs) σ H (fun v H' => ∃ p, v = .ref p ∧ NewLs H H' p n.toNat l) := fun H0 e Q q => h H0 e _ fun H1 e1 => ⟨n, rfl, by omega, by omega, fun Dl hD =>
  lc_range (lo := 0) (n := n.toNat) (Cn H1 l Dl) (cn_zero hD) (fun i H' hi p => by
    have e0 : (0 : Int) + (i : Int) = (i : Int) := Int.zero_add _
    show wipe ((wipe σ vs).set j (some (.int ((0 : Int) + (i : Int))))) vs = wipe σ vs ∧ tYes ((wipe σ vs).set j (some (.int ((0 : Int) + (i : Int))))) H' fun b H3 => if b = true then te ((wipe σ vs).set j (some (.int ((0 : Int) + (i : Int))))) H3 fun y H4 => ∃ acc, H4 Dl = some (.lst acc) ∧ acc.length < sizeLine ∧ Cn H1 l Dl (i + 1) (upd H4 Dl (.lst (acc ++ [y]))) else Cn H1 l Dl (i + 1) H3
    rw [e0]
    exact ⟨hw _, cn_turn p (by omega) (he i H1 (e.trans e1) (by omega))⟩) (fun H' p => q _ H' (e1.trans p.2.1) ⟨Dl, rfl, fresh_back (e.trans e1) p.1, p.2.2.imp fun qs hq => ⟨hq.1, hq.2.1, hq.2.2.1, fun k z hz => ⟨(hq.2.2.2 k z hz).1, fresh_back (e.trans e1) (hq.2.2.2 k z hz).2.1, (hq.2.2.2 k z hz).2.2⟩⟩⟩)⟩
theorem evG_lcLn {a : Addr} {xs : List V} {j : Nat} {vs : List Nat} (l : Nat → HO) (h : Ev tl σ H (.ref a)) (hx : SqL K H a xs) (hz : xs.length ≤ 40000) (hw : ∀ x, wipe ((wipe σ vs).set j (some x)) vs = wipe σ vs)
    (he : ∀ (i : Nat) (x : V) H1, Ex H H1 → xs[i]? = some x → EvN te ((wipe σ vs).set j (some x)) H1 (l i)) :
    EvG (tLc (iList K tl) (gName j) tYes te vs) σ H (fun v H' => ∃ p, v = .ref p ∧ NewLs H H' p xs.length l) := fun H0 e Q q => h H0 e _ fun H1 e1 => ⟨a, rfl, ⟨xs, ex_l (e.trans e1) hx⟩, fun Dl hD =>
  lc_list (xs := xs) (Cn H1 l Dl) (cn_zero hD) (fun i H' _ p => ex_l ((e.trans e1).trans p.2.1) hx) (fun i x H' hi p => ⟨hw x, cn_turn p (by have := (List.getElem?_eq_some_iff.mp hi).1; omega) (he i x H1 (e.trans e1) hi)⟩)
    (fun H' p => q _ H' (e1.trans p.2.1) ⟨Dl, rfl, fresh_back (e.trans e1) p.1, p.2.2.imp fun qs hq => ⟨hq.1, hq.2.1, hq.2.2.1, fun k z hz => ⟨(hq.2.2.2 k z hz).1, fresh_back (e.trans e1) (hq.2.2.2 k z hz).2.1, (hq.2.2.2 k z hz).2.2⟩⟩⟩)⟩
end
end My
set_option Elab.async false
set_option maxRecDepth 100000
set_option maxHeartbeats 4000000
/-! ### all choices of places, what comes of each, and how many there are of each sort -/
namespace My
open PySem
def subsN : Nat → List (List Nat)
  | 0 => [[]]
  | k + 1 => subsN k ++ (subsN k).map fun l => l ++ [k]
def cpy (b k : Nat) (L : List Nat) : List Nat := (L.filter fun p => decide (b * k ≤ p) && decide (p < b * (k + 1))).map fun p => p - b * k
def cps (b : Nat) (L : List Nat) : List (List Nat) := [cpy b 0 L, cpy b 1 L, cpy b 2 L]
def inB : Nat → List Nat → Bool
  | _, [] => false
  | p, q :: r => Nat.beq q p || inB p r
def sureC (b : Nat) (cs : List (List Nat)) : Bool := (List.range b).all fun p => decide (((cs.map fun c => inB p c).map bI).sum < 2)
def eqB : List Nat → List Nat → Bool
  | [], [] => true
  | a :: r, c :: s => Nat.beq a c && eqB r s
  | _, _ => false
def sameC (cs : List (List Nat)) : List (List Nat) := cs.filter fun c => decide (1 < cs.countP fun z => eqB z c)
def toldC (cs : List (List Nat)) : Nat := match sameC cs with
  | [] => 2
  | c :: _ => if 0 < c.length then 1 else 0
def stp (r : List Int) (s : Bool) (t : Nat) : List Int :=
  let r1 := r.set 0 (r.getD 0 0 + 1)
  let r2 := r1.set 1 (r1.getD 1 0 + bI s)
  r2.set (2 + t) (r2.getD (2 + t) 0 + 1)
def tal (b : Nat) (rows : List (List Int)) (L : List Nat) : List (List Int) := rows.set L.length (stp (rows.getD L.length []) (sureC b (cps b L)) (toldC (cps b L)))
def talA (b : Nat) : List (List Int) := (subsN (3 * b)).foldl (tal b) (List.replicate (3 * b + 1) [0, 0, 0, 0, 0])
theorem tab_1 : talA 1 = (List.range 4).map (waysL 1) := by
  have h : (talA 1 == (List.range 4).map (waysL 1)) = true := by decide +kernel
  exact eq_of_beq h
theorem tab_2 : talA 2 = (List.range 7).map (waysL 2) := by
  have h : (talA 2 == (List.range 7).map (waysL 2)) = true := by decide +kernel
  exact eq_of_beq h
theorem tab_3 : talA 3 = (List.range 10).map (waysL 3) := by
  have h : (talA 3 == (List.range 10).map (waysL 3)) = true := by decide +kernel
  exact eq_of_beq h
def tr0 : List (List Int) := [[0, 0, 0, 0, 0], [0, 0, 0, 0, 0], [0, 0, 0, 0, 0], [0, 0, 0, 0, 0], [0, 0, 0, 0, 0], [0, 0, 0, 0, 0], [0, 0, 0, 0, 0], [0, 0, 0, 0, 0], [0, 0, 0, 0, 0], [0, 0, 0, 0, 0], [0, 0, 0, 0, 0], [0, 0, 0, 0, 0], [0, 0, 0, 0, 0]]
def tr1 : List (List Int) := [[1, 1, 1, 0, 0], [9, 9, 9, 0, 0], [36, 30, 12, 6, 18], [84, 44, 8, 10, 66], [126, 24, 2, 18, 106], [126, 0, 0, 14, 112], [84, 0, 0, 6, 78], [36, 0, 0, 4, 32], [9, 0, 0, 1, 8], [1, 0, 0, 1, 0], [0, 0, 0, 0, 0], [0, 0, 0, 0, 0], [0, 0, 0, 0, 0]]
def tr2 : List (List Int) := [[1, 1, 1, 0, 0], [10, 10, 10, 0, 0], [45, 37, 13, 8, 24], [120, 60, 8, 20, 92], [210, 36, 2, 36, 172], [252, 0, 0, 36, 216], [210, 0, 0, 24, 186], [120, 0, 0, 16, 104], [45, 0, 0, 7, 38], [10, 0, 0, 2, 8], [1, 0, 0, 1, 0], [0, 0, 0, 0, 0], [0, 0, 0, 0, 0]]
def tr3 : List (List Int) := [[1, 1, 1, 0, 0], [11, 11, 11, 0, 0], [54, 44, 14, 10, 30], [156, 76, 8, 30, 118], [294, 48, 2, 54, 238], [378, 0, 0, 58, 320], [336, 0, 0, 42, 294], [204, 0, 0, 28, 176], [81, 0, 0, 13, 68], [19, 0, 0, 3, 16], [2, 0, 0, 2, 0], [0, 0, 0, 0, 0], [0, 0, 0, 0, 0]]
def tr4 : List (List Int) := [[1, 1, 1, 0, 0], [11, 11, 11, 0, 0], [55, 45, 15, 10, 30], [165, 81, 9, 30, 126], [330, 54, 2, 60, 268], [462, 0, 0, 70, 392], [462, 0, 0, 60, 402], [330, 0, 0, 50, 280], [165, 0, 0, 31, 134], [55, 0, 0, 13, 42], [11, 0, 0, 5, 6], [1, 0, 0, 1, 0], [0, 0, 0, 0, 0]]
def tr5 : List (List Int) := [[1, 1, 1, 0, 0], [12, 12, 12, 0, 0], [64, 52, 16, 12, 36], [201, 97, 9, 40, 152], [414, 66, 2, 78, 334], [588, 0, 0, 92, 496], [588, 0, 0, 78, 510], [414, 0, 0, 62, 352], [201, 0, 0, 37, 164], [64, 0, 0, 14, 50], [12, 0, 0, 6, 6], [1, 0, 0, 1, 0], [0, 0, 0, 0, 0]]
def tr6 : List (List Int) := [[1, 1, 1, 0, 0], [12, 12, 12, 0, 0], [65, 53, 17, 12, 36], [210, 102, 10, 40, 160], [450, 72, 2, 84, 364], [672, 0, 0, 104, 568], [714, 0, 0, 96, 618], [540, 0, 0, 84, 456], [285, 0, 0, 55, 230], [100, 0, 0, 24, 76], [21, 0, 0, 9, 12], [2, 0, 0, 2, 0], [0, 0, 0, 0, 0]]
def tr7 : List (List Int) := [[1, 1, 1, 0, 0], [12, 12, 12, 0, 0], [66, 54, 18, 12, 36], [219, 107, 11, 40, 168], [486, 78, 2, 90, 394], [756, 0, 0, 116, 640], [840, 0, 0, 114, 726], [666, 0, 0, 106, 560], [369, 0, 0, 73, 296], [136, 0, 0, 34, 102], [30, 0, 0, 12, 18], [3, 0, 0, 3, 0], [0, 0, 0, 0, 0]]
def tr8 : List (List Int) := [[1, 1, 1, 0, 0], [12, 12, 12, 0, 0], [66, 54, 18, 12, 36], [220, 108, 12, 40, 168], [495, 81, 3, 90, 402], [792, 0, 0, 120, 672], [924, 0, 0, 120, 804], [792, 0, 0, 120, 672], [495, 0, 0, 93, 402], [220, 0, 0, 52, 168], [66, 0, 0, 30, 36], [12, 0, 0, 12, 0], [1, 0, 0, 1, 0]]
theorem tc0 : ((((subsN 12).drop 0).take 512).foldl (tal 4) tr0 == tr1) = true := by decide +kernel
theorem tc1 : ((((subsN 12).drop 512).take 512).foldl (tal 4) tr1 == tr2) = true := by decide +kernel
theorem tc2 : ((((subsN 12).drop 1024).take 512).foldl (tal 4) tr2 == tr3) = true := by decide +kernel
theorem tc3 : ((((subsN 12).drop 1536).take 512).foldl (tal 4) tr3 == tr4) = true := by decide +kernel
theorem tc4 : ((((subsN 12).drop 2048).take 512).foldl (tal 4) tr4 == tr5) = true := by decide +kernel
theorem tc5 : ((((subsN 12).drop 2560).take 512).foldl (tal 4) tr5 == tr6) = true := by decide +kernel
theorem tc6 : ((((subsN 12).drop 3072).take 512).foldl (tal 4) tr6 == tr7) = true := by decide +kernel
theorem tc7 : ((((subsN 12).drop 3584).take 512).foldl (tal 4) tr7 == tr8) = true := by decide +kernel
theorem tw : (tr8 == (List.range 13).map (waysL 4)) = true := by decide +kernel
theorem fold_cut {α β : Type} (f : β → α → β) (x : β) (l : List α) (n : Nat) : l.foldl f x = (l.drop n).foldl f ((l.take n).foldl f x) := by
  conv => lhs; rw [← List.take_append_drop n l]
  rw [List.foldl_append]
theorem subs12 : (subsN 12).length = 4096 := by decide +kernel
theorem tab_4 : talA 4 = (List.range 13).map (waysL 4) := by
  have e8 : (subsN 12).drop 4096 = [] := List.drop_eq_nil_of_le (by rw [subs12]; exact Nat.le_refl _)
  have c0 := eq_of_beq tc0
  rw [List.drop_zero] at c0
  show (subsN 12).foldl (tal 4) tr0 = _
  rw [fold_cut _ _ _ 512, c0]
  rw [fold_cut _ _ _ 512, eq_of_beq tc1, List.drop_drop]
  rw [fold_cut _ _ _ 512, eq_of_beq tc2, List.drop_drop]
  rw [fold_cut _ _ _ 512, eq_of_beq tc3, List.drop_drop]
  rw [fold_cut _ _ _ 512, eq_of_beq tc4, List.drop_drop]
  rw [fold_cut _ _ _ 512, eq_of_beq tc5, List.drop_drop]
  rw [fold_cut _ _ _ 512, eq_of_beq tc6, List.drop_drop]
  rw [fold_cut _ _ _ 512, eq_of_beq tc7, List.drop_drop]
  rw [e8]
  exact eq_of_beq tw
end My
set_option Elab.async false
set_option linter.all false
set_option maxRecDepth 100000
set_option maxHeartbeats 1000000
/-! ### an error class over an error class over ValueError, whose own __init__ says super().__init__(f"..") and stores one field -/
namespace My
open PySem PySem.Spec PyProof.Rows L2 Evl NdefX ClX PySem.W
/-- what an f-string writes without more -/
def FmtOk (y : V) : Prop := (∃ z : Str, y = .str z ∧ z.length ≤ 1000) ∨ ∃ i : Int, y = .int i ∧ i.natAbs.log2 < 1920
def spSup (C : Addr) (fld : Str) : Sp := fun vs H Q _ => ∃ (a : Addr) (y : V), vs = [.ref a, y] ∧ H a = some (exo a C none) ∧ FmtOk y ∧ ∀ dx, H dx = none → dx ≠ a → Q .non (upd (upd H dx (exd dx [(fld, y)])) a (exo a C (some dx)))
/-- what the written part says of the class C and of its __init__ at f -/
structure SupC (P : Program) (K : PySem.W.Frag) (C f cda cc : Addr) (fld : Str) (F : NF) (doc pm ct : Value) (kV : Value) : Prop where
  T : OexC K C
  lk : ∃ oc od osl, K.lookup f = some ⟨oc, od, .func (ksFn F.name F.qual F.params F.body F.scope .none kV doc pm none (.ref cda) ct cc), osl⟩
  hcd : codeIn K (.ref cda) F.qual = true
  code : ∃ ccl cdd vs ccs file tf, K.lookup cda = some ⟨ccl, cdd, .fields vs, ccs⟩ ∧ vs[2]? = some (.str file tf) ∧ ((P.main.file : Str) == file) = true
  cell : ∃ cl cld csl, K.lookup cc = some ⟨cl, cld, .cell (some (.ref C)), csl⟩
  hsub : mroIn K C (.ref C) = some true
  hsup : ks_superIn K C C "__init__" = some (some (.builtin "ValueError.__init__"))
  hB : subIn K (.ref C) (.type "ValueError") = some true
  ho : nsIn K cStatics "thirdparty.any" = some none
  hno : findIn K (.ref C) fld = some none
/-- the f-string is of a kind that leaves the heap as it is -/
def FmtE (N : List Str) (sc : Scope) (e1 : Expr) : Prop := ∀ X : Cx, X.N = N → X.env.scope = sc → ∃ te, PE X e1 te ∧ ∀ (σ : L2.St) (H : Hp) (y : V) (Q : VK), σ[1]? = some (some y) → FmtOk y → (∀ v, Q v H) → te σ H Q
theorem fn_sup {P : Program} {w : World} {K : PySem.W.Frag} {mg : Str → Option Value} {base : Heap} {C f cda cc : Addr} {fld pn : Str} {F : NF} {doc pm ct kV : Value}
    (Z : SupC P K C f cda cc fld F doc pm ct kV) (hFc : F.c = cda) (hFcl : F.cl = [(("__class__" : Str), cc)])
    {p0 p1 p2 p3 p4 p5 p6 p7 p8 p9 : Pos} {e1 : Expr} (hbd : F.body = [.Expr (.Call (.Attribute (.Call (.Name "super" p0) [] [] p1) "__init__" p2) [e1] [] p3) p4, .Assign [.Attribute (.Name "self" p5) fld p6] (.Name pn p7) p8])
    {ar : Arg} (hp : (F.params.posonlyargs ++ F.params.args).head? = some ar) (har : ar.arg = "self")
    (S : NScope ["self", pn, "__class__"] ["self", pn] ["__class__"] F.scope) (hks : F.scope.names.lookup ("super" : Str) = some .globalImplicit)
    (htop : (P.main.scope.names.lookup ("super" : Str)).isSome = false) (hm : mg "super" = none) (hpn : (pn == ("__debug__" : Str)) = false) (hpn2 : (pn == ("__classdict__" : Str)) = false) (hfe : FmtE ["self", pn, "__class__"] F.scope e1) (hst : ∀ env, starEach [e1] env = (false, eval e1 env) :: starEach [] env) {pl : Env → Sem Bool}
    (hev : ∀ env, eval (.Call (.Attribute (.Call (.Name "super" p0) [] [] p1) "__init__" p2) [e1] [] p3) env = (do
      let ov ← attributeBase (.Call (.Name "super" p0) [] [] p1) "__init__" env (eval (.Call (.Name "super" p0) [] [] p1) env)
      standAt p2.atName
      let (f, first) ← holding [ov] (getMethod ov "__init__" (pl env))
      callWith p3 f first (backTo p3 (starEach [e1] env)) []))
    (hsw : ∀ env, swapsWith (.Call (.Attribute (.Call (.Name "super" p0) [] [] p1) "__init__" p2) [e1] [] p3) none p4.line env = pure false) (hsw2 : ∀ env, swapsWith (.Name pn p7) (some (.Attribute (.Name "self" p5) fld p6)) p8.line env = pure false) :
    FnOk P w K mg base CX0 1 f (ksFn F.name F.qual F.params F.body F.scope .none kV doc pm none (.ref cda) ct cc) ["self", pn] (spSup C fld) := by
  refine ⟨fun vs H Q E h => by obtain ⟨a, y, rfl, _⟩ := h; rfl, fun A outer s H args us vs Q E hr e0 hb r hsp => ?_⟩
  obtain ⟨a, y, rfl, ha, hy, q⟩ := hsp
  have KX : K.In s.heap := e0.mod.kin.keeps fun b o e => (e0.bs b o e).1
  have lim : s.heap.NoLimit := e0.mod.nolimit.keeps fun b o e => (e0.bs b o e).1
  obtain ⟨oc, od, osl, lk⟩ := Z.lk
  refine ks_codeAny_call_defAt (fd := ksFn F.name F.qual F.params F.body F.scope .none kV doc pm none (.ref cda) ct cc) (body := F.body) (binds := [("self" : Str), pn].zip us) hr.depth (KX _ _ lk) rfl lim (codeRec_of KX Z.hcd) rfl hb S.nocell (fun ⟨n, v⟩ hy => S.par n (List.of_mem_zip hy).1) (fun h₁ hns kp => ?_) S.co S.gen S.kind
  have hcl : CellsAt F.cl ["__class__"] [none] s.heap H := by
    obtain ⟨cl, cld, csl, hc⟩ := Z.cell
    have hcc := (e0.bs cc _ (e0.mod.kin _ _ hc))
    refine ⟨rfl, fun y' c e => ?_, fun x' y' c e1 e2 => ?_, fun i y' e => ?_⟩
    · rw [hFcl] at e
      have : c = cc := by
        unfold List.lookup at e
        split at e
        · exact (Option.some.inj e).symm
        · cases e
      subst this
      exact ⟨hcc.2, _, _, hcc.1, rfl⟩
    · rw [hFcl] at e1 e2
      unfold List.lookup at e1 e2
      split at e1
      · rename_i z1
        split at e2
        · rename_i z2
          rw [beq_iff_eq.mp z1, beq_iff_eq.mp z2]
        · cases e2
      · cases e1
    · match i, e with
      | 0, e =>
        have e := Option.some.inj e
        subst e
        exact ⟨cc, by rw [hFcl]; rfl, fun v z => nomatch z⟩
  have hl : [V.ref a, y].length = [("self" : Str), pn].length := rfl
  have I := inv_startN (CX := CX0) (E := E) (F := F) (f := f) (N := ["self", pn, "__class__"]) (tk := s.toks + ([("self" : Str), pn].zip us).length) S hr.hd e0 hl r hcl hns kp
  have henv : callEnv (ksFn F.name F.qual F.params F.body F.scope .none kV doc pm none (.ref cda) ct cc) s.heap.objs.size f = envF F f s.heap.objs.size := by
    unfold envF
    rw [hFc, hFcl]
    rfl
  rw [henv]
  clear henv
  have hkc : (envF F f s.heap.objs.size).kindOf "__class__" = some .free := S.frk "__class__" (by simp)
  have hka : (envF F f s.heap.objs.size).kindOf "self" = some .local := S.par "self" (by simp)
  have hcel : (envF F f s.heap.objs.size).cells.lookup ("__class__" : Str) = some cc := by
    show F.cl.lookup _ = _
    rw [hFcl]
    rfl
  obtain ⟨ccl, cdd, vs, ccs, file, tf, hco, hvs, hfile⟩ := Z.code
  obtain ⟨cl, cld, csl, hcc⟩ := Z.cell
  obtain ⟨nm, qn, N', bs, bm, sn, sub, ab, col, dd, k0, k1, k2, k3, k5, hC, hbm⟩ := Z.T.cls
  have hD : clsIn K C = some { name := nm, bases := bs, mro := .ref C :: bm, ns := N', qualname := qn, hasDict := true, slotNames := sn, subclasses := sub, abstract := ab, collection := col, hasDel := false } := by unfold clsIn; rw [hC] <;> rfl
  have hdat : ∀ t1 : Addr, ∀ c, ({ cls := .ref C, dict := none, data := .fields #[.ref t1, .none, .none, .none, .bool false, .none] } : Obj).data ≠ .cls c := fun t1 c z => nomatch z
  have eB : execs F.body (envF F f s.heap.objs.size) = execs [.Expr (.Call (.Attribute (.Call (.Name "super" p0) [] [] p1) "__init__" p2) [e1] [] p3) p4, .Assign [.Attribute (.Name "self" p5) fld p6] (.Name pn p7) p8] (envF F f s.heap.objs.size) := by rw [hbd]
  rw [eB]
  refine ks_wpAt_execs_cons (ks_wpAt_Expr_any (ks_wpAt_MethodCall ?_ (hev _)) I.quiet (hsw _))
  refine ks_wpAt_super_base (f := f) (cc := cda) (vs := vs) (file := file) (tf := tf) hks hkc rfl rfl (I.kIn _ _ lk) rfl hp (by show Value.ref F.c = _; rw [hFc]) (I.kIn _ _ hco) rfl hvs hfile htop ?_
  obtain ⟨mb, hb1, hb2⟩ := I.mod.blt
  refine ks_loadName_global S.kind hks (Calls.loadGlobal_builtin (I.mod.glob.keeps I.bk) hm (hb1.keeps I.bk) ((hb2 _ (by decide)).trans (by decide +kernel)) ⟨rfl, ?_⟩)
  refine wpAny_loadName_free S.kind hkc hcel ⟨_, I.kIn _ _ hcc, rfl⟩ ?_
  obtain ⟨mL, hnL, hlL⟩ := id I.loc
  obtain ⟨u, ru, lku⟩ := hlL 0 "self" (.ref a) rfl rfl (Or.inl hka)
  obtain rfl : u = .ref a := ru
  rw [har]
  refine wpAny_loadName_local S.kind hka hnL (by
    rcases lku with ⟨_, z⟩ | ⟨z, _⟩
    · exact z
    · rcases z with z | z
      · exact absurd ((show F.scope.names.lookup ("self" : Str) = some .local from hka).symm.trans z) (by decide)
      · exact absurd ((show F.scope.names.lookup ("self" : Str) = some .local from hka).symm.trans z) (by decide)) ?_
  refine ks_wpAny_isType_cls (I.kIn _ _ hC) rfl ⟨rfl, ?_⟩
  obtain ⟨t1, hx⟩ := exo_at I.hok ha
  refine ks_wpAny_call_super (I.kIn _ _ hC) rfl hx rfl (hdat t1) (looks_mroIn I.kIn Z.hsub) (fun h' hso kk => ?_)
  have I2 := I.kept (t' := s.toks + ([("self" : Str), pn].zip us).length) kk
  have hmro : Looks (model P w) h' (mroOf (.ref C)) (.ref C :: bm) := fun A Q E s k q => wpAny_bind ((looks_clsIn I2.kIn hD) A _ E s k (wpAny_pure q))
  have hsup := Z.hsup
  unfold ks_superIn at hsup
  rw [hD] at hsup
  have J : InstAt h' a ({ cls := .ref C, dict := none, data := .fields #[.ref t1, .none, .none, .none, .bool false, .none] } : Obj) C none := ⟨kk _ _ hx, rfl, rfl, trivial⟩
  have hI : Looks (model P w) h' (isInstance (.ref a) (.type "ValueError")) true := J.type.andThen (looks_subIn I2.kIn Z.hB)
  refine kxs_getMethod kxs_ValueError hso (looks_opaque I2.kIn Z.ho) hmro rfl I2.kIn hsup hI (ks_ne I2.kIn J hD) (by decide) ?_
  have I3 := pin_new (o := kxs_mw "ValueError.__init__" a) (a := h'.objs.size) (t' := s.toks + ([("self" : Str), pn].zip us).length + 1) I2 (fun b o e => Heap.get?_push_of_some _ e) (Nat.le_refl _) (Heap.get?_push_at rfl rfl) (fun v z => nomatch z)
  have ha' : h'.objs.size ≠ a := fun z => by
    have := pin_un I3
    rw [z, ha] at this
    cases this
  show wpAny _ _ (callWith p3 (.ref h'.objs.size) [] (backTo p3 (starEach [e1] (envF F f s.heap.objs.size))) []) _ _ _
  rw [hst]
  refine kxs_callWith (i := "ValueError.__init__") (x := a) rfl (Calls.evalArgs_plain ?_)
  obtain ⟨te, hte, hread⟩ := hfe (ncx CX0 P w K mg base ["self", pn, "__class__"] F f A outer s H E) rfl rfl
  have hrun := (pa_cons hte pa_nil (hst _)).run p3 _ _ _ _ (fun vs H1 => H1 = H ∧ vs.length ≤ 1000) I3 (hread _ _ y _ rfl hy fun v => ⟨rfl, by show 1 ≤ 1000; decide⟩)
  rw [show (ncx CX0 P w K mg base ["self", pn, "__class__"] F f A outer s H E).env = envF F f s.heap.objs.size from rfl, hst] at hrun
  refine thn hrun fun us1 s1 hh => ?_
  obtain ⟨vs1, H1, I4, r4, rfl, hlen⟩ := hh
  refine ⟨pin_at I4, ?_⟩
  have hus : us1.length ≤ sizeLine := by
    rw [← Paired.length r4, sizeLine_eq]
    omega
  obtain ⟨t2, hx4⟩ := exo_at I4.hok ha
  have hu4 := pin_at I4
  obtain ⟨hh4, g4, d4, tk4, os4⟩ := s1
  show wpAny _ _ (call (.ref h'.objs.size) us1) _ _ _
  refine wpAny_call (codeAny_of_tree ?_)
  show wpAny _ _ (callAny (.ref h'.objs.size) ⟨us1, []⟩) _ _ _
  simp only [callAny]
  refine wpAny_bind (wpAny_load hu4 ?_)
  simp only [kxs_mw, show (Value.type "method-wrapper" == Value.type "method" || Value.type "method-wrapper" == Value.type "builtin_function_or_method" || Value.type "method-wrapper" == Value.type "method-wrapper") = true by decide, if_true]
  refine KFB.if_so (by decide) ?_
  refine wpAny_bind (check_bound_init PySem.F.excBase_ValueError.toExcCallFacts (I4.kIn _ _ hC) hx4 rfl ?_)
  refine wpAny_bind (wpAny_pure (wpAny_pure ?_))
  refine ⟨plainId_quiet PySem.F.excBase_ValueError.init.plain _, codeAny_builtin PySem.F.excBase_ValueError.initEntry ?_⟩
  refine exc_init_tree (cls := .ref C) (t0 := t2) (dv := none) (c2 := .none) (c3 := .none) (b4 := .bool false) hx4 hus fun h5 k5 hx5 _ => ?_
  have I5 := I4.write (t' := tk4) (x := a) (e := a) (o := exo a C none) (by rw [ha]; exact True.intro) (.inl rfl) k5 ⟨_, hx5⟩ (exo_ok hx5)
  have eu : upd H1 a (exo a C none) = H1 := by
    funext b
    by_cases hb : b = a
    · rw [hb, upd_same, ha]
    · rw [upd_ne hb]
  rw [eu] at I5
  have I6 := unpin I5
  show PySem.wpAt _ _ _ (execs _ _) _ _ _
  refine PySem.wpAt_of_wpAny ?_
  have hkp : F.scope.names.lookup pn = some .local := S.par pn (by simp)
  have hstm : PS (ncx CX0 P w K mg base ["self", pn, "__class__"] F f A outer s H1 E) (.Assign [.Attribute (.Name "self" p5) fld p6] (.Name pn p7) p8) (tOst K fld (tVar 0) (tVar 1)) :=
    ps_ost (pv 0 rfl (Or.inl hka)) (pv 1 rfl (Or.inl hkp) hpn hpn2) (hsw2 _)
  have hps := (pss_one hstm).run [] _ _ H1 { nx := fun _ H' => Q .non H', rt := Q, bk := fun _ _ => False, ct := fun _ _ => False } I6 ⟨y, rfl, .ref a, rfl, a, C, rfl, Z.T, Z.hno, Or.inl ⟨ha, q⟩⟩
  refine wpAny_mono hps (fun fl s' hs => ?_) fun e s' hs => hs
  have fin : ∀ {σ' : L2.St} {H' : Hp} {v : V} {u : Value}, L2.Inv (ncx CX0 P w K mg base ["self", pn, "__class__"] F f A outer s H1 E) [] σ' H' s' → L2.RelV v u → Q v H' → CE outer P w H1 s Q u s' :=
    fun {σ' H' v u} J rv q => ⟨v, H', J.os, J.bare, J.base, J.hok, rv, q⟩
  cases fl with
  | ret u =>
    obtain ⟨v, σ', H', J, rv, q⟩ := hs
    exact fin J rv q
  | next =>
    obtain ⟨σ', H', J, q⟩ := hs
    exact fin (v := V.non) (u := Value.none) J rfl q
  | brk =>
    obtain ⟨_, _, _, q⟩ := hs
    exact False.elim q
  | cont =>
    obtain ⟨_, _, _, q⟩ := hs
    exact False.elim q
end My
set_option Elab.async false
set_option linter.all false
set_option maxRecDepth 100000
set_option maxHeartbeats 1000000
/-! ### methods, methods that may raise, errors with a field: raised, caught, asked -/
namespace My
open PySem PySem.Spec PyProof.Rows L2 Evl
section
variable {P : Program} {w : World} {K : PySem.W.Frag} {mg : Str → Option Value} {base : Heap}
/-- a method (or an __init__) of the class C that keeps a promise -/
structure Mdf (P : Program) (w : World) (K : PySem.W.Frag) (mg : Str → Option Value) (base : Heap) (CX : CXT) (k : Nat) (C : Addr) (m : Str) (ps : List Str) (sp : Sp) : Prop where
  ex : ∃ (f : Addr) (fd : FuncData), FnOk P w K mg base CX k f fd ps sp ∧ Meth K C m f ∧ Binds K fd ps []
/-- a method as the text has it -/
def AtM (K : PySem.W.Frag) (C : Addr) (m qual : Str) (st : Stmt) : Prop := ∃ f fd, Fun K m qual st f fd ∧ Meth K C m f
theorem mdf_ok {C : Addr} {m qual : Str} {st : Stmt} {N ps : List Str} {k : Nat} {sp : Sp} (A : AtM K C m qual st) (S : FnScope N ps (defScope st))
    (hb : ∀ (kV doc pm : Value) (an : Option Addr) (cdv ct : Value) (us : List Value), us.length = ps.length → bindArgs (PySem.W.fnOf m qual (defArgs st) (defBody st) (defScope st) .none kV doc pm an cdv ct) ⟨us, []⟩ = pure (ps.zip us))
    (len : ∀ vs H Q E, sp vs H Q E → vs.length = ps.length)
    (hbody : ∀ (f : Addr) (cdv : Value) (A : Around) (outer : List Env) (s : Shared) (H : Hp) (vs : List V) (Q : VK) (E : XK), Room k (A.deeper (envOfC qual (defScope st) s.heap.objs.size f cdv)) → sp vs H Q E →
      ∃ t, PSs (cxOf CX0 P w K mg base N qual (defScope st) f cdv A outer s H E).nox (defBody st) t ∧ t { nx := fun _ H' => Q .non H', rt := Q } (start N vs) H) : Mdf P w K mg base CX0 (k + 1) C m ps sp := by
  obtain ⟨f, fd, F, hm⟩ := A
  exact ⟨f, fd, F.ok S len (hbody f), hm, F.binds hb⟩
theorem mdf_okX {C : Addr} {m qual : Str} {st : Stmt} {N ps : List Str} {k : Nat} {sp : Sp} (A : AtM K C m qual st) (S : FnScope N ps (defScope st))
    (hb : ∀ (kV doc pm : Value) (an : Option Addr) (cdv ct : Value) (us : List Value), us.length = ps.length → bindArgs (PySem.W.fnOf m qual (defArgs st) (defBody st) (defScope st) .none kV doc pm an cdv ct) ⟨us, []⟩ = pure (ps.zip us))
    (len : ∀ vs H Q E, sp vs H Q E → vs.length = ps.length)
    (hbody : ∀ (f : Addr) (cdv : Value) (A : Around) (outer : List Env) (s : Shared) (H : Hp) (vs : List V) (Q : VK) (E : XK), Room k (A.deeper (envOfC qual (defScope st) s.heap.objs.size f cdv)) → sp vs H Q E →
      ∃ t, PSs (cxOf (L2.CX P w) P w K mg base N qual (defScope st) f cdv A outer s H E) (defBody st) t ∧ t { nx := fun _ H' => Q .non H', rt := Q } (start N vs) H) : Mdf P w K mg base (L2.CX P w) (k + 1) C m ps sp := by
  obtain ⟨f, fd, F, hm⟩ := A
  exact ⟨f, fd, F.okX S len (hbody f), hm, F.binds hb⟩
theorem Mdf.mono {CX : CXT} {C : Addr} {m : Str} {ps : List Str} {j k : Nat} {sp : Sp} (D : Mdf P w K mg base CX j C m ps sp) (h : j ≤ k) : Mdf P w K mg base CX k C m ps sp := by
  obtain ⟨f, fd, F, r⟩ := D.ex
  exact ⟨f, fd, F.mono h, r⟩
/-- a def that never lets an error out where its promise wishes none -/
theorem fnok_never {k : Nat} {f : Addr} {fd : FuncData} {ps : List Str} {sp : Sp} (F : FnOk P w K mg base (L2.CX P w) k f fd ps sp) : FnOk P w K mg base CX0 k f fd ps (fun vs H Q _ => sp vs H Q fun _ _ _ => False) :=
  ⟨fun vs H Q E h => F.len vs H Q _ h, fun A outer s H args us vs Q E hr he hb hv hs => codeAny_mono (F.run A outer s H args us vs Q _ hr he hb hv hs) fun r s' hq => by
    cases r with
    | ok fl => cases fl <;> exact hq
    | error e =>
      have hq : L2.CX P w outer H s (fun _ _ _ => False) e s' := hq
      obtain ⟨_, _, _, _, _, _, _, _, _, _, _, _, _, _, _, z⟩ := hq⟩
theorem Mdf.never {k : Nat} {C : Addr} {m : Str} {ps : List Str} {sp : Sp} (D : Mdf P w K mg base (L2.CX P w) k C m ps sp) : Mdf P w K mg base CX0 k C m ps (fun vs H Q _ => sp vs H Q fun _ _ _ => False) := by
  obtain ⟨f, fd, F, r⟩ := D.ex
  exact ⟨f, fd, fnok_never F, r⟩
end
section
variable {X : Cx} {k : Nat} {C : Addr} {m x : Str} {ps : List Str} {sp : Sp} {e o : Expr} {es : List Expr} {p pos apos : Pos} {ta : TE} {t : TA}
theorem pe_m {pl : Sem Bool} (D : Mdf X.prog X.w X.K X.mg X.base CX0 k C m ps sp) (c : Cls X.K C) (hr : Room k X.A) (he : PE X o ta) (ha : PA X (e :: es) t)
    (hst : starEach (e :: es) X.env = (false, eval e X.env) :: starEach es X.env := by rfl) (hpl : (backTo pos (starEach es X.env)).any (·.1) = false := by rfl)
    (ht : eval (.Call (.Attribute o m apos) (e :: es) [] pos) X.env = (do
      let ov ← eval o X.env; standAt apos.atName
      let (f, first) ← holding [ov] (getMethod ov m pl)
      callWith pos f first (backTo pos (starEach (e :: es) X.env)) (backToKw pos (keywordEach [] X.env))) := by rfl) : PE X (.Call (.Attribute o m apos) (e :: es) [] pos) (tMeth C m sp [] E0 ta t) := by
  obtain ⟨f, fd, F, hm, hb⟩ := D.ex
  exact pe_meth he c hm F hr hb .nil pass0 ha hst hpl ht
theorem pe_m0 {pl : Sem Bool} (D : Mdf X.prog X.w X.K X.mg X.base CX0 k C m ps sp) (c : Cls X.K C) (hr : Room k X.A) (he : PE X o ta)
    (ht : eval (.Call (.Attribute o m apos) [] [] pos) X.env = (do
      let ov ← eval o X.env; standAt apos.atName
      let (f, first) ← holding [ov] (getMethod ov m pl)
      callWith pos f first (backTo pos (starEach [] X.env)) (backToKw pos (keywordEach [] X.env))) := by rfl) : PE X (.Call (.Attribute o m apos) [] [] pos) (tMeth C m sp [] E0 ta tNil) := by
  obtain ⟨f, fd, F, hm, hb⟩ := D.ex
  exact pe_meth0 he c hm F hr hb .nil pass0 ht
/-- o.m(e, ..), what is raised is wished for at the caller's slots -/
def tMethA (C : Addr) (m : Str) (sp : Sp) (E : L2.St → XK) (ta : TE) (t : TA) : TE := fun σ H Q => ta σ H fun x H1 => ∃ a dx fs, x = .ref a ∧ H1 a = some (.ins C dx fs) ∧ fs.lookup m = none ∧ t σ H1 fun vs H2 => sp (x :: vs) H2 Q (E σ)
theorem pe_mA {W : WX} {pl : Sem Bool} (D : Mdf X.prog X.w X.K X.mg X.base (L2.CX X.prog X.w) k C m ps sp) (c : Cls X.K C) (hr : Room k X.A) (tk : Takes X W) (he : PE X o ta) (ha : PA X (e :: es) t)
    (hst : starEach (e :: es) X.env = (false, eval e X.env) :: starEach es X.env := by rfl) (hpl : (backTo pos (starEach es X.env)).any (·.1) = false := by rfl)
    (ht : eval (.Call (.Attribute o m apos) (e :: es) [] pos) X.env = (do
      let ov ← eval o X.env; standAt apos.atName
      let (f, first) ← holding [ov] (getMethod ov m pl)
      callWith pos f first (backTo pos (starEach (e :: es) X.env)) (backToKw pos (keywordEach [] X.env))) := by rfl) : PE X (.Call (.Attribute o m apos) (e :: es) [] pos) (tMethA C m sp (WE W) ta t) := by
  obtain ⟨f, fd, F, hm, hb⟩ := D.ex
  refine ⟨fun pins s σ H Q I h => PySem.W.methodCall_KW (pl := pl) (thn (he.run pins s σ H _ I h) fun u s1 hh => ?_) ht⟩
  obtain ⟨x, H1, I1, rx, a, dx, fs, ex, ea, l, q⟩ := hh
  subst ex
  obtain rfl : u = Value.ref a := rx
  refine getmeth_ok I1 ea c hm l (PySem.W.callWith_K (first := [.ref a]) (h₀ := X.base) I.ok.mod.kin hm.kp (thn (ha.run pos pins s1 σ H1 _ I1 q) fun us s2 hh => ?_) hst hpl)
  obtain ⟨vs, H2, I2, r, q2⟩ := hh
  exact ⟨I2.kIn, run_fnS (us := .ref a :: us) (vs := .ref a :: vs) F hr hb (passAt tk σ) I2 (.cons rfl r) q2⟩
/-- C(e, ..) by the promise of its __init__ -/
theorem pe_mk (D : Mdf X.prog X.w X.K X.mg X.base CX0 k C "__init__" ps sp) (mk : PySem.W.makesIn X.K C = true) (kc : PySem.W.keepIn X.K (.ref C) = true) (hm : X.mg x = some (.ref C)) (hr : Room (k + 1) X.A) (ha : PA X (e :: es) t) (hg : Gl X x := by rfl)
    (hdb : (x == ("__debug__" : Str)) = false := by decide) (he : starEach (e :: es) X.env = (false, eval e X.env) :: starEach es X.env := by rfl) (hpl : (backTo pos (starEach es X.env)).any (·.1) = false := by rfl) :
    PE X (.Call (.Name x p) (e :: es) [] pos) (tMake C sp [] E0 t) := by
  obtain ⟨f, fd, F, hmt, hb⟩ := D.ex
  exact pe_make ⟨mk, hmt.at_, hmt.fn, kc⟩ F hr hg hm hb .nil pass0 ha hdb he hpl
end
/-! ### an error with one field is made -/
section
variable {K : PySem.W.Frag} {σ : L2.St} {H : Hp} {te : TE}
theorem mk_sup {C : Addr} {fld : Str} {y : V} {XQ : XK} (h : Ev te σ H y) (hy : FmtOk y) (k : ∀ d H', H d = none → Ex H H' → H' d = some (.xd [(fld, y)]) → XQ (.ref C) (some d) H') : tMkO C (spSup C fld) [] (tCons te tNil) σ H XQ :=
  h H (Ex.refl H) _ fun H1 e1 => ⟨by show 1 ≤ 1000; decide, fun a na => ⟨a, y, rfl, upd_same, hy, fun dx nx nex => by
    have nd1 : H1 dx = none := by rw [upd_ne nex] at nx; exact nx
    refine ⟨rfl, dx, [(fld, y)], upd_same, by rw [upd_ne nex, upd_same], nd1, ?_⟩
    have eq : upd (del (upd (upd (upd H1 a (exo a C none)) dx (exd dx [(fld, y)])) a (exo a C (some dx))) a) dx (.xd [(fld, y)]) = upd H1 dx (.xd [(fld, y)]) := by
      funext b
      by_cases hb : b = dx
      · rw [hb, upd_same, upd_same]
      · rw [upd_ne hb, upd_ne hb]
        by_cases hba : b = a
        · rw [hba, del_same, na]
        · rw [del_ne hba, upd_ne hba, upd_ne hb, upd_ne hba]
    rw [eq]
    exact k dx _ (fresh_back e1 nd1) (e1.trans (Ex.new nd1)) upd_same⟩⟩
end
end My
set_option Elab.async false
set_option linter.all false
set_option maxRecDepth 100000
set_option maxHeartbeats 4000000
/-! ### isinstance of a caught error that has a dict -/
namespace My
open PySem PySem.Spec PySem.Calls PyProof.Rows PySem.W
section
variable {prog : Program} {w : World} {A : Around} {E : Value → Shared → Prop} {s : Shared} {K : Frag} {x D : Addr} {ox : Obj} {od : Option Obj}
theorem fo_data {C : Addr} {name : Str} {a g : Value} (hc : (clsIn K C).isSome = true) (ha : findIn K (.ref C) name = some (some a)) (hg : specialIn K a "__get__" = some (some g)) (ht : takesIn K a = some true) :
    findObj K C od name = some (.bind g a) := by
  obtain ⟨cd, hc⟩ := Option.isSome_iff_exists.mp hc
  unfold findObj
  rw [hc, Option.bind_some, ha, Option.bind_some]
  simp [hg, ht]
/-- error.__class__ -/
theorem cls_of_err {Q : Option Value → Shared → Prop} (C : L2.ExcC K D) (X : K.In s.heap) (I : InstAt s.heap x ox D od) (h : Q (some (.ref D)) { s with toks := s.toks + 1 }) :
    wpAny (model prog w) A (getAttr? (.ref x) "__class__") Q E s := by
  have hf : findObj K D od "__class__" = some (.bind (.builtin "getset_descriptor.__get__") (.builtin "object.__class__")) :=
    fo_data (by obtain ⟨cd, hc, _⟩ := any_some C.hd; rw [hc]; rfl) C.ha C.hn C.ht
  obtain ⟨hp, g, d, t, os⟩ := s
  have T0 := I.type (M := model prog w)
  have T1 := looks_findIn (M := model prog w) X C.hg
  have T2 := looks_findIn (M := model prog w) X C.hk
  have T3 := looks_find (M := model prog w) X I hf
  have sub : Looks (model prog w) hp (isInstance (.ref x) (.type "BaseException")) true := T0.andThen (looks_subIn X C.hs)
  have n2 : (Value.builtin "BaseException.__getattribute__" == Value.builtin "object.__getattribute__") = false := by decide +kernel
  have n1 : (onTheHeap (Value.ref D) && Value.builtin "BaseException.__getattribute__" == Value.builtin "object.__getattribute__") = false := by rw [n2]; rfl
  have n0 : (false && onTheHeap (Value.builtin "BaseException.__getattribute__")) = false := rfl
  unfold getAttr? getAttrBy? getAttrBy
  refine wpAny_bind (wpAny_mkText (wpAny_bind (wpAny_attempt (wpAny_holding (wpAny_bind (T0.at (wpAny_bind (T1.at ?_))))))))
  show wpAny _ _ (if (onTheHeap (Value.ref D) && Value.builtin "BaseException.__getattribute__" ==
    Value.builtin "object.__getattribute__") = true then _ else _) _ _ _
  rw [n1, if_neg Bool.false_ne_true]
  unfold getAttrByItsOwn hookBefore
  refine wpAny_bind ?_
  rw [if_pos (show onTheHeap (Value.ref D) = true from rfl)]
  refine T2.at (wpAny_bind (wpAny_attempt (wpAny_holding ?_)))
  unfold callGetattribute
  rw [n0, if_neg Bool.false_ne_true]
  unfold boundAndCalled
  rw [PySem.F.excAttr_ValueError.ga.bind (.ref x)]
  refine wpAny_bind (wpAny_pure (?_ : wpAny _ _ (call (.builtin "BaseException.__getattribute__") [.ref x, .str "__class__" t]) _ _ _))
  refine wpAny_call (codeAny_call_builtin PySem.F.excAttr_ValueError.ga.plain PySem.F.entry_bexc_ga
    (@check_slot (model prog w) _ _ ⟨hp, g, d, t + 1, os⟩ "BaseException.__getattribute__" "BaseException" "__getattribute__" (.ref x) [.str "__class__" t] [] _ (by decide +kernel) (by decide +kernel) sub (PySem.F.args_bexc_ga (.ref x) (.str "__class__" t)) ?_))
  unfold Builtin.«object.__getattribute__»
  refine wpAny_bind (wpAny_of_eq (a := ((Value.ref x : Value), [Value.str "__class__" t])) (by first | rfl | (simp only [slotArgs]; rfl)) (wpAny_bind (wpAny_pure (wpAny_bind (T0.at (wpAny_bind (T3.at ?_)))))))
  show wpAny _ _ (holding [Value.builtin "object.__class__"] (call (.builtin "getset_descriptor.__get__")
    [.builtin "object.__class__", .ref x, .ref D]) >>= ret) _ _ _
  refine wpAny_bind (wpAny_holding (wpAny_call (class_get (s := ⟨hp, g, d, t + 1, os⟩) (ox := ox) (od := od) X I C.hm (wpAny_pure ?_))))
  show wpAny _ _ (handedOut (.ref D)) _ _ _
  rw [handedOut_of (v := .ref D) rfl]
  first
    | exact wpAny_pure (wpAny_pure h) | exact wpAny_pure h
    | exact wpAny_pure (wpAny_bind (wpAny_pure (wpAny_pure h)))
theorem kit_err (C : L2.ExcC K D) : KitX K (.ref x) (.ref D) (fun h => ∃ od, InstAt h x ox D od) where
  ty := fun _ _ _ ⟨_, I⟩ => I.type
  it := fun _ _ X _ => by
    obtain ⟨cdD, hcD, _⟩ := any_some C.hd
    unfold clsIn at hcD
    split at hcD
    · rename_i c' d' cd' sl' ho
      intro A' Q' E' s' k q
      unfold isType loadHead
      exact wpAny_bind (wpAny_loadPart (k _ _ (X _ _ ho)) (wpAny_pure q))
    · cases hcD
  ne := fun h tp dd its n sl X htp => by
    obtain ⟨cdD, hcD, _⟩ := any_some C.hd
    refine Bool.eq_false_iff.mpr fun q => ?_
    have e : D = tp := Value.ref.inj (beq_iff_eq.mp q)
    subst e
    unfold clsIn at hcD
    split at hcD
    · rename_i c' d' cd' sl' ho
      have z := (X _ _ ho).symm.trans htp
      cases z
    · cases hcD
  ca := fun X ⟨_, I⟩ k => cls_of_err C X I k
end
open L2 Evl
/-- isinstance(e, C), both own classes of errors, the answer of the text -/
def rIsX (K : PySem.W.Frag) (D a : Addr) (cls : Value) : List V → Hp → VK → Prop := fun xs H Q => ∃ (c : Addr) (b : Bool), xs = [.ref a, .ref c] ∧ cls = .ref D ∧ PySem.W.kitOne K (.ref D) (.ref c) = some b ∧ Q (.bl b) H
theorem call_isX {X : Cx} {a D : Addr} {oe : Obj} {pn : List (Addr × Obj)} {cls : Value} {d : Option Addr} (C : ExcC X.K D) (hz : Zc cls d oe) (hf : ∃ vs, oe.data = .fields vs) (hd : ∀ dd, d = some dd → True) :
    CallR (X.suite a ((a, oe) :: pn)) (.builtin "isinstance") (fun xs H Q => (∀ dd, d = some dd → ∃ fs, H dd = some (.xd fs)) ∧ rIsX X.K D a cls xs H Q) := by
  intro pins s σ H xs us Q I r ⟨hdd, h⟩
  obtain ⟨c, b, rfl, rfl, e, q⟩ := h
  cases r with
  | cons rx rr =>
    cases rr with
    | cons rt rr =>
      cases rr
      cases rx
      cases rt
      obtain ⟨hget, _⟩ := I.pin (a, oe) (List.mem_append.mpr (.inl List.mem_cons_self))
      obtain ⟨vs, hv⟩ := hf
      have J : ∃ od, PySem.W.InstAt s.heap a oe D od := by
        obtain ⟨oc, od, oda, osl⟩ := oe
        obtain ⟨h1, h2⟩ := hz
        dsimp only at h1 h2 hv
        subst h1 h2 hv
        cases od with
        | none => exact ⟨none, hget, rfl, rfl, trivial⟩
        | some dd =>
          obtain ⟨fs, hfs⟩ := hdd dd rfl
          obtain ⟨mA, hns, _⟩ := (show ObjOk X.prog X.w H s.heap dd (.xd fs) from I.hok dd _ hfs)
          obtain ⟨o, ho, _⟩ := lookIn_ns hns
          exact ⟨some o, hget, rfl, rfl, ho⟩
      exact PySem.W.kia_one (kit_err C) I.kIn J e (fun z => nomatch z) fun tk => ⟨.bl b, H, I.kept (t' := tk) fun _ _ z => z, rfl, q⟩
end My
set_option Elab.async false
set_option linter.all false
set_option maxRecDepth 100000
set_option maxHeartbeats 400000
/-! ### a memory: an object with a list of rows -/
namespace My
open PySem PySem.Spec PyProof.Rows L2 Evl
section
variable {K : PySem.W.Frag} {σ : L2.St} {H : Hp} {ta tb te : TE} {tz : TS} {D : Ends}
theorem ev_fld {f : Str} {a C dx : Addr} {fs : List (Str × V)} {v : V} (h : Ev ta σ H (.ref a)) (ha : H a = some (.ins C dx fs)) (c : Cls K C) (n : NoAttr K C f) (l : fs.lookup f = some v) : Ev (tFld K ta f) σ H v := fun H1 e Q q =>
  h H1 e _ fun H2 e2 => ⟨a, C, dx, fs, v, rfl, (e.trans e2) _ _ ha, c, n, l, q H2 e2⟩
theorem el_repN {x : V} {n : Nat} (ha : EvL ta σ H [x]) (hb : Ev tb σ H (.int (n : Int))) (hn : n ≤ 100000) : EvL (tOp rRep ta tb) σ H (List.replicate n x) := fun H1 e Q q =>
  ha H1 e _ fun p H2 np e2 hp => hb H2 (e.trans e2) _ fun H3 e3 => ⟨p, _, [x], rfl, rfl, e3 _ _ hp, by omega, by omega, by rw [Int.toNat_natCast]; exact sz_of (by show 1 * n ≤ _; omega), fun l nl => by
    refine q l _ (fresh_back (e2.trans e3) nl) ((e2.trans e3).trans (Ex.new nl)) ?_
    rw [upd_same, Int.toNat_natCast]
    have : ∀ n : Nat, (List.replicate n [x]).flatten = List.replicate n x := fun n => by
      induction n with
      | zero => rfl
      | succ n ih => rw [List.replicate_succ, List.flatten_cons, ih]; rfl
    rw [this]⟩
/-- a value that comes with a heap that may be changed -/
def EvM (te : TE) (σ : L2.St) (H : Hp) (P : V → Hp → Prop) : Prop := ∀ Q : VK, (∀ v H', P v H' → Q v H') → te σ H Q
theorem q_dropM {P : V → Hp → Prop} (h : EvM te σ H P) (k : ∀ v H', P v H' → tz D σ H') : tSeq (tDrop te) tz D σ H := h _ k
theorem s_dropM {P : V → Hp → Prop} (h : EvM te σ H P) (k : ∀ v H', P v H' → D.nx σ H') : tDrop te D σ H := h _ k
theorem q_asgM {i : Nat} {P : V → Hp → Prop} (h : EvM te σ H P) (k : ∀ v H', P v H' → tz D (σ.set i (some v)) H') : tSeq (tAsg te (gName i)) tz D σ H := h _ k
end
/-- all that stands elsewhere than at R stands as before -/
def Kp1 (R : Addr) (H H' : Hp) : Prop := ∀ o u, o ≠ R → H o = some u → H' o = some u
theorem Kp1.ex {R : Addr} {H H1 H2 : Hp} (k : Kp1 R H H1) (e : Ex H1 H2) : Kp1 R H H2 := fun o u h1 h => e _ _ (k o u h1 h)
theorem Kp1.of {R : Addr} {H H' : Hp} (e : Ex H H') : Kp1 R H H' := fun o u _ h => e _ _ h
theorem Kp1.u {R : Addr} {H H1 : Hp} {o : HO} (k : Kp1 R H H1) : Kp1 R H (upd H1 R o) := fun a u h1 h => by rw [upd_ne h1]; exact k a u h1 h
theorem Kp1.trans {R : Addr} {H H1 H2 : Hp} (k : Kp1 R H H1) (k2 : Kp1 R H1 H2) : Kp1 R H H2 := fun a u h1 h => k2 a u h1 (k a u h1 h)
theorem Ex.kp1 {R : Addr} {H H1 H2 : Hp} (e : Ex H H1) (k : Kp1 R H1 H2) : Kp1 R H H2 := fun a u h1 h => k a u h1 (e _ _ h)
/-- the fields, in the order of their stores -/
def mflds (R : Addr) (c b : Nat) : List (Str × V) := [("cells", .int (c : Int)), ("bits", .int (b : Int)), ("_rows", .ref R)]
theorem s_cb : ¬ ("cells" : Str) = "bits" := by decide +kernel
theorem s_cr : ¬ ("cells" : Str) = "_rows" := by decide +kernel
theorem s_br : ¬ ("bits" : Str) = "_rows" := by decide +kernel
theorem mf_cells (R : Addr) (c b : Nat) : (mflds R c b).lookup ("cells" : Str) = some (.int (c : Int)) := by
  unfold mflds
  rw [List.lookup_cons, show (("cells" : Str) == "cells") = true by decide +kernel]
theorem mf_bits (R : Addr) (c b : Nat) : (mflds R c b).lookup ("bits" : Str) = some (.int (b : Int)) := by
  unfold mflds
  rw [List.lookup_cons, show (("bits" : Str) == "cells") = false by decide +kernel, List.lookup_cons, show (("bits" : Str) == "bits") = true by decide +kernel]
theorem mf_rows (R : Addr) (c b : Nat) : (mflds R c b).lookup ("_rows" : Str) = some (.ref R) := by
  unfold mflds
  rw [List.lookup_cons, show (("_rows" : Str) == "cells") = false by decide +kernel, List.lookup_cons, show (("_rows" : Str) == "bits") = false by decide +kernel, List.lookup_cons, show (("_rows" : Str) == "_rows") = true by decide +kernel]
theorem mf_no {m : Str} (R : Addr) (c b : Nat) (h1 : (m == ("cells" : Str)) = false) (h2 : (m == ("bits" : Str)) = false) (h3 : (m == ("_rows" : Str)) = false) : (mflds R c b).lookup m = none := by
  unfold mflds
  rw [List.lookup_cons, h1, List.lookup_cons, h2, List.lookup_cons, h3]
  rfl
theorem mf_put (R : Addr) (c b : Nat) : putF "_rows" (.ref R) (putF "bits" (.int (b : Int)) (putF "cells" (.int (c : Int)) [])) = mflds R c b := by
  have e1 : putF "bits" (.int (b : Int)) (putF "cells" (.int (c : Int)) []) = [(("cells" : Str), V.int (c : Int)), ("bits", .int (b : Int))] := by
    show (if ("cells" : Str) = "bits" then [(("cells" : Str), V.int (b : Int))] else (("cells" : Str), V.int (c : Int)) :: putF "bits" (.int (b : Int)) []) = _
    rw [if_neg s_cb]
    rfl
  rw [e1]
  show (if ("cells" : Str) = "_rows" then _ else (("cells" : Str), V.int (c : Int)) :: (if ("bits" : Str) = "_rows" then _ else (("bits" : Str), V.int (b : Int)) :: putF "_rows" (.ref R) [])) = _
  rw [if_neg s_cr, if_neg s_br]
  rfl
theorem mf_put2 (R R2 : Addr) (c b : Nat) : putF "_rows" (.ref R2) (mflds R c b) = mflds R2 c b := by
  show (if ("cells" : Str) = "_rows" then _ else (("cells" : Str), V.int (c : Int)) :: (if ("bits" : Str) = "_rows" then _ else (("bits" : Str), V.int (b : Int)) :: (if ("_rows" : Str) = "_rows" then _ else _))) = _
  rw [if_neg s_cr, if_neg s_br, if_pos rfl]
  rfl
/-- at M a memory with the rows at R -/
structure MemAt (C : Addr) (H : Hp) (M R : Addr) (c b : Nat) (rows : List Nat) : Prop where
  ob : ∃ dx, H M = some (.ins C dx (mflds R c b))
  rw_ : H R = some (.lst ((iL rows).map V.int))
  len : rows.length = c
theorem MemAt.ne {C : Addr} {H : Hp} {M R : Addr} {c b : Nat} {rows : List Nat} (m : MemAt C H M R c b rows) : M ≠ R := fun z => by
  obtain ⟨dx, h⟩ := m.ob
  rw [z, m.rw_] at h
  cases h
theorem MemAt.ex {C : Addr} {H H' : Hp} {M R : Addr} {c b : Nat} {rows : List Nat} (m : MemAt C H M R c b rows) (e : Ex H H') : MemAt C H' M R c b rows := ⟨m.ob.imp fun dx h => e _ _ h, e _ _ m.rw_, m.len⟩
theorem MemAt.put {C : Addr} {H H' : Hp} {M R : Addr} {c b : Nat} {rows rows' : List Nat} (m : MemAt C H M R c b rows) (k : Kp1 R H H') (h : H' R = some (.lst ((iL rows').map V.int))) (hl : rows'.length = rows.length) : MemAt C H' M R c b rows' :=
  ⟨m.ob.imp fun dx h => k _ _ m.ne h, h, hl.trans m.len⟩
theorem MemAt.at_ {C : Addr} {H : Hp} {M R : Addr} {c b i : Nat} {rows : List Nat} (m : MemAt C H M R c b rows) (hi : i < c) : ((iL rows).map V.int)[i]? = some (.int ((rows.getD i 0 : Nat) : Int)) := by
  refine at_iL ?_
  rw [List.getElem?_eq_getElem (by rw [m.len]; exact hi), List.getD_eq_getElem?_getD, List.getElem?_eq_getElem (by rw [m.len]; exact hi)]
  rfl
/-- what the rows are -/
def RowsOk (b : Nat) (rows : List Nat) : Prop := ∀ r ∈ rows, r < 2 ^ pl b
theorem RowsOk.at_ {b i : Nat} {rows : List Nat} (h : RowsOk b rows) : rows.getD i 0 < 2 ^ pl b := by
  rw [List.getD_eq_getElem?_getD]
  cases e : rows[i]? with
  | none => exact Nat.two_pow_pos _
  | some r => exact h r (List.mem_of_getElem? e)
theorem RowsOk.set {b i r : Nat} {rows : List Nat} (h : RowsOk b rows) (hr : r < 2 ^ pl b) : RowsOk b (rows.set i r) := fun z hz => by
  rcases List.mem_or_eq_of_mem_set hz with hz | rfl
  · exact h z hz
  · exact hr
theorem iL_set (rows : List Nat) (i r : Nat) : ((iL rows).map V.int).set i (.int (r : Int)) = (iL (rows.set i r)).map V.int := by
  unfold iL
  rw [← List.map_set, ← List.map_set]
/-- the word that a row is or is one flip away from -/
def menO (b n : Nat) : Option Nat := if parB (pl b) n then (if spotN (pl b) n < pl b then some (flip n [spotN (pl b) n]) else none) else (if spotN (pl b) n = 0 then some n else none)
def oV : Option Nat → V
  | some n => .int (n : Int)
  | none => .non
theorem menV_o (b n : Nat) : menV b n = oV (menO b n) := by
  unfold menV menO
  split
  · split <;> rfl
  · split <;> rfl
theorem menO_lt {b n w : Nat} (hn : n < 2 ^ pl b) (h : menO b n = some w) : w < 2 ^ pl b := by
  unfold menO at h
  split at h
  · split at h
    · rename_i h2
      cases h
      exact flip_lt hn fun p hp => by rw [List.mem_singleton.mp hp]; exact h2
    · cases h
  · split at h
    · cases h; exact hn
    · cases h
/-- the state of a row, told by a text -/
def stO (b n : Nat) : Str := if parB (pl b) n then (if spotN (pl b) n < pl b then "one" else "more") else (if spotN (pl b) n = 0 then "clean" else "more")
def stP (b n : Nat) : V := if parB (pl b) n then (if spotN (pl b) n < pl b then .int ((spotN (pl b) n : Nat) : Int) else .non) else .non
theorem stV_o (b n : Nat) : stV b n = [.str (stO b n), stP b n] := by
  unfold stV stO stP
  split
  · split <;> rfl
  · split <;> rfl
theorem st_men (b n : Nat) : (stO b n = "clean" ∧ menO b n = some n ∧ parB (pl b) n = false ∧ spotN (pl b) n = 0) ∨ (stO b n = "one" ∧ menO b n = some (flip n [spotN (pl b) n]) ∧ flip n [spotN (pl b) n] ≠ n ∧ spotN (pl b) n < pl b ∧ parB (pl b) n = true) ∨ (stO b n = "more" ∧ menO b n = none) := by
  unfold stO menO
  by_cases h : parB (pl b) n
  · rw [if_pos h, if_pos h]
    by_cases h2 : spotN (pl b) n < pl b
    · rw [if_pos h2, if_pos h2]
      refine Or.inr (Or.inl ⟨rfl, rfl, fun z => ?_, h2, h⟩)
      have := par_flip1 (m := pl b) (n := n) h2
      have z' : n ^^^ 2 ^ spotN (pl b) n = n := z
      rw [z'] at this
      cases hh : parB (pl b) n <;> rw [hh] at this <;> cases this
    · rw [if_neg h2, if_neg h2]
      exact Or.inr (Or.inr ⟨rfl, rfl⟩)
  · have h' : parB (pl b) n = false := by simpa using h
    rw [if_neg h, if_neg h]
    by_cases h2 : spotN (pl b) n = 0
    · rw [if_pos h2, if_pos h2]
      exact Or.inl ⟨rfl, rfl, h', h2⟩
    · rw [if_neg h2, if_neg h2]
      exact Or.inr (Or.inr ⟨rfl, rfl⟩)
theorem st_ne1 : ¬ ("clean" : Str) = "one" := by decide +kernel
theorem st_ne2 : ¬ ("more" : Str) = "one" := by decide +kernel
theorem st_ne3 : ¬ ("one" : Str) = "more" := by decide +kernel
theorem st_ne4 : ¬ ("clean" : Str) = "more" := by decide +kernel
theorem cod_zero {b : Nat} (h4 : 4 ≤ b) (h32 : b ≤ 32) : cod b 0 = 0 := by
  have h0 : onesN b 0 = [] := by unfold onesN; rw [bs_zero]; rfl
  have h1 : cod0 b 0 = 0 := by unfold cod0; rw [h0]; rfl
  have h2 : cksN b 0 = [] := by
    unfold cksN
    exact List.filter_eq_nil_iff.mpr fun p _ => by rw [Nat.zero_and]; decide
  have h3 : cod1 b 0 = 0 := by unfold cod1; rw [h1, spot_zero, h2]; rfl
  unfold cod
  rw [h3, par_zero]
  rfl
/-! promises of the methods; CE the class of the error -/
def spMInit (C : Addr) : Sp := fun vs H Q _ => ∃ (M dx : Addr) (c b : Nat), vs = [.ref M, .int (c : Int), .int (b : Int)] ∧ H M = some (.ins C dx []) ∧ c ≤ 512 ∧ 4 ≤ b ∧ b ≤ 32 ∧
  ∀ R H', H R = none → Kp1 M H H' → H' M = some (.ins C dx (mflds R c b)) → H' R = some (.lst ((iL (List.replicate c 0)).map V.int)) → Q .non H'
def spMWrite (C : Addr) : Sp := fun vs H Q _ => ∃ (M R : Addr) (c b i v : Nat) (rows : List Nat), vs = [.ref M, .int (i : Int), .int (v : Int)] ∧ MemAt C H M R c b rows ∧ i < c ∧ 4 ≤ b ∧ b ≤ 32 ∧ v < 2 ^ b ∧
  ∀ H', Kp1 R H H' → H' R = some (.lst ((iL (rows.set i (cod b v))).map V.int)) → Q .non H'
def spMFlip (C : Addr) : Sp := fun vs H Q _ => ∃ (M R : Addr) (c b i p : Nat) (rows : List Nat), vs = [.ref M, .int (i : Int), .int (p : Int)] ∧ MemAt C H M R c b rows ∧ i < c ∧ p < 64 ∧
  ∀ H', Kp1 R H H' → H' R = some (.lst ((iL (rows.set i (flip (rows.getD i 0) [p]))).map V.int)) → Q .non H'
def spMRow (C : Addr) : Sp := fun vs H Q _ => ∃ (M R : Addr) (c b i : Nat) (rows : List Nat), vs = [.ref M, .int (i : Int)] ∧ MemAt C H M R c b rows ∧ i < c ∧ ∀ H', Ex H H' → Q (.int ((rows.getD i 0 : Nat) : Int)) H'
def spMState (C : Addr) : Sp := fun vs H Q _ => ∃ (M R : Addr) (c b i : Nat) (rows : List Nat), vs = [.ref M, .int (i : Int)] ∧ MemAt C H M R c b rows ∧ i < c ∧ 4 ≤ b ∧ b ≤ 32 ∧ RowsOk b rows ∧
  ∀ p H', H p = none → Ex H H' → H' p = some (.tup (stV b (rows.getD i 0))) → Q (.ref p) H'
def spMWord (C CE : Addr) : Sp := fun vs H Q E => ∃ (M R : Addr) (c b i : Nat) (rows : List Nat), vs = [.ref M, .int (i : Int)] ∧ MemAt C H M R c b rows ∧ i < c ∧ c ≤ 512 ∧ 4 ≤ b ∧ b ≤ 32 ∧ RowsOk b rows ∧
  (∀ w H', menO b (rows.getD i 0) = some w → Ex H H' → Q (.int (w : Int)) H') ∧ (menO b (rows.getD i 0) = none → ∀ d H', H d = none → Ex H H' → H' d = some (.xd [("place", .int (i : Int))]) → E (.ref CE) (some d) H')
def spMRead (C CE : Addr) : Sp := fun vs H Q E => ∃ (M R : Addr) (c b i : Nat) (rows : List Nat), vs = [.ref M, .int (i : Int)] ∧ MemAt C H M R c b rows ∧ i < c ∧ c ≤ 512 ∧ 4 ≤ b ∧ b ≤ 32 ∧ RowsOk b rows ∧
  (∀ w H', menO b (rows.getD i 0) = some w → Ex H H' → Q (.int ((valN b w : Nat) : Int)) H') ∧ (menO b (rows.getD i 0) = none → ∀ d H', H d = none → Ex H H' → H' d = some (.xd [("place", .int (i : Int))]) → E (.ref CE) (some d) H')
def spMScrub (C CE : Addr) : Sp := fun vs H Q E => ∃ (M R : Addr) (c b i : Nat) (rows : List Nat), vs = [.ref M, .int (i : Int)] ∧ MemAt C H M R c b rows ∧ i < c ∧ c ≤ 512 ∧ 4 ≤ b ∧ b ≤ 32 ∧ RowsOk b rows ∧
  (∀ w H', menO b (rows.getD i 0) = some w → Kp1 R H H' → H' R = some (.lst ((iL (rows.set i w)).map V.int)) → Q (.bl (!decide (w = rows.getD i 0))) H') ∧
  (menO b (rows.getD i 0) = none → ∀ d H', H d = none → Ex H H' → H' d = some (.xd [("place", .int (i : Int))]) → E (.ref CE) (some d) H')
/-- all cells scrubbed, up to k -/
def scrubbed (b : Nat) (rows : List Nat) (k : Nat) : List Nat := (List.range rows.length).map fun i => if i < k then (menO b (rows.getD i 0)).getD (rows.getD i 0) else rows.getD i 0
def cellsOf (b : Nat) (rows : List Nat) (k : Nat) (t : Str) : List Nat := (List.range k).filter fun i => decide (stO b (rows.getD i 0) = t)
def spMAll (C : Addr) : Sp := fun vs H Q _ => ∃ (M R : Addr) (c b : Nat) (rows : List Nat), vs = [.ref M] ∧ MemAt C H M R c b rows ∧ c ≤ 512 ∧ 4 ≤ b ∧ b ≤ 32 ∧ RowsOk b rows ∧
  ∀ (t p q : Addr) H', Kp1 R H H' → H' R = some (.lst ((iL (scrubbed b rows c)).map V.int)) → H t = none → H p = none → H q = none → H' t = some (.tup [.ref p, .ref q]) → H' p = some (.lst ((iL (cellsOf b rows c "one")).map V.int)) → H' q = some (.lst ((iL (cellsOf b rows c "more")).map V.int)) → p ≠ q → Q (.ref t) H'
def spMTwin (C : Addr) : Sp := fun vs H Q _ => ∃ (M R : Addr) (c b : Nat) (rows : List Nat), vs = [.ref M] ∧ MemAt C H M R c b rows ∧ c ≤ 512 ∧ 4 ≤ b ∧ b ≤ 32 ∧
  ∀ (M2 R2 : Addr) H', H M2 = none → H R2 = none → Ex H H' → MemAt C H' M2 R2 c b rows → Q (.ref M2) H'
/-- the class as the text has it -/
structure MemC (K : PySem.W.Frag) (C : Addr) : Prop where
  cl : Cls K C
  n1 : NoAttr K C "cells"
  n2 : NoAttr K C "bits"
  n3 : NoAttr K C "_rows"
section
variable {K : PySem.W.Frag} {σ : L2.St} {H : Hp} {ta : TE} {C M R : Addr} {c b : Nat} {rows : List Nat}
theorem ev_mcells (T : MemC K C) (h : Ev ta σ H (.ref M)) (m : MemAt C H M R c b rows) : Ev (tFld K ta "cells") σ H (.int (c : Int)) := by
  obtain ⟨dx, ho⟩ := m.ob
  exact ev_fld h ho T.cl T.n1 (mf_cells R c b)
theorem ev_mbits (T : MemC K C) (h : Ev ta σ H (.ref M)) (m : MemAt C H M R c b rows) : Ev (tFld K ta "bits") σ H (.int (b : Int)) := by
  obtain ⟨dx, ho⟩ := m.ob
  exact ev_fld h ho T.cl T.n2 (mf_bits R c b)
theorem ev_mrows (T : MemC K C) (h : Ev ta σ H (.ref M)) (m : MemAt C H M R c b rows) : Ev (tFld K ta "_rows") σ H (.ref R) := by
  obtain ⟨dx, ho⟩ := m.ob
  exact ev_fld h ho T.cl T.n3 (mf_rows R c b)
end
/-- an error class with one field, as the text has it -/
structure ErrC (P : Program) (w : World) (K : PySem.W.Frag) (mg : Str → Option Value) (base : Heap) (x : Str) (C : Addr) (fld pn : Str) : Prop where
  T : OexC K C
  init : ∃ (f : Addr) (fd : FuncData), FnOk P w K mg base CX0 1 f fd ["self", pn] (spSup C fld) ∧ PySem.W.findIn K (.ref C) "__init__" = some (some (.ref f)) ∧ PySem.W.typeIn K (.ref f) = some (.type "function") ∧ Binds K fd ["self", pn] []
  g : mg x = some (.ref C)
  xf : XfC K C
  no : PySem.W.findIn K (.ref C) fld = some none
  te : PySem.W.exmOne K (.ref C) (.ref C) = some true
  is_ : ExcC K C
theorem ps_raiseE {X : Cx} {W : WX} {x : Str} {C : Addr} {fld pn : Str} {e : Expr} {te : TE} {p p1 pos : Pos} (Z : ErrC X.prog X.w X.K X.mg X.base x C fld pn) (hr : Room 2 X.A) (tk : Takes X W) (he : PE X e te) (hc : X.calm = true := by rfl) (hg : Gl X x := by rfl)
    (hst : starEach [e] X.env = (false, eval e X.env) :: starEach [] X.env := by rfl) (hdb : (x == ("__debug__" : Str)) = false := by decide) (hpl : (backTo p1 (starEach [] X.env)).any (·.1) = false := by rfl) :
    PS X (.Raise (some (.Call (.Name x p) [e] [] p1)) none pos) (fun _ σ H => tMkO C (spSup C fld) [] (tCons te tNil) σ H fun cls d H' => W cls d σ H') := by
  obtain ⟨f, fd, F, h1, h2, hb⟩ := Z.init
  exact ps_raise hc tk (pmk_oex Z.T h1 h2 F hr hb .nil (fun _ _ _ _ _ _ _ h => h.elim) hg Z.g (pa_cons he pa_nil hst) hdb hst hpl)
section
variable {K : PySem.W.Frag} {σ : L2.St} {H : Hp} {ta : TE} {t : TA} {C a dx : Addr} {m : Str} {fs : List (Str × V)} {sp : Sp} {vs xs : List V} {z : V}
theorem ev_meth (h : Ev ta σ H (.ref a)) (ho : H a = some (.ins C dx fs)) (hl : fs.lookup m = none) (hv : EvA t σ H vs) (hs : SpV sp (.ref a :: (vs ++ [])) H z) : Ev (tMeth C m sp [] E0 ta t) σ H z := fun H1 e Q q =>
  h H1 e _ fun H2 e2 => ⟨a, dx, fs, rfl, (e.trans e2) _ _ ho, hl, hv H2 (e.trans e2) _ fun H3 e3 => hs H3 ((e.trans e2).trans e3) Q (fun H4 e4 => q H4 ((e2.trans e3).trans e4)) E0⟩
theorem eu_meth (h : Ev ta σ H (.ref a)) (ho : H a = some (.ins C dx fs)) (hl : fs.lookup m = none) (hv : EvA t σ H vs) (hs : SpU sp (.ref a :: (vs ++ [])) H xs) : EvU (tMeth C m sp [] E0 ta t) σ H xs := fun H1 e Q q =>
  h H1 e _ fun H2 e2 => ⟨a, dx, fs, rfl, (e.trans e2) _ _ ho, hl, hv H2 (e.trans e2) _ fun H3 e3 => hs H3 ((e.trans e2).trans e3) Q (fun p H4 np e4 hp => q p H4 (fresh_back (e2.trans e3) np) ((e2.trans e3).trans e4) hp) E0⟩
/-- a method that may change what stands -/
theorem em_meth {P : V → Hp → Prop} (h : Ev ta σ H (.ref a)) (ho : H a = some (.ins C dx fs)) (hl : fs.lookup m = none) (hv : EvA t σ H vs) (hs : ∀ H1, Ex H H1 → ∀ Q : VK, (∀ v H', P v H' → Q v H') → sp (.ref a :: (vs ++ [])) H1 Q E0) : EvM (tMeth C m sp [] E0 ta t) σ H P := fun Q q =>
  h H (Ex.refl H) _ fun H2 e2 => ⟨a, dx, fs, rfl, e2 _ _ ho, hl, hv H2 e2 _ fun H3 e3 => hs H3 (e2.trans e3) Q q⟩
theorem em_call {P : V → Hp → Prop} (hv : EvA t σ H vs) (hs : ∀ H1, Ex H H1 → ∀ Q : VK, (∀ v H', P v H' → Q v H') → sp (vs ++ []) H1 Q E0) : EvM (tCall sp [] E0 t) σ H P := fun Q q => hv H (Ex.refl H) _ fun H2 e2 => hs H2 e2 Q q
/-- a new memory -/
theorem em_make {C : Addr} {c b : Nat} (hv : EvA t σ H [.int (c : Int), .int (b : Int)]) (hc : c ≤ 512) (h4 : 4 ≤ b) (h32 : b ≤ 32) : EvM (tMake C (spMInit C) [] E0 t) σ H (fun v H' => ∃ M R : Addr, v = .ref M ∧ H M = none ∧ H R = none ∧ Ex H H' ∧ MemAt C H' M R c b (List.replicate c 0)) := fun Q q =>
  hv H (Ex.refl H) _ fun H1 e1 x dx nx ndx nex => ⟨x, dx, c, b, rfl, upd_same, hc, h4, h32, fun R H' nR kp hx hR => ⟨rfl, q _ H' ⟨x, R, rfl, fresh_back e1 nx, by
    by_cases z : R = x
    · subst z; rw [upd_same] at nR; cases nR
    · rw [upd_ne z] at nR
      by_cases z2 : R = dx
      · subst z2; rw [upd_same] at nR; cases nR
      · rw [upd_ne z2] at nR; exact fresh_back e1 nR, fun o u h => by
    have h1 := e1 _ _ h
    refine kp o u (ne_of_none h1 nx) ?_
    rw [upd_ne (ne_of_none h1 nx), upd_ne (ne_of_none h1 ndx)]
    exact h1, ⟨dx, hx⟩, hR, List.length_replicate⟩⟩⟩
end
theorem scrubbed_len (b : Nat) (rows : List Nat) (k : Nat) : (scrubbed b rows k).length = rows.length := by unfold scrubbed; rw [List.length_map, List.length_range]
theorem scrubbed_at {b k i : Nat} {rows : List Nat} (h : i < rows.length) : (scrubbed b rows k).getD i 0 = if i < k then (menO b (rows.getD i 0)).getD (rows.getD i 0) else rows.getD i 0 := by
  unfold scrubbed
  rw [List.getD_eq_getElem?_getD, List.getElem?_map, List.getElem?_range h]
  rfl
theorem ext_getD {l r : List Nat} (h : l.length = r.length) (k : ∀ i, i < l.length → l.getD i 0 = r.getD i 0) : l = r := by
  refine List.ext_getElem h fun i h1 h2 => ?_
  have := k i h1
  rw [List.getD_eq_getElem?_getD, List.getD_eq_getElem?_getD, List.getElem?_eq_getElem h1, List.getElem?_eq_getElem h2] at this
  exact this
theorem set_getD {l : List Nat} {i j r : Nat} (h : i < l.length) : (l.set i r).getD j 0 = if i = j then r else l.getD j 0 := by
  by_cases e : i = j
  · subst e
    rw [if_pos rfl, List.getD_eq_getElem?_getD, List.getElem?_set_self h]
    rfl
  · rw [if_neg e, List.getD_eq_getElem?_getD, List.getD_eq_getElem?_getD, List.getElem?_set_ne e]
theorem scrubbed_zero (b : Nat) (rows : List Nat) : scrubbed b rows 0 = rows := ext_getD (scrubbed_len b rows 0) fun i h => by
  rw [scrubbed_len] at h
  rw [scrubbed_at h, if_neg (Nat.not_lt_zero i)]
theorem scrubbed_succ {b k : Nat} {rows : List Nat} (h : k < rows.length) : scrubbed b rows (k + 1) = (scrubbed b rows k).set k ((menO b (rows.getD k 0)).getD (rows.getD k 0)) := by
  refine ext_getD (by rw [List.length_set, scrubbed_len, scrubbed_len]) fun i hi => ?_
  rw [scrubbed_len] at hi
  rw [set_getD (by rw [scrubbed_len]; exact h), scrubbed_at hi, scrubbed_at hi]
  by_cases e : k = i
  · subst e
    rw [if_pos (Nat.lt_succ_self k), if_pos rfl]
  · rw [if_neg e]
    by_cases c : i < k
    · rw [if_pos c, if_pos (by omega)]
    · rw [if_neg c, if_neg (by omega)]
theorem scrubbed_same {b k : Nat} {rows : List Nat} (h : k < rows.length) (hm : (menO b (rows.getD k 0)).getD (rows.getD k 0) = rows.getD k 0) : scrubbed b rows (k + 1) = scrubbed b rows k := by
  rw [scrubbed_succ h, hm]
  refine ext_getD (by rw [List.length_set]) fun i hi => ?_
  rw [set_getD (by rw [scrubbed_len]; exact h)]
  split
  · rename_i e
    subst e
    rw [scrubbed_at h, if_neg (Nat.lt_irrefl _)]
  · rfl
theorem scrubbed_ok {b k : Nat} {rows : List Nat} (h : RowsOk b rows) : RowsOk b (scrubbed b rows k) := fun r hr => by
  unfold scrubbed at hr
  obtain ⟨i, hi, rfl⟩ := List.mem_map.mp hr
  have hi := List.mem_range.mp hi
  split
  · cases e : menO b (rows.getD i 0) with
    | none => exact h.at_
    | some w => exact menO_lt h.at_ e
  · exact h.at_
theorem cellsOf_succ (b : Nat) (rows : List Nat) (k : Nat) (t : Str) : cellsOf b rows (k + 1) t = cellsOf b rows k t ++ (if stO b (rows.getD k 0) = t then [k] else []) := by
  unfold cellsOf
  rw [List.range_succ, List.filter_append]
  congr 1
  by_cases h : stO b (rows.getD k 0) = t
  · rw [if_pos h, List.filter_cons, if_pos (decide_eq_true h)]; rfl
  · rw [if_neg h, List.filter_cons, if_neg (by rw [decide_eq_false h]; decide)]; rfl
theorem cellsOf_len (b : Nat) (rows : List Nat) (k : Nat) (t : Str) : (cellsOf b rows k t).length ≤ k := by
  have := List.length_filter_le (fun i => decide (stO b (rows.getD i 0) = t)) (List.range k)
  rw [List.length_range] at this
  exact this
theorem log_small {i : Nat} (h : i < 2 ^ 1000) : i.log2 < 1920 := by
  by_cases h0 : i = 0
  · subst h0; decide
  · exact Nat.lt_of_lt_of_le ((Nat.log2_lt h0).mpr h) (by decide)
theorem p512 {i : Nat} (h : i < 512) : ((i : Nat) : Int).natAbs.log2 < 1920 := by
  rw [Int.natAbs_natCast]
  exact log_small (Nat.lt_of_lt_of_le h (by have : 512 ≤ 2 ^ 1000 := by decide +kernel
                                            exact this))
theorem putF_len2 (b c : Nat) : (putF "bits" (.int (b : Int)) (putF "cells" (.int (c : Int)) [])).length ≤ 2 := by
  show (if ("cells" : Str) = "bits" then [(("cells" : Str), V.int (b : Int))] else (("cells" : Str), V.int (c : Int)) :: putF "bits" (.int (b : Int)) []).length ≤ 2
  rw [if_neg s_cb]
  exact Nat.le_refl 2
end My
set_option Elab.async false
set_option linter.all false
set_option maxRecDepth 100000
set_option maxHeartbeats 400000
/-! ### the deeds of the laws on memories -/
namespace My
open PySem PySem.Spec PyProof.Rows L2 Evl
def nD (ns : List Int) (i : Nat) : Int := ns.getD i 0
theorem nD_at {ns : List Int} {i : Nat} (h : i < ns.length) : atI (ns.map V.int) ((i : Nat) : Int) = some (.int (nD ns i)) := by
  refine atI_nat ?_
  unfold nD
  rw [List.getElem?_map, List.getD_eq_getElem?_getD, List.getElem?_eq_getElem h]
  rfl
theorem nD_small {ns : List Int} {i : Nat} (hs : ∀ n ∈ ns, 0 ≤ n ∧ n < 1009) : 0 ≤ nD ns i ∧ nD ns i < 1009 := by
  unfold nD
  rw [List.getD_eq_getElem?_getD]
  cases e : ns[i]? with
  | none => exact ⟨by decide, by decide⟩
  | some n => exact hs n (List.mem_of_getElem? e)
def lvX (ns : List Int) (i : Nat) : Int := nD ns i + 1009 * nD ns (i + 1) + 1009 * 1009 * nD ns (i + 2) + 1009 * 1009 * 1009 * nD ns (i + 3)
/-- the value that the law draws -/
def lvN (ns : List Int) (i b : Nat) : Nat := (([lvX ns i % ((2 ^ b : Nat) : Int), lvX ns i % ((2 ^ b : Nat) : Int), lvX ns i % ((2 ^ b : Nat) : Int), 0, ((2 ^ b : Nat) : Int) - 1] : List Int).getD ((nD ns (i + 3) % 5).toNat) 0).toNat
theorem mod5 (x : Int) : (x % 5).toNat = 0 ∨ (x % 5).toNat = 1 ∨ (x % 5).toNat = 2 ∨ (x % 5).toNat = 3 ∨ (x % 5).toNat = 4 := by omega
theorem lvN_at (ns : List Int) (i b : Nat) : lvN ns i b < 2 ^ b ∧ ([.int (lvX ns i % ((2 ^ b : Nat) : Int)), .int (lvX ns i % ((2 ^ b : Nat) : Int)), .int (lvX ns i % ((2 ^ b : Nat) : Int)), .int 0, .int (((2 ^ b : Nat) : Int) - 1)] : List V)[(nD ns (i + 3) % 5).toNat]? = some (.int ((lvN ns i b : Nat) : Int)) := by
  unfold lvN
  have hp := Nat.two_pow_pos b
  generalize 2 ^ b = B at *
  have h0 : 0 ≤ lvX ns i % (B : Int) := Int.emod_nonneg _ (by omega)
  have h1 : lvX ns i % (B : Int) < B := Int.emod_lt_of_pos _ (by omega)
  generalize lvX ns i % (B : Int) = x at *
  rcases mod5 (nD ns (i + 3)) with h | h | h | h | h <;> rw [h]
  · exact ⟨by show x.toNat < B; omega, by show some (V.int x) = some (V.int (x.toNat : Int)); rw [Int.toNat_of_nonneg h0]⟩
  · exact ⟨by show x.toNat < B; omega, by show some (V.int x) = some (V.int (x.toNat : Int)); rw [Int.toNat_of_nonneg h0]⟩
  · exact ⟨by show x.toNat < B; omega, by show some (V.int x) = some (V.int (x.toNat : Int)); rw [Int.toNat_of_nonneg h0]⟩
  · exact ⟨hp, rfl⟩
  · exact ⟨by show ((B : Int) - 1).toNat < B; omega, by show some (V.int ((B : Int) - 1)) = some (V.int (((B : Int) - 1).toNat : Int)); rw [Int.toNat_of_nonneg (by omega)]⟩
theorem lvN_lt (ns : List Int) (i b : Nat) : lvN ns i b < 2 ^ b := (lvN_at ns i b).1
def spLvF (K : PySem.W.Frag) : Sp := fun vs H Q _ => ∃ (a : Addr) (ns : List Int) (i b : Nat), vs = [.ref a, .int (i : Int), .int (b : Int)] ∧ SqL K H a (ns.map V.int) ∧ i + 3 < ns.length ∧ 4 ≤ b ∧ b ≤ 32 ∧ ∀ H', Ex H H' → Q (.int ((lvN ns i b : Nat) : Int)) H'
theorem SpLvF {K : PySem.W.Frag} {H : Hp} {a : Addr} {ns : List Int} {i b : Nat} (h : SqL K H a (ns.map V.int)) (hi : i + 3 < ns.length) (h4 : 4 ≤ b) (h32 : b ≤ 32) : SpV (spLvF K) ([.ref a, .int (i : Int), .int (b : Int)] ++ []) H (.int ((lvN ns i b : Nat) : Int)) := fun H1 e Q q E => ⟨a, ns, i, b, rfl, ex_l e h, hi, h4, h32, q⟩
def spRowsL (C : Addr) : Sp := fun vs H Q _ => ∃ (M R : Addr) (c b : Nat) (rows : List Nat), vs = [.ref M] ∧ MemAt C H M R c b rows ∧ c ≤ 512 ∧ ∀ p H', H p = none → Ex H H' → H' p = some (.lst ((iL rows).map V.int)) → Q (.ref p) H'
theorem SpRowsL {C M R : Addr} {H : Hp} {c b : Nat} {rows : List Nat} (m : MemAt C H M R c b rows) (hc : c ≤ 512) : SpL (spRowsL C) ([.ref M] ++ []) H ((iL rows).map V.int) := fun H1 e Q q E => ⟨M, R, c, b, rows, rfl, m.ex e, hc, q⟩
/-- the rows behind a scrubbing of one cell -/
def scrR (b : Nat) (rows : List Nat) (i : Nat) : List Nat := match menO b (rows.getD i 0) with
  | some w => rows.set i w
  | none => rows
def scrV (b : Nat) (rows : List Nat) (i : Nat) : V := match menO b (rows.getD i 0) with
  | some w => .bl (!decide (w = rows.getD i 0))
  | none => .non
def spLscrub (C : Addr) : Sp := fun vs H Q _ => ∃ (M R : Addr) (c b i : Nat) (rows : List Nat), vs = [.ref M, .int (i : Int)] ∧ MemAt C H M R c b rows ∧ i < c ∧ c ≤ 512 ∧ 4 ≤ b ∧ b ≤ 32 ∧ RowsOk b rows ∧
  ∀ H', Kp1 R H H' → H' R = some (.lst ((iL (scrR b rows i)).map V.int)) → Q (scrV b rows i) H'
def doR (b c : Nat) (rows : List Nat) (ns : List Int) (t : Nat) : List Nat :=
  if nD ns (t + 1) % 5 = 0 then rows.set (nD ns t % (c : Int)).toNat (cod b (lvN ns (t + 2) b))
  else if nD ns (t + 1) % 5 < 3 then rows.set (nD ns t % (c : Int)).toNat (flip (rows.getD (nD ns t % (c : Int)).toNat 0) [(nD ns (t + 2) % ((pl b : Nat) : Int)).toNat])
  else if nD ns (t + 1) % 5 = 3 then scrR b rows (nD ns t % (c : Int)).toNat
  else scrubbed b rows c
theorem scrR_len (b : Nat) (rows : List Nat) (i : Nat) : (scrR b rows i).length = rows.length := by
  unfold scrR
  split
  · rw [List.length_set]
  · rfl
theorem scrR_ok {b i : Nat} {rows : List Nat} (h : RowsOk b rows) : RowsOk b (scrR b rows i) := by
  unfold scrR
  split
  · rename_i w e
    exact h.set (menO_lt h.at_ e)
  · exact h
theorem doR_len (b c : Nat) (rows : List Nat) (ns : List Int) (t : Nat) : (doR b c rows ns t).length = rows.length := by
  unfold doR
  split
  · rw [List.length_set]
  · split
    · rw [List.length_set]
    · split
      · exact scrR_len _ _ _
      · exact scrubbed_len _ _ _
theorem doR_ok {b c t : Nat} {rows : List Nat} {ns : List Int} (h : RowsOk b rows) (h4 : 4 ≤ b) (h32 : b ≤ 32) : RowsOk b (doR b c rows ns t) := by
  have hp := pl_pos (b := b)
  unfold doR
  split
  · exact h.set (cod_lt h4 h32)
  · split
    · refine h.set (flip_lt h.at_ fun p hp' => ?_)
      rw [List.mem_singleton.mp hp']
      have h1 := Int.emod_nonneg (nD ns (t + 2)) (b := ((pl b : Nat) : Int)) (by omega)
      have h2 := Int.emod_lt_of_pos (nD ns (t + 2)) (b := ((pl b : Nat) : Int)) (by omega)
      omega
    · split
      · exact scrR_ok h
      · exact scrubbed_ok h
def spDo (C : Addr) : Sp := fun vs H Q _ => ∃ (M R n : Addr) (c b t : Nat) (rows : List Nat) (ns : List Int), vs = [.ref M, .ref n, .int (t : Int)] ∧ MemAt C H M R c b rows ∧ 1 ≤ c ∧ c ≤ 512 ∧ 4 ≤ b ∧ b ≤ 32 ∧ RowsOk b rows ∧
  H n = some (.lst (ns.map V.int)) ∧ (∀ z ∈ ns, 0 ≤ z ∧ z < 1009) ∧ t + 5 < ns.length ∧ ∀ v H', Kp1 R H H' → H' R = some (.lst ((iL (doR b c rows ns t)).map V.int)) → Q v H'
section
variable {K : PySem.W.Frag} {σ : L2.St} {H : Hp} {ta tb : TE} {C M R n : Addr} {c b t : Nat} {rows : List Nat} {ns : List Int}
theorem ev_isC {a dx : Addr} {fs : List (Str × V)} {ta : TA} (h : EvA ta σ H [.ref a, .ref C]) (ha : H a = some (.ins C dx fs)) : Ev (tCB (fun xs H Q => ∃ a dx fs, xs = [V.ref a, .ref C] ∧ H a = some (.ins C dx fs) ∧ Q (.bl true) H) ta) σ H (.bl true) :=
  ev_cb h fun H1 e _ q => ⟨a, dx, fs, rfl, e _ _ ha, q H1 (Ex.refl H1)⟩
theorem et_yes : EvT tYes σ H true := fun H1 e Q q => q H1 (Ex.refl _)
theorem ev_xf {a D dd : Addr} {f : Str} {fs : List (Str × V)} {v : V} (h : Ev ta σ H (.ref a)) (hd : H dd = some (.xd fs)) (hl : fs.lookup f = some v) : Ev (tXf a (.ref D) (some dd) D f ta) σ H v := fun H1 e Q q =>
  h H1 e _ fun H2 e2 => ⟨rfl, rfl, dd, fs, v, rfl, (e.trans e2) _ _ hd, hl, q H2 e2⟩
theorem ev_isX {a D x dd : Addr} {fs : List (Str × V)} {r : Bool} {t2 : TA} (h : EvA t2 σ H [.ref a, .ref x]) (hd : H dd = some (.xd fs)) (k : PySem.W.kitOne K (.ref D) (.ref x) = some r) :
    Ev (tCB (fun xs H Q => (∀ d, some dd = some d → ∃ fs, H d = some (.xd fs)) ∧ rIsX K D a (.ref D) xs H Q) t2) σ H (.bl r) :=
  ev_cb h fun H1 e _ q => ⟨fun d z => by cases z; exact ⟨fs, e _ _ hd⟩, x, r, rfl, rfl, k, q H1 (Ex.refl H1)⟩
theorem rows_range (rows : List Nat) : given rows.length (fun _ => true) (fun i => V.int ((rows.getD i 0 : Nat) : Int)) = (iL rows).map V.int := by
  rw [given_ints, List.filter_eq_self.mpr fun _ _ => rfl]
  congr 1
  unfold iL
  refine List.ext_getElem (by rw [List.length_map, List.length_map, List.length_range]) fun i h1 h2 => ?_
  rw [List.length_map] at h2
  rw [List.getElem_map, List.getElem_map, List.getElem_range, List.getD_eq_getElem?_getD, List.getElem?_eq_getElem h2]
  rfl
theorem evG_lstL2 {xs ys : List V} (ha : EvL ta σ H xs) (hb : EvL tb σ H ys) : EvG (tLst (tCons ta (tCons tb tNil))) σ H (fun v H' => ∃ p p0 p1, v = .ref p ∧ H p = none ∧ H p0 = none ∧ H p1 = none ∧ H' p = some (.lst [.ref p0, .ref p1]) ∧ H' p0 = some (.lst xs) ∧ H' p1 = some (.lst ys)) := fun H1 e Q q =>
  ha H1 e _ fun p0 H2 n0 e2 h0 => hb H2 (e.trans e2) _ fun p1 H3 n1 e3 h1 => ⟨sz_of (by show 2 ≤ 100000; decide), fun p np => by
    have x3 := (e2.trans e3).trans (Ex.new (o := .lst [.ref p0, .ref p1]) np)
    exact q _ _ x3 ⟨p, p0, p1, rfl, fresh_back (e.trans (e2.trans e3)) np, fresh_back e n0, fresh_back (e.trans e2) n1, upd_same, (Ex.new np) _ _ (e3 _ _ h0), (Ex.new np) _ _ h1⟩⟩
theorem et_lsNe3 {t1 t2 : TE} {l : List Int} {p : Addr} (h1 : EvL t1 σ H (l.map V.int)) (h2 : Ev t2 σ H (.ref p)) (hp : SqL K H p (l.map V.int)) : EvT (tTest (tOp (rNeD K) t1 t2)) σ H false :=
  et_test fun H1 e Q q => h1 H1 e _ fun p1 H2 n1 e2 hp1 => h2 H2 (e.trans e2) _ fun H3 e3 =>
    (rv_neS (dp_ints (sq_of (e3 _ _ hp1))) (dp_ints (ex_l ((e.trans e2).trans e3) hp)) (lay_ints l (n := 3)).sh) H3 (Ex.refl _) Q fun H4 e4 => q H4 ((e2.trans e3).trans e4)
theorem MemAt.other {H' : Hp} {M2 R2 : Addr} {c2 b2 : Nat} {rows2 : List Nat} (m2 : MemAt C H M2 R2 c2 b2 rows2) (hR : ∃ l, H R = some (.lst l)) (k : Kp1 R H H') (ne : R2 ≠ R) : MemAt C H' M2 R2 c2 b2 rows2 := by
  obtain ⟨l, hR⟩ := hR
  refine ⟨m2.ob.imp fun dx h => k _ _ (fun z => ?_) h, k _ _ ne m2.rw_, m2.len⟩
  rw [z, hR] at h
  cases h
theorem em_do {t3 : TA} (h : EvA t3 σ H [.ref M, .ref n, .int (t : Int)]) (m : MemAt C H M R c b rows) (h1 : 1 ≤ c) (h5 : c ≤ 512) (h4 : 4 ≤ b) (h32 : b ≤ 32) (ok : RowsOk b rows) (hn : H n = some (.lst (ns.map V.int))) (hs : ∀ z ∈ ns, 0 ≤ z ∧ z < 1009) (ht : t + 5 < ns.length) :
    EvM (tCall (spDo C) [] E0 t3) σ H (fun _ H' => Kp1 R H H' ∧ MemAt C H' M R c b (doR b c rows ns t)) :=
  em_call h fun H1 e Q q => ⟨M, R, n, c, b, t, rows, ns, rfl, m.ex e, h1, h5, h4, h32, ok, e _ _ hn, hs, ht, fun v H' k hR => q v H' ⟨fun o u a b => k o u a (e _ _ b), m.put (fun o u a b => k o u a (e _ _ b)) hR (doR_len _ _ _ _ _)⟩⟩
theorem em_twin (h : Ev ta σ H (.ref M)) (m : MemAt C H M R c b rows) (h5 : c ≤ 512) (h4 : 4 ≤ b) (h32 : b ≤ 32) (hl : (mflds R c b).lookup ("twin" : Str) = none) :
    EvM (tMeth C "twin" (spMTwin C) [] E0 ta tNil) σ H (fun v H' => ∃ M2 R2, v = .ref M2 ∧ H M2 = none ∧ H R2 = none ∧ Ex H H' ∧ MemAt C H' M2 R2 c b rows) := by
  obtain ⟨dx, ho⟩ := m.ob
  exact em_meth h ho hl ea_nil fun H1 e Q q => ⟨M, R, c, b, rows, rfl, m.ex e, h5, h4, h32, fun M2 R2 H' n1 n2 e2 m2 => q _ H' ⟨M2, R2, rfl, fresh_back e n1, fresh_back e n2, e.trans e2, m2⟩⟩
end
end My
set_option Elab.async false
set_option linter.all false
set_option maxRecDepth 100000
set_option maxHeartbeats 400000
/-! ### lists of lists -/
namespace My
open PySem PySem.Spec PyProof.Rows L2 Evl
theorem subs_count : ∀ k, (subsN k).length = 2 ^ k
  | 0 => rfl
  | k + 1 => by
    show (subsN k ++ (subsN k).map fun l => l ++ [k]).length = _
    rw [List.length_append, List.length_map, subs_count k, Nat.pow_succ]
    omega
theorem subs_mem : ∀ {k : Nat} {L : List Nat}, L ∈ subsN k → L.length ≤ k
  | 0, L, h => by
    rw [List.mem_singleton.mp (show L ∈ [[]] from h)]
    exact Nat.le_refl 0
  | k + 1, L, h => by
    rcases List.mem_append.mp (show L ∈ subsN k ++ (subsN k).map (fun l => l ++ [k]) from h) with h | h
    · have := subs_mem h; omega
    · obtain ⟨l, hl, rfl⟩ := List.mem_map.mp h
      have := subs_mem hl
      rw [List.length_append]
      show l.length + 1 ≤ _
      omega
theorem getD_mem {Ls : List (List Nat)} {k : Nat} (h : k < Ls.length) : Ls.getD k [] ∈ Ls := by
  rw [List.getD_eq_getElem?_getD, List.getElem?_eq_getElem h]
  exact List.getElem_mem h
/-- at p a list of lists, all new since H -/
def LLat (H H' : Hp) (p : Addr) (Ls : List (List Nat)) : Prop := H p = none ∧ ∃ qs : List Addr, H' p = some (.lst (qs.map V.ref)) ∧ qs.length = Ls.length ∧ ∀ k q, qs[k]? = some q → H q = none ∧ H' q = some (.lst ((iL (Ls.getD k [])).map V.int))
theorem LLat.ex {H H1 H2 : Hp} {p : Addr} {Ls : List (List Nat)} (h : LLat H H1 p Ls) (e : Ex H1 H2) : LLat H H2 p Ls := ⟨h.1, h.2.imp fun qs hq => ⟨e _ _ hq.1, hq.2.1, fun k q z => ⟨(hq.2.2 k q z).1, e _ _ (hq.2.2 k q z).2⟩⟩⟩
def spLlists : Sp := fun vs H Q _ => ∃ n : Nat, vs = [.int (n : Int)] ∧ n ≤ 12 ∧ ∀ p H', Ex H H' → LLat H H' p (subsN n) → Q (.ref p) H'
def spLout (K : PySem.W.Frag) : Sp := fun vs H Q _ => ∃ (b : Nat) (p : Addr) (L : List Nat), vs = [.int (b : Int), .ref p] ∧ b ≤ 4 ∧ L.length ≤ 12 ∧ SqL K H p ((iL L).map V.int) ∧ ∀ t H', H t = none → Ex H H' → H' t = some (.tup [.bl (sureC b (cps b L)), .int ((toldC (cps b L) : Nat) : Int)]) → Q (.ref t) H'
section
variable {K : PySem.W.Frag} {σ : L2.St} {H : Hp} {ta tb te : TE} {t : TA}
theorem SpLout {b : Nat} {p : Addr} {L : List Nat} (hb : b ≤ 4) (hL : L.length ≤ 12) (h : SqL K H p ((iL L).map V.int)) : SpU (spLout K) ([.int (b : Int), .ref p] ++ []) H [.bl (sureC b (cps b L)), .int ((toldC (cps b L) : Nat) : Int)] := fun H1 e Q q E => ⟨b, p, L, rfl, hb, hL, ex_l e h, q⟩
theorem evG_lists {n : Nat} (h : EvA t σ H [.int (n : Int)]) (hn : n ≤ 12) : EvG (tCall spLlists [] E0 t) σ H (fun v H' => ∃ p xs, v = .ref p ∧ H' p = some (.lst xs) ∧ (∃ qs : List Addr, xs = qs.map V.ref ∧ H p = none ∧ qs.length = (subsN n).length ∧ ∀ k q, qs[k]? = some q → H q = none ∧ H' q = some (.lst ((iL ((subsN n).getD k [])).map V.int)))) := fun H1 e Q q =>
  h H1 e _ fun H2 e2 => ⟨n, rfl, hn, fun p H3 e3 ⟨h0, qs, h1, h2, h3⟩ => q _ H3 (e2.trans e3) ⟨p, _, rfl, h1, qs, rfl, fresh_back (e.trans e2) h0, h2, fun k z hz => ⟨fresh_back (e.trans e2) (h3 k z hz).1, (h3 k z hz).2⟩⟩⟩
theorem evG_lst1L {xs : List V} (ha : EvL ta σ H xs) : EvG (tLst (tCons ta tNil)) σ H (fun v H' => ∃ p p0, v = .ref p ∧ H p = none ∧ H p0 = none ∧ H' p = some (.lst [.ref p0]) ∧ H' p0 = some (.lst xs)) := fun H1 e Q q =>
  ha H1 e _ fun p0 H2 n0 e2 h0 => ⟨sz_of (by show 1 ≤ 100000; decide), fun p np => q _ _ (e2.trans (Ex.new np)) ⟨p, p0, rfl, fresh_back (e.trans e2) np, fresh_back e n0, upd_same, (Ex.new np) _ _ h0⟩⟩
/-- found + [new lists] -/
theorem evG_catN {a : Addr} {xs : List V} {n : Nat} {l : Nat → HO} (ha : Ev ta σ H (.ref a)) (hx : H a = some (.lst xs)) (hb : EvG tb σ H (fun v H' => ∃ p, v = .ref p ∧ NewLs H H' p n l)) (hz : xs.length + n ≤ 100000) :
    EvG (tOp rCat ta tb) σ H (fun v H' => ∃ r, v = .ref r ∧ H r = none ∧ ∃ qs : List Addr, qs.length = n ∧ H' r = some (.lst (xs ++ qs.map V.ref)) ∧ ∀ k q, qs[k]? = some q → H q = none ∧ H' q = some (l k)) := fun H1 e Q q =>
  ha H1 e _ fun H2 e2 => hb H2 (e.trans e2) _ fun v H3 e3 ⟨p, ev, np, qs, h1, h2, h3, h4⟩ => ⟨a, p, xs, qs.map V.ref, rfl, ev, ((e.trans e2).trans e3) _ _ hx, h2, sz_of (by rw [List.length_map, h1]; exact hz), fun r nr => q _ _ ((e2.trans e3).trans (Ex.new nr)) ⟨r, rfl, fresh_back ((e.trans e2).trans e3) nr, qs, h1, upd_same, fun k z hk => ⟨(h4 k z hk).2.1, (Ex.new nr) _ _ (h4 k z hk).2.2⟩⟩⟩
theorem LLat.grow {H0 H1 H2 : Hp} {p r : Addr} {k : Nat} {qs qs' : List Addr} (h : LLat H0 H1 p (subsN k)) (hp : H1 p = some (.lst (qs.map V.ref))) (e0 : Ex H0 H1) (e : Ex H1 H2) (nr : H1 r = none) (hl : qs'.length = (subsN k).length) (hr : H2 r = some (.lst (qs.map V.ref ++ qs'.map V.ref)))
    (hq : ∀ j q, qs'[j]? = some q → H1 q = none ∧ H2 q = some (.lst ((iL ((subsN k).getD j [] ++ [k])).map V.int))) : LLat H0 H2 r (subsN (k + 1)) := by
  obtain ⟨h0, qs0, h1, h2, h3⟩ := h
  have eq : qs0 = qs := by
    rw [h1] at hp
    have hp := Option.some.inj hp
    have hp : qs0.map V.ref = qs.map V.ref := by injection hp
    exact (List.map_inj_right fun a b z => by injection z).mp hp
  subst eq
  refine ⟨fresh_back e0 nr, qs0 ++ qs', by rw [hr, List.map_append], ?_, fun j q hj => ?_⟩
  · show _ = (subsN k ++ (subsN k).map fun l => l ++ [k]).length
    rw [List.length_append, List.length_append, List.length_map, h2, hl]
  · show H0 q = none ∧ H2 q = some (.lst ((iL ((subsN k ++ (subsN k).map fun l => l ++ [k]).getD j [])).map V.int))
    by_cases hlt : j < qs0.length
    · rw [List.getElem?_append_left hlt] at hj
      obtain ⟨a, c⟩ := h3 j q hj
      refine ⟨a, ?_⟩
      rw [List.getD_eq_getElem?_getD, List.getElem?_append_left (by omega), ← List.getD_eq_getElem?_getD]
      exact e _ _ c
    · rw [List.getElem?_append_right (by omega)] at hj
      obtain ⟨a, c⟩ := hq _ q hj
      refine ⟨fresh_back e0 a, ?_⟩
      have hj2 := (List.getElem?_eq_some_iff.mp hj).1
      rw [List.getD_eq_getElem?_getD, List.getElem?_append_right (by omega), List.getElem?_map, ← h2, List.getElem?_eq_getElem (show j - qs0.length < (subsN k).length by omega)]
      rw [List.getD_eq_getElem?_getD, List.getElem?_eq_getElem (show j - qs0.length < (subsN k).length by omega)] at c
      exact c
theorem inB_dec (p : Nat) : ∀ c : List Nat, decide ((p : Int) ∈ iL c) = inB p c
  | [] => rfl
  | a :: r => by
    have ih := inB_dec p r
    show decide ((p : Int) ∈ (a : Int) :: iL r) = (Nat.beq a p || inB p r)
    rw [← ih]
    by_cases h : a = p
    · subst h
      rw [show Nat.beq a a = true from Nat.beq_refl a]
      simp
    · rw [show Nat.beq a p = false from by rw [← Bool.not_eq_true, Nat.beq_eq]; exact h]
      simp
      omega
theorem eqB_dec : ∀ a c : List Nat, PyData.eqvAll ((iL a).map PyData.int) ((iL c).map PyData.int) = eqB a c
  | [], [] => by simp [iL, PyData.eqvAll, eqB]
  | [], _ :: _ => by simp [iL, PyData.eqvAll, eqB]
  | _ :: _, [] => by simp [iL, PyData.eqvAll, eqB]
  | x :: r, y :: s => by
    have ih := eqB_dec r s
    show PyData.eqvAll (PyData.int (x : Int) :: (iL r).map PyData.int) (PyData.int (y : Int) :: (iL s).map PyData.int) = (Nat.beq x y && eqB r s)
    rw [PyData.eqvAll, ih]
    congr 1
    simp [PyData.eqv]
    by_cases h : x = y
    · subst h; simp
    · rw [show Nat.beq x y = false from by rw [← Bool.not_eq_true, Nat.beq_eq]; exact h]
      simp
      omega
theorem dpa_tups : ∀ {qs : List Addr} {ds : List (List Int)}, qs.length = ds.length → (∀ (k : Nat) (q : Addr) (d : List Int), qs[k]? = some q → ds[k]? = some d → H q = some (.tup (d.map V.int))) → DpAll K H (qs.map V.ref) (ds.map fun d => PyData.tuple (d.map PyData.int))
  | [], [], _, _ => .nil
  | [], _ :: _, h, _ => by cases h
  | _ :: _, [], h, _ => by cases h
  | q :: qs, d :: ds, h, k => .cons (dp_intsT (st_of (k 0 q d rfl rfl))) (dpa_tups (by simpa using h) fun j z e hz he => k (j + 1) z e hz he)
end
end My
namespace My
open PySem PySem.Spec PyProof.Rows L2 Evl
section
variable {K : PySem.W.Frag} {σ : L2.St} {H : Hp} {ta tb te tl : TE} {tu tz : TS} {D : Ends}
theorem ev_cntD {a : Addr} {y : V} {d : PyData} {ds : List PyData} (ha : Ev ta σ H (.ref a)) (hl : ∃ xs, SqL K H a xs) (hd : Dp K H (.ref a) (.list ds)) (hb : Ev tb σ H y) (hy : Dp K H y d) (sl : SeqAt.shaped (.list ds) = true) (sd : SeqAt.shaped d = true) :
    Ev (tBM K "list" (rCntD K) ta (tCons tb tNil)) σ H (.int ((ds.countP fun z => PyData.eqv z d : Nat) : Int)) := fun H1 e Q q =>
  ha H1 e _ fun H2 e2 => ⟨Or.inl ⟨rfl, hl.choose, ex_l (e.trans e2) hl.choose_spec⟩, hb H2 (e.trans e2) _ fun H3 e3 => ⟨a, y, d, ds, rfl, rfl, dp_ex ((e.trans e2).trans e3) hd, dp_ex ((e.trans e2).trans e3) hy, sl, sd, q H3 (e2.trans e3)⟩⟩
def dl (c : List Nat) : PyData := .list ((iL c).map PyData.int)
theorem cnt_dl (c : List Nat) (cs : List (List Nat)) : (cs.map dl).countP (fun z => PyData.eqv z (dl c)) = cs.countP fun z => eqB z c := by
  rw [List.countP_map]
  congr 1
  funext z
  show PyData.eqv (.list ((iL z).map PyData.int)) (.list ((iL c).map PyData.int)) = eqB z c
  rw [← eqB_dec]
  simp [PyData.eqv]
theorem q_forGn {j : Nat} {R : Addr → List V → Hp → Prop} (h : EvG tl σ H (fun v H1 => ∃ p xs, v = .ref p ∧ H1 p = some (.lst xs) ∧ R p xs H1)) (Pv : Addr → List V → Nat → L2.St → Hp → Prop) (h0 : ∀ p xs H1, Ex H H1 → H1 p = some (.lst xs) → R p xs H1 → Pv p xs 0 σ H1)
    (hl : ∀ p xs i σ' H', i ≤ xs.length → Pv p xs i σ' H' → SqL K H' p xs) (hs : ∀ p xs i x σ' H', xs[i]? = some x → Pv p xs i σ' H' → tu { D with nx := Pv p xs (i + 1), ct := Pv p xs (i + 1), bk := tz D } (σ'.set j (some x)) H')
    (hd : ∀ p xs σ' H', Pv p xs xs.length σ' H' → tz D σ' H') : tSeq (tFor (iList K tl) (gName j) tu) tz D σ H := s_forG (D := { D with nx := tz D }) h Pv h0 hl hs hd
theorem five {r : List Int} (h : r.length = 5) : ∃ a b c d e, r = [a, b, c, d, e] := by
  match r, h with
  | [a, b, c, d, e], _ => exact ⟨a, b, c, d, e, rfl⟩
theorem told_lt (cs : List (List Nat)) : toldC cs = 0 ∨ toldC cs = 1 ∨ toldC cs = 2 := by
  unfold toldC
  split
  · exact Or.inr (Or.inr rfl)
  · split
    · exact Or.inr (Or.inl rfl)
    · exact Or.inl rfl
/-- the rows behind the first i lists -/
def rowsAt (b i : Nat) : List (List Int) := ((subsN (3 * b)).take i).foldl (tal b) (List.replicate (3 * b + 1) [0, 0, 0, 0, 0])
theorem rowsAt_succ {b i : Nat} (h : i < (subsN (3 * b)).length) : rowsAt b (i + 1) = tal b (rowsAt b i) ((subsN (3 * b)).getD i []) := by
  unfold rowsAt
  rw [List.take_succ, List.foldl_append, List.getElem?_eq_getElem h, List.getD_eq_getElem?_getD, List.getElem?_eq_getElem h]
  rfl
theorem stp_len {r : List Int} {s : Bool} {t : Nat} : (stp r s t).length = r.length := by unfold stp; simp
theorem rows_ok : ∀ (ls : List (List Nat)) (b : Nat) (rows : List (List Int)), (∀ r ∈ rows, r.length = 5) → (ls.foldl (tal b) rows).length = rows.length ∧ ∀ r ∈ ls.foldl (tal b) rows, r.length = 5
  | [], b, rows, h => ⟨rfl, h⟩
  | L :: ls, b, rows, h => by
    have h2 : ∀ r ∈ tal b rows L, r.length = 5 := fun r hr => by
      unfold tal at hr
      by_cases hlt : L.length < rows.length
      · rcases List.mem_or_eq_of_mem_set hr with hr | rfl
        · exact h r hr
        · rw [stp_len, List.getD_eq_getElem?_getD, List.getElem?_eq_getElem hlt]
          exact h _ (List.getElem_mem hlt)
      · rw [List.set_eq_of_length_le (by omega)] at hr
        exact h r hr
    have ih := rows_ok ls b (tal b rows L) h2
    refine ⟨ih.1.trans ?_, ih.2⟩
    unfold tal
    rw [List.length_set]
theorem rowsAt_len (b i : Nat) : (rowsAt b i).length = 3 * b + 1 ∧ ∀ r ∈ rowsAt b i, r.length = 5 := by
  have := rows_ok ((subsN (3 * b)).take i) b (List.replicate (3 * b + 1) [0, 0, 0, 0, 0]) fun r hr => by rw [List.eq_of_mem_replicate hr]; rfl
  rw [List.length_replicate] at this
  exact this
theorem rowsAt_5 {b i k : Nat} (h : k < 3 * b + 1) : ((rowsAt b i).getD k []).length = 5 := by
  have := rowsAt_len b i
  rw [List.getD_eq_getElem?_getD, List.getElem?_eq_getElem (by rw [this.1]; exact h)]
  exact this.2 _ (List.getElem_mem _)
end
end My
namespace My
open PySem PySem.Spec PyProof.Rows L2 Evl
theorem s_retEq {K : PySem.W.Frag} {σ : L2.St} {H : Hp} {ta tb : TE} {D : Ends} {P1 P2 : V → Hp → Prop} (h1 : EvG ta σ H P1) (h2 : EvG tb σ H P2) (k : ∀ v1 H1 v2 H2, Ex H H1 → P1 v1 H1 → Ex H1 H2 → P2 v2 H2 → ∃ d, Dp K H2 v1 d ∧ Dp K H2 v2 d ∧ SeqAt.shaped d = true) (q : ∀ H', D.rt (.bl true) H') :
    tRet (tOp (rEqD K) ta tb) D σ H := h1 H (Ex.refl H) _ fun v1 H1 e1 p1 => h2 H1 e1 _ fun v2 H2 e2 p2 => by
  obtain ⟨d, a, b, c⟩ := k v1 H1 v2 H2 e1 p1 e2 p2
  exact rv_eqS a b c H2 (Ex.refl _) _ fun H3 e3 => q H3
end My
set_option Elab.async false
set_option linter.all false
set_option maxRecDepth 100000
set_option maxHeartbeats 400000

namespace My_farword_k21_numbers_of_ways
open PySem PySem.Spec PyProof.Rows L2 Evl My
/-- the values' evaluation, told by the term: the value is found on the way -/
local macro_rules | `(tactic| walk_at "rv") => `(tactic| first
  | exact rv_I0
  | exact ru_neg
  | exact rv_eq rfl
  | exact rv_ne rfl
  | (refine' rv_I ?hc; case hc => first | (show (0 : Int) < _; omega) | (unfold CDiv; omega) | (unfold CPow; omega) | (unfold CMul; omega) | omega | decide))
local macro_rules | `(tactic| walk_at "ea") => `(tactic| first
  | exact ea_nil
  | (refine' ea_cons ?eah ?eat; (case eah => walk_at "ev"); (case eat => walk_at "ea")))
local macro_rules | `(tactic| walk_at "et") => `(tactic| first
  | (refine' et_test ?h; case h => walk_at "ev")
  | (refine' et_B ?h; case h => walk_at "ev")
  | (refine' et_not ?h; case h => walk_at "et"))
local macro_rules | `(tactic| walk_at "ev") => `(tactic| first
  | exact ev_c
  | exact ev_var rfl
  | (refine' ev_lenL ?h ?hl; (case h => walk_at "ev"); (case hl => walk_at "sq"))
  | (refine' ev_op ?eva ?evb ?evr; (case eva => walk_at "ev"); (case evb => walk_at "ev"); (case evr => walk_at "rv"))
  | (refine' ev_un ?eva ?evr; (case eva => walk_at "ev"); (case evr => walk_at "rv"))
  | (refine' ev_abs ?h; case h => walk_at "ea")
  | (refine' ev_int ?h; case h => walk_at "ea")
  | (refine' ev_intB ?h; case h => walk_at "ea")
  | (refine' ev_max1 ?h; case h => walk_at "ea")
  | (refine' ev_call ?h ?hs; (case h => walk_at "ea"); (case hs => walk_at "sp"))
  | (refine' ev_notV ?h; case h => walk_at "ev"))
local macro_rules | `(tactic| walk_at "sq") => `(tactic| first
  | assumption
  | (refine sq_of ?hq; case hq => assumption))
local macro_rules | `(tactic| walk_at "sp") => `(tactic| first
  | exact SpPlaces (by omega) (by omega)
  | exact SpOnes (by omega)
  | exact SpSpot (by omega) (by omega) (by omega))

/-! ### the text -/
def topS (i : Nat) : Stmt := PySem.Challenge.pw_farword_k21_numbers_of_ways.main.body.getD i (.Pass ⟨0, 0, 0, 0⟩)
abbrev s_ways_right_by_bits : Stmt := topS 3
abbrev N_ways_right_by_bits : List Str := ["bits", "flips", "ways", "_"]
abbrev p_ways_right_by_bits : List Str := ["bits", "flips"]
theorem sc_ways_right_by_bits : FnScope N_ways_right_by_bits p_ways_right_by_bits (defScope s_ways_right_by_bits) := ⟨rfl, rfl, rfl, by decide +kernel, rfl, by decide +kernel, by decide +kernel⟩
abbrev s_ways_right_by_words : Stmt := topS 4
abbrev N_ways_right_by_words : List Str := ["bits", "flips"]
abbrev p_ways_right_by_words : List Str := ["bits", "flips"]
theorem sc_ways_right_by_words : FnScope N_ways_right_by_words p_ways_right_by_words (defScope s_ways_right_by_words) := ⟨rfl, rfl, rfl, by decide +kernel, rfl, by decide +kernel, by decide +kernel⟩
abbrev s_ways_wrong_by_words : Stmt := topS 5
abbrev N_ways_wrong_by_words : List Str := ["bits", "flips", "ways", "same", "rest"]
abbrev p_ways_wrong_by_words : List Str := ["bits", "flips"]
theorem sc_ways_wrong_by_words : FnScope N_ways_wrong_by_words p_ways_wrong_by_words (defScope s_ways_wrong_by_words) := ⟨rfl, rfl, rfl, by decide +kernel, rfl, by decide +kernel, by decide +kernel⟩
abbrev s_ways_of : Stmt := topS 6
abbrev N_ways_of : List Str := ["bits", "flips", "ways", "right", "wrong"]
abbrev p_ways_of : List Str := ["bits", "flips"]
theorem sc_ways_of : FnScope N_ways_of p_ways_of (defScope s_ways_of) := ⟨rfl, rfl, rfl, by decide +kernel, rfl, by decide +kernel, by decide +kernel⟩
abbrev s__law_row : Stmt := topS 8
abbrev N__law_row : List Str := ["cell", "many", "row", "rest", "state", "k"]
abbrev p__law_row : List Str := ["cell", "many"]
theorem sc__law_row : FnScope N__law_row p__law_row (defScope s__law_row) := ⟨rfl, rfl, rfl, by decide +kernel, rfl, by decide +kernel, by decide +kernel⟩
abbrev s__law_numbers : Stmt := topS 9
abbrev N__law_numbers : List Str := ["script", "many", "cells", "each", "numbers", "cell", "number"]
abbrev p__law_numbers : List Str := ["script", "many"]
theorem sc__law_numbers : FnScope N__law_numbers p__law_numbers (defScope s__law_numbers) := ⟨rfl, rfl, rfl, by decide +kernel, rfl, by decide +kernel, by decide +kernel⟩
abbrev s__law_lists : Stmt := topS 10
abbrev N__law_lists : List Str := ["many", "found", "place", "one"]
abbrev p__law_lists : List Str := ["many"]
theorem sc__law_lists : FnScope N__law_lists p__law_lists (defScope s__law_lists) := ⟨rfl, rfl, rfl, by decide +kernel, rfl, by decide +kernel, by decide +kernel⟩
abbrev s__law_outcome : Stmt := topS 11
abbrev N__law_outcome : List Str := ["bits", "places", "copies", "sure", "same", "k", "copy", "place"]
abbrev p__law_outcome : List Str := ["bits", "places"]
theorem sc__law_outcome : FnScope N__law_outcome p__law_outcome (defScope s__law_outcome) := ⟨rfl, rfl, rfl, by decide +kernel, rfl, by decide +kernel, by decide +kernel⟩
abbrev s_law : Stmt := topS 12
abbrev N_law : List Str := ["script", "numbers", "bits", "due", "places", "sure", "told", "row", "k", "flips"]
abbrev p_law : List Str := ["script"]
theorem sc_law : FnScope N_law p_law (defScope s_law) := ⟨rfl, rfl, rfl, by decide +kernel, rfl, by decide +kernel, by decide +kernel⟩
abbrev cs_55_13 : Scope := { kind := PySem.ScopeKind.function, names := [ (PySem.Str.ofString ".0", PySem.NameKind.local), (PySem.Str.ofString "k", PySem.NameKind.cell), (PySem.Str.ofString "bits", PySem.NameKind.free), (PySem.Str.ofString "places", PySem.NameKind.free)], isGenerator := false, isCoroutine := false, more := [] : PySem.Scope }
abbrev cs_55_14 : Scope := { kind := PySem.ScopeKind.function, names := [ (PySem.Str.ofString ".0", PySem.NameKind.local), (PySem.Str.ofString "place", PySem.NameKind.local), (PySem.Str.ofString "bits", PySem.NameKind.free), (PySem.Str.ofString "k", PySem.NameKind.free)], isGenerator := false, isCoroutine := false, more := [] : PySem.Scope }
abbrev cs_56_15 : Scope := { kind := PySem.ScopeKind.function, names := [ (PySem.Str.ofString ".0", PySem.NameKind.local), (PySem.Str.ofString "place", PySem.NameKind.cell), (PySem.Str.ofString "sum", PySem.NameKind.globalImplicit), (PySem.Str.ofString "copies", PySem.NameKind.free)], isGenerator := false, isCoroutine := false, more := [] : PySem.Scope }
abbrev cs_56_20 : Scope := { kind := PySem.ScopeKind.function, names := [ (PySem.Str.ofString ".0", PySem.NameKind.local), (PySem.Str.ofString "copy", PySem.NameKind.local), (PySem.Str.ofString "place", PySem.NameKind.free)], isGenerator := false, isCoroutine := false, more := [] : PySem.Scope }
abbrev csr_55_13 : Scope := { kind := PySem.ScopeKind.function, names := [ (PySem.Str.ofString ".0", PySem.NameKind.local), (PySem.Str.ofString "k", PySem.NameKind.cell), (PySem.Str.ofString "bits", PySem.NameKind.cell), (PySem.Str.ofString "places", PySem.NameKind.cell)], isGenerator := false, isCoroutine := false, more := [] : PySem.Scope }
abbrev csr_55_14 : Scope := { kind := PySem.ScopeKind.function, names := [ (PySem.Str.ofString ".0", PySem.NameKind.local), (PySem.Str.ofString "place", PySem.NameKind.local), (PySem.Str.ofString "bits", PySem.NameKind.cell), (PySem.Str.ofString "k", PySem.NameKind.cell)], isGenerator := false, isCoroutine := false, more := [] : PySem.Scope }
abbrev csr_56_15 : Scope := { kind := PySem.ScopeKind.function, names := [ (PySem.Str.ofString ".0", PySem.NameKind.local), (PySem.Str.ofString "place", PySem.NameKind.cell), (PySem.Str.ofString "sum", PySem.NameKind.globalImplicit), (PySem.Str.ofString "copies", PySem.NameKind.cell)], isGenerator := false, isCoroutine := false, more := [] : PySem.Scope }
abbrev csr_56_20 : Scope := { kind := PySem.ScopeKind.function, names := [ (PySem.Str.ofString ".0", PySem.NameKind.local), (PySem.Str.ofString "copy", PySem.NameKind.local), (PySem.Str.ofString "place", PySem.NameKind.cell)], isGenerator := false, isCoroutine := false, more := [] : PySem.Scope }
/-! ### the drawn numbers: all that is wanted of them is how many there are, and that each is from 0 to 1008 -/
def Small (ns : List Int) : Prop := ∀ n ∈ ns, 0 ≤ n ∧ n < 1009
theorem Small.app {ns : List Int} {n : Int} (h : Small ns) (h0 : 0 ≤ n) (h1 : n < 1009) : Small (ns ++ [n]) := fun z hz => by
  rcases List.mem_append.mp hz with hz | hz
  · exact h z hz
  · rw [List.mem_singleton.mp hz]
    exact ⟨h0, h1⟩
def spRow : Sp := fun vs H Q _ => ∃ (c m : Int), vs = [.int c, .int m] ∧ 0 ≤ m ∧ m ≤ 1000 ∧ ∀ (ns : List Int) p H', (ns.length : Int) = m → Small ns → H p = none → Ex H H' → H' p = some (.lst (ns.map V.int)) → Q (.ref p) H'
def spNumbers (K : PySem.W.Frag) : Sp := fun vs H Q _ => ∃ (a : Addr) (xs : List Int) (m : Int), vs = [.ref a, .int m] ∧ SqL K H a (xs.map V.int) ∧ xs.length ≤ 63 ∧ 0 ≤ m ∧ m ≤ 900 ∧
  ∀ (ns : List Int) p H', (ns.length : Int) = m → Small ns → H p = none → Ex H H' → H' p = some (.lst (ns.map V.int)) → Q (.ref p) H'
section
variable {P : Program} {w : World} {K : PySem.W.Frag} {mg : Str → Option Value} {base : Heap}
theorem ok_row (A : At K mg "_law_row" s__law_row) (mz_abs : mg "abs" = none) (mz_int : mg "int" = none) (mz_range : mg "range" = none) : Dfn P w K mg base 1 "_law_row" p__law_row spRow := by
  refine dfn_ok A sc__law_row (fun _ _ _ _ _ _ us hl => match us, hl with | [_, _], _ => rfl) (fun vs H Q E h => ?_) (fun f cdv A outer s H vs Q E hr h => ?_)
  · obtain ⟨c, m, rfl, _⟩ := h
    rfl
  · obtain ⟨c, m, rfl, hm, hm2, q⟩ := h
    refine ⟨_, (pss_cons (ps_set (i := 2) sc__law_row.nd rfl (Or.inl rfl) (pe_lst pa_nil))
  (pss_cons (ps_set (i := 3) sc__law_row.nd rfl (Or.inl rfl) pe_int)
  (pss_cons (ps_if (pt_cmpR op_ge (pe_callB call_abs (by rfl) mz_abs (by decide +kernel) (pa_cons (pv 0) pa_nil)) (pe_op op_pow pe_int pe_int) (by first | exact nomark _ | rfl))
    (pss_one (ps_set (i := 3) sc__law_row.nd rfl (Or.inl rfl) (pe_callB call_abs (by rfl) mz_abs (by decide +kernel) (pa_cons (pv 0) pa_nil))))
    pss_nil)
  (pss_cons (ps_set (i := 4) sc__law_row.nd rfl (Or.inl rfl) (pe_op op_mod (pe_callTy call_int1 (by rfl) mz_int (by decide +kernel) (pa_cons (pe_callB call_abs (by rfl) mz_abs (by decide +kernel) (pa_cons (pv 0) pa_nil)) pa_nil)) pe_int))
  (pss_cons (ps_for PassesOwn.never rfl (pi_range1 (by rfl) mz_range (pa_cons (pv 1) pa_nil)) (pg_name (i := 5) sc__law_row.nd rfl (Or.inl rfl))
    (pss_cons (ps_set (i := 4) sc__law_row.nd rfl (Or.inl rfl) (pe_op op_mod (pe_callTy call_int1 (by rfl) mz_int (by decide +kernel) (pa_cons (pe_op op_add (pe_op op_mul (pe_op op_add (pv 4) pe_int) pe_int) (pe_op op_mul pe_int (pv 5))) pa_nil)) pe_int))
  (pss_one (ps_if (pt_cmpR op_gt (pv 3) pe_int (by first | exact nomark _ | rfl))
    (pss_cons (ps_expr (show PE _ _ (tBM K "list" _ _ _) from pe_bm PySem.F.plainAttrs_list PySem.F.slot_list_append PySem.F.type_list_append mt_append (pv 2) (pa_cons (pe_op op_mod (pe_callTy call_int1 (by rfl) mz_int (by decide +kernel) (pa_cons (pv 3) pa_nil)) pe_int) pa_nil)))
  (pss_one (ps_set (i := 3) sc__law_row.nd rfl (Or.inl rfl) (pe_op op_fdiv (pv 3) pe_int))))
    (pss_one (ps_expr (show PE _ _ (tBM K "list" _ _ _) from pe_bm PySem.F.plainAttrs_list PySem.F.slot_list_append PySem.F.type_list_append mt_append (pv 2) (pa_cons (pe_op op_mod (pe_callTy call_int1 (by rfl) mz_int (by decide +kernel) (pa_cons (pe_op op_fdiv (pv 4) pe_int) pa_nil)) pe_int) pa_nil))))))))
  (pss_one (ps_ret (pv 2)))))))), ?_⟩
    refine q_asgL (xs := []) (by refine el_lst ea_nil (by decide)) fun p H1 np e1 h1 => ?_
    refine' q_asg (v := ?v2) ?e2 fun H2 e2 => ?_
    case e2 => walk_at "ev"
    refine' q_ifAsg (b := decide ((10:Int) ^ (18:Int).toNat ≤ if c < 0 then -c else c)) (v := .int (if (10:Int) ^ (18:Int).toNat ≤ (if c < 0 then -c else c) then (if c < 0 then -c else c) else 0)) ?b3 ?t3 ?f3 fun H3 e3 => ?_
    case b3 => walk_at "et"
    case t3 =>
      intro hb
      rw [if_pos (of_decide_eq_true hb)]
      walk_at "ev"
    case f3 =>
      intro hb
      rw [if_neg (of_decide_eq_false hb)]
      rfl
    generalize hr0 : (if (10:Int) ^ (18:Int).toNat ≤ (if c < 0 then -c else c) then (if c < 0 then -c else c) else 0) = r0
    have hr00 : 0 ≤ r0 := by
      rw [← hr0]
      split
      · split <;> omega
      · omega
    refine' q_asg (v := ?v4) ?e4 fun H4 e4 => ?_
    case e4 => walk_at "ev"
    have hs0 : 0 ≤ (if c < 0 then -c else c) % 2147483647 ∧ (if c < 0 then -c else c) % 2147483647 < 2147483647 := ⟨Int.emod_nonneg _ (by decide), Int.emod_lt_of_pos _ (by decide)⟩
    generalize (if c < 0 then -c else c) % 2147483647 = st0 at hs0
    refine q_forR1 (n := m) (by walk_at "ea") ⟨hm, by omega⟩ (fun i σ' H' => ∃ (st r : Int) (k : Option V) (ns : List Int), σ' = [some (.int c), some (.int m), some (.ref p), some (.int r), some (.int st), k] ∧ 0 ≤ st ∧ st < 2147483647 ∧ ns.length = i ∧ Small ns ∧ Ex H H' ∧ H' p = some (.lst (ns.map V.int))) ?h0 ?hs ?hd
    case h0 => exact fun H5 e5 => ⟨st0, r0, none, [], rfl, hs0.1, hs0.2, rfl, (fun _ z => nomatch z), (((e1.trans e2).trans e3).trans e4).trans e5, e5 _ _ (e4 _ _ (e3 _ _ (e2 _ _ h1)))⟩
    case hs =>
      rintro i σ' H' hi ⟨st, r, k, ns, rfl, s0, s1, hl, hS, eH, hp⟩
      refine' q_asg (v := ?v5) ?e5 fun H5 e5 => ?_
      case e5 => walk_at "ev"
      have hs2 : 0 ≤ ((st + 1) * 48271 + 69621 * (i : Int)) % 2147483647 ∧ ((st + 1) * 48271 + 69621 * (i : Int)) % 2147483647 < 2147483647 := ⟨Int.emod_nonneg _ (by decide), Int.emod_lt_of_pos _ (by decide)⟩
      generalize ((st + 1) * 48271 + 69621 * (i : Int)) % 2147483647 = st2 at hs2
      have hp5 := e5 _ _ hp
      have last : ∀ (x y : Int) H6, Ex H5 H6 → 0 ≤ x → x < 1009 → ∃ (st r : Int) (k : Option V) (ns' : List Int), ([some (.int c), some (.int m), some (.ref p), some (.int y), some (.int st2), some (.int (i : Int))] : L2.St) = [some (.int c), some (.int m), some (.ref p), some (.int r), some (.int st), k] ∧ 0 ≤ st ∧ st < 2147483647 ∧ ns'.length = i + 1 ∧ Small ns' ∧ Ex H (upd H6 p (.lst (ns.map V.int ++ [.int x]))) ∧ (upd H6 p (.lst (ns.map V.int ++ [.int x]))) p = some (.lst (ns'.map V.int)) := fun x y H6 e6 h0 h1 =>
        ⟨st2, y, _, ns ++ [x], rfl, hs2.1, hs2.2, by rw [List.length_append, hl]; rfl, hS.app h0 h1, Ex.mut ((eH.trans e5).trans e6) np, by rw [upd_same, List.map_append]; rfl⟩
      have hz : (ns.map V.int).length < 100000 := by rw [List.length_map]; omega
      refine' s_if (b := decide ((0:Int) < r)) ?b6 ?t6 ?f6
      case b6 => walk_at "et"
      case t6 =>
        intro _ H6 e6
        refine' q_app (e6 _ _ hp5) (ev_var rfl) ?e7 hz fun H7 e7 => ?_
        case e7 => walk_at "ev"
        refine' s_asg (v := ?v8) ?e8 fun H8 e8 => ?_
        case e8 => walk_at "ev"
        obtain ⟨a1, a2, a3, a4, b1, b2, b3, b4, b5, b6, b7⟩ := last (r % 1009) (r / 1009) H7 (e6.trans e7) (Int.emod_nonneg _ (by decide)) (Int.emod_lt_of_pos _ (by decide))
        exact ⟨a1, a2, a3, a4, b1, b2, b3, b4, b5, b6.trans e8, e8 _ _ b7⟩
      case f6 =>
        intro _ H6 e6
        refine' s_app (e6 _ _ hp5) (ev_var rfl) ?e7 hz fun H7 e7 => ?_
        case e7 => walk_at "ev"
        exact last (st2 / 2048 % 1009) r H7 (e6.trans e7) (Int.emod_nonneg _ (by decide)) (Int.emod_lt_of_pos _ (by decide))
    case hd =>
      rintro σ' H' ⟨st, r, k, ns, rfl, s0, s1, hl, hS, eH, hp⟩
      refine s_ret (ev_var rfl) fun H6 e6 => ?_
      exact q ns p H6 (by omega) hS np (eH.trans e6) (e6 _ _ hp)
theorem Small.app2 {ns ms : List Int} (h : Small ns) (h2 : Small ms) : Small (ns ++ ms) := fun z hz => (List.mem_append.mp hz).elim (h z) (h2 z)
theorem Small.take {ns : List Int} (h : Small ns) (k : Nat) : Small (ns.take k) := fun z hz => h z (List.mem_of_mem_take hz)
theorem Small.at {ns : List Int} (h : Small ns) {i : Nat} {n : Int} (e : ns[i]? = some n) : 0 ≤ n ∧ n < 1009 := h n (List.mem_of_getElem? e)
theorem ok_numbers (A : At K mg "_law_numbers" s__law_numbers) (D__law_row : Dfn P w K mg base 1 "_law_row" p__law_row spRow) (mz_len : mg "len" = none) (mz_max : mg "max" = none) : Dfn P w K mg base 2 "_law_numbers" p__law_numbers (spNumbers K) := by
  refine dfn_ok A sc__law_numbers (fun _ _ _ _ _ _ us hl => match us, hl with | [_, _], _ => rfl) (fun vs H Q E h => ?_) (fun f cdv A outer s H vs Q E hr h => ?_)
  · obtain ⟨a, xs, m, rfl, _⟩ := h
    rfl
  · obtain ⟨a, xs, m, rfl, hA, hx, hm, hm2, q⟩ := h
    refine ⟨_, (pss_cons (ps_set (i := 2) sc__law_numbers.nd rfl (Or.inl rfl) (pe_slice (show SlR _ (rSlL K) from sl_list) (pv 0) po_none (po_some pe_int)))
  (pss_cons (ps_set (i := 3) sc__law_numbers.nd rfl (Or.inl rfl) (pe_op op_add pe_int (pe_op op_fdiv (pv 1) (pe_callB (call_max2 rfl) (by rfl) mz_max (by decide +kernel) (pa_cons pe_int (pa_cons (pe_callB (show CallR _ _ (rLenS K) from call_len_seq) (by rfl) mz_len PySem.boot_len (pa_cons (pv 2) pa_nil)) pa_nil))))))
  (pss_cons (ps_set (i := 4) sc__law_numbers.nd rfl (Or.inl rfl) (pe_lst pa_nil))
  (pss_cons (ps_for PassesOwn.never rfl (show PI _ _ _ (iList K _) from pi_list (pv 2)) (pg_name (i := 5) sc__law_numbers.nd rfl (Or.inl rfl))
    (pss_one (ps_for PassesOwn.never rfl (show PI _ _ _ (iList K _) from pi_list (pe_d D__law_row (hr.mono (by decide)) (pa_cons (pv 5) (pa_cons (pv 3) pa_nil)))) (pg_name (i := 6) sc__law_numbers.nd rfl (Or.inl rfl))
    (pss_one (ps_expr (show PE _ _ (tBM K "list" _ _ _) from pe_bm PySem.F.plainAttrs_list PySem.F.slot_list_append PySem.F.type_list_append mt_append (pv 4) (pa_cons (pv 6) pa_nil)))))))
  (pss_cons (ps_while PassesOwn.never (pt_cmpR op_lt (pe_callB (show CallR _ _ (rLenS K) from call_len_seq) (by rfl) mz_len PySem.boot_len (pa_cons (pv 4) pa_nil)) (pv 1) (by first | exact nomark _ | rfl))
    (pss_one (ps_expr (show PE _ _ (tBM K "list" _ _ _) from pe_bm PySem.F.plainAttrs_list PySem.F.slot_list_append PySem.F.type_list_append mt_append (pv 4) (pa_cons pe_int pa_nil)))))
  (pss_one (ps_ret (pe_slice (show SlR _ (rSlL K) from sl_list) (pv 4) po_none (po_some (pv 1)))))))))), ?_⟩
    refine q_asgL (xs := xs.map V.int) ?c1 fun c H1 nc e1 h1 => ?_
    case c1 =>
      have e : xs.map V.int = cutV (xs.map V.int) none (some ((63 : Nat) : Int)) := by
        rw [cut_take, List.take_of_length_le (by rw [List.length_map]; exact hx)]
      rw [e]
      exact el_sl (ev_var rfl) eo_none (eo_some ev_c) hA
    have hlx : ((xs.map V.int).length : Int) ≤ 63 := by rw [List.length_map]; omega
    have hmx : 0 < (if ((xs.map V.int).length : Int) > 1 then ((xs.map V.int).length : Int) else 1) ∧ (if ((xs.map V.int).length : Int) > 1 then ((xs.map V.int).length : Int) else 1) < 1073741824 := by split <;> omega
    refine q_asg (ev_op ev_c (ev_op (ev_var rfl) (ev_max1 (ea_cons ev_c (ea_cons (ev_lenL (ev_var rfl) (sq_of h1)) ea_nil))) (rv_I hmx)) rv_I0) fun H2 e2 => ?_
    generalize hz : (1 + m / (if ((xs.map V.int).length : Int) > 1 then ((xs.map V.int).length : Int) else 1)) = each
    have h2 := e2 _ _ h1
    have hz1 : 0 ≤ each ∧ each ≤ 1000 := by
      have a1 := Int.ediv_nonneg hm (Int.le_of_lt hmx.1)
      have a2 := Int.ediv_le_self (if ((xs.map V.int).length : Int) > 1 then ((xs.map V.int).length : Int) else 1) hm
      omega
    clear hz
    refine q_asgL (xs := []) (by refine el_lst ea_nil (by decide)) fun p H3 np e3 h3 => ?_
    have e0 : Ex H H3 := (e1.trans e2).trans e3
    have np0 : H p = none := fresh_back (e1.trans e2) np
    have h3c := e3 _ _ h2
    have ncp : c ≠ p := ne_of_none h2 np
    refine q_forLn (xs := xs.map V.int) (a := c) (ev_var rfl) (sq_of h3c) (fun i σ' H' => ∃ (u v : Option V) (ns : List Int), σ' = [some (.ref a), some (.int m), some (.ref c), some (.int each), some (.ref p), u, v] ∧ ns.length ≤ i * 1000 ∧ Small ns ∧ Ex H H' ∧ H' c = some (.lst (xs.map V.int)) ∧ H' p = some (.lst (ns.map V.int))) ?h0 ?hl ?hs ?hd
    case h0 => exact fun H4 e4 => ⟨none, none, [], rfl, Nat.zero_le _, (fun _ z => nomatch z), e0.trans e4, e4 _ _ h3c, e4 _ _ h3⟩
    case hl => exact fun i σ' H' _ ⟨_, _, _, _, _, _, _, hc, _⟩ => sq_of hc
    case hs =>
      rintro i x σ' H' hi ⟨u, v, ns, rfl, hl, hS, eH, hc, hp⟩
      have hix : i < 63 := by
        have := (List.getElem?_eq_some_iff.mp hi).1
        rw [List.length_map] at this
        omega
      obtain ⟨n, hn, rfl⟩ := int_at hi
      refine s_forP (P := fun ys => ∃ ms : List Int, ys = ms.map V.int ∧ (ms.length : Int) = each ∧ Small ms) ?hp (fun ys q j σ2 H2 => ∃ (v : Option V) (ms : List Int), ys = ms.map V.int ∧ (ms.length : Int) = each ∧ Small ms ∧ σ2 = [some (.ref a), some (.int m), some (.ref c), some (.int each), some (.ref p), some (.int n), v] ∧ Ex H H2 ∧ H2 c = some (.lst (xs.map V.int)) ∧ H2 q = some (.lst ys) ∧ q ≠ p ∧ H2 p = some (.lst ((ns ++ ms.take j).map V.int))) ?g0 ?gl ?gs ?gd
      case hp =>
        refine evP_call (ea_cons (ev_var rfl) (ea_cons (ev_var rfl) ea_nil)) fun H1 e1 Q q E => ⟨n, each, rfl, hz1.1, hz1.2, fun ms p' H2 hm hS np' e2 h2 => q _ p' H2 ⟨ms, rfl, hm, hS⟩ np' e2 h2⟩
      case g0 =>
        rintro ys q' H1 ⟨ms, rfl, hml, hSm⟩ nq e1 hq
        refine ⟨v, ms, rfl, hml, hSm, rfl, eH.trans e1, e1 _ _ hc, hq, (ne_of_none hp nq).symm, ?_⟩
        rw [List.take_zero, List.append_nil]
        exact e1 _ _ hp
      case gl => exact fun ys q' j σ2 H2 _ ⟨_, _, _, _, _, _, _, _, hq, _⟩ => sq_of hq
      case gs =>
        rintro ys q' j x' σ2 H2 hj ⟨v, ms, rfl, hml, hSm, rfl, eH2, hc2, hq, nqp, hp2⟩
        obtain ⟨n2, hn2, rfl⟩ := int_at hj
        have hj2 := (List.getElem?_eq_some_iff.mp hn2).1
        refine s_app hp2 (ev_var rfl) (ev_var rfl) (by rw [List.length_map, List.length_append, List.length_take]; omega) fun H3 e3 => ?_
        refine ⟨_, ms, rfl, hml, hSm, rfl, Ex.mut (eH2.trans e3) np0, by rw [upd_ne ncp]; exact e3 _ _ hc2, by rw [upd_ne nqp]; exact e3 _ _ hq, nqp, ?_⟩
        rw [upd_same, List.take_add_one, hn2, ← List.append_assoc, List.map_append (l₁ := ns ++ ms.take j)]
        rfl
      case gd =>
        rintro ys q' σ2 H2 ⟨v, ms, rfl, hml, hSm, rfl, eH2, hc2, hq, nqp, hp2⟩
        rw [List.length_map, List.take_of_length_le (Nat.le_refl _)] at hp2
        exact ⟨_, _, _, rfl, by rw [List.length_append]; omega, hS.app2 hSm, eH2, hc2, hp2⟩
    case hd =>
      rintro σ' H' ⟨u, v, ns, rfl, hl, hS, eH, hc, hp⟩
      rw [List.length_map] at hl
      refine q_while (fun d σ2 H2 => ∃ ns : List Int, σ2 = [some (.ref a), some (.int m), some (.ref c), some (.int each), some (.ref p), u, v] ∧ d = m.toNat - ns.length ∧ ns.length ≤ 70000 ∧ Small ns ∧ Ex H H2 ∧ H2 p = some (.lst (ns.map V.int))) _ ⟨ns, rfl, rfl, by omega, hS, eH, hp⟩ ?_
      rintro d σ2 H2 ⟨ns, rfl, rfl, hl, hS, eH, hp⟩
      refine ⟨decide (((ns.map V.int).length : Int) < m), et_test (ev_op (ev_lenL (ev_var rfl) (sq_of hp)) (ev_var rfl) rv_I0), fun hb H3 e3 => ?_, fun hb H3 e3 => ?_⟩
      · have hb := of_decide_eq_true hb
        rw [List.length_map] at hb
        refine ⟨fun σ3 H4 => ∃ ns' : List Int, σ3 = [some (.ref a), some (.int m), some (.ref c), some (.int each), some (.ref p), u, v] ∧ ns'.length = ns.length + 1 ∧ Small ns' ∧ Ex H H4 ∧ H4 p = some (.lst (ns'.map V.int)), fun σ3 H4 ⟨ns', z1, z2, z3, z4, z5⟩ => ⟨_, by omega, ns', z1, rfl, by omega, z3, z4, z5⟩, ?_⟩
        refine s_app (e3 _ _ hp) (ev_var rfl) ev_c (by rw [List.length_map]; omega) fun H4 e4 => ?_
        exact ⟨ns ++ [0], rfl, by rw [List.length_append]; rfl, hS.app (by decide) (by decide), Ex.mut ((eH.trans e3).trans e4) np0, by rw [upd_same, List.map_append]; rfl⟩
      · have hb := of_decide_eq_false hb
        rw [List.length_map] at hb
        refine s_retL (el_sl (ev_var rfl) eo_none (eo_some (ev_var rfl)) (sq_of (e3 _ _ hp))) fun r H4 nr e4 h4 => ?_
        have em : m = ((m.toNat : Nat) : Int) := by omega
        rw [em, cut_take, ← List.map_take] at h4
        exact q _ r H4 (by rw [List.length_take]; omega) (hS.take _) (fresh_back (eH.trans e3) nr) ((eH.trans e3).trans e4) h4
end

section
variable {P : Program} {w : World} {K : PySem.W.Frag} {mg : Str → Option Value} {base : Heap}
theorem ok_wbits (A : At K mg "ways_right_by_bits" s_ways_right_by_bits) (mz_range : mg "range" = none) (g_comb : mg "comb" = some (.builtin "math.comb")) (gc_COPIES : ∃ u, mg "COPIES" = some u ∧ RelV (.int 3) u) : Dfn P w K mg base 1 "ways_right_by_bits" p_ways_right_by_bits (spW wBits) := by
  refine dfn_ok A sc_ways_right_by_bits (fun _ _ _ _ _ _ us hl => match us, hl with | [_, _], _ => rfl) (fun vs H Q E h => ?_) (fun f cdv A outer s H vs Q E hr h => ?_)
  · obtain ⟨b, m, rfl, _⟩ := h
    rfl
  · obtain ⟨b, m, rfl, hb, hm, q⟩ := h
    refine ⟨_, (pss_cons (ps_set (i := 2) sc_ways_right_by_bits.nd rfl (Or.inl rfl) (pe_callBfun cr_comb (by rfl) g_comb (pa_cons (pv 0) (pa_cons (pv 1) pa_nil))))
  (pss_cons (ps_for PassesOwn.never rfl (pi_range1 (by rfl) mz_range (pa_cons (pv 1) pa_nil)) (pg_name (i := 3) sc_ways_right_by_bits.nd rfl (Or.inl rfl))
    (pss_one (ps_set (i := 2) sc_ways_right_by_bits.nd rfl (Or.inl rfl) (pe_op op_mul (pv 2) (C8.pe_gc (v := .int 3) (by rfl) gc_COPIES)))))
  (pss_one (ps_ret (pv 2))))), ?_⟩
    refine q_asg (ev_comb (ea_cons (ev_var rfl) (ea_cons (ev_var rfl) ea_nil)) ⟨by omega, by omega, by omega⟩) fun H1 e1 => ?_
    refine q_forR1 (n := (m : Int)) (by walk_at "ea") (by omega) (fun j σ' H' => ∃ k, σ' = [some (.int (b : Int)), some (.int (m : Int)), some (.int (mc b m * 3 ^ j)), k] ∧ Ex H H') (fun H3 e3 => ⟨none, by rw [Int.pow_zero, Int.mul_one]; rfl, e1.trans e3⟩) ?hs ?hd
    case hs =>
      rintro j σ' H' hj ⟨k, rfl, eH⟩
      refine s_asg (ev_op (ev_var rfl) ev_c (rv_I (C := CMul) (Or.inr (by decide)))) fun H4 e4 => ⟨some (.int (j : Int)), ?_, eH.trans e4⟩
      rw [Int.mul_assoc, ← Int.pow_succ]
      rfl
    case hd =>
      rintro σ' H' ⟨k, rfl, eH⟩
      rw [Int.toNat_natCast]
      exact s_ret (ev_var rfl) fun H4 e4 => q H4 (eH.trans e4)

theorem ok_wwords (A : At K mg "ways_right_by_words" s_ways_right_by_words) (g_comb : mg "comb" = some (.builtin "math.comb")) (gc_COPIES : ∃ u, mg "COPIES" = some u ∧ RelV (.int 3) u) : Dfn P w K mg base 1 "ways_right_by_words" p_ways_right_by_words (spW wWords) := by
  refine dfn_ok A sc_ways_right_by_words (fun _ _ _ _ _ _ us hl => match us, hl with | [_, _], _ => rfl) (fun vs H Q E h => ?_) (fun f cdv A outer s H vs Q E hr h => ?_)
  · obtain ⟨b, m, rfl, _⟩ := h
    rfl
  · obtain ⟨b, m, rfl, hb, hm, q⟩ := h
    refine ⟨_, (pss_one (ps_ret (pe_ifExp (pt_cmpR op_eq (pv 1) pe_int (by first | exact nomark _ | rfl)) pe_int (pe_op op_mul (C8.pe_gc (v := .int 3) (by rfl) gc_COPIES) (pe_callBfun cr_comb (by rfl) g_comb (pa_cons (pv 0) (pa_cons (pv 1) pa_nil))))))), ?_⟩
    refine s_ret (ev_if (b := decide (V.int (m : Int) = V.int 0)) (et_eq (ev_var rfl) ev_c rfl) (fun hb => ?_) fun hb => ?_) q
    · have h : m = 0 := by have h := of_decide_eq_true hb; injection h with h; omega
      unfold wWords
      rw [if_pos h]
      exact ev_c
    · have h : ¬ m = 0 := fun z => of_decide_eq_false hb (by rw [z]; rfl)
      unfold wWords
      rw [if_neg h]
      exact ev_op ev_c (ev_comb (ea_cons (ev_var rfl) (ea_cons (ev_var rfl) ea_nil)) ⟨by omega, by omega, by omega⟩) (rv_I (C := CMul) (Or.inl (by decide)))

theorem ok_wwrong (A : At K mg "ways_wrong_by_words" s_ways_wrong_by_words) (mz_range : mg "range" = none) (g_comb : mg "comb" = some (.builtin "math.comb")) (gc_COPIES : ∃ u, mg "COPIES" = some u ∧ RelV (.int 3) u) : Dfn P w K mg base 1 "ways_wrong_by_words" p_ways_wrong_by_words (spW fun b m => wWrong b m (m / 2)) := by
  refine dfn_ok A sc_ways_wrong_by_words (fun _ _ _ _ _ _ us hl => match us, hl with | [_, _], _ => rfl) (fun vs H Q E h => ?_) (fun f cdv A outer s H vs Q E hr h => ?_)
  · obtain ⟨b, m, rfl, _⟩ := h
    rfl
  · obtain ⟨b, m, rfl, hb, hm, q⟩ := h
    refine ⟨_, (pss_cons (ps_set (i := 2) sc_ways_wrong_by_words.nd rfl (Or.inl rfl) pe_int)
  (pss_cons (ps_for PassesOwn.never rfl (pi_range2 (by rfl) mz_range (pa_cons pe_int (pa_cons (pe_op op_add (pe_op op_fdiv (pv 1) pe_int) pe_int) pa_nil))) (pg_name (i := 3) sc_ways_wrong_by_words.nd rfl (Or.inl rfl))
    (pss_cons (ps_set (i := 4) sc_ways_wrong_by_words.nd rfl (Or.inl rfl) (pe_op op_sub (pv 1) (pe_op op_mul pe_int (pv 3))))
  (pss_cons (ps_set (i := 2) sc_ways_wrong_by_words.nd rfl (Or.inl rfl) (pe_op op_add (pv 2) (pe_op op_mul (pe_op op_mul (C8.pe_gc (v := .int 3) (by rfl) gc_COPIES) (pe_callBfun cr_comb (by rfl) g_comb (pa_cons (pv 0) (pa_cons (pv 3) pa_nil)))) (pe_callBfun cr_comb (by rfl) g_comb (pa_cons (pv 0) (pa_cons (pv 4) pa_nil))))))
  (pss_one (ps_if (pt_cmpR op_eq (pv 4) (pv 3) (by first | exact nomark _ | rfl))
    (pss_one (ps_set (i := 2) sc_ways_wrong_by_words.nd rfl (Or.inl rfl) (pe_op op_sub (pv 2) (pe_op op_mul (pe_op op_sub (C8.pe_gc (v := .int 3) (by rfl) gc_COPIES) pe_int) (pe_callBfun cr_comb (by rfl) g_comb (pa_cons (pv 0) (pa_cons (pv 3) pa_nil)))))))
    pss_nil)))))
  (pss_one (ps_ret (pv 2))))), ?_⟩
    refine q_asg ev_c fun H1 e1 => ?_
    refine q_forR2 (lo := 1) (n := (m : Int) / 2 + 1) (ea_cons ev_c (ea_cons (ev_op (ev_op (ev_var rfl) ev_c (rv_I (C := CDiv) ⟨by decide, by decide⟩)) ev_c rv_I0) ea_nil)) (by omega) (fun j σ' H' => ∃ k r, σ' = [some (.int (b : Int)), some (.int (m : Int)), some (.int (wWrong b m j)), k, r] ∧ Ex H H') (fun H3 e3 => ⟨none, none, rfl, e1.trans e3⟩) ?hs ?hd
    case hs =>
      rintro j σ' H' hj ⟨k, r, rfl, eH⟩
      have ej : (1 : Int) + (j : Int) = ((j + 1 : Nat) : Int) := by omega
      rw [ej]
      have hm2 : 2 * (j + 1) ≤ m := by omega
      refine q_asg (v := .int ((m - 2 * (j + 1) : Nat) : Int)) (ev_is (ev_op (ev_var rfl) (ev_op ev_c (ev_var rfl) (rv_I (C := CMul) (Or.inl (by decide)))) rv_I0) (by congr 1; omega)) fun H2 e2 => ?_
      have s1 := mc_small (m := j + 1) hb (by omega)
      refine q_asg (v := .int (wWrong b m j + 3 * mc b (j + 1) * mc b (m - 2 * (j + 1)))) (ev_op (ev_var rfl) (ev_op (ev_op ev_c (ev_comb (ea_cons (ev_var rfl) (ea_cons (ev_var rfl) ea_nil)) ⟨by omega, by omega, by omega⟩) (rv_I (C := CMul) (Or.inl (by decide)))) (ev_comb (ea_cons (ev_var rfl) (ea_cons (ev_var rfl) ea_nil)) ⟨by omega, by omega, by omega⟩) (rv_I (C := CMul) (Or.inl ?sm))) rv_I0) fun H3 e3 => ?_
      case sm => exact ⟨by have := s1.2; show -2 ^ 64 < 3 * mc b (j + 1); omega, by have := s1.1; show 3 * mc b (j + 1) < 2 ^ 64; omega⟩
      refine s_if (b := decide (V.int ((m - 2 * (j + 1) : Nat) : Int) = V.int ((j + 1 : Nat) : Int))) (et_eq (ev_var rfl) (ev_var rfl) rfl) (fun hb2 H4 e4 => ?_) fun hb2 H4 e4 => ?_
      · have h : m - 2 * (j + 1) = j + 1 := by have h := of_decide_eq_true hb2; injection h with h; omega
        refine s_asg (ev_op (ev_var rfl) (ev_op (ev_op ev_c ev_c rv_I0) (ev_comb (ea_cons (ev_var rfl) (ea_cons (ev_var rfl) ea_nil)) ⟨by omega, by omega, by omega⟩) (rv_I (C := CMul) (Or.inl (by decide)))) rv_I0) fun H5 e5 => ⟨some (.int ((j + 1 : Nat) : Int)), some (.int ((m - 2 * (j + 1) : Nat) : Int)), ?_, (((eH.trans e2).trans e3).trans e4).trans e5⟩
        have e : wWrong b m (j + 1) = wWrong b m j + 3 * mc b (j + 1) * mc b (m - 2 * (j + 1)) - 2 * mc b (j + 1) := by
          show wStep b m (j + 1) (wWrong b m j) = _
          unfold wStep
          rw [if_pos h]
        rw [e]
        rfl
      · have h : ¬ m - 2 * (j + 1) = j + 1 := fun z => of_decide_eq_false hb2 (by rw [z])
        have e : wWrong b m (j + 1) = wWrong b m j + 3 * mc b (j + 1) * mc b (m - 2 * (j + 1)) := by
          show wStep b m (j + 1) (wWrong b m j) = _
          unfold wStep
          rw [if_neg h]
        exact ⟨_, _, by rw [e]; rfl, ((eH.trans e2).trans e3).trans e4⟩
    case hd =>
      rintro σ' H' ⟨k, r, rfl, eH⟩
      have e : ((m : Int) / 2 + 1 - 1).toNat = m / 2 := by omega
      rw [e]
      exact s_ret (ev_var rfl) fun H4 e4 => q H4 (eH.trans e4)

theorem ok_waysof (A : At K mg "ways_of" s_ways_of) (D_ways_right_by_bits : Dfn P w K mg base 1 "ways_right_by_bits" p_ways_right_by_bits (spW wBits)) (D_ways_right_by_words : Dfn P w K mg base 1 "ways_right_by_words" p_ways_right_by_words (spW wWords)) (D_ways_wrong_by_words : Dfn P w K mg base 1 "ways_wrong_by_words" p_ways_wrong_by_words (spW fun b m => wWrong b m (m / 2)))
    (g_comb : mg "comb" = some (.builtin "math.comb")) (gc_COPIES : ∃ u, mg "COPIES" = some u ∧ RelV (.int 3) u) : Dfn P w K mg base 2 "ways_of" p_ways_of spWays := by
  refine dfn_ok A sc_ways_of (fun _ _ _ _ _ _ us hl => match us, hl with | [_, _], _ => rfl) (fun vs H Q E h => ?_) (fun f cdv A outer s H vs Q E hr h => ?_)
  · obtain ⟨b, m, rfl, _⟩ := h
    rfl
  · obtain ⟨b, m, rfl, hb, hm, q⟩ := h
    refine ⟨_, (pss_cons (ps_set (i := 2) sc_ways_of.nd rfl (Or.inl rfl) (pe_callBfun cr_comb (by rfl) g_comb (pa_cons (pe_op op_mul (C8.pe_gc (v := .int 3) (by rfl) gc_COPIES) (pv 0)) (pa_cons (pv 1) pa_nil))))
  (pss_cons (ps_set (i := 3) sc_ways_of.nd rfl (Or.inl rfl) (pe_d D_ways_right_by_words (hr.mono (by decide)) (pa_cons (pv 0) (pa_cons (pv 1) pa_nil))))
  (pss_cons (ps_set (i := 4) sc_ways_of.nd rfl (Or.inl rfl) (pe_d D_ways_wrong_by_words (hr.mono (by decide)) (pa_cons (pv 0) (pa_cons (pv 1) pa_nil))))
  (pss_one (ps_ret (pe_tup (pa_cons (pv 2) (pa_cons (pe_d D_ways_right_by_bits (hr.mono (by decide)) (pa_cons (pv 0) (pa_cons (pv 1) pa_nil))) (pa_cons (pv 3) (pa_cons (pv 4) (pa_cons (pe_op op_sub (pe_op op_sub (pv 2) (pv 3)) (pv 4)) pa_nil))))))))))), ?_⟩
    have e3b : (3 : Int) * (b : Int) = ((3 * b : Nat) : Int) := by omega
    refine q_asg (v := .int (mc (3 * b) m)) (ev_comb (ea_cons (ev_is (ev_op ev_c (ev_var rfl) (rv_I (C := CMul) (Or.inl (by decide)))) (by rw [e3b])) (ea_cons (ev_var rfl) ea_nil)) ⟨by omega, by omega, by omega⟩) fun H1 e1 => ?_
    refine q_asg (ev_call (ea_cons (ev_var rfl) (ea_cons (ev_var rfl) ea_nil)) (SpW hb hm)) fun H2 e2 => ?_
    refine q_asg (ev_call (ea_cons (ev_var rfl) (ea_cons (ev_var rfl) ea_nil)) (SpW hb hm)) fun H3 e3 => ?_
    exact s_retU (eu_tup (ea_cons (ev_var rfl) (ea_cons (ev_call (ea_cons (ev_var rfl) (ea_cons (ev_var rfl) ea_nil)) (SpW hb hm)) (ea_cons (ev_var rfl) (ea_cons (ev_var rfl) (ea_cons (ev_op (ev_op (ev_var rfl) (ev_var rfl) rv_I0) (ev_var rfl) rv_I0) ea_nil))))) (by show 5 ≤ 100000; decide)) fun p H4 np e4 hp => q p H4 (fresh_back ((e1.trans e2).trans e3) np) (((e1.trans e2).trans e3).trans e4) hp

theorem hu65 {A : Around} {k : Nat} (hr : Room k A) : A.units + 65 < cLine := by
  have := hr.un
  omega
theorem ok_llists (A : At K mg "_law_lists" s__law_lists) (mz_range : mg "range" = none) : Dfn P w K mg base 1 "_law_lists" p__law_lists spLlists := by
  refine dfn_ok A sc__law_lists (fun _ _ _ _ _ _ us hl => match us, hl with | [_], _ => rfl) (fun vs H Q E h => ?_) (fun f cdv A outer s H vs Q E hr h => ?_)
  · obtain ⟨n, rfl, _⟩ := h
    rfl
  · obtain ⟨n, rfl, hn, q⟩ := h
    refine ⟨_, (pss_cons (ps_set (i := 1) sc__law_lists.nd rfl (Or.inl rfl) (pe_lst (pa_cons (pe_lst pa_nil) pa_nil)))
  (pss_cons (ps_for PassesOwn.never rfl (pi_range1 (by rfl) mz_range (pa_cons (pv 0) pa_nil)) (pg_name (i := 2) sc__law_lists.nd rfl (Or.inr rfl))
    (pss_one (ps_set (i := 1) sc__law_lists.nd rfl (Or.inl rfl) (pe_op op_cat (pv 1) (pe_lc (own := [("one", 3)]) (g := gName 3) (tt := tYes) rfl sc__law_lists.nd (show PI _ _ _ (iList K _) from pi_list (pv 1)) (blkOk_by (N := N__law_lists) (sc := defScope s__law_lists) (by decide +kernel)) (fun _ _ _ _ _ => (pg_name (i := 3) sc__law_lists.nd rfl (Or.inl rfl))) (fun _ _ _ _ _ => pts_nil) (fun _ _ _ _ _ => (pe_op op_cat (pv 3) (pe_lst (pa_cons (pv 2) pa_nil)))))))))
  (pss_one (ps_ret (pv 1))))), ?_⟩
    refine q_asgG (evG_lst1L (xs := []) (el_lst ea_nil (by decide))) fun v H1 e1 hv => ?_
    obtain ⟨p, p0, rfl, np, np0, hp, hp0⟩ := hv
    refine q_forR1 (n := (n : Int)) (ea_cons (ev_var rfl) ea_nil) (by omega) (fun k σ' H' => ∃ (p : Addr) (u2 : Option V), σ' = [some (.int (n : Int)), some (.ref p), u2, none] ∧ Ex H H' ∧ LLat H H' p (subsN k))
      (fun H2 e2 => ⟨p, _, rfl, e1.trans e2, np, [p0], e2 _ _ hp, rfl, fun k z hz => ?_⟩) ?hs ?hd
    · match k, hz with
      | 0, hz => cases hz; exact ⟨np0, e2 _ _ hp0⟩
    case hd =>
      rintro σ' H2 ⟨p, u2, rfl, eH, ll⟩
      rw [Int.toNat_natCast] at ll
      exact s_ret (ev_var rfl) fun H3 e3 => q _ _ (eH.trans e3) (ll.ex e3)
    case hs =>
      rintro k σ' H2 hk ⟨p, u2, rfl, eH, ll⟩
      obtain ⟨h0, qs, h1, h2, h3⟩ := id ll
      have hcount : qs.length ≤ 4096 := by
        rw [h2, subs_count]
        exact Nat.le_trans (Nat.pow_le_pow_right (by decide) (show k ≤ 12 by omega)) (by decide)
      refine s_asgG (evG_catN (n := (qs.map V.ref).length) (l := fun j => .lst ((iL ((subsN k).getD j [] ++ [k])).map V.int)) (ev_var rfl) h1 (evG_lcLn (xs := qs.map V.ref) _ (ev_var rfl) (sq_of h1) (by rw [List.length_map]; omega) (fun _ => rfl) (fun j x H4 e4 hx => ?he)) (by rw [List.length_map]; omega)) fun v H3 e3 hv => ?_
      case he =>
        rw [List.getElem?_map] at hx
        obtain ⟨z, hz, rfl⟩ := Option.map_eq_some_iff.mp hx
        have hj := (List.getElem?_eq_some_iff.mp hz).1
        have hl := subs_mem (getD_mem (show j < (subsN k).length by omega))
        exact el_is (el_catA (ev_var rfl) (e4 _ _ (h3 j z hz).2) (lst1 (ev_var rfl)) (by rw [iL_len]; show _ + 1 ≤ 100000; omega)) (by rw [iL_app]; rfl)
      obtain ⟨r, rfl, nr, qs', h4, h5, h6⟩ := hv
      exact ⟨r, _, rfl, eH.trans e3, ll.grow h1 eH e3 nr (by rw [h4, List.length_map, h2]) h5 h6⟩

theorem ok_lout (A : At K mg "_law_outcome" s__law_outcome) (mz_range : mg "range" = none) (mz_sum : mg "sum" = none) (mz_all : mg "all" = none) (mz_len : mg "len" = none) (mz_int : mg "int" = none) : Dfn P w K mg base 2 "_law_outcome" p__law_outcome (spLout K) := by
  refine dfn_ok A sc__law_outcome (fun _ _ _ _ _ _ us hl => match us, hl with | [_, _], _ => rfl) (fun vs H Q E h => ?_) (fun f cdv A outer s H vs Q E hr h => ?_)
  · obtain ⟨b, p, L, rfl, _⟩ := h
    rfl
  · obtain ⟨b, p, L, rfl, hb, hL, hS, q⟩ := h
    refine ⟨_, (pss_cons (ps_set (i := 2) sc__law_outcome.nd rfl (Or.inr rfl) (pe_lc (own := [("k", 5)]) (g := gName 5) (tt := tYes) rfl sc__law_outcome.nd (pi_range1 (by rfl) mz_range (pa_cons pe_int pa_nil)) (blkOk_by (N := N__law_outcome) (sc := defScope s__law_outcome) (scope := cs_55_13) (own := [("k", 5)]) (by decide +kernel)) (fun _ _ _ _ _ => (pg_name (i := 5) sc__law_outcome.nd rfl (Or.inr rfl))) (fun _ _ _ _ _ => pts_nil) (fun _ _ _ _ _ => (pe_lc (own := [("place", 7)]) (g := gName 7) rfl sc__law_outcome.nd (show PI _ _ _ (iList K _) from pi_list (pv 1)) (blkOk_by (N := N__law_outcome) (sc := csr_55_13) (scope := cs_55_14) (own := [("place", 7)]) (by decide +kernel)) (fun _ _ _ _ _ => (pg_name (i := 7) sc__law_outcome.nd rfl (Or.inl rfl))) (fun _ _ _ _ _ => (pts_one (pt_chain op_le op_lt (pe_op op_mul (pv 0) (pv 5)) (pv 7) (pe_op op_mul (pv 0) (pe_op op_add (pv 5) pe_int))))) (fun _ _ _ _ _ => (pe_op op_sub (pv 7) (pe_op op_mul (pv 0) (pv 5))))))))
  (pss_cons (ps_set (i := 3) sc__law_outcome.nd rfl (Or.inl rfl) (pe_callB (show CallR _ _ (rAll K) from (cr_all rfl)) (by rfl) mz_all (by decide +kernel) (pa_cons (pe_lc (own := [("place", 7)]) (g := gName 7) (tt := tYes) rfl sc__law_outcome.nd (pi_range1 (by rfl) mz_range (pa_cons (pv 0) pa_nil)) (blkOk_by (N := N__law_outcome) (sc := defScope s__law_outcome) (scope := cs_56_15) (own := [("place", 7)]) (by decide +kernel)) (fun _ _ _ _ _ => (pg_name (i := 7) sc__law_outcome.nd rfl (Or.inr rfl))) (fun _ _ _ _ _ => pts_nil) (fun _ _ _ _ _ => (pe_cmpR op_lt (pe_callB (show CallR _ _ (rSumB K) from cr_sumB rfl) (by rfl) mz_sum (by decide +kernel) (pa_cons (pe_lc (own := [("copy", 6)]) (g := gName 6) (tt := tYes) rfl sc__law_outcome.nd (show PI _ _ _ (iList K _) from pi_list (pv 2)) (blkOk_by (N := N__law_outcome) (sc := csr_56_15) (scope := cs_56_20) (own := [("copy", 6)]) (by decide +kernel)) (fun _ _ _ _ _ => (pg_name (i := 6) sc__law_outcome.nd rfl (Or.inl rfl))) (fun _ _ _ _ _ => pts_nil) (fun _ _ _ _ _ => (pe_cmpR (show OpR _ _ (rIn K false) from op_in_seq) (pv 7) (pv 6) (by first | exact nomark _ | rfl)))) pa_nil)) pe_int (by first | exact nomark _ | rfl)))) pa_nil)))
  (pss_cons (ps_setLc (i := 4) (own := [("copy", 6)]) (g := gName 6) rfl sc__law_outcome.nd rfl rfl (sw_true rfl rfl rfl (by decide +kernel)) (show PI _ _ _ (iList K _) from pi_list (pv 2)) (blkOk_by (N := N__law_outcome) (sc := defScope s__law_outcome) (by decide +kernel)) (fun _ _ _ _ _ => (pg_name (i := 6) sc__law_outcome.nd rfl (Or.inl rfl))) (fun _ _ _ _ _ => (pts_one (pt_cmpR op_gt (show PE _ _ (tBM K "list" _ _ _) from pe_bm PySem.F.plainAttrs_list PySem.F.slot_list_count PySem.F.type_list_count (show MtR _ "list.count" (rCntD K) from mt_cntD (hu65 hr)) (pv 2) (pa_cons (pv 6) pa_nil)) pe_int (by first | exact nomark _ | rfl)))) (fun _ _ _ _ _ => (pv 6)))
  (pss_cons (ps_if (pt_cmpR op_eq (pe_callB (show CallR _ _ (rLenS K) from call_len_seq) (by rfl) mz_len PySem.boot_len (pa_cons (pv 4) pa_nil)) pe_int (by first | exact nomark _ | rfl))
    (pss_one (ps_ret (pe_tup (pa_cons (pv 3) (pa_cons pe_int pa_nil)))))
    pss_nil)
  (pss_one (ps_ret (pe_tup (pa_cons (pv 3) (pa_cons (pe_callTy call_int1 (by rfl) mz_int (by decide +kernel) (pa_cons (pe_cmpR op_gt (pe_callB (show CallR _ _ (rLenS K) from call_len_seq) (by rfl) mz_len PySem.boot_len (pa_cons (pe_ix (show IxR _ (rIxL K) from ix_list) (pv 4) pe_int (fun _ _ => rfl)) pa_nil)) pe_int (by first | exact nomark _ | rfl)) pa_nil)) pa_nil))))))))), ?_⟩
    refine q_asgG (evG_lcR (n := 3) (fun k => .lst ((iL (cpy b k L)).map V.int)) (ea_cons ev_c ea_nil) (by decide) (fun _ => rfl) (fun k H1 e1 hk => ?c1)) fun v H1 e1 hv => ?_
    case c1 =>
      have e1' : (b : Int) * (k : Int) = ((b * k : Nat) : Int) := (Int.natCast_mul b k).symm
      have e2' : (b : Int) * ((k : Int) + 1) = ((b * (k + 1) : Nat) : Int) := by rw [Int.natCast_mul]; rfl
      refine el_lcA' (l := L) (fun p => decide (b * k ≤ p) && decide (p < b * (k + 1))) (fun p => p - b * k) (ev_var rfl) (ex_l e1 hS) (by omega) (fun _ => rfl) (fun m hm H2 e2 => ?tt) (fun m hm H2 e2 hf => ?ee)
      case tt =>
        refine et_is (et_test (rv_chain (ev_op (ev_var rfl) (ev_var rfl) (rv_I (C := CMul) (Or.inl (by omega)))) (ev_var rfl) rv_I0 (fun _ => ev_op (ev_var rfl) (ev_op (ev_var rfl) ev_c rv_I0) (rv_I (C := CMul) (Or.inl (by omega)))) (fun _ => rv_I0))) ?_
        rw [e1', e2']
        congr 1 <;> exact decide_eq_decide.mpr (by omega)
      case ee =>
        have hf1 : b * k ≤ m := of_decide_eq_true (Bool.and_eq_true_iff.mp hf).1
        refine ev_is (ev_op (ev_var rfl) (ev_op (ev_var rfl) (ev_var rfl) (rv_I (C := CMul) (Or.inl (by omega)))) rv_I0) ?_
        rw [e1']
        congr 1
        omega
    obtain ⟨cp, rfl, ncp, qs, hq1, hq2, hq3, hq4⟩ := hv
    obtain ⟨q0, q1, q2, rfl⟩ : ∃ q0 q1 q2, qs = [q0, q1, q2] := by
      have hq1 : qs.length = 3 := hq1
      match qs, hq1 with
      | [a1, a2, a3], _ => exact ⟨a1, a2, a3, rfl⟩
    have hat : ∀ j x, ([V.ref q0, .ref q1, .ref q2] : List V)[j]? = some x → ∃ z, x = .ref z ∧ H1 z = some (.lst ((iL (cpy b j L)).map V.int)) := fun j x hx => by
      have hx : ([q0, q1, q2].map V.ref)[j]? = some x := hx
      rw [List.getElem?_map] at hx
      obtain ⟨z, hz, rfl⟩ := Option.map_eq_some_iff.mp hx
      exact ⟨z, rfl, (hq4 j z hz).2.2⟩
    have hcp : H1 cp = some (.lst [V.ref q0, .ref q1, .ref q2]) := hq2
    refine q_asg (v := .bl (sureC b (cps b L))) (ev_is (ev_allL (bs := (List.range b).map fun i => decide ((((cps b L).map fun c => inB i c).map bI).sum < 2)) (el_is (el_lcR1 (n := (b : Int)) (fun _ => true) (fun i => V.bl (decide ((((cps b L).map fun c => inB i c).map bI).sum < 2))) (ea_cons (ev_var rfl) ea_nil) (by omega) (fun _ => rfl) (fun i H2 e2 hi => et_yes) (fun i H2 e2 hi _ => ?su)) ?l1)) ?l2) fun H2 e2 => ?_
    case l1 =>
      rw [Int.toNat_natCast]
      unfold given
      rw [List.filter_eq_self.mpr fun _ _ => rfl, List.map_map]
      rfl
    case l2 =>
      unfold sureC
      rw [List.all_map]
      rfl
    case su =>
      refine ev_op (ev_sumB (bs := [inB i (cpy b 0 L), inB i (cpy b 1 L), inB i (cpy b 2 L)]) (el_is (el_lcL (xs := [V.ref q0, .ref q1, .ref q2]) (fun _ => true) (fun j => V.bl (inB i (cpy b j L))) (ev_var rfl) (sq_of (e2 _ _ hcp)) (by show 3 ≤ 40000; decide) (fun _ => rfl) (fun j x H3 e3 hx => et_yes) (fun j x H3 e3 hx _ => ?inn)) rfl)) ev_c rv_I0
      case inn =>
        obtain ⟨z, rfl, hz⟩ := hat j x hx
        exact ev_is (ev_op (ev_var rfl) (ev_var rfl) (rv_inI (neg := false) (sq_of (e3 _ _ (e2 _ _ hz))))) (by rw [if_neg Bool.false_ne_true, inB_dec])
    have hcp2 := e2 _ _ hcp
    have hat2 : ∀ j x, ([V.ref q0, .ref q1, .ref q2] : List V)[j]? = some x → ∃ z, x = .ref z ∧ H2 z = some (.lst ((iL (cpy b j L)).map V.int)) := fun j x hx => by
      obtain ⟨z, h1, h2⟩ := hat j x hx
      exact ⟨z, h1, e2 _ _ h2⟩
    obtain ⟨_, e0, hc0⟩ := hat2 0 _ rfl
    obtain ⟨_, e1', hc1⟩ := hat2 1 _ rfl
    obtain ⟨_, e2', hc2⟩ := hat2 2 _ rfl
    cases e0
    cases e1'
    cases e2'
    have gl : ∀ (c : List Nat), Lay (dl c) 5 := fun c => lay_ints _
    have sh : SeqAt.shaped (.list ((cps b L).map dl)) = true := (Lay.list (n := 5) (.cons (gl _) (.cons (gl _) (.cons (gl _) .nil)))).sh
    generalize hff : (fun j : Nat => decide (1 < (cps b L).countP fun z => eqB z (cpy b j L))) = ff
    generalize hvv : (fun j : Nat => V.ref ([q0, q1, q2].getD j 0)) = vv
    refine q_asgL (xs := given 3 ff vv) (el_lcL (xs := [V.ref q0, .ref q1, .ref q2]) ff vv (ev_var rfl) (sq_of hcp2) (by show 3 ≤ 40000; decide) (fun _ => rfl) (fun j x H3 e3 hx => ?t1) (fun j x H3 e3 hx _ => ?v1)) fun sa H3 nsa e3 hsa => ?_
    case t1 =>
      obtain ⟨z, rfl, hz⟩ := hat2 j x hx
      rw [← hff]
      refine et_is (et_test (ev_op (ev_cntD (d := dl (cpy b j L)) (ds := (cps b L).map dl) (ev_var rfl) ⟨_, sq_of (e3 _ _ hcp2)⟩ (.lst (sq_of (e3 _ _ hcp2)) (.cons (dp_ints (sq_of (e3 _ _ hc0))) (.cons (dp_ints (sq_of (e3 _ _ hc1))) (.cons (dp_ints (sq_of (e3 _ _ hc2))) .nil)))) (ev_var rfl) (dp_ints (sq_of (e3 _ _ hz))) sh (gl _).sh) ev_c rv_I0)) ?_
      rw [cnt_dl]
      exact decide_eq_decide.mpr (by omega)
    case v1 =>
      rw [← hvv]
      match j, hx with
      | 0, hx => cases hx; exact ev_var rfl
      | 1, hx => cases hx; exact ev_var rfl
      | 2, hx => cases hx; exact ev_var rfl
      | j + 3, hx => cases hx
    have key : (given 3 ff vv = [] ∧ toldC (cps b L) = 2) ∨ ∃ (z : Addr) (c : List Nat) (r : List V), given 3 ff vv = V.ref z :: r ∧ H2 z = some (.lst ((iL c).map V.int)) ∧ toldC (cps b L) = if 0 < c.length then 1 else 0 := by
      have g3 : given 3 ff vv = ([0, 1, 2].filter ff).map vv := rfl
      have s3 : sameC (cps b L) = [cpy b 0 L, cpy b 1 L, cpy b 2 L].filter fun c => decide (1 < (cps b L).countP fun z => eqB z c) := rfl
      have f0 : ff 0 = decide (1 < (cps b L).countP fun z => eqB z (cpy b 0 L)) := by rw [← hff]
      have f1 : ff 1 = decide (1 < (cps b L).countP fun z => eqB z (cpy b 1 L)) := by rw [← hff]
      have f2 : ff 2 = decide (1 < (cps b L).countP fun z => eqB z (cpy b 2 L)) := by rw [← hff]
      have v0 : vv 0 = V.ref q0 := by rw [← hvv]; rfl
      have v1 : vv 1 = V.ref q1 := by rw [← hvv]; rfl
      have v2 : vv 2 = V.ref q2 := by rw [← hvv]; rfl
      unfold toldC
      rw [g3, s3, List.filter_cons, List.filter_cons, List.filter_cons, List.filter_nil, List.filter_cons, List.filter_cons, List.filter_cons, List.filter_nil, ← f0, ← f1, ← f2]
      cases ff 0 with
      | true => exact Or.inr ⟨q0, _, _, by rw [if_pos rfl, List.map_cons, v0], hc0, rfl⟩
      | false =>
        cases ff 1 with
        | true => exact Or.inr ⟨q1, _, _, by rw [if_neg Bool.false_ne_true, if_pos rfl, List.map_cons, v1], hc1, rfl⟩
        | false =>
          cases ff 2 with
          | true => exact Or.inr ⟨q2, _, _, by rw [if_neg Bool.false_ne_true, if_neg Bool.false_ne_true, if_pos rfl, List.map_cons, v2], hc2, rfl⟩
          | false => exact Or.inl ⟨rfl, rfl⟩
    generalize toldC (cps b L) = tc at *
    have eH : Ex H H3 := (e1.trans e2).trans e3
    rcases key with ⟨k1, rfl⟩ | ⟨z, c, r, k1, hz, rfl⟩
    · rw [k1] at hsa
      refine q_when (b := true) (et_is (et_eq (ev_lenL (ev_var rfl) (sq_of hsa)) ev_c rfl) rfl) (fun _ H4 e4 => ?_) fun z => Bool.noConfusion z
      exact s_retU (tup2 (ev_var rfl) ev_c) fun t H5 nt e5 ht => q t H5 (fresh_back (eH.trans e4) nt) ((eH.trans e4).trans e5) ht
    · rw [k1] at hsa
      refine q_when (b := false) (et_is (et_eq (ev_lenL (ev_var rfl) (sq_of hsa)) ev_c rfl) (decide_eq_false fun h => by injection h with h; rw [List.length_cons] at h; omega)) (fun z => Bool.noConfusion z) fun _ H4 e4 => ?_
      refine s_retU (tup2 (ev_var rfl) (ev_is (ev_intB (ea_cons (ev_op (ev_lenL (ev_ixI (ev_var rfl) ev_c (sq_of (e4 _ _ hsa)) (atI_nat (j := 0) rfl)) (sq_of (e4 _ _ (e3 _ _ hz)))) ev_c rv_I0) ea_nil)) (?tv : _ = V.int ((if 0 < c.length then 1 else 0 : Nat) : Int)))) fun t H5 nt e5 ht => q t H5 (fresh_back (eH.trans e4) nt) ((eH.trans e4).trans e5) ht
      case tv =>
        rw [iL_len]
        by_cases h : 0 < c.length
        · rw [if_pos h, if_pos (decide_eq_true (by omega))]
          rfl
        · rw [if_neg h, if_neg (by rw [decide_eq_false (by omega)]; decide)]
          rfl

end
/-! ### the law -/
def spLaw (K : PySem.W.Frag) : Sp := fun vs H Q _ => ∃ (a : Addr) (ns : List Int), vs = [.ref a] ∧ SqL K H a (ns.map V.int) ∧ ns.length ≤ 63 ∧ ∀ H', Q (.bl true) H'
section
variable {P : Program} {w : World} {K : PySem.W.Frag} {mg : Str → Option Value} {base : Heap}
theorem SpNum {H : Hp} {a : Addr} {xs : List Int} {m : Int} (hA : SqL K H a (xs.map V.int)) (hx : xs.length ≤ 63) (hm : 0 ≤ m) (hm2 : m ≤ 900) : SpP (spNumbers K) ([.ref a, .int m] ++ []) H (fun ys => ∃ ns : List Int, ys = ns.map V.int ∧ (ns.length : Int) = m ∧ Small ns) :=
  fun H1 e Q q E => ⟨a, xs, m, rfl, ex_l e hA, hx, hm, hm2, fun ns p H' hl hs np e2 hp => q _ p H' ⟨ns, rfl, hl, hs⟩ np e2 hp⟩
theorem ok_law {f : Addr} {fd : FuncData} (F : Fun K "law" "law" s_law f fd) (D__law_numbers : Dfn P w K mg base 2 "_law_numbers" p__law_numbers (spNumbers K)) (D_ways_of : Dfn P w K mg base 2 "ways_of" p_ways_of spWays) (D__law_lists : Dfn P w K mg base 1 "_law_lists" p__law_lists spLlists) (D__law_outcome : Dfn P w K mg base 2 "_law_outcome" p__law_outcome (spLout K))
    (mz_range : mg "range" = none) (mz_int : mg "int" = none) (mz_len : mg "len" = none) (mz_tuple : mg "tuple" = none) : FnOk P w K mg base CX0 3 f fd ["script"] (spLaw K) := by
  refine F.ok sc_law (fun vs H Q E h => ?_) (fun cdv A outer s H vs Q E hr h => ?_)
  · obtain ⟨a, ns, rfl, _⟩ := h
    rfl
  · obtain ⟨a, xs, rfl, hA, hx, q⟩ := h
    refine ⟨_, (pss_cons (ps_set (i := 1) sc_law.nd rfl (Or.inl rfl) (pe_d D__law_numbers (hr.mono (by decide)) (pa_cons (pv 0) (pa_cons pe_int pa_nil))))
  (pss_cons (ps_set (i := 2) sc_law.nd rfl (Or.inr rfl) (pe_op op_add pe_int (pe_op op_mod (pe_callTy call_int1 (by rfl) mz_int (by decide +kernel) (pa_cons (pe_ix (show IxR _ (rIxL K) from ix_list) (pv 1) pe_int (fun _ _ => rfl)) pa_nil)) pe_int)))
  (pss_cons (ps_setLc (i := 3) (own := [("k", 8)]) (g := gName 8) (tt := tYes) rfl sc_law.nd rfl rfl (sw_true rfl rfl rfl (by decide +kernel)) (pi_range1 (by rfl) mz_range (pa_cons (pe_op op_add (pe_op op_mul pe_int (pv 2)) pe_int) pa_nil)) (blkOk_by (N := N_law) (sc := defScope s_law) (by decide +kernel)) (fun _ _ _ _ _ => (pg_name (i := 8) sc_law.nd rfl (Or.inl rfl))) (fun _ _ _ _ _ => pts_nil) (fun _ _ _ _ _ => (pe_lst (pa_cons pe_int (pa_cons pe_int (pa_cons pe_int (pa_cons pe_int (pa_cons pe_int pa_nil))))))))
  (pss_cons (ps_for PassesOwn.never rfl (show PI _ _ _ (iList K _) from pi_list (pe_d D__law_lists (hr.mono (by decide)) (pa_cons (pe_op op_mul pe_int (pv 2)) pa_nil))) (pg_name (i := 4) sc_law.nd rfl (Or.inl rfl))
    (pss_cons (ps_asg (pe_d D__law_outcome (hr.mono (by decide)) (pa_cons (pv 2) (pa_cons (pv 4) pa_nil))) (show PG _ _ (gTup K 2 _) from pg_tup rfl (pgs_cons (pg_name (i := 5) sc_law.nd rfl (Or.inl rfl)) (pgs_cons (pg_name (i := 6) sc_law.nd rfl (Or.inl rfl)) pgs_nil))))
  (pss_cons (ps_set (i := 7) sc_law.nd rfl (Or.inl rfl) (pe_ix (show IxR _ (rIxL K) from ix_list) (pv 3) (pe_callB (show CallR _ _ (rLenS K) from call_len_seq) (by rfl) mz_len PySem.boot_len (pa_cons (pv 4) pa_nil)) (fun _ _ => rfl)))
  (pss_cons (ps_asg (pe_op op_add (pe_ix (show IxR _ (rIxL K) from ix_list) (pv 7) pe_int (fun _ _ => rfl)) pe_int) (pg_sub (pv 7) pe_int set_list))
  (pss_cons (ps_asg (pe_op op_add (pe_ix (show IxR _ (rIxL K) from ix_list) (pv 7) pe_int (fun _ _ => rfl)) (pe_callTy call_int1 (by rfl) mz_int (by decide +kernel) (pa_cons (pv 5) pa_nil))) (pg_sub (pv 7) pe_int set_list))
  (pss_one (ps_asg (pe_op op_add (pe_ix (show IxR _ (rIxL K) from ix_list) (pv 7) (pe_op op_add pe_int (pv 6)) (fun _ _ => rfl)) pe_int) (pg_sub (pv 7) (pe_op op_add pe_int (pv 6)) set_list))))))))
  (pss_one (ps_ret (pe_cmpR (show OpR _ _ (rEqD K) from (op_eqD hr.units)) (pe_lc (own := [("flips", 9)]) (g := gName 9) (tt := tYes) rfl sc_law.nd (pi_range1 (by rfl) mz_range (pa_cons (pe_op op_add (pe_op op_mul pe_int (pv 2)) pe_int) pa_nil)) (blkOk_by (N := N_law) (sc := defScope s_law) (by decide +kernel)) (fun _ _ _ _ _ => (pg_name (i := 9) sc_law.nd rfl (Or.inl rfl))) (fun _ _ _ _ _ => pts_nil) (fun _ _ _ _ _ => (pe_d D_ways_of (hr.mono (by decide)) (pa_cons (pv 2) (pa_cons (pv 9) pa_nil))))) (pe_lc (own := [("row", 7)]) (g := gName 7) (tt := tYes) rfl sc_law.nd (show PI _ _ _ (iList K _) from pi_list (pv 3)) (blkOk_by (N := N_law) (sc := defScope s_law) (by decide +kernel)) (fun _ _ _ _ _ => (pg_name (i := 7) sc_law.nd rfl (Or.inl rfl))) (fun _ _ _ _ _ => pts_nil) (fun _ _ _ _ _ => (pe_callTy (show CallR _ _ (rTupS K) from call_tuple_of) (by rfl) mz_tuple (by decide +kernel) (pa_cons (pv 7) pa_nil)))) (by first | exact nomark _ | rfl)))))))), ?_⟩
    refine q_asgP (P := fun ys => ∃ ns : List Int, ys = ns.map V.int ∧ (ns.length : Int) = 3 ∧ Small ns) (evP_call (ea_cons (ev_var rfl) (ea_cons ev_c ea_nil)) (SpNum hA hx (by decide) (by decide))) fun ys n H1 hys nn e1 hn => ?_
    obtain ⟨ns, rfl, hl, hS⟩ := hys
    obtain ⟨x0, g0⟩ : ∃ x : Int, (ns.map V.int)[0]? = some (.int x) := ⟨ns[0], by rw [List.getElem?_map, List.getElem?_eq_getElem (show 0 < ns.length by omega)]; rfl⟩
    obtain ⟨b, hb, hb1, hb4⟩ : ∃ b : Nat, (1 : Int) + x0 % 4 = (b : Int) ∧ 1 ≤ b ∧ b ≤ 4 := ⟨(1 + x0 % 4).toNat, by omega, by omega, by omega⟩
    refine q_asg (v := .int (b : Int)) (ev_is (ev_op ev_c (ev_op (ev_int (ea_cons (ev_ixI (ev_var rfl) ev_c (sq_of hn) (atI_nat (j := 0) g0)) ea_nil)) ev_c (rv_I (show (0 : Int) < 4 by decide))) rv_I0) (by rw [hb])) fun H2 e2 => ?_
    have t3 : ∀ (σ : L2.St) (H : Hp), σ[2]? = some (some (.int (b : Int))) → Ev (tOp (rI CMul fun i j => .int (i * j)) (tC (.int 3)) (tVar 2)) σ H (.int ((3 * b : Nat) : Int)) := fun σ H h => ev_is (ev_op ev_c (ev_var h) (rv_I (C := CMul) (Or.inl (by decide)))) (by congr 1)
    have t31 : ∀ (σ : L2.St) (H : Hp), σ[2]? = some (some (.int (b : Int))) → Ev (tOp (rI0 fun i j => .int (i + j)) (tOp (rI CMul fun i j => .int (i * j)) (tC (.int 3)) (tVar 2)) (tC (.int 1))) σ H (.int ((3 * b + 1 : Nat) : Int)) := fun σ H h => ev_is (ev_op (t3 σ H h) ev_c rv_I0) (by congr 1)
    refine q_asgG (evG_lcR (n := ((3 * b + 1 : Nat) : Int)) (fun _ => .lst [.int 0, .int 0, .int 0, .int 0, .int 0]) (ea_cons (t31 _ _ rfl) ea_nil) (by omega) (fun _ => rfl) (fun i H1 e1 hi => el_lst (vs := [.int 0, .int 0, .int 0, .int 0, .int 0]) (ea_cons ev_c (ea_cons ev_c (ea_cons ev_c (ea_cons ev_c (ea_cons ev_c ea_nil))))) (by show 5 ≤ 100000; decide))) fun v H3 e3 hv => ?_
    obtain ⟨d, rfl, nd, qs, hq1, hq2, hq3, hq4⟩ := hv
    rw [Int.toNat_natCast] at hq1
    refine q_forGn (evG_lists (n := 3 * b) (ea_cons (t3 _ _ rfl) ea_nil) (by omega))
      (fun p xs i σ' H' => ∃ (u4 u5 u6 u7 : Option V) (ql : List Addr), σ' = [some (.ref a), some (.ref n), some (.int (b : Int)), some (.ref d), u4, u5, u6, u7, none, none] ∧ xs = ql.map V.ref ∧ H3 p = none ∧ ql.length = (subsN (3 * b)).length ∧ H' p = some (.lst xs) ∧ (∀ k q, ql[k]? = some q → H3 q = none ∧ H' q = some (.lst ((iL ((subsN (3 * b)).getD k [])).map V.int))) ∧
        H' d = some (.lst (qs.map V.ref)) ∧ ∀ k q, qs[k]? = some q → H' q = some (.lst (((rowsAt b i).getD k []).map V.int)))
      (fun p xs H4 e4 hp hr => ?i0) (fun p xs i σ' H' _ ⟨_, _, _, _, _, _, _, _, _, hp, _⟩ => sq_of hp) (fun p xs i x σ' H4 hx ⟨u4, u5, u6, u7, ql, hσ, hxs, hpn, hql, hp, hqs, hd, hrows⟩ => ?st) (fun p xs σ' H4 ⟨u4, u5, u6, u7, ql, hσ, hxs, hpn, hql, hp, hqs, hd, hrows⟩ => ?fin)
    case i0 =>
      obtain ⟨ql, hxs, hpn, hql, hqs⟩ := hr
      refine ⟨_, _, _, _, ql, rfl, hxs, hpn, hql, hp, hqs, e4 _ _ hq2, fun k q hk => ?_⟩
      have hkl := (List.getElem?_eq_some_iff.mp hk).1
      rw [e4 _ _ (hq4 k q hk).2.2]
      unfold rowsAt
      show some (HO.lst [V.int 0, .int 0, .int 0, .int 0, .int 0]) = some (HO.lst (((List.replicate (3 * b + 1) ([0, 0, 0, 0, 0] : List Int)).getD k []).map V.int))
      rw [List.getD_eq_getElem?_getD, List.getElem?_replicate, if_pos (by omega)]
      rfl
    case st =>
      subst hσ
      rw [hxs, List.getElem?_map] at hx
      obtain ⟨z, hz, rfl⟩ := Option.map_eq_some_iff.mp hx
      have hil := (List.getElem?_eq_some_iff.mp hz).1
      have hi : i < (subsN (3 * b)).length := by omega
      have hL := subs_mem (getD_mem hi)
      have hsucc := rowsAt_succ hi
      obtain ⟨hzn, hzc⟩ := hqs i z hz
      generalize (subsN (3 * b)).getD i [] = L at *
      refine q_unp2 (eu_call (ea_cons (ev_var rfl) (ea_cons (ev_var rfl) ea_nil)) (SpLout (b := b) hb4 (by omega) (sq_of hzc))) fun H5 e5 => ?_
      have ht := told_lt (cps b L)
      unfold tal at hsucc
      generalize sureC b (cps b L) = su at *
      generalize toldC (cps b L) = tc at *
      obtain ⟨qr, hqr⟩ : ∃ qr, qs[L.length]? = some qr := ⟨qs[L.length]'(by omega), List.getElem?_eq_getElem _⟩
      refine q_asg (v := .ref qr) (ev_ixI (i := (L.length : Int)) (ev_var rfl) (ev_is (ev_lenL (ev_var rfl) (sq_of (e5 _ _ hzc))) (by rw [iL_len])) (sq_of (e5 _ _ hd)) (atI_nat (by rw [List.getElem?_map, hqr]; rfl))) fun H6 e6 => ?_
      have e46 := e5.trans e6
      have hrow := e46 _ _ (hrows L.length qr hqr)
      have h5 := rowsAt_5 (b := b) (i := i) (k := L.length) (by omega)
      generalize (rowsAt b i).getD L.length [] = r at *
      obtain ⟨r0, r1, r2, r3, r4, rfl⟩ := five h5
      refine q_setL (l := qr) (j := 0) hrow (ev_op (ev_ixI (ev_var rfl) ev_c (sq_of hrow) (v := .int r0) rfl) ev_c rv_I0) (ev_var rfl) ev_c (by show 0 < 5; decide) fun H7 e7 => ?_
      have row7 : upd H7 qr (.lst ((([r0, r1, r2, r3, r4] : List Int).map V.int).set 0 (.int (r0 + 1)))) qr = some (.lst [.int (r0 + 1), .int r1, .int r2, .int r3, .int r4]) := upd_same
      have k7 : Kp1 qr H4 (upd H7 qr (.lst ((([r0, r1, r2, r3, r4] : List Int).map V.int).set 0 (.int (r0 + 1))))) := (Kp1.of (e46.trans e7)).u
      generalize upd H7 qr (.lst ((([r0, r1, r2, r3, r4] : List Int).map V.int).set 0 (.int (r0 + 1)))) = H7' at *
      refine q_setL (l := qr) (j := 1) row7 (ev_op (ev_ixI (ev_var rfl) ev_c (sq_of row7) (v := .int r1) rfl) (ev_intB (ea_cons (ev_var rfl) ea_nil)) rv_I0) (ev_var rfl) ev_c (by show 1 < 5; decide) fun H8 e8 => ?_
      have row8 : upd H8 qr (.lst (([.int (r0 + 1), .int r1, .int r2, .int r3, .int r4] : List V).set 1 (.int (r1 + if su = true then 1 else 0)))) qr = some (.lst [.int (r0 + 1), .int (r1 + if su = true then 1 else 0), .int r2, .int r3, .int r4]) := upd_same
      have k8 : Kp1 qr H4 (upd H8 qr (.lst (([.int (r0 + 1), .int r1, .int r2, .int r3, .int r4] : List V).set 1 (.int (r1 + if su = true then 1 else 0))))) := (k7.ex e8).u
      generalize upd H8 qr (.lst (([.int (r0 + 1), .int r1, .int r2, .int r3, .int r4] : List V).set 1 (.int (r1 + if su = true then 1 else 0)))) = H8' at *
      have fin : ∀ (H9 : Hp) (ys : List V), Ex H8' H9 → ys = (stp [r0, r1, r2, r3, r4] su tc).map V.int → ∃ (u4 u5 u6 u7 : Option V) (ql : List Addr), ([some (.ref a), some (.ref n), some (.int (b : Int)), some (.ref d), some (.ref z), some (.bl su), some (.int (tc : Int)), some (.ref qr), none, none] : L2.St) = [some (.ref a), some (.ref n), some (.int (b : Int)), some (.ref d), u4, u5, u6, u7, none, none] ∧ xs = ql.map V.ref ∧ H3 p = none ∧ ql.length = (subsN (3 * b)).length ∧ upd H9 qr (.lst ys) p = some (.lst xs) ∧ (∀ k q, ql[k]? = some q → H3 q = none ∧ upd H9 qr (.lst ys) q = some (.lst ((iL ((subsN (3 * b)).getD k [])).map V.int))) ∧
        upd H9 qr (.lst ys) d = some (.lst (qs.map V.ref)) ∧ ∀ k q, qs[k]? = some q → upd H9 qr (.lst ys) q = some (.lst (((rowsAt b (i + 1)).getD k []).map V.int)) := fun H9 ys e9 hys => by
        have kk : Kp1 qr H4 (upd H9 qr (.lst ys)) := (k8.ex e9).u
        obtain ⟨hqd, hqn, hqH⟩ := hq4 _ _ hqr
        have other : ∀ q, H3 q = none → q ≠ qr := fun q hq z2 => by rw [z2, hqH] at hq; cases hq
        refine ⟨_, _, _, _, ql, rfl, hxs, hpn, hql, kk _ _ (other p hpn) hp, fun k q hk => ⟨(hqs k q hk).1, kk _ _ (other q (hqs k q hk).1) (hqs k q hk).2⟩, kk _ _ (Ne.symm hqd) hd, fun k q hk => ?_⟩
        have hlen := rowsAt_len b i
        rw [hsucc]
        by_cases e : k = L.length
        · subst e
          rw [hqr] at hk
          cases hk
          rw [upd_same, hys, List.getD_eq_getElem?_getD, List.getElem?_set_self (by rw [hlen.1]; omega)]
          rfl
        · have hne : q ≠ qr := fun z2 => by
            subst z2
            have h1 := (List.getElem?_eq_some_iff.mp hk)
            have h2 := (List.getElem?_eq_some_iff.mp hqr)
            exact e ((List.getElem_inj hq3).mp (h1.2.trans h2.2.symm))
          rw [kk _ _ hne (hrows k q hk), List.getD_eq_getElem?_getD, List.getD_eq_getElem?_getD, List.getElem?_set_ne (Ne.symm e)]
      rcases ht with rfl | rfl | rfl
      · exact s_setL (l := qr) (j := 2) row8 (ev_op (ev_ixI (i := 2) (ev_var rfl) (ev_op ev_c (ev_var rfl) rv_I0) (sq_of row8) (v := .int r2) rfl) ev_c rv_I0) (ev_var rfl) (ev_op ev_c (ev_var rfl) rv_I0) (by show 2 < 5; decide) fun H9 e9 => fin H9 _ e9 rfl
      · exact s_setL (l := qr) (j := 3) row8 (ev_op (ev_ixI (i := 3) (ev_var rfl) (ev_op ev_c (ev_var rfl) rv_I0) (sq_of row8) (v := .int r3) rfl) ev_c rv_I0) (ev_var rfl) (ev_op ev_c (ev_var rfl) rv_I0) (by show 3 < 5; decide) fun H9 e9 => fin H9 _ e9 rfl
      · exact s_setL (l := qr) (j := 4) row8 (ev_op (ev_ixI (i := 4) (ev_var rfl) (ev_op ev_c (ev_var rfl) rv_I0) (sq_of row8) (v := .int r4) rfl) ev_c rv_I0) (ev_var rfl) (ev_op ev_c (ev_var rfl) rv_I0) (by show 4 < 5; decide) fun H9 e9 => fin H9 _ e9 rfl
    case fin =>
      subst hσ
      have hall : rowsAt b xs.length = (List.range (3 * b + 1)).map (waysL b) := by
        have e : rowsAt b xs.length = talA b := by
          unfold rowsAt talA
          rw [List.take_of_length_le (by rw [hxs, List.length_map]; omega)]
        rw [e]
        have hb' : b = 1 ∨ b = 2 ∨ b = 3 ∨ b = 4 := by omega
        rcases hb' with rfl | rfl | rfl | rfl
        · exact tab_1
        · exact tab_2
        · exact tab_3
        · exact tab_4
      rw [hall] at hrows
      have hw : ∀ k, k < 3 * b + 1 → ((List.range (3 * b + 1)).map (waysL b)).getD k [] = waysL b k := fun k hk => by
        rw [List.getD_eq_getElem?_getD, List.getElem?_map, List.getElem?_range hk]
        rfl
      have hdata : ∀ (H' : Hp) (p : Addr) (q9 : List Addr), H' p = some (.lst (q9.map V.ref)) → q9.length = 3 * b + 1 → (∀ k q, q9[k]? = some q → H' q = some (.tup ((waysL b k).map V.int))) → Dp K H' (.ref p) (.list (((List.range (3 * b + 1)).map (waysL b)).map fun d => PyData.tuple (d.map PyData.int))) := fun H' p q9 hp hl hk => .lst (sq_of hp) (dpa_tups (by rw [hl, List.length_map, List.length_range]) fun k q d h1 h2 => by
        have hkl := (List.getElem?_eq_some_iff.mp h1).1
        rw [List.getElem?_map, List.getElem?_range (by omega)] at h2
        cases h2
        exact hk k q h1)
      refine s_retEq (evG_lcR (n := ((3 * b + 1 : Nat) : Int)) (fun k => .tup ((waysL b k).map V.int)) (ea_cons (t31 _ _ rfl) ea_nil) (by omega) (fun _ => rfl) (fun k H5 e5 hk => eu_call (ea_cons (ev_var rfl) (ea_cons (ev_var rfl) ea_nil)) (SpWays (by omega) (by omega)))) (evG_lcLn (xs := qs.map V.ref) (fun k => .tup ((waysL b k).map V.int)) (ev_var rfl) (sq_of hd) (by rw [List.length_map]; omega) (fun _ => rfl) (fun k x H6 e6 hx => ?tp)) (fun v1 H5 v2 H6 e5 hv1 e6 hv2 => ?dd) q
      case tp =>
        rw [List.getElem?_map] at hx
        obtain ⟨z, hz, rfl⟩ := Option.map_eq_some_iff.mp hx
        have hkl := (List.getElem?_eq_some_iff.mp hz).1
        have hr := hrows k z hz
        rw [hw k (by omega)] at hr
        exact eu_tupA (ev_var rfl) (sq_of (e6 _ _ hr))
      case dd =>
        obtain ⟨p1, rfl, _, qa, ha1, ha2, _, ha4⟩ := hv1
        rw [Int.toNat_natCast] at ha1
        obtain ⟨p2, rfl, _, qb, hb1', hb2, _, hb4'⟩ := hv2
        rw [List.length_map] at hb1'
        exact ⟨_, hdata _ _ qa (e6 _ _ ha2) ha1 (fun k q hk => e6 _ _ (ha4 k q hk).2.2), hdata _ _ qb hb2 (by omega) (fun k q hk => (hb4' k q hk).2.2), (Lay.list (n := 5) (.map fun d _ => lay_intsT d)).sh⟩
end
theorem all_mk {l : PySem.W.OpenLaw} {w : World} {K : PySem.W.Frag} {h : Heap} {mg : Str → Option Value} {fa : Addr} (X : K.In h) (G : h.Ns mainGlobals mg) (hfa : mg "law" = some (.ref fa))
    {f0 f1 f2 f3 f4 f5 f6 f7 f8 : Addr} {od0 an0 od1 an1 od2 an2 od3 an3 od4 an4 od5 an5 od6 an6 od7 an7 od8 an8 : Option Addr} {sl0 sl1 sl2 sl3 sl4 sl5 sl6 sl7 sl8 : Array (Option Value)} {oc0 kV0 dc0 pm0 cd0 ct0 oc1 kV1 dc1 pm1 cd1 ct1 oc2 kV2 dc2 pm2 cd2 ct2 oc3 kV3 dc3 pm3 cd3 ct3 oc4 kV4 dc4 pm4 cd4 ct4 oc5 kV5 dc5 pm5 cd5 ct5 oc6 kV6 dc6 pm6 cd6 ct6 oc7 kV7 dc7 pm7 cd7 ct7 oc8 kV8 dc8 pm8 cd8 ct8 : Value}
    (a0 : PySem.W.nsIn K mainGlobals "_law_row" = some (some (.ref f0))) (l0 : K.lookup f0 = some ⟨oc0, od0, .func (PySem.W.fnOf "_law_row" "_law_row" (defArgs s__law_row) (defBody s__law_row) (defScope s__law_row) .none kV0 dc0 pm0 an0 cd0 ct0), sl0⟩) (c0 : PySem.W.codeIn K cd0 "_law_row" = true) (k0 : PySem.W.keepIn K (.ref f0) = true)
    (a1 : PySem.W.nsIn K mainGlobals "_law_numbers" = some (some (.ref f1))) (l1 : K.lookup f1 = some ⟨oc1, od1, .func (PySem.W.fnOf "_law_numbers" "_law_numbers" (defArgs s__law_numbers) (defBody s__law_numbers) (defScope s__law_numbers) .none kV1 dc1 pm1 an1 cd1 ct1), sl1⟩) (c1 : PySem.W.codeIn K cd1 "_law_numbers" = true) (k1 : PySem.W.keepIn K (.ref f1) = true)
    (a2 : PySem.W.nsIn K mainGlobals "_law_lists" = some (some (.ref f2))) (l2 : K.lookup f2 = some ⟨oc2, od2, .func (PySem.W.fnOf "_law_lists" "_law_lists" (defArgs s__law_lists) (defBody s__law_lists) (defScope s__law_lists) .none kV2 dc2 pm2 an2 cd2 ct2), sl2⟩) (c2 : PySem.W.codeIn K cd2 "_law_lists" = true) (k2 : PySem.W.keepIn K (.ref f2) = true)
    (a3 : PySem.W.nsIn K mainGlobals "_law_outcome" = some (some (.ref f3))) (l3 : K.lookup f3 = some ⟨oc3, od3, .func (PySem.W.fnOf "_law_outcome" "_law_outcome" (defArgs s__law_outcome) (defBody s__law_outcome) (defScope s__law_outcome) .none kV3 dc3 pm3 an3 cd3 ct3), sl3⟩) (c3 : PySem.W.codeIn K cd3 "_law_outcome" = true) (k3 : PySem.W.keepIn K (.ref f3) = true)
    (a4 : PySem.W.nsIn K mainGlobals "ways_right_by_bits" = some (some (.ref f4))) (l4 : K.lookup f4 = some ⟨oc4, od4, .func (PySem.W.fnOf "ways_right_by_bits" "ways_right_by_bits" (defArgs s_ways_right_by_bits) (defBody s_ways_right_by_bits) (defScope s_ways_right_by_bits) .none kV4 dc4 pm4 an4 cd4 ct4), sl4⟩) (c4 : PySem.W.codeIn K cd4 "ways_right_by_bits" = true) (k4 : PySem.W.keepIn K (.ref f4) = true)
    (a5 : PySem.W.nsIn K mainGlobals "ways_right_by_words" = some (some (.ref f5))) (l5 : K.lookup f5 = some ⟨oc5, od5, .func (PySem.W.fnOf "ways_right_by_words" "ways_right_by_words" (defArgs s_ways_right_by_words) (defBody s_ways_right_by_words) (defScope s_ways_right_by_words) .none kV5 dc5 pm5 an5 cd5 ct5), sl5⟩) (c5 : PySem.W.codeIn K cd5 "ways_right_by_words" = true) (k5 : PySem.W.keepIn K (.ref f5) = true)
    (a6 : PySem.W.nsIn K mainGlobals "ways_wrong_by_words" = some (some (.ref f6))) (l6 : K.lookup f6 = some ⟨oc6, od6, .func (PySem.W.fnOf "ways_wrong_by_words" "ways_wrong_by_words" (defArgs s_ways_wrong_by_words) (defBody s_ways_wrong_by_words) (defScope s_ways_wrong_by_words) .none kV6 dc6 pm6 an6 cd6 ct6), sl6⟩) (c6 : PySem.W.codeIn K cd6 "ways_wrong_by_words" = true) (k6 : PySem.W.keepIn K (.ref f6) = true)
    (a7 : PySem.W.nsIn K mainGlobals "ways_of" = some (some (.ref f7))) (l7 : K.lookup f7 = some ⟨oc7, od7, .func (PySem.W.fnOf "ways_of" "ways_of" (defArgs s_ways_of) (defBody s_ways_of) (defScope s_ways_of) .none kV7 dc7 pm7 an7 cd7 ct7), sl7⟩) (c7 : PySem.W.codeIn K cd7 "ways_of" = true) (k7 : PySem.W.keepIn K (.ref f7) = true)
    (a8 : PySem.W.nsIn K mainGlobals "law" = some (some (.ref f8))) (l8 : K.lookup f8 = some ⟨oc8, od8, .func (PySem.W.fnOf "law" "law" (defArgs s_law) (defBody s_law) (defScope s_law) .none kV8 dc8 pm8 an8 cd8 ct8), sl8⟩) (c8 : PySem.W.codeIn K cd8 "law" = true) (k8 : PySem.W.keepIn K (.ref f8) = true)
    (z_abs : PySem.W.nsIn K mainGlobals "abs" = some none)
    (z_all : PySem.W.nsIn K mainGlobals "all" = some none)
    (z_int : PySem.W.nsIn K mainGlobals "int" = some none)
    (z_len : PySem.W.nsIn K mainGlobals "len" = some none)
    (z_max : PySem.W.nsIn K mainGlobals "max" = some none)
    (z_range : PySem.W.nsIn K mainGlobals "range" = some none)
    (z_sum : PySem.W.nsIn K mainGlobals "sum" = some none)
    (z_tuple : PySem.W.nsIn K mainGlobals "tuple" = some none)
    {tk_COPIES : Tok} (z_COPIES : PySem.W.nsIn K mainGlobals "COPIES" = some (some (.int 3 tk_COPIES)))
    (z_comb : PySem.W.nsIn K mainGlobals "comb" = some (some (.builtin "math.comb")))
    : ∃ fd : FuncData, (∀ (s : Shared) (v : Value), BindsTo s fd ⟨[v], []⟩ [("script", v)]) ∧ ∀ base : Heap, K.In base → base.Ns mainGlobals mg → FnOk l.prog w K mg base CX0 3 fa fd ["script"] (spLaw K) := by
  have e := hfa.symm.trans (PySem.W.mg_of X G a8)
  cases e
  have mz_abs := PySem.W.mg_none_of X G z_abs
  have mz_all := PySem.W.mg_none_of X G z_all
  have mz_int := PySem.W.mg_none_of X G z_int
  have mz_len := PySem.W.mg_none_of X G z_len
  have mz_max := PySem.W.mg_none_of X G z_max
  have mz_range := PySem.W.mg_none_of X G z_range
  have mz_sum := PySem.W.mg_none_of X G z_sum
  have mz_tuple := PySem.W.mg_none_of X G z_tuple
  have gc_COPIES : ∃ u, mg "COPIES" = some u ∧ RelV (.int 3) u := ⟨_, PySem.W.mg_of X G z_COPIES, ⟨_, rfl⟩⟩
  have g_comb := PySem.W.mg_of X G z_comb
  refine ⟨PySem.W.fnOf "law" "law" (defArgs s_law) (defBody s_law) (defScope s_law) .none kV8 dc8 pm8 an8 cd8 ct8, fun s v => .of_eq rfl, fun base _ _ => ?_⟩
  have A__law_row : At K mg "_law_row" s__law_row := ⟨_, _, fun_mk (st := s__law_row) l0 c0 k0, PySem.W.mg_of X G a0⟩
  have A__law_numbers : At K mg "_law_numbers" s__law_numbers := ⟨_, _, fun_mk (st := s__law_numbers) l1 c1 k1, PySem.W.mg_of X G a1⟩
  have A__law_lists : At K mg "_law_lists" s__law_lists := ⟨_, _, fun_mk (st := s__law_lists) l2 c2 k2, PySem.W.mg_of X G a2⟩
  have A__law_outcome : At K mg "_law_outcome" s__law_outcome := ⟨_, _, fun_mk (st := s__law_outcome) l3 c3 k3, PySem.W.mg_of X G a3⟩
  have A_ways_right_by_bits : At K mg "ways_right_by_bits" s_ways_right_by_bits := ⟨_, _, fun_mk (st := s_ways_right_by_bits) l4 c4 k4, PySem.W.mg_of X G a4⟩
  have A_ways_right_by_words : At K mg "ways_right_by_words" s_ways_right_by_words := ⟨_, _, fun_mk (st := s_ways_right_by_words) l5 c5 k5, PySem.W.mg_of X G a5⟩
  have A_ways_wrong_by_words : At K mg "ways_wrong_by_words" s_ways_wrong_by_words := ⟨_, _, fun_mk (st := s_ways_wrong_by_words) l6 c6 k6, PySem.W.mg_of X G a6⟩
  have A_ways_of : At K mg "ways_of" s_ways_of := ⟨_, _, fun_mk (st := s_ways_of) l7 c7 k7, PySem.W.mg_of X G a7⟩
  have F_law := fun_mk (st := s_law) l8 c8 k8
  have D_row : Dfn l.prog w K mg base 1 "_law_row" p__law_row spRow := ok_row A__law_row mz_abs mz_int mz_range
  have D_num : Dfn l.prog w K mg base 2 "_law_numbers" p__law_numbers (spNumbers K) := ok_numbers A__law_numbers D_row mz_len mz_max
  have D_wb : Dfn l.prog w K mg base 1 "ways_right_by_bits" p_ways_right_by_bits (spW wBits) := ok_wbits A_ways_right_by_bits mz_range g_comb gc_COPIES
  have D_ww : Dfn l.prog w K mg base 1 "ways_right_by_words" p_ways_right_by_words (spW wWords) := ok_wwords A_ways_right_by_words g_comb gc_COPIES
  have D_wr : Dfn l.prog w K mg base 1 "ways_wrong_by_words" p_ways_wrong_by_words (spW fun b m => wWrong b m (m / 2)) := ok_wwrong A_ways_wrong_by_words mz_range g_comb gc_COPIES
  have D_wo : Dfn l.prog w K mg base 2 "ways_of" p_ways_of spWays := ok_waysof A_ways_of D_wb D_ww D_wr g_comb gc_COPIES
  have D_ll : Dfn l.prog w K mg base 1 "_law_lists" p__law_lists spLlists := ok_llists A__law_lists mz_range
  have D_lo : Dfn l.prog w K mg base 2 "_law_outcome" p__law_outcome (spLout K) := ok_lout A__law_outcome mz_range mz_sum mz_all mz_len mz_int
  exact ok_law F_law D_num D_wo D_ll D_lo mz_range mz_int mz_len mz_tuple
end My_farword_k21_numbers_of_ways
open PySem PySem.W PyProof.Rows
set_option maxRecDepth 100000 in
set_option maxHeartbeats 0 in
theorem My_top : PySem.Challenge.rw_farword_k21_numbers_of_ways.Holds := by
  w_on; o_law; k_head; (case hw => w_witness2)
  k_fill
  refine L2.walk_of (l := PySem.Challenge.rw_farword_k21_numbers_of_ways) (n := 63) (k := 3) (x := "script") (CX := fun _ => L2.CX0) (sp := fun w => My_farword_k21_numbers_of_ways.spLaw _) rfl (by decide) rfl ⟨rfl, by decide, by decide⟩ (fun w h Y => PySem.W.kIn_of Y) ?F (fun _ _ a ns hl _ hS => ⟨a, ns, rfl, hS, hl, fun _ => rfl⟩) (fun _ _ _ _ _ h => h)
  case F =>
    intro w mg fa h KX G hmg
    refine' My_farword_k21_numbers_of_ways.all_mk KX G hmg ?a0 ?l0 ?c0 ?k0 ?a1 ?l1 ?c1 ?k1 ?a2 ?l2 ?c2 ?k2 ?a3 ?l3 ?c3 ?k3 ?a4 ?l4 ?c4 ?k4 ?a5 ?l5 ?c5 ?k5 ?a6 ?l6 ?c6 ?k6 ?a7 ?l7 ?c7 ?k7 ?a8 ?l8 ?c8 ?k8 ?z_abs ?z_all ?z_int ?z_len ?z_max ?z_range ?z_sum ?z_tuple ?z_COPIES ?z_comb
    (case a0 => k_is)
    (case l0 => k_is)
    (case c0 => k_is)
    (case k0 => k_is)
    (case a1 => k_is)
    (case l1 => k_is)
    (case c1 => k_is)
    (case k1 => k_is)
    (case a2 => k_is)
    (case l2 => k_is)
    (case c2 => k_is)
    (case k2 => k_is)
    (case a3 => k_is)
    (case l3 => k_is)
    (case c3 => k_is)
    (case k3 => k_is)
    (case a4 => k_is)
    (case l4 => k_is)
    (case c4 => k_is)
    (case k4 => k_is)
    (case a5 => k_is)
    (case l5 => k_is)
    (case c5 => k_is)
    (case k5 => k_is)
    (case a6 => k_is)
    (case l6 => k_is)
    (case c6 => k_is)
    (case k6 => k_is)
    (case a7 => k_is)
    (case l7 => k_is)
    (case c7 => k_is)
    (case k7 => k_is)
    (case a8 => k_is)
    (case l8 => k_is)
    (case c8 => k_is)
    (case k8 => k_is)
    (case z_abs => k_is)
    (case z_all => k_is)
    (case z_int => k_is)
    (case z_len => k_is)
    (case z_max => k_is)
    (case z_range => k_is)
    (case z_sum => k_is)
    (case z_tuple => k_is)
    (case z_COPIES => k_is)
    (case z_comb => k_is)
theorem PySem.Challenge.cw_farword_k21_numbers_of_ways_holds : PySem.Challenge.rw_farword_k21_numbers_of_ways.Holds :=
  My_top
