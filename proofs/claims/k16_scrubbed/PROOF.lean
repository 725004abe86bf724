import PyProof.Rows.All
import Wide.All
import OpenK.AllK
import Wide.FinOn
import HandS.ForMost
import HandS.Evl
import HandS.IsInst
import HandS.WideBits
import KE.KSortedM
import HandS.Zip
import HandS.Gcd
import HandS.Codes
import KE.KMathGC
import KE.KTupSum
import KE.DataMinMax
import HandS.Nested
import HandS.ClsMeth
import HandS.ExcInit
import HandS.FStr
import KE.KExcSuper
import KE.KSuperObj
import HandS.ForExc
import HandS.ExcField
import HandS.ExcIs
import KE.KIsAll
import KE.KTryMore
import HandS.NoneIn
import HandS.SetFor
import HandS.Dict
import HandS.Conv
import KE.RegKIsAll
import KE.RegKSuper
import PySem.Challenge.RW_farword_k16_scrubbed_cells
set_option Elab.async false
set_option linter.all false
set_option maxRecDepth 100000
set_option maxHeartbeats 4000000
/-! ### Common ground of my proofs: a def as the law's text has it, what expressions evaluate to -/
namespace My
open PySem PySem.Spec PyProof.Rows L2 Evl

section
variable {P : Program} {w : World} {K : PySem.W.Frag} {mg : Str → Option Value} {base : Heap}
/-- the def st stands under its name -/
def At (K : PySem.W.Frag) (mg : Str → Option Value) (x : Str) (st : Stmt) : Prop := ∃ f fd, Fun K x x st f fd ∧ mg x = some (.ref f)
/-- a def of the module that keeps a promise -/
structure Dfn (P : Program) (w : World) (K : PySem.W.Frag) (mg : Str → Option Value) (base : Heap) (k : Nat) (x : Str) (ps : List Str) (sp : Sp) : Prop where
  ex : ∃ (f : Addr) (fd : FuncData), FnOk P w K mg base CX0 k f fd ps sp ∧ mg x = some (.ref f) ∧ PySem.W.keepIn K (.ref f) = true ∧ Binds K fd ps []
theorem dfn_ok {x : Str} {st : Stmt} {N ps : List Str} {k : Nat} {sp : Sp} (A : At K mg x st) (S : FnScope N ps (defScope st))
    (hb : ∀ (kV doc pm : Value) (an : Option Addr) (cdv ct : Value) (us : List Value), us.length = ps.length → bindArgs (PySem.W.fnOf x x (defArgs st) (defBody st) (defScope st) .none kV doc pm an cdv ct) ⟨us, []⟩ = pure (ps.zip us))
    (len : ∀ vs H Q E, sp vs H Q E → vs.length = ps.length)
    (hbody : ∀ (f : Addr) (cdv : Value) (A : Around) (outer : List Env) (s : Shared) (H : Hp) (vs : List V) (Q : VK) (E : XK), Room k (A.deeper (envOfC x (defScope st) s.heap.objs.size f cdv)) → sp vs H Q E →
      ∃ t, PSs (cxOf CX0 P w K mg base N x (defScope st) f cdv A outer s H E).nox (defBody st) t ∧ t { nx := fun _ H' => Q .non H', rt := Q } (start N vs) H) : Dfn P w K mg base (k + 1) x ps sp := by
  obtain ⟨f, fd, F, hm⟩ := A
  exact ⟨f, fd, F.ok S len (hbody f), hm, F.kp, F.binds hb⟩
theorem Dfn.mono {x : Str} {ps : List Str} {j k : Nat} {sp : Sp} (D : Dfn P w K mg base j x ps sp) (h : j ≤ k) : Dfn P w K mg base k x ps sp := by
  obtain ⟨f, fd, F, r⟩ := D.ex
  exact ⟨f, fd, F.mono h, r⟩
end
section
variable {X : Cx} {k : Nat} {x : Str} {ps : List Str} {sp : Sp} {e : Expr} {es : List Expr} {p pos : Pos} {t : TA}
theorem pe_d (D : Dfn X.prog X.w X.K X.mg X.base k x ps sp) (hr : Room k X.A) (ha : PA X (e :: es) t) (hg : Gl X x := by rfl) (hdb : (x == ("__debug__" : Str)) = false := by decide)
    (he : starEach (e :: es) X.env = (false, eval e X.env) :: starEach es X.env := by rfl) (hpl : (backTo pos (starEach es X.env)).any (·.1) = false := by rfl) : PE X (.Call (.Name x p) (e :: es) [] pos) (tCall sp [] E0 t) := by
  obtain ⟨f, fd, F, hm, hk, hb⟩ := D.ex
  exact pe_call F hr hg hm hk hb .nil pass0 ha hdb he hpl
end

section
variable {K : PySem.W.Frag} {σ : L2.St} {H H' : Hp} {ta tb te tx : TE} {t u : TT} {x y z v : V} {r : R2}
/-! ### what evaluates to what, more of it -/
theorem ev_abs {i : Int} (h : EvA (tCons te tNil) σ H [.int i]) : Ev (tCB (fun xs H Q => ∃ i, xs = [.int i] ∧ Q (.int (if i < 0 then -i else i)) H) (tCons te tNil)) σ H (.int (if i < 0 then -i else i)) :=
  ev_cb h fun H1 _ _ q => ⟨i, rfl, q H1 (Ex.refl H1)⟩
theorem ev_int {i : Int} {ta : TA} (h : EvA ta σ H [.int i]) : Ev (tCB (fun xs H Q => (∃ i, xs = [.int i] ∧ Q (.int i) H) ∨ ∃ k, xs = [.bl k] ∧ Q (.int (if k then 1 else 0)) H) ta) σ H (.int i) :=
  ev_cb h fun H1 _ _ q => Or.inl ⟨i, rfl, q H1 (Ex.refl H1)⟩
theorem ev_intB {k : Bool} {ta : TA} (h : EvA ta σ H [.bl k]) : Ev (tCB (fun xs H Q => (∃ i, xs = [.int i] ∧ Q (.int i) H) ∨ ∃ k, xs = [.bl k] ∧ Q (.int (if k then 1 else 0)) H) ta) σ H (.int (if k then 1 else 0)) :=
  ev_cb h fun H1 _ _ q => Or.inr ⟨k, rfl, q H1 (Ex.refl H1)⟩
theorem ev_ite {b : Bool} {v1 v2 : V} (h : EvT t σ H b) (h1 : Ev ta σ H v1) (h2 : Ev tb σ H v2) : Ev (tIf t ta tb) σ H (if b then v1 else v2) := by
  cases b with
  | true => exact ev_if h (fun _ => h1) fun e => Bool.noConfusion e
  | false => exact ev_if h (fun e => Bool.noConfusion e) fun _ => h2
theorem rv_chain {r r' : R2} {tc : TE} {b c : Bool} (ha : Ev ta σ H x) (hb : Ev tb σ H y) (hr : RV r x y H (.bl b)) (hc : b = true → Ev tc σ H z) (hr' : b = true → RV r' y z H (.bl c)) : Ev (tChain r r' ta tb tc) σ H (.bl (b && c)) := fun H1 e Q q =>
  ha H1 e _ fun H2 e2 => hb H2 (e.trans e2) _ fun H3 e3 => hr H3 ((e.trans e2).trans e3) _ fun H4 e4 => ⟨b, rfl, by
    cases b with
    | true =>
      have e5 := ((e.trans e2).trans e3).trans e4
      exact iteT (hc rfl H4 e5 _ fun H5 e6 => hr' rfl H5 (e5.trans e6) Q fun H6 e7 => q H6 ((((e2.trans e3).trans e4).trans e6).trans e7))
    | false => exact iteF (q H4 ((e2.trans e3).trans e4))⟩
/-- tuple(..) of a list or a tuple -/
def rTupS (K : PySem.W.Frag) : List V → Hp → VK → Prop := fun xs H Q => ∃ p ys, xs = [.ref p] ∧ ((SqL K H p ys ∧ ∀ l, H l = none → Q (.ref l) (upd H l (.tup ys))) ∨ (SqT K H p ys ∧ Q (.ref p) H))
def rTupT (K : PySem.W.Frag) : List V → Hp → VK → Prop := fun xs H Q => ∃ a ys, xs = [.ref a] ∧ SqT K H a ys ∧ Q (.ref a) H
/-- a list at an address evaluates to itself; a new list as a value somewhere -/
theorem EvL.any {xs : List V} (h : EvL te σ H xs) : ∀ H1, Ex H H1 → ∀ Q : VK, (∀ p H2, H2 p = some (.lst xs) → Ex H1 H2 → Q (.ref p) H2) → te σ H1 Q := fun H1 e Q q => h H1 e Q fun p H2 _ e2 h2 => q p H2 h2 e2
end
/-! ### new lists of which only a property is known -/
section
variable {K : PySem.W.Frag} {σ : L2.St} {H H' : Hp} {ta tb te tx tl : TE} {t u : TT} {x y z v : V} {r : R2} {D : Ends} {tu tw tz : TS} {g : TG}
def EvP (te : TE) (σ : L2.St) (H : Hp) (P : List V → Prop) : Prop := ∀ H1, Ex H H1 → ∀ Q : VK, (∀ xs p H2, P xs → H1 p = none → Ex H1 H2 → H2 p = some (.lst xs) → Q (.ref p) H2) → te σ H1 Q
def SpP (sp : Sp) (vs : List V) (H : Hp) (P : List V → Prop) : Prop := ∀ H1, Ex H H1 → ∀ Q : VK, (∀ xs p H2, P xs → H1 p = none → Ex H1 H2 → H2 p = some (.lst xs) → Q (.ref p) H2) → ∀ E : XK, sp vs H1 Q E
theorem evP_call {sp : Sp} {dvs vs : List V} {E : XK} {ta : TA} {P : List V → Prop} (h : EvA ta σ H vs) (hs : SpP sp (vs ++ dvs) H P) : EvP (tCall sp dvs E ta) σ H P := fun H1 e Q q =>
  h H1 e _ fun H2 e2 => hs H2 (e.trans e2) Q (fun xs p H3 hP hp e3 h3 => q xs p H3 hP (fresh_back e2 hp) (e2.trans e3) h3) E
theorem q_asgP {i : Nat} {P : List V → Prop} (h : EvP te σ H P) (k : ∀ xs p H1, P xs → H p = none → Ex H H1 → H1 p = some (.lst xs) → tz D (σ.set i (some (.ref p))) H1) : tSeq (tAsg te (gName i)) tz D σ H :=
  h H (Ex.refl H) _ fun xs p H1 hP hp e h1 => k xs p H1 hP hp e h1
theorem s_forP {P : List V → Prop} (h : EvP tl σ H P) (Pv : List V → Addr → Nat → L2.St → Hp → Prop) (h0 : ∀ xs p H1, P xs → H p = none → Ex H H1 → H1 p = some (.lst xs) → Pv xs p 0 σ H1)
    (hl : ∀ xs p i σ' H', i ≤ xs.length → Pv xs p i σ' H' → SqL K H' p xs) (hs : ∀ xs p i x σ' H', xs[i]? = some x → Pv xs p i σ' H' → g x σ' H' fun σ2 H2 => tu { D with nx := Pv xs p (i + 1), ct := Pv xs p (i + 1), bk := D.nx } σ2 H2)
    (hd : ∀ xs p σ' H', Pv xs p xs.length σ' H' → D.nx σ' H') : tFor (iList K tl) g tu D σ H :=
  h H (Ex.refl H) _ fun xs p H1 hP hp e h1 => ⟨p, rfl, ⟨xs, sq_of h1⟩, for_list (Pv xs p) (h0 xs p H1 hP hp e h1) (hl xs p) (hs xs p) (hd xs p)⟩
theorem cut_take (xs : List V) (k : Nat) : cutV xs none (some (k : Int)) = xs.take k := by
  unfold cutV
  rw [HT.sIx_none, HT.sIx_nat, List.drop_zero, Nat.sub_zero]
  by_cases h : k ≤ xs.length
  · rw [Nat.min_eq_left h]
  · rw [Nat.min_eq_right (by omega), List.take_of_length_le (Nat.le_refl _), List.take_of_length_le (by omega)]
theorem ev_max1 {i j : Int} {ta : TA} (h : EvA ta σ H [.int i, .int j]) : Ev (tCB (fun xs H Q => ∃ i j, xs = [.int i, .int j] ∧ Q (.int (if j > i then j else i)) H) ta) σ H (.int (if j > i then j else i)) :=
  ev_cb h fun H1 _ _ q => ⟨i, j, rfl, q H1 (Ex.refl H1)⟩
theorem ev_lenL {p : Addr} {xs : List V} (ha : Ev ta σ H (.ref p)) (h : SqL K H p xs) : Ev (tCB (rLenS K) (tCons ta tNil)) σ H (.int (xs.length : Int)) := fun H1 e Q q =>
  ha H1 e _ fun H2 e2 => ⟨p, xs, rfl, Or.inl (ex_l (e.trans e2) h), q H2 e2⟩
theorem int_at {ns : List Int} {i : Nat} {x : V} (h : (ns.map V.int)[i]? = some x) : ∃ n, ns[i]? = some n ∧ x = .int n := by
  rw [List.getElem?_map] at h
  cases e : ns[i]? with
  | none => rw [e] at h; cases h
  | some n => rw [e] at h; exact ⟨n, rfl, (Option.some.inj h).symm⟩
end
/-! ### data that are compared as wholes -/
def Lay (d : PyData) (n : Nat) : Prop := d.canLay0 = true ∧ d.depth ≤ n
def LayA (ds : List PyData) (n : Nat) : Prop := PyData.canLayAll0 ds = true ∧ PyData.depthAll ds ≤ n
theorem Lay.int (i : Int) {n : Nat} : Lay (.int i) n := ⟨by simp [PyData.canLay0], by simp [PyData.depth]⟩
theorem Lay.bool (b : Bool) {n : Nat} : Lay (.bool b) n := ⟨by simp [PyData.canLay0], by simp [PyData.depth]⟩
theorem Lay.str {x : Str} {n : Nat} (h : PyData.strOk x = true) : Lay (.str x) n := ⟨by simp [PyData.canLay0, h], by simp [PyData.depth]⟩
theorem Lay.none {n : Nat} : Lay .none n := ⟨by simp [PyData.canLay0], by simp [PyData.depth]⟩
theorem Lay.list {ds : List PyData} {n : Nat} (h : LayA ds n) : Lay (.list ds) (n + 1) := ⟨by simpa [PyData.canLay0] using h.1, by have := h.2; simp only [PyData.depth]; omega⟩
theorem Lay.tuple {ds : List PyData} {n : Nat} (h : LayA ds n) : Lay (.tuple ds) (n + 1) := ⟨by simpa [PyData.canLay0] using h.1, by have := h.2; simp only [PyData.depth]; omega⟩
theorem LayA.nil {n : Nat} : LayA [] n := ⟨by simp [PyData.canLayAll0], by simp [PyData.depthAll]⟩
theorem LayA.cons {d : PyData} {ds : List PyData} {n : Nat} (h : Lay d n) (h2 : LayA ds n) : LayA (d :: ds) n :=
  ⟨by simp [PyData.canLayAll0, h.1, h2.1], by have a := h.2; have b := h2.2; simp only [PyData.depthAll]; omega⟩
theorem LayA.map {α : Type} {f : α → PyData} {n : Nat} : ∀ {xs : List α}, (∀ x ∈ xs, Lay (f x) n) → LayA (xs.map f) n
  | [], _ => LayA.nil
  | _ :: xs, h => LayA.cons (h _ List.mem_cons_self) (LayA.map fun x hx => h x (List.mem_cons_of_mem _ hx))
theorem Lay.sh {d : PyData} {n : Nat} (h : Lay d n) (hn : n ≤ 64 := by decide) : SeqAt.shaped d = true := by
  unfold SeqAt.shaped
  rw [h.1, decide_eq_true (Nat.le_trans h.2 hn)]
  rfl
section
variable {K : PySem.W.Frag} {H H' : Hp}
mutual
theorem dp_ex (e : Ex H H') : ∀ {v : V} {d : PyData}, Dp K H v d → Dp K H' v d
  | _, _, .non => .non
  | _, _, .bl b => .bl b
  | _, _, .int i => .int i
  | _, _, .str x => .str x
  | _, _, .lst h a => .lst (ex_l e h) (dpa_ex e a)
  | _, _, .tup h a => .tup (ex_t e h) (dpa_ex e a)
theorem dpa_ex (e : Ex H H') : ∀ {vs : List V} {ds : List PyData}, DpAll K H vs ds → DpAll K H' vs ds
  | _, _, .nil => .nil
  | _, _, .cons h t => .cons (dp_ex e h) (dpa_ex e t)
end
theorem dpa_ints : ∀ ns : List Int, DpAll K H (ns.map V.int) (ns.map PyData.int)
  | [] => .nil
  | n :: r => .cons (.int n) (dpa_ints r)
theorem dp_ints {a : Addr} {ns : List Int} (h : SqL K H a (ns.map V.int)) : Dp K H (.ref a) (.list (ns.map PyData.int)) := .lst h (dpa_ints ns)
theorem dp_intsT {a : Addr} {ns : List Int} (h : SqT K H a (ns.map V.int)) : Dp K H (.ref a) (.tuple (ns.map PyData.int)) := .tup h (dpa_ints ns)
theorem lay_ints (ns : List Int) {n : Nat} : Lay (.list (ns.map PyData.int)) (n + 1) := .list (.map fun _ _ => .int _)
theorem lay_intsT (ns : List Int) {n : Nat} : Lay (.tuple (ns.map PyData.int)) (n + 1) := .tuple (.map fun _ _ => .int _)
theorem rv_neD {x y : V} {d e : PyData} (hx : Dp K H x d) (hy : Dp K H y e) (sd : SeqAt.shaped d = true) (se : SeqAt.shaped e = true) : RV (rNeD K) x y H (.bl (!PyData.eqv d e)) := fun H1 e1 Q q => ⟨d, e, dp_ex e1 hx, dp_ex e1 hy, sd, se, q H1 (Ex.refl H1)⟩
theorem rv_eqD {x y : V} {d e : PyData} (hx : Dp K H x d) (hy : Dp K H y e) (sd : SeqAt.shaped d = true) (se : SeqAt.shaped e = true) : RV (rEqD K) x y H (.bl (PyData.eqv d e)) := fun H1 e1 Q q => ⟨d, e, dp_ex e1 hx, dp_ex e1 hy, sd, se, q H1 (Ex.refl H1)⟩
theorem eqv_self {d : PyData} (h : SeqAt.shaped d = true) : PyData.eqv d d = true := SeqAt.eqv_refl d (SeqAt.canLay_of_shaped h)
/-- the same data: != is False, == is True -/
theorem rv_neS {x y : V} {d : PyData} (hx : Dp K H x d) (hy : Dp K H y d) (sd : SeqAt.shaped d = true) : RV (rNeD K) x y H (.bl false) := fun H1 e1 Q q => ⟨d, d, dp_ex e1 hx, dp_ex e1 hy, sd, sd, by rw [eqv_self sd]; exact q H1 (Ex.refl H1)⟩
theorem rv_eqS {x y : V} {d : PyData} (hx : Dp K H x d) (hy : Dp K H y d) (sd : SeqAt.shaped d = true) : RV (rEqD K) x y H (.bl true) := fun H1 e1 Q q => ⟨d, d, dp_ex e1 hx, dp_ex e1 hy, sd, sd, by rw [eqv_self sd]; exact q H1 (Ex.refl H1)⟩
end
/-! ### lists of ints: joined, filtered, looked into -/
section
variable {K : PySem.W.Frag} {σ : L2.St} {H H' : Hp} {ta tb te tx tl : TE} {t u : TT} {x y z v : V} {r : R2}
theorem el_cat {xs ys : List V} (ha : EvL ta σ H xs) (hb : EvL tb σ H ys) (hz : xs.length + ys.length ≤ 100000) : EvL (tOp rCat ta tb) σ H (xs ++ ys) := fun H1 e Q q =>
  ha H1 e _ fun p H2 np e2 hp => hb H2 (e.trans e2) _ fun p' H3 np' e3 hp' => ⟨p, p', xs, ys, rfl, rfl, e3 _ _ hp, hp', sz_of hz, fun l nl => q l _ (fresh_back (e2.trans e3) nl) ((e2.trans e3).trans (Ex.new nl)) upd_same⟩
theorem el_is {xs ys : List V} (h : EvL te σ H xs) (e : xs = ys) : EvL te σ H ys := by
  rw [← e]
  exact h
theorem inV_ints (i : Int) : ∀ ns : List Int, inV (.int i) (ns.map V.int) = decide (i ∈ ns)
  | [] => rfl
  | n :: r => by
    show ((n == i) || inV (.int i) (r.map V.int)) = decide (i ∈ n :: r)
    rw [inV_ints i r]
    by_cases h : n = i
    · subst h
      simp
    · have h2 : ¬ i = n := fun e => h e.symm
      simp [h, h2]
theorem flat_ints : ∀ ns : List Int, (ns.map V.int).all flatV = true
  | [] => rfl
  | n :: r => flat_ints r
theorem rv_inI {neg : Bool} {p : Addr} {i : Int} {ns : List Int} (h : SqL K H p (ns.map V.int)) : RV (rIn K neg) (.int i) (.ref p) H (.bl (if neg then !decide (i ∈ ns) else decide (i ∈ ns))) := by
  rw [← inV_ints]
  exact rv_inL h rfl (flat_ints ns)
theorem rv_isI {p : Addr} {i : Int} {ns : List Int} (h : SqL K H p (ns.map V.int)) : RV (rIn K false) (.int i) (.ref p) H (.bl (decide (i ∈ ns))) := rv_inI (neg := false) h
theorem rv_niI {p : Addr} {i : Int} {ns : List Int} (h : SqL K H p (ns.map V.int)) : RV (rIn K true) (.int i) (.ref p) H (.bl (!decide (i ∈ ns))) := rv_inI (neg := true) h
theorem given_ints (n : Nat) (f : Nat → Bool) (g : Nat → Int) : given n f (fun i => V.int (g i)) = (((List.range n).filter f).map g).map V.int := by
  unfold given
  rw [List.map_map]
  rfl
theorem given_eq {n : Nat} {f f' : Nat → Bool} {g g' : Nat → V} (hf : ∀ i, i < n → f i = f' i) (hg : ∀ i, i < n → f' i = true → g i = g' i) : given n f g = given n f' g' := by
  unfold given
  rw [List.filter_congr fun i hi => hf i (List.mem_range.mp hi)]
  exact List.map_congr_left fun i hi => hg i (List.mem_range.mp (List.mem_filter.mp hi).1) (List.mem_filter.mp hi).2
theorem ev_isL {p : Addr} {xs : List V} (ha : Ev ta σ H (.ref p)) (h : H p = some (.lst xs)) : Ev (tCB (rIsi K) (tCons ta (tCons (tC (.ty "list")) tNil))) σ H (.bl true) :=
  ev_cb (ea_cons ha (ea_cons ev_c ea_nil)) fun H1 e _ q => ⟨.ref p, .ty "list", .type "list", .type "list", true, rfl, .ty _, .base (.lst (e _ _ h)), kit_ty (by decide +kernel), q H1 (Ex.refl H1)⟩
theorem ev_allL {bs : List Bool} {ta : TE} (ha : EvL ta σ H (bs.map V.bl)) : Ev (tCB (rAll K) (tCons ta tNil)) σ H (.bl (bs.all id)) := fun H1 e Q q =>
  ha H1 e _ fun p H2 _ e2 hp => ⟨p, bs, rfl, sq_of hp, q H2 e2⟩
theorem ev_sumL {ns : List Int} {ta : TE} (ha : EvL ta σ H (ns.map V.int)) : Ev (tCB (rSum K) (tCons ta tNil)) σ H (.int ns.sum) := fun H1 e Q q =>
  ha H1 e _ fun p H2 _ e2 hp => ⟨p, ns, rfl, sq_of hp, q H2 e2⟩
/-- len of a new list -/
theorem ev_lenN2 {xs : List V} {ta : TE} (ha : EvL ta σ H xs) : Ev (tCB (rLenS K) (tCons ta tNil)) σ H (.int (xs.length : Int)) := fun H1 e Q q =>
  ha H1 e _ fun p H2 _ e2 h2 => ⟨p, xs, rfl, Or.inl (sq_of h2), q H2 e2⟩
/-- an item of a list that is made on the spot -/
theorem ev_ixN {xs : List V} {i : Int} (ha : EvL ta σ H xs) (hb : Ev tb σ H (.int i)) (hx : atI xs i = some v) : Ev (tOp (rIxL K) ta tb) σ H v :=
  ev_opL1 ha (fun H1 e => hb.mono e) fun p H1 hp _ => rv_ixL (sq_of hp) hx
theorem ev_ixI {p : Addr} {xs : List V} {i : Int} (ha : Ev ta σ H (.ref p)) (hb : Ev tb σ H (.int i)) (h : SqL K H p xs) (hx : atI xs i = some v) : Ev (tOp (rIxL K) ta tb) σ H v := ev_op ha hb (rv_ixL h hx)
end
/-! ### values of which only a property is known -/
section
variable {K : PySem.W.Frag} {σ : L2.St} {H H' : Hp} {ta tb te tx tl : TE} {t u : TT} {x y z v : V} {r : R2} {D : Ends} {tu tw tz : TS} {P : V → Hp → Prop}
def EvG (te : TE) (σ : L2.St) (H : Hp) (P : V → Hp → Prop) : Prop := ∀ H1, Ex H H1 → ∀ Q : VK, (∀ v H2, Ex H1 H2 → P v H2 → Q v H2) → te σ H1 Q
theorem q_asgG {i : Nat} (h : EvG te σ H P) (k : ∀ v H1, Ex H H1 → P v H1 → tz D (σ.set i (some v)) H1) : tSeq (tAsg te (gName i)) tz D σ H := h H (Ex.refl H) _ fun v H1 e p => k v H1 e p
theorem s_asgG {i : Nat} (h : EvG te σ H P) (k : ∀ v H1, Ex H H1 → P v H1 → D.nx (σ.set i (some v)) H1) : tAsg te (gName i) D σ H := h H (Ex.refl H) _ fun v H1 e p => k v H1 e p
theorem s_retG (h : EvG te σ H P) (k : ∀ v H1, Ex H H1 → P v H1 → D.rt v H1) : tRet te D σ H := h H (Ex.refl H) _ fun v H1 e p => k v H1 e p
theorem EvG.imp {P' : V → Hp → Prop} (h : EvG te σ H P) (i : ∀ v H1, Ex H H1 → P v H1 → P' v H1) : EvG te σ H P' := fun H1 e Q q => h H1 e Q fun v H2 e2 p => q v H2 e2 (i v H2 (e.trans e2) p)
theorem EvL.g {xs : List V} (h : EvL te σ H xs) : EvG te σ H (fun v H' => ∃ p, v = .ref p ∧ H p = none ∧ H' p = some (.lst xs)) := fun H1 e Q q => h H1 e Q fun p H2 np e2 hp => q _ H2 e2 ⟨p, rfl, fresh_back e np, hp⟩
theorem EvU.g {xs : List V} (h : EvU te σ H xs) : EvG te σ H (fun v H' => ∃ p, v = .ref p ∧ H p = none ∧ H' p = some (.tup xs)) := fun H1 e Q q => h H1 e Q fun p H2 np e2 hp => q _ H2 e2 ⟨p, rfl, fresh_back e np, hp⟩
theorem Ev.g (h : Ev te σ H v) : EvG te σ H (fun v' _ => v' = v) := fun H1 e Q q => h H1 e Q fun H2 e2 => q _ H2 e2 rfl
/-- a list, a tuple that is made of two values -/
theorem evG_lst2 {P1 P2 : V → Hp → Prop} (h1 : EvG ta σ H P1) (m1 : ∀ v H1 H2, Ex H1 H2 → P1 v H1 → P1 v H2) (h2 : ∀ v H1, Ex H H1 → P1 v H1 → EvG tb σ H1 P2) (m2 : ∀ v H1 H2, Ex H1 H2 → P2 v H1 → P2 v H2) :
    EvG (tLst (tCons ta (tCons tb tNil))) σ H (fun v H' => ∃ p a b, v = .ref p ∧ H p = none ∧ H' p = some (.lst [a, b]) ∧ P1 a H' ∧ P2 b H') := fun H1 e Q q =>
  h1 H1 e _ fun a H2 e2 p1 => h2 a H2 (e.trans e2) p1 H2 (Ex.refl _) _ fun b H3 e3 p2 => ⟨(by decide : 2 ≤ sizeLine), fun p np =>
    q _ _ ((e2.trans e3).trans (Ex.new np)) ⟨p, a, b, rfl, fresh_back ((e.trans e2).trans e3) np, upd_same, m1 _ _ _ (e3.trans (Ex.new np)) p1, m2 _ _ _ (Ex.new np) p2⟩⟩
/-- data, told as a whole, of a value -/
theorem opG {P1 P2 : V → Hp → Prop} (h1 : EvG ta σ H P1) (m1 : ∀ v H1 H2, Ex H1 H2 → P1 v H1 → P1 v H2) (h2 : EvG tb σ H P2) (hr : ∀ a b H1, Ex H H1 → P1 a H1 → P2 b H1 → RV r a b H1 z) : Ev (tOp r ta tb) σ H z := fun H1 e Q q =>
  h1 H1 e _ fun a H2 e2 p1 => h2 H2 (e.trans e2) _ fun b H3 e3 p2 => hr a b H3 ((e.trans e2).trans e3) (m1 _ _ _ e3 p1) p2 H3 (Ex.refl _) Q fun H4 e4 => q H4 ((e2.trans e3).trans e4)
end
/-! ### enumerate; bits; the truth of a value -/
/-- a test that is a value's truth -/
def tTr (K : PySem.W.Frag) (ta : TE) : TT := fun σ H Q => ta σ H fun x H' => ∃ k, TruV K x H' k ∧ Q k H'
section
variable {K : PySem.W.Frag} {σ : L2.St} {H H' : Hp} {ta tb te tx tl : TE} {t u tt : TT} {x y z v : V} {r : R2} {D : Ends} {tu tw tz : TS}
theorem et_truI {i : Int} (h : Ev ta σ H (.int i)) : EvT (tTr K ta) σ H (i != 0) := fun H1 e _ q => h H1 e _ fun H2 e2 => ⟨i != 0, rfl, q H2 e2⟩
theorem s_forE {xs : List V} {j1 j2 : Nat} (h : EvL tl σ H xs) (Pv : Addr → Nat → L2.St → Hp → Prop) (h0 : ∀ p H1, H p = none → Ex H H1 → H1 p = some (.lst xs) → Pv p 0 σ H1) (hl : ∀ p i σ' H', i ≤ xs.length → Pv p i σ' H' → SqL K H' p xs)
    (hs : ∀ p i x σ' H', xs[i]? = some x → Pv p i σ' H' → ∀ T, H' T = none → tu { D with nx := Pv p (i + 1), ct := Pv p (i + 1), bk := D.nx } ((σ'.set j1 (some (.int ((i : Nat) : Int)))).set j2 (some x)) (upd H' T (.tup [.int ((i : Nat) : Int), x])))
    (hd : ∀ p σ' H', Pv p xs.length σ' H' → D.nx σ' H') : tFor (iEnum K (tCons tl tNil)) (gTup K 2 (gCons (gName j1) (gCons (gName j2) gNil))) tu D σ H :=
  h H (Ex.refl H) _ fun p H1 np e h1 => ⟨p, xs, rfl, sq_of h1, fun i m σ' H' => m = xs.length - i ∧ i ≤ xs.length ∧ Pv p i σ' H', ⟨xs.length, by simp, Nat.zero_le _, h0 p H1 np e h1⟩, by
    rintro i m σ' H' ⟨rfl, hi, pp⟩
    have q := hl p i σ' H' hi pp
    by_cases hlt : i < xs.length
    · refine .inr ⟨⟨xs, xs[i], q, by simp [hlt]⟩, Pv p (i + 1), fun σ2 H2 p' => ⟨xs.length - (i + 1), by omega, rfl, hlt, p'⟩, fun v H2 y => ?_⟩
      obtain ⟨T, x, rfl, nT, rfl, hx⟩ := y
      exact ⟨T, _, rfl, st_of upd_same, rfl, _, _, rfl, _, _, rfl, rfl, hs p i x σ' H' (hx xs q) pp T nT⟩
    · have e : i = xs.length := by omega
      subst e
      exact .inl ⟨⟨xs, q, Nat.le_refl _⟩, hd p σ' H' pp⟩⟩
theorem q_forE {xs : List V} {j1 j2 : Nat} (h : EvL tl σ H xs) (Pv : Addr → Nat → L2.St → Hp → Prop) (h0 : ∀ p H1, H p = none → Ex H H1 → H1 p = some (.lst xs) → Pv p 0 σ H1) (hl : ∀ p i σ' H', i ≤ xs.length → Pv p i σ' H' → SqL K H' p xs)
    (hs : ∀ p i x σ' H', xs[i]? = some x → Pv p i σ' H' → ∀ T, H' T = none → tu { D with nx := Pv p (i + 1), ct := Pv p (i + 1), bk := tz D } ((σ'.set j1 (some (.int ((i : Nat) : Int)))).set j2 (some x)) (upd H' T (.tup [.int ((i : Nat) : Int), x])))
    (hd : ∀ p σ' H', Pv p xs.length σ' H' → tz D σ' H') : tSeq (tFor (iEnum K (tCons tl tNil)) (gTup K 2 (gCons (gName j1) (gCons (gName j2) gNil))) tu) tz D σ H :=
  s_forE (D := { D with nx := tz D }) h Pv h0 hl hs hd
/-- [e for i, x in enumerate(new list) if t] -/
theorem el_lcE {xs : List V} {j1 j2 : Nat} {vs : List Nat} (f : Nat → Bool) (g : Nat → V) (h : EvL tl σ H xs) (hz : xs.length ≤ 40000) (hw : ∀ x y, wipe (((wipe σ vs).set j1 (some x)).set j2 (some y)) vs = wipe σ vs)
    (ht : ∀ (i : Nat) (x : V) H1, Ex H H1 → xs[i]? = some x → EvT tt (((wipe σ vs).set j1 (some (.int (i : Int)))).set j2 (some x)) H1 (f i)) (he : ∀ (i : Nat) (x : V) H1, Ex H H1 → xs[i]? = some x → f i = true → Ev te (((wipe σ vs).set j1 (some (.int (i : Int)))).set j2 (some x)) H1 (g i)) :
    EvL (tLc (iEnum K (tCons tl tNil)) (gTup K 2 (gCons (gName j1) (gCons (gName j2) gNil))) tt te vs) σ H (given xs.length f g) := fun H0 e Q q => h H0 e _ fun a H1 na e1 hx => ⟨a, xs, rfl, sq_of hx, fun Dl hD => by
  refine ⟨fun i m H' => m = xs.length - i ∧ i ≤ xs.length ∧ Cw H1 f g Dl i H', ⟨xs.length, by simp, Nat.zero_le _, hD, Ex.new hD, upd_same⟩, ?_⟩
  rintro i m H' ⟨rfl, hi, pp⟩
  have qx : SqL K H' a xs := sq_of (pp.2.1 _ _ hx)
  by_cases hlt : i < xs.length
  · refine .inr ⟨⟨xs, xs[i], qx, by simp [hlt]⟩, Cw H1 f g Dl (i + 1), fun H2 p' => ⟨xs.length - (i + 1), by omega, rfl, hlt, p'⟩, fun v H2 y => ?_⟩
    obtain ⟨T, x, rfl, nT, rfl, hxx⟩ := y
    have hix := hxx xs qx
    have hDT : Dl ≠ T := ne_of_none pp.2.2 nT
    have pp2 : Cw H1 f g Dl i (upd H' T (.tup [.int ((i : Nat) : Int), x])) := ⟨pp.1, pp.2.1.trans (Ex.new nT), by rw [upd_ne hDT]; exact pp.2.2⟩
    exact ⟨T, _, rfl, st_of upd_same, rfl, _, _, rfl, _, _, rfl, rfl, hw _ _, cw_turn pp2 (by omega) (ht i x H1 (e.trans e1) hix) (fun hf => he i x H1 (e.trans e1) hix hf)⟩
  · have e' : i = xs.length := by omega
    subst e'
    exact .inl ⟨⟨xs, qx, Nat.le_refl _⟩, q Dl H' (fresh_back e1 pp.1) (e1.trans pp.2.1) pp.2.2⟩⟩
theorem bitI (n p : Nat) : Builtin.bitAnd ((n : Int) / 2 ^ ((p : Int)).toNat) 1 = ((n.testBit p).toNat : Int) := by
  have e1 : ((n : Int) / 2 ^ ((p : Int)).toNat) = ((n / 2 ^ p : Nat) : Int) := by
    rw [Int.toNat_natCast]
    simp
  have e2 := Bits.bitAnd_mask (x := ((n / 2 ^ p : Nat) : Int)) 1 (Int.natCast_nonneg _)
  rw [e1]
  have e3 : ((2 : Int) ^ 1 - 1) = 1 := by decide
  rw [e3] at e2
  rw [e2, Nat.testBit_eq_decide_div_mod_eq]
  have h := Nat.mod_two_eq_zero_or_one (n / 2 ^ p)
  show (((n / 2 ^ p : Nat) : Int) % 2) = _
  rcases h with h | h
  · rw [decide_eq_false (by omega)]; show _ = (0 : Int); omega
  · rw [decide_eq_true h]; show _ = (1 : Int); omega
/-- n >> p & 1 -/
theorem ev_bit {n p : Nat} (ha : Ev ta σ H (.int (n : Int))) (hb : Ev tb σ H (.int (p : Int))) :
    Ev (tOp (rI0 fun i j => .int (Builtin.bitAnd i j)) (tOp (rI (fun _ j => 0 ≤ j) fun i j => .int (i / 2 ^ j.toNat)) ta tb) (tC (.int 1))) σ H (.int ((n.testBit p).toNat : Int)) := by
  have h := ev_op (ev_op ha hb (rv_I (C := fun _ j => 0 ≤ j) (g := fun i j => .int (i / 2 ^ j.toNat)) (Int.natCast_nonneg p))) (ev_c (v := .int 1)) (rv_I0 (g := fun i j => .int (Builtin.bitAnd i j)))
  rw [bitI] at h
  exact h
theorem et_bit {n p : Nat} (ha : Ev ta σ H (.int (n : Int))) (hb : Ev tb σ H (.int (p : Int))) :
    EvT (tTr K (tOp (rI0 fun i j => .int (Builtin.bitAnd i j)) (tOp (rI (fun _ j => 0 ≤ j) fun i j => .int (i / 2 ^ j.toNat)) ta tb) (tC (.int 1)))) σ H (n.testBit p) := et_is (et_truI (ev_bit ha hb)) (by cases n.testBit p <;> rfl)
theorem xorI (a b : Nat) : Builtin.bitXor (a : Int) (b : Int) = ((a ^^^ b : Nat) : Int) := by rw [Bits.bitXor_pp (Int.natCast_nonneg _) (Int.natCast_nonneg _)]; rfl
theorem orI (a b : Nat) : Builtin.bitOr (a : Int) (b : Int) = ((a ||| b : Nat) : Int) := by rw [Bits.bitOr_pp (Int.natCast_nonneg _) (Int.natCast_nonneg _)]; rfl
theorem andI (a b : Nat) : Builtin.bitAnd (a : Int) (b : Int) = ((a &&& b : Nat) : Int) := by
  unfold Builtin.bitAnd
  rw [decide_eq_true (Int.natCast_nonneg a), decide_eq_true (Int.natCast_nonneg b)]
  rfl
theorem ev_xor {a b : Nat} (ha : Ev ta σ H (.int (a : Int))) (hb : Ev tb σ H (.int (b : Int))) : Ev (tOp (rI0 fun i j => .int (Builtin.bitXor i j)) ta tb) σ H (.int ((a ^^^ b : Nat) : Int)) := by
  have h := ev_op ha hb (rv_I0 (g := fun i j => .int (Builtin.bitXor i j)))
  rw [xorI] at h
  exact h
theorem ev_or {a b : Nat} (ha : Ev ta σ H (.int (a : Int))) (hb : Ev tb σ H (.int (b : Int))) : Ev (tOp (rI0 fun i j => .int (Builtin.bitOr i j)) ta tb) σ H (.int ((a ||| b : Nat) : Int)) := by
  have h := ev_op ha hb (rv_I0 (g := fun i j => .int (Builtin.bitOr i j)))
  rw [orI] at h
  exact h
theorem ev_and {a b : Nat} (ha : Ev ta σ H (.int (a : Int))) (hb : Ev tb σ H (.int (b : Int))) : Ev (tOp (rI0 fun i j => .int (Builtin.bitAnd i j)) ta tb) σ H (.int ((a &&& b : Nat) : Int)) := by
  have h := ev_op ha hb (rv_I0 (g := fun i j => .int (Builtin.bitAnd i j)))
  rw [andI] at h
  exact h
/-- a << p -/
theorem ev_shl {a p : Nat} (ha : Ev ta σ H (.int (a : Int))) (hb : Ev tb σ H (.int (p : Int))) (h1 : a < 2 ^ 64) (h2 : p ≤ 1000000) : Ev (tOp (rI CPow fun i j => .int (i * 2 ^ j.toNat)) ta tb) σ H (.int ((a * 2 ^ p : Nat) : Int)) := by
  have h := ev_op ha hb (rv_I (C := CPow) (g := fun i j => .int (i * 2 ^ j.toNat)) ⟨by omega, by omega, by omega⟩)
  have e : ((a : Int) * 2 ^ ((p : Int)).toNat) = ((a * 2 ^ p : Nat) : Int) := by rw [Int.toNat_natCast]; simp
  rw [e] at h
  exact h
theorem ev_bits {n : Nat} (ha : Ev ta σ H (.int (n : Int))) : Ev (tBits ta) σ H (.int ((Builtin.Int.intBits (n : Int) : Nat) : Int)) := fun H1 e Q q => ha H1 e _ fun H2 e2 => ⟨_, rfl, q H2 e2⟩
end
theorem bitsN (n : Nat) : Builtin.Int.intBits (n : Int) = if n = 0 then 0 else n.log2 + 1 := by
  unfold Builtin.Int.intBits
  by_cases h : n = 0
  · subst h; rfl
  · have h2 : ¬ ((n : Int) == 0) = true := by simp; exact h
    rw [if_neg h2, if_neg h]
    rfl
theorem bits_lt (n : Nat) : n < 2 ^ Builtin.Int.intBits (n : Int) := by
  rw [bitsN]
  split
  · subst_vars; decide
  · exact Nat.lt_log2_self
theorem bits_le {n k : Nat} (h : n < 2 ^ k) : Builtin.Int.intBits (n : Int) ≤ k := by
  rw [bitsN]
  split
  · exact Nat.zero_le _
  · rename_i h0
    have := (Nat.log2_lt h0).mpr h
    omega
end My
set_option linter.all false
/-! ### coded words: the mathematics -/
namespace My
/-- what comes by adding without carrying -/
def sx (l : List Nat) : Nat := l.foldl (· ^^^ ·) 0
theorem sx_from : ∀ (l : List Nat) (a : Nat), l.foldl (· ^^^ ·) a = a ^^^ sx l
  | [], a => by show a = a ^^^ 0; rw [Nat.xor_zero]
  | b :: r, a => by
    show r.foldl (· ^^^ ·) (a ^^^ b) = a ^^^ r.foldl (· ^^^ ·) (0 ^^^ b)
    rw [sx_from r, sx_from r, Nat.zero_xor, Nat.xor_assoc]
theorem sx_cons (a : Nat) (l : List Nat) : sx (a :: l) = a ^^^ sx l := by
  show l.foldl (· ^^^ ·) (0 ^^^ a) = _
  rw [Nat.zero_xor, sx_from]
theorem sx_append (l r : List Nat) : sx (l ++ r) = sx l ^^^ sx r := by
  unfold sx
  rw [List.foldl_append, sx_from r]
  rfl
theorem sx_one (a : Nat) : sx [a] = a := by rw [sx_cons]; exact Nat.xor_zero a
/-- places flipped, one after another -/
def flip (r : Nat) (ps : List Nat) : Nat := ps.foldl (fun r p => r ^^^ 2 ^ p) r
theorem flip_append (r : Nat) (a b : List Nat) : flip r (a ++ b) = flip (flip r a) b := by unfold flip; rw [List.foldl_append]
theorem tb_flip1 (r p q : Nat) : (r ^^^ 2 ^ p).testBit q = (r.testBit q ^^ decide (p = q)) := by rw [Nat.testBit_xor, Nat.testBit_two_pow]
/-- bits up to m -/
def bs (m n : Nat) : List Nat := (List.range m).filter fun p => n.testBit p
theorem bs_succ (m n : Nat) : bs (m + 1) n = bs m n ++ (if n.testBit m then [m] else []) := by
  unfold bs
  rw [List.range_succ, List.filter_append]
  by_cases h : n.testBit m = true
  · rw [if_pos h, List.filter_cons, if_pos h]; rfl
  · rw [if_neg h, List.filter_cons, if_neg h]; rfl
theorem bs_congr {m a b : Nat} (h : ∀ q, q < m → a.testBit q = b.testBit q) : bs m a = bs m b := by
  unfold bs
  exact List.filter_congr fun q hq => h q (List.mem_range.mp hq)
def spotN (m n : Nat) : Nat := sx (bs m n)
def parB (m n : Nat) : Bool := decide ((bs m n).length % 2 = 1)
theorem spot_succ (m n : Nat) : spotN (m + 1) n = spotN m n ^^^ (if n.testBit m then m else 0) := by
  unfold spotN
  rw [bs_succ, sx_append]
  split
  · rw [sx_one]
  · rfl
theorem par_succ (m n : Nat) : parB (m + 1) n = (parB m n ^^ n.testBit m) := by
  unfold parB
  rw [bs_succ, List.length_append]
  cases h : n.testBit m with
  | true =>
    rw [if_pos rfl]
    show decide (((bs m n).length + 1) % 2 = 1) = _
    by_cases e : (bs m n).length % 2 = 1
    · rw [decide_eq_true e, decide_eq_false (by omega)]; rfl
    · rw [decide_eq_false e, decide_eq_true (by omega)]; rfl
  | false =>
    rw [if_neg (by decide)]
    show decide (((bs m n).length + 0) % 2 = 1) = _
    rw [Nat.add_zero, Bool.xor_false]
theorem flip_low {m n p : Nat} (h : m ≤ p) : bs m (n ^^^ 2 ^ p) = bs m n := bs_congr fun q hq => by
  rw [tb_flip1, decide_eq_false (by omega), Bool.xor_false]
theorem spot_flip1 {m n p : Nat} (hp : p < m) : spotN m (n ^^^ 2 ^ p) = spotN m n ^^^ p := by
  induction m with
  | zero => omega
  | succ m ih =>
    rw [spot_succ, spot_succ, tb_flip1]
    by_cases e : p = m
    · subst e
      have h : spotN p (n ^^^ 2 ^ p) = spotN p n := by unfold spotN; rw [flip_low (Nat.le_refl _)]
      rw [h, decide_eq_true rfl]
      cases n.testBit p with
      | true =>
        show spotN p n ^^^ 0 = (spotN p n ^^^ p) ^^^ p
        rw [Nat.xor_assoc, Nat.xor_self]
      | false =>
        show spotN p n ^^^ p = (spotN p n ^^^ 0) ^^^ p
        rw [Nat.xor_zero]
    · rw [ih (by omega), decide_eq_false e, Bool.xor_false, Nat.xor_assoc, Nat.xor_assoc, Nat.xor_comm p]
theorem par_flip1 {m n p : Nat} (hp : p < m) : parB m (n ^^^ 2 ^ p) = !parB m n := by
  induction m with
  | zero => omega
  | succ m ih =>
    rw [par_succ, par_succ, tb_flip1]
    by_cases e : p = m
    · subst e
      have h : parB p (n ^^^ 2 ^ p) = parB p n := by unfold parB; rw [flip_low (Nat.le_refl _)]
      rw [h, decide_eq_true rfl]
      cases parB p n <;> cases n.testBit p <;> rfl
    · rw [ih (by omega), decide_eq_false e, Bool.xor_false]
      cases parB m n <;> cases n.testBit m <;> rfl
theorem spot_flip {m : Nat} : ∀ {ps : List Nat} {n : Nat}, (∀ p ∈ ps, p < m) → spotN m (flip n ps) = spotN m n ^^^ sx ps
  | [], n, _ => by show spotN m n = spotN m n ^^^ 0; rw [Nat.xor_zero]
  | p :: r, n, h => by
    show spotN m (flip (n ^^^ 2 ^ p) r) = _
    rw [spot_flip (fun q hq => h q (List.mem_cons_of_mem _ hq)), spot_flip1 (h p List.mem_cons_self), sx_cons, Nat.xor_assoc]
theorem par_flip {m : Nat} : ∀ {ps : List Nat} {n : Nat}, (∀ p ∈ ps, p < m) → parB m (flip n ps) = (parB m n ^^ decide (ps.length % 2 = 1))
  | [], n, _ => by show parB m n = _; simp
  | p :: r, n, h => by
    show parB m (flip (n ^^^ 2 ^ p) r) = _
    rw [par_flip (fun q hq => h q (List.mem_cons_of_mem _ hq)), par_flip1 (h p List.mem_cons_self), List.length_cons]
    by_cases e : r.length % 2 = 1
    · rw [decide_eq_true e, decide_eq_false (by omega)]; cases parB m n <;> rfl
    · rw [decide_eq_false e, decide_eq_true (by omega)]; cases parB m n <;> rfl
theorem bs_zero (m : Nat) : bs m 0 = [] := by
  unfold bs
  rw [List.filter_eq_nil_iff]
  intro q _
  simp
theorem spot_zero (m : Nat) : spotN m 0 = 0 := by unfold spotN; rw [bs_zero]; rfl
theorem par_zero (m : Nat) : parB m 0 = false := by unfold parB; rw [bs_zero]; rfl
/-! sums of powers -/
def rowOf (ps : List Nat) : Nat := (ps.map (2 ^ ·)).sum
theorem xor_mod2 (r s : Nat) : (r ^^^ s) % 2 = (r + s) % 2 := by
  have h : (r ^^^ s).testBit 0 = (r.testBit 0 ^^ s.testBit 0) := Nat.testBit_xor ..
  rw [Nat.testBit_zero, Nat.testBit_zero, Nat.testBit_zero] at h
  by_cases a : r % 2 = 1 <;> by_cases b : s % 2 = 1 <;> by_cases c : (r ^^^ s) % 2 = 1 <;> simp [a, b, c] at h <;> omega
theorem xor_add : ∀ (p r : Nat), r.testBit p = false → r ^^^ 2 ^ p = r + 2 ^ p
  | 0, r, h => by
    have h1 : r % 2 = 0 := by
      rw [Nat.testBit_zero] at h
      have := of_decide_eq_false h
      omega
    have a := Nat.xor_div_two (a := r) (b := 1)
    have b := xor_mod2 r 1
    have c : r / 2 ^^^ 1 / 2 = r / 2 := by
      show r / 2 ^^^ 0 = r / 2
      rw [Nat.xor_zero]
    rw [c] at a
    show r ^^^ 1 = r + 1
    omega
  | p + 1, r, h => by
    rw [Nat.testBit_succ] at h
    have ih := xor_add p (r / 2) h
    have a := Nat.xor_div_two (a := r) (b := 2 ^ (p + 1))
    have b := xor_mod2 r (2 ^ (p + 1))
    have e : 2 ^ (p + 1) / 2 = 2 ^ p := by rw [Nat.pow_succ]; omega
    have e2 : 2 ^ (p + 1) = 2 * 2 ^ p := by rw [Nat.pow_succ]; omega
    rw [e, ih] at a
    omega
theorem flip_sum : ∀ {ps : List Nat} {r : Nat}, ps.Nodup → (∀ p ∈ ps, r.testBit p = false) → flip r ps = r + rowOf ps
  | [], r, _, _ => rfl
  | p :: ps, r, nd, h => by
    have hn := List.nodup_cons.mp nd
    show flip (r ^^^ 2 ^ p) ps = r + (2 ^ p + rowOf ps)
    rw [flip_sum hn.2, xor_add p r (h p List.mem_cons_self), Nat.add_assoc]
    intro q hq
    rw [tb_flip1, h q (List.mem_cons_of_mem _ hq), decide_eq_false (by rintro rfl; exact hn.1 hq)]
    rfl
theorem flip_row {ps : List Nat} (nd : ps.Nodup) : flip 0 ps = rowOf ps := by
  rw [flip_sum nd (fun p _ => by simp), Nat.zero_add]
theorem tb_flip_nd : ∀ {ps : List Nat} {r q : Nat}, ps.Nodup → (flip r ps).testBit q = (r.testBit q ^^ decide (q ∈ ps))
  | [], r, q, _ => by show r.testBit q = _; simp
  | p :: ps, r, q, nd => by
    have hn := List.nodup_cons.mp nd
    show (flip (r ^^^ 2 ^ p) ps).testBit q = _
    rw [tb_flip_nd hn.2, tb_flip1]
    by_cases e : p = q
    · subst e
      rw [decide_eq_true rfl, decide_eq_false hn.1, decide_eq_true List.mem_cons_self]
      cases r.testBit p <;> rfl
    · rw [decide_eq_false e]
      have : (q ∈ p :: ps) ↔ q ∈ ps := by
        rw [List.mem_cons]
        exact ⟨fun h => h.elim (fun z => absurd z.symm e) id, Or.inr⟩
      rw [Bool.xor_false, decide_eq_decide.mpr this]
theorem bs_mem {m n q : Nat} : q ∈ bs m n ↔ q < m ∧ n.testBit q = true := by
  unfold bs
  rw [List.mem_filter, List.mem_range]
theorem bs_nodup (m n : Nat) : (bs m n).Nodup := List.Nodup.sublist List.filter_sublist List.nodup_range
theorem tb_row {ps : List Nat} {q : Nat} (nd : ps.Nodup) : (rowOf ps).testBit q = decide (q ∈ ps) := by
  rw [← flip_row nd, tb_flip_nd nd]
  simp
theorem row_bs {m n : Nat} (h : n < 2 ^ m) : rowOf (bs m n) = n := by
  refine Nat.eq_of_testBit_eq fun q => ?_
  rw [tb_row (bs_nodup m n)]
  by_cases hq : q < m
  · cases e : n.testBit q with
    | true => exact decide_eq_true (bs_mem.mpr ⟨hq, e⟩)
    | false => exact decide_eq_false fun z => by rw [(bs_mem.mp z).2] at e; cases e
  · rw [Nat.testBit_lt_two_pow (Nat.lt_of_lt_of_le h (Nat.pow_le_pow_right (by decide) (by omega)))]
    exact decide_eq_false fun z => hq (bs_mem.mp z).1
theorem row_lt {m : Nat} {ps : List Nat} (nd : ps.Nodup) (h : ∀ p ∈ ps, p < m) : rowOf ps < 2 ^ m := by
  refine Nat.lt_pow_two_of_testBit _ fun q hq => ?_
  rw [tb_row nd]
  exact decide_eq_false fun z => by have := h q z; omega
theorem bs_more {m k n : Nat} (h : n < 2 ^ m) (hk : m ≤ k) : bs k n = bs m n := by
  induction k with
  | zero => have : m = 0 := by omega
            subst this; rfl
  | succ k ih =>
    by_cases e : m = k + 1
    · rw [e]
    · rw [bs_succ, ih (by omega), Nat.testBit_lt_two_pow (Nat.lt_of_lt_of_le h (Nat.pow_le_pow_right (by decide) (by omega)))]
      simp
theorem bs_any {m k n : Nat} (h : n < 2 ^ m) (hk : n < 2 ^ k) : bs k n = bs m n := by
  by_cases e : m ≤ k
  · exact bs_more h e
  · exact (bs_more hk (by omega)).symm
/-- the digits of the sum of powers -/
theorem bs_filter {m : Nat} (f : Nat → Bool) : bs m (rowOf ((List.range m).filter f)) = (List.range m).filter f := by
  unfold bs
  refine List.filter_congr fun q hq => ?_
  rw [tb_row (List.Nodup.sublist List.filter_sublist List.nodup_range)]
  cases e : f q with
  | true => exact decide_eq_true (List.mem_filter.mpr ⟨hq, e⟩)
  | false => exact decide_eq_false fun z => by rw [(List.mem_filter.mp z).2] at e; cases e
theorem xor0 {a b : Nat} (h : a ^^^ b = 0) : a = b := by
  have e : a = (a ^^^ b) ^^^ b := by rw [Nat.xor_assoc, Nat.xor_self, Nat.xor_zero]
  rw [h, Nat.zero_xor] at e
  exact e
end My
set_option Elab.async false
set_option linter.all false
set_option maxRecDepth 100000
set_option maxHeartbeats 400000
/-! ### coded words: places, data places, the word of a value -/
namespace My
open PySem PySem.Spec PyProof.Rows L2 Evl
def rOf (b : Nat) : Nat := if b ≤ 4 then 3 else if b ≤ 11 then 4 else if b ≤ 26 then 5 else 6
def pl (b : Nat) : Nat := b + rOf b + 1
theorem rOf_le (b : Nat) : rOf b ≤ 6 := by unfold rOf; split <;> (try split) <;> (try split) <;> omega
theorem pow_lt {b t : Nat} (h4 : 4 ≤ b) (h32 : b ≤ 32) (ht : t ≤ 6) : ((1 : Int) * 2 ^ ((t : Int)).toNat < (b : Int) + (t : Int) + 1) ↔ t < rOf b := by
  have e : ((t : Int)).toNat = t := Int.toNat_natCast t
  rw [e]
  have h : t = 0 ∨ t = 1 ∨ t = 2 ∨ t = 3 ∨ t = 4 ∨ t = 5 ∨ t = 6 := by omega
  unfold rOf
  rcases h with rfl | rfl | rfl | rfl | rfl | rfl | rfl <;> (split <;> (try split) <;> (try split) <;> simp <;> omega)
def isPw (i : Nat) : Bool := i == 0 || i == 1 || i == 2 || i == 4 || i == 8 || i == 16 || i == 32
def ckN (b : Nat) : List Nat := (List.range (pl b)).filter isPw
def dtN (b : Nat) : List Nat := (List.range (pl b)).filter (fun i => !isPw i)
def iL (l : List Nat) : List Int := l.map fun (n : Nat) => (n : Int)
theorem pl_le {b : Nat} (h32 : b ≤ 32) : pl b ≤ 39 := by
  have := rOf_le b
  unfold pl
  omega
theorem pw_and : ∀ i, i < 40 → (decide (V.int (Builtin.bitAnd ((i : Nat) : Int) ((i : Int) - 1)) = V.int 0)) = isPw i := by decide +kernel
def lcN (b : Nat) : List Nat := 0 :: (List.range (rOf b)).map (2 ^ ·)
theorem lc_ck : ∀ b, b < 33 → 4 ≤ b → lcN b = ckN b := by decide +kernel
theorem ck_mem : ∀ b, b < 33 → 4 ≤ b → ∀ i, i < pl b → (decide ((i : Int) ∈ iL (ckN b))) = isPw i := by decide +kernel
theorem ck_len : ∀ b, b < 33 → 4 ≤ b → b + (ckN b).length = pl b := by decide +kernel
theorem dt_by (b : Nat) (h4 : 4 ≤ b) (h32 : b ≤ 32) : given (pl b) (fun i => !decide ((i : Int) ∈ iL (ckN b))) (fun i => V.int (i : Int)) = (iL (dtN b)).map V.int := by
  rw [given_eq (f' := fun i => !isPw i) (g' := fun i => V.int (i : Int)) (fun i hi => by rw [ck_mem b (by omega) h4 i hi]) (fun _ _ _ => rfl), given_ints]
  rfl

/-! ### data places by their numbers -/
def dt (b i : Nat) : Nat := (dtN b).getD i 0
theorem dt_len : ∀ b, b < 33 → 4 ≤ b → (dtN b).length = b := by decide +kernel
theorem dt_nodup (b : Nat) : (dtN b).Nodup := List.Nodup.sublist List.filter_sublist List.nodup_range
theorem ck_nodup (b : Nat) : (ckN b).Nodup := List.Nodup.sublist List.filter_sublist List.nodup_range
theorem dt_at {b i : Nat} (h4 : 4 ≤ b) (h32 : b ≤ 32) (h : i < b) : (dtN b)[i]? = some (dt b i) := by
  have hl := dt_len b (by omega) h4
  unfold dt
  rw [List.getD_eq_getElem?_getD, List.getElem?_eq_getElem (by omega)]
  rfl
theorem dt_mem {b i : Nat} (h4 : 4 ≤ b) (h32 : b ≤ 32) (h : i < b) : dt b i < pl b ∧ isPw (dt b i) = false := by
  have hm := List.mem_of_getElem? (dt_at h4 h32 h)
  unfold dtN at hm
  have hm := List.mem_filter.mp hm
  exact ⟨List.mem_range.mp hm.1, by have := hm.2; simpa using this⟩
theorem dt_inj {b i j : Nat} (h4 : 4 ≤ b) (h32 : b ≤ 32) (hi : i < b) (hj : j < b) (e : dt b i = dt b j) : i = j :=
  nd_ix (dt_nodup b) (dt_at h4 h32 hi) (by rw [e]; exact dt_at h4 h32 hj)
def onesN (b v : Nat) : List Nat := (bs b v).map (dt b)
theorem map_nodup {α β : Type} {f : α → β} : ∀ {l : List α}, l.Nodup → (∀ a ∈ l, ∀ c ∈ l, f a = f c → a = c) → (l.map f).Nodup
  | [], _, _ => List.nodup_nil
  | a :: r, nd, h => by
    have hn := List.nodup_cons.mp nd
    refine List.nodup_cons.mpr ⟨fun z => ?_, map_nodup hn.2 fun x hx y hy => h x (List.mem_cons_of_mem _ hx) y (List.mem_cons_of_mem _ hy)⟩
    obtain ⟨c, hc, e⟩ := List.mem_map.mp z
    have := h c (List.mem_cons_of_mem _ hc) a List.mem_cons_self e
    subst this
    exact hn.1 hc
theorem ones_nodup {b k v : Nat} (h4 : 4 ≤ b) (h32 : b ≤ 32) (hk : k ≤ b) : ((bs k v).map (dt b)).Nodup :=
  map_nodup (bs_nodup k v) fun x hx y hy e => dt_inj h4 h32 (by have := (bs_mem.mp hx).1; omega) (by have := (bs_mem.mp hy).1; omega) e
theorem ones_lt {b k v : Nat} (h4 : 4 ≤ b) (h32 : b ≤ 32) (hk : k ≤ b) : ∀ p ∈ (bs k v).map (dt b), p < pl b ∧ isPw p = false := fun p hp => by
  obtain ⟨i, hi, rfl⟩ := List.mem_map.mp hp
  exact dt_mem h4 h32 (by have := (bs_mem.mp hi).1; omega)
def cod0 (b v : Nat) : Nat := flip 0 (onesN b v)
def cksN (b s : Nat) : List Nat := (ckN b).filter fun p => (s &&& p) != 0
def cod1 (b v : Nat) : Nat := flip (cod0 b v) (cksN b (spotN (pl b) (cod0 b v)))
def cod (b v : Nat) : Nat := flip (cod1 b v) (if parB (pl b) (cod1 b v) then [0] else [])
theorem cks_lt (b s : Nat) : ∀ p ∈ cksN b s, p < pl b ∧ isPw p = true := fun p hp => by
  unfold cksN ckN at hp
  have h := List.mem_filter.mp (List.mem_filter.mp hp).1
  exact ⟨List.mem_range.mp h.1, h.2⟩
theorem cks_nodup (b s : Nat) : (cksN b s).Nodup := List.Nodup.sublist List.filter_sublist (ck_nodup b)
theorem cks_pos (b s : Nat) : 0 ∉ cksN b s := fun h => by
  unfold cksN at h
  have h := (List.mem_filter.mp h).2
  simp at h
/-- the check places of a spot add up to it -/
theorem cks_sx : ∀ r, r < 7 → 3 ≤ r → ∀ s, s < 2 ^ r → sx ((0 :: (List.range r).map (2 ^ ·)).filter fun p => (s &&& p) != 0) = s := by decide +kernel
theorem pl_pow {b : Nat} (h4 : 4 ≤ b) (h32 : b ≤ 32) : pl b ≤ 2 ^ rOf b := by
  have h : ∀ b, b < 33 → 4 ≤ b → pl b ≤ 2 ^ rOf b := by decide +kernel
  exact h b (by omega) h4
theorem sx_lt {r : Nat} : ∀ {l : List Nat}, (∀ p ∈ l, p < 2 ^ r) → sx l < 2 ^ r
  | [], _ => Nat.two_pow_pos r
  | a :: l, h => by
    rw [sx_cons]
    exact Nat.xor_lt_two_pow (h a List.mem_cons_self) (sx_lt fun p hp => h p (List.mem_cons_of_mem _ hp))
theorem spot_lt {b n : Nat} (h4 : 4 ≤ b) (h32 : b ≤ 32) : spotN (pl b) n < 2 ^ rOf b := sx_lt fun p hp => Nat.lt_of_lt_of_le (bs_mem.mp hp).1 (pl_pow h4 h32)
theorem cks_spot {b s : Nat} (h4 : 4 ≤ b) (h32 : b ≤ 32) (hs : s < 2 ^ rOf b) : sx (cksN b s) = s := by
  unfold cksN
  rw [← lc_ck b (by omega) h4]
  have h3 : 3 ≤ rOf b := by unfold rOf; split <;> (try split) <;> (try split) <;> omega
  exact cks_sx (rOf b) (by have := rOf_le b; omega) h3 s hs
theorem flip_lt {m : Nat} : ∀ {ps : List Nat} {n : Nat}, n < 2 ^ m → (∀ p ∈ ps, p < m) → flip n ps < 2 ^ m
  | [], _, h, _ => h
  | p :: r, n, h, hp => flip_lt (ps := r) (Nat.xor_lt_two_pow h (Nat.pow_lt_pow_right (by decide) (hp p List.mem_cons_self))) fun q hq => hp q (List.mem_cons_of_mem _ hq)
theorem pl_pos {b : Nat} : 0 < pl b := by unfold pl; omega
theorem or_xor {r p : Nat} (h : r.testBit p = false) : r ||| 2 ^ p = r ^^^ 2 ^ p := by
  refine Nat.eq_of_testBit_eq fun q => ?_
  rw [Nat.testBit_or, Nat.testBit_xor, Nat.testBit_two_pow]
  by_cases e : p = q
  · subst e
    rw [h, decide_eq_true rfl]
    rfl
  · rw [decide_eq_false e]
    cases r.testBit q <;> rfl
section
variable {b v : Nat} (h4 : 4 ≤ b) (h32 : b ≤ 32)
include h4 h32
theorem cod0_lt : cod0 b v < 2 ^ pl b := flip_lt (Nat.two_pow_pos _) fun p hp => (ones_lt h4 h32 (Nat.le_refl _) p hp).1
theorem cod1_lt : cod1 b v < 2 ^ pl b := flip_lt (cod0_lt h4 h32) fun p hp => (cks_lt _ _ p hp).1
theorem cod_lt : cod b v < 2 ^ pl b := flip_lt (cod1_lt h4 h32) fun p hp => by
  split at hp
  · rw [List.mem_singleton.mp hp]; exact pl_pos
  · cases hp
theorem cod1_spot : spotN (pl b) (cod1 b v) = 0 := by
  unfold cod1
  rw [spot_flip fun p hp => (cks_lt _ _ p hp).1, cks_spot h4 h32 (spot_lt h4 h32), Nat.xor_self]
theorem cod_spot : spotN (pl b) (cod b v) = 0 := by
  unfold cod
  rw [spot_flip, cod1_spot h4 h32]
  · split <;> rfl
  · intro p hp
    split at hp
    · rw [List.mem_singleton.mp hp]; exact pl_pos
    · cases hp
theorem cod_par : parB (pl b) (cod b v) = false := by
  unfold cod
  rw [par_flip]
  · cases parB (pl b) (cod1 b v) <;> rfl
  · intro p hp
    split at hp
    · rw [List.mem_singleton.mp hp]; exact pl_pos
    · cases hp
theorem cod1_bit0 : (cod1 b v).testBit 0 = false := by
  unfold cod1 cod0
  rw [tb_flip_nd (cks_nodup _ _), tb_flip_nd (show (onesN b v).Nodup from ones_nodup h4 h32 (Nat.le_refl _)), decide_eq_false (cks_pos _ _), decide_eq_false]
  · simp
  · intro z
    have := (ones_lt h4 h32 (Nat.le_refl _) 0 z).2
    cases this
/-- the word's end: the parity into the place 0 -/
theorem cod_end : cod1 b v ||| ((bs 40 (cod1 b v)).length &&& 1) = cod b v := by
  have hl : bs 40 (cod1 b v) = bs (pl b) (cod1 b v) := bs_more (cod1_lt h4 h32) (by have := pl_le h32; omega)
  rw [hl, Nat.and_one_is_mod]
  unfold cod parB
  rcases Nat.mod_two_eq_zero_or_one (bs (pl b) (cod1 b v)).length with h | h
  · rw [h]
    show cod1 b v ||| 0 = cod1 b v
    exact Nat.or_zero _
  · rw [h]
    show cod1 b v ||| 2 ^ 0 = cod1 b v ^^^ 2 ^ 0
    exact or_xor (cod1_bit0 h4 h32)
/-- the data places of the word -/
theorem cod_data {i : Nat} (hi : i < b) : (cod b v).testBit (dt b i) = v.testBit i := by
  have hd := dt_mem h4 h32 hi
  have hn : (if parB (pl b) (cod1 b v) then [0] else []).Nodup := by split <;> simp
  unfold cod
  rw [tb_flip_nd hn]
  unfold cod1 cod0
  rw [tb_flip_nd (cks_nodup _ _), tb_flip_nd (show (onesN b v).Nodup from ones_nodup h4 h32 (Nat.le_refl _))]
  have a1 : dt b i ∉ (if parB (pl b) (cod1 b v) then [0] else []) := by
    intro z
    split at z
    · rw [List.mem_singleton.mp z] at hd; exact Bool.noConfusion hd.2
    · cases z
  have a2 : dt b i ∉ cksN b (spotN (pl b) (flip 0 (onesN b v))) := fun z => by rw [(cks_lt _ _ _ z).2] at hd; exact Bool.noConfusion hd.2
  unfold cod1 cod0 at a1
  rw [decide_eq_false a1, decide_eq_false a2]
  have a3 : (dt b i ∈ onesN b v) ↔ v.testBit i = true := by
    constructor
    · intro z
      obtain ⟨j, hj, e⟩ := List.mem_map.mp z
      have hj := bs_mem.mp hj
      have := dt_inj h4 h32 hj.1 hi e
      subst this
      exact hj.2
    · exact fun z => List.mem_map.mpr ⟨i, bs_mem.mpr ⟨hi, z⟩, rfl⟩

  cases e : v.testBit i with
  | true => rw [decide_eq_true (a3.mpr e)]; simp
  | false => rw [decide_eq_false (fun z => by rw [a3.mp z] at e; cases e)]; simp
end
def valN (b n : Nat) : Nat := rowOf ((List.range b).filter fun i => n.testBit (dt b i))
theorem val_cod {b v : Nat} (h4 : 4 ≤ b) (h32 : b ≤ 32) (hv : v < 2 ^ b) : valN b (cod b v) = v := by
  unfold valN
  rw [List.filter_congr (q := fun i => v.testBit i) fun i hi => cod_data h4 h32 (List.mem_range.mp hi)]
  exact row_bs hv
/-! ### promises -/
def spPlaces : Sp := fun vs H Q _ => ∃ b : Nat, vs = [.int (b : Int)] ∧ 4 ≤ b ∧ b ≤ 32 ∧ ∀ H', Ex H H' → Q (.int ((pl b : Nat) : Int)) H'
theorem SpPlaces {H : Hp} {b : Nat} (h4 : 4 ≤ b) (h32 : b ≤ 32) : SpV spPlaces ([.int (b : Int)] ++ []) H (.int ((pl b : Nat) : Int)) := fun H1 e Q q E => ⟨b, rfl, h4, h32, q⟩
def spList (f : Nat → List Nat) : Sp := fun vs H Q _ => ∃ b : Nat, vs = [.int (b : Int)] ∧ 4 ≤ b ∧ b ≤ 32 ∧ ∀ p H', H p = none → Ex H H' → H' p = some (.lst ((iL (f b)).map V.int)) → Q (.ref p) H'
theorem SpList {f : Nat → List Nat} {H : Hp} {b : Nat} (h4 : 4 ≤ b) (h32 : b ≤ 32) : SpL (spList f) ([.int (b : Int)] ++ []) H ((iL (f b)).map V.int) := fun H1 e Q q E => ⟨b, rfl, h4, h32, q⟩

def spDiff : Sp := fun vs H Q _ => ∃ a c : Nat, vs = [.int (a : Int), .int (c : Int)] ∧ a < 2 ^ 40 ∧ c < 2 ^ 40 ∧ ∀ p H', H p = none → Ex H H' → H' p = some (.lst ((iL (bs 40 (a ^^^ c))).map V.int)) → Q (.ref p) H'
theorem SpDiff {H : Hp} {a c : Nat} (ha : a < 2 ^ 40) (hc : c < 2 ^ 40) : SpL spDiff ([.int (a : Int), .int (c : Int)] ++ []) H ((iL (bs 40 (a ^^^ c))).map V.int) := fun H1 e Q q E => ⟨a, c, rfl, ha, hc, q⟩
def spOnes : Sp := fun vs H Q _ => ∃ n : Nat, vs = [.int (n : Int)] ∧ n < 2 ^ 40 ∧ ∀ H', Ex H H' → Q (.int (((bs 40 n).length : Nat) : Int)) H'
theorem SpOnes {H : Hp} {n : Nat} (hn : n < 2 ^ 40) : SpV spOnes ([.int (n : Int)] ++ []) H (.int (((bs 40 n).length : Nat) : Int)) := fun H1 e Q q E => ⟨n, rfl, hn, q⟩
def spSpot : Sp := fun vs H Q _ => ∃ b n : Nat, vs = [.int (b : Int), .int (n : Int)] ∧ 4 ≤ b ∧ b ≤ 32 ∧ n < 2 ^ 40 ∧ ∀ H', Ex H H' → Q (.int ((spotN (pl b) n : Nat) : Int)) H'
theorem SpSpot {H : Hp} {b n : Nat} (h4 : 4 ≤ b) (h32 : b ≤ 32) (hn : n < 2 ^ 40) : SpV spSpot ([.int (b : Int), .int (n : Int)] ++ []) H (.int ((spotN (pl b) n : Nat) : Int)) := fun H1 e Q q E => ⟨b, n, rfl, h4, h32, hn, q⟩
def spFlip (K : PySem.W.Frag) : Sp := fun vs H Q _ => ∃ (n : Nat) (a : Addr) (ps : List Nat), vs = [.int (n : Int), .ref a] ∧ SqL K H a ((iL ps).map V.int) ∧ (∀ p ∈ ps, p < 64) ∧ ∀ H', Ex H H' → Q (.int ((flip n ps : Nat) : Int)) H'
theorem SpFlip {K : PySem.W.Frag} {H : Hp} {n : Nat} {a : Addr} {ps : List Nat} (h : SqL K H a ((iL ps).map V.int)) (hp : ∀ p ∈ ps, p < 64) : SpV (spFlip K) ([.int (n : Int), .ref a] ++ []) H (.int ((flip n ps : Nat) : Int)) := fun H1 e Q q E => ⟨n, a, ps, rfl, ex_l e h, hp, q⟩
def spCod : Sp := fun vs H Q _ => ∃ b v : Nat, vs = [.int (b : Int), .int (v : Int)] ∧ 4 ≤ b ∧ b ≤ 32 ∧ v < 2 ^ b ∧ ∀ H', Ex H H' → Q (.int ((cod b v : Nat) : Int)) H'
theorem SpCod {H : Hp} {b v : Nat} (h4 : 4 ≤ b) (h32 : b ≤ 32) (hn : v < 2 ^ b) : SpV spCod ([.int (b : Int), .int (v : Int)] ++ []) H (.int ((cod b v : Nat) : Int)) := fun H1 e Q q E => ⟨b, v, rfl, h4, h32, hn, q⟩
def spVal : Sp := fun vs H Q _ => ∃ b n : Nat, vs = [.int (b : Int), .int (n : Int)] ∧ 4 ≤ b ∧ b ≤ 32 ∧ ∀ H', Ex H H' → Q (.int ((valN b n : Nat) : Int)) H'
theorem SpVal {H : Hp} {b n : Nat} (h4 : 4 ≤ b) (h32 : b ≤ 32) : SpV spVal ([.int (b : Int), .int (n : Int)] ++ []) H (.int ((valN b n : Nat) : Int)) := fun H1 e Q q E => ⟨b, n, rfl, h4, h32, q⟩
/-- the state of a row -/
def stV (b n : Nat) : List V := if parB (pl b) n then (if spotN (pl b) n < pl b then [.str "one", .int ((spotN (pl b) n : Nat) : Int)] else [.str "more", .non]) else (if spotN (pl b) n = 0 then [.str "clean", .non] else [.str "more", .non])
def spState : Sp := fun vs H Q _ => ∃ b n : Nat, vs = [.int (b : Int), .int (n : Int)] ∧ 4 ≤ b ∧ b ≤ 32 ∧ n < 2 ^ pl b ∧ ∀ p H', H p = none → Ex H H' → H' p = some (.tup (stV b n)) → Q (.ref p) H'
def SpU (sp : Sp) (vs : List V) (H : Hp) (xs : List V) : Prop := ∀ H1, Ex H H1 → ∀ Q : VK, (∀ p H2, H1 p = none → Ex H1 H2 → H2 p = some (.tup xs) → Q (.ref p) H2) → ∀ E : XK, sp vs H1 Q E
theorem eu_call {σ : L2.St} {H : Hp} {sp : Sp} {dvs vs xs : List V} {E : XK} {ta : TA} (h : EvA ta σ H vs) (hs : SpU sp (vs ++ dvs) H xs) : EvU (tCall sp dvs E ta) σ H xs := fun H1 e Q q =>
  h H1 e _ fun H2 e2 => hs H2 (e.trans e2) Q (fun p H3 hp e3 h3 => q p H3 (fresh_back e2 hp) (e2.trans e3) h3) E
theorem SpState {H : Hp} {b n : Nat} (h4 : 4 ≤ b) (h32 : b ≤ 32) (hn : n < 2 ^ pl b) : SpU spState ([.int (b : Int), .int (n : Int)] ++ []) H (stV b n) := fun H1 e Q q E => ⟨b, n, rfl, h4, h32, hn, q⟩
theorem eu_ite {σ : L2.St} {H : Hp} {t : TT} {ta tb : TE} {b : Bool} {xs ys : List V} (h : EvT t σ H b) (h1 : EvU ta σ H xs) (h2 : EvU tb σ H ys) : EvU (tIf t ta tb) σ H (if b then xs else ys) := fun H1 e Q q => h H1 e _ fun H2 e2 => by
  cases b with
  | true => exact iteT (h1 H2 (e.trans e2) Q fun p H3 np e3 hp => q p H3 (fresh_back e2 np) (e2.trans e3) hp)
  | false => exact iteF (h2 H2 (e.trans e2) Q fun p H3 np e3 hp => q p H3 (fresh_back e2 np) (e2.trans e3) hp)
theorem eu_is {σ : L2.St} {H : Hp} {te : TE} {xs ys : List V} (h : EvU te σ H xs) (e : xs = ys) : EvU te σ H ys := by
  rw [← e]
  exact h
/-- a call whose second argument is a list made on the spot -/
theorem ev_callL2 {σ : L2.St} {H : Hp} {sp : Sp} {dvs ys : List V} {E : XK} {ta tb : TE} {x z : V} (ha : Ev ta σ H x) (hb : EvL tb σ H ys) (hs : ∀ p H1, Ex H H1 → H1 p = some (.lst ys) → SpV sp ([x, .ref p] ++ dvs) H1 z) : Ev (tCall sp dvs E (tCons ta (tCons tb tNil))) σ H z := fun H1 e Q q =>
  ha H1 e _ fun H2 e2 => hb H2 (e.trans e2) _ fun p H3 np e3 hp => hs p H3 ((e.trans e2).trans e3) hp H3 (Ex.refl _) Q (fun H4 e4 => q H4 ((e2.trans e3).trans e4)) E
theorem ev_callL1 {σ : L2.St} {H : Hp} {sp : Sp} {dvs ys : List V} {E : XK} {tb : TE} {z : V} (hb : EvL tb σ H ys) (hs : ∀ p H1, Ex H H1 → H1 p = some (.lst ys) → SpV sp ([.ref p] ++ dvs) H1 z) : Ev (tCall sp dvs E (tCons tb tNil)) σ H z := fun H1 e Q q =>
  hb H1 e _ fun p H3 np e3 hp => hs p H3 (e.trans e3) hp H3 (Ex.refl _) Q (fun H4 e4 => q H4 (e3.trans e4)) E
theorem iL_at {l : List Nat} {i : Nat} {x : V} (h : ((iL l).map V.int)[i]? = some x) : ∃ n, l[i]? = some n ∧ x = .int (n : Int) := by
  obtain ⟨k, hk, rfl⟩ := int_at h
  unfold iL at hk
  rw [List.getElem?_map] at hk
  cases e : l[i]? with
  | none => rw [e] at hk; cases hk
  | some n => rw [e] at hk; exact ⟨n, rfl, by rw [← Option.some.inj hk]⟩
theorem at_iL {l : List Nat} {i n : Nat} (h : l[i]? = some n) : ((iL l).map V.int)[i]? = some (.int (n : Int)) := by
  unfold iL
  rw [List.getElem?_map, List.getElem?_map, h]
  rfl
theorem iL_len (l : List Nat) : ((iL l).map V.int).length = l.length := by unfold iL; rw [List.length_map, List.length_map]
theorem iL_app (l r : List Nat) : (iL (l ++ r)).map V.int = (iL l).map V.int ++ (iL r).map V.int := by unfold iL; rw [List.map_append, List.map_append]
theorem given_iL (n : Nat) (f : Nat → Bool) : given n f (fun i => V.int ((i : Nat) : Int)) = (iL ((List.range n).filter f)).map V.int := given_ints n f _
theorem mem_iL {l : List Nat} {n : Nat} : ((n : Int) ∈ iL l) ↔ n ∈ l := by
  unfold iL
  rw [List.mem_map]
  constructor
  · rintro ⟨m, hm, e⟩
    have : m = n := by omega
    exact this ▸ hm
  · exact fun h => ⟨n, h, rfl⟩
theorem sum_iL : ∀ l : List Nat, (iL l).sum = ((l.sum : Nat) : Int)
  | [] => rfl
  | n :: r => by
    show ((n : Int) :: iL r).sum = _
    rw [List.sum_cons, sum_iL r, List.sum_cons]
    omega
/-- [e for place in list if t], the list's items known as numbers -/
theorem el_lcL' {K : PySem.W.Frag} {σ : L2.St} {H : Hp} {tl te : TE} {tt : TT} {j : Nat} {vs : List Nat} {l : List Nat} (f : Nat → Bool) (g : Nat → Nat) (h : EvL tl σ H ((iL l).map V.int)) (hz : l.length ≤ 40000) (hw : ∀ x, wipe ((wipe σ vs).set j (some x)) vs = wipe σ vs)
    (ht : ∀ (m : Nat), m ∈ l → ∀ H1, Ex H H1 → EvT tt ((wipe σ vs).set j (some (.int (m : Int)))) H1 (f m)) (he : ∀ (m : Nat), m ∈ l → ∀ H1, Ex H H1 → f m = true → Ev te ((wipe σ vs).set j (some (.int (m : Int)))) H1 (.int ((g m : Nat) : Int))) :
    EvL (tLc (iList K tl) (gName j) tt te vs) σ H ((iL ((l.filter f).map g)).map V.int) := by
  have key : ∀ l : List Nat, given l.length (fun i => f (l.getD i 0)) (fun i => V.int ((g (l.getD i 0) : Nat) : Int)) = (iL ((l.filter f).map g)).map V.int := by
    intro l
    unfold given
    have h1 : ((List.range l.length).filter (fun i => f (l.getD i 0))).map (fun i => l.getD i 0) = l.filter f := by
      have h2 : (List.range l.length).map (fun i => l.getD i 0) = l := by
        refine List.ext_getElem (by simp) fun i h1 h2 => ?_
        simp [List.getD_eq_getElem?_getD, List.getElem?_eq_getElem h2]
      have h3 : l.filter f = ((List.range l.length).map (fun i => l.getD i 0)).filter f := by rw [h2]
      rw [h3, List.filter_map]
      rfl
    rw [← h1]
    unfold iL
    rw [List.map_map, List.map_map, List.map_map]
    rfl
  have hd : ∀ {i : Nat} {m : Nat}, l[i]? = some m → l.getD i 0 = m := fun {i m} e => by rw [List.getD_eq_getElem?_getD, e]; rfl
  rw [← key l]
  have r := el_lcNL (K := K) (tl := tl) (j := j) (vs := vs) (t := tt) (te := te) (fun i => f (l.getD i 0)) (fun i => V.int ((g (l.getD i 0) : Nat) : Int)) h (by rw [iL_len]; exact hz) hw (fun i x H1 e1 hi => by
    obtain ⟨m, hm, rfl⟩ := iL_at hi
    rw [hd hm]
    exact ht m (List.mem_of_getElem? hm) H1 e1) (fun i x H1 e1 hi hf => by
    obtain ⟨m, hm, rfl⟩ := iL_at hi
    rw [hd hm] at hf ⊢
    exact he m (List.mem_of_getElem? hm) H1 e1 hf)
  rw [iL_len] at r
  exact r
/-- .. over a list that stands somewhere -/
theorem el_lcA' {K : PySem.W.Frag} {σ : L2.St} {H : Hp} {tl te : TE} {tt : TT} {j : Nat} {vs : List Nat} {l : List Nat} {a : Addr} (f : Nat → Bool) (g : Nat → Nat) (h : Ev tl σ H (.ref a)) (hx : SqL K H a ((iL l).map V.int)) (hz : l.length ≤ 40000) (hw : ∀ x, wipe ((wipe σ vs).set j (some x)) vs = wipe σ vs)
    (ht : ∀ (m : Nat), m ∈ l → ∀ H1, Ex H H1 → EvT tt ((wipe σ vs).set j (some (.int (m : Int)))) H1 (f m)) (he : ∀ (m : Nat), m ∈ l → ∀ H1, Ex H H1 → f m = true → Ev te ((wipe σ vs).set j (some (.int (m : Int)))) H1 (.int ((g m : Nat) : Int))) :
    EvL (tLc (iList K tl) (gName j) tt te vs) σ H ((iL ((l.filter f).map g)).map V.int) := by
  have key : ∀ l : List Nat, given l.length (fun i => f (l.getD i 0)) (fun i => V.int ((g (l.getD i 0) : Nat) : Int)) = (iL ((l.filter f).map g)).map V.int := by
    intro l
    unfold given
    have h1 : ((List.range l.length).filter (fun i => f (l.getD i 0))).map (fun i => l.getD i 0) = l.filter f := by
      have h2 : (List.range l.length).map (fun i => l.getD i 0) = l := by
        refine List.ext_getElem (by simp) fun i h1 h2 => ?_
        simp [List.getD_eq_getElem?_getD, List.getElem?_eq_getElem h2]
      have h3 : l.filter f = ((List.range l.length).map (fun i => l.getD i 0)).filter f := by rw [h2]
      rw [h3, List.filter_map]
      rfl
    rw [← h1]
    unfold iL
    rw [List.map_map, List.map_map, List.map_map]
    rfl
  have hd : ∀ {i : Nat} {m : Nat}, l[i]? = some m → l.getD i 0 = m := fun {i m} e => by rw [List.getD_eq_getElem?_getD, e]; rfl
  rw [← key l]
  have r := el_lcL (K := K) (tl := tl) (j := j) (vs := vs) (t := tt) (te := te) (fun i => f (l.getD i 0)) (fun i => V.int ((g (l.getD i 0) : Nat) : Int)) h hx (by rw [iL_len]; exact hz) hw (fun i x H1 e1 hi => by
    obtain ⟨m, hm, rfl⟩ := iL_at hi
    rw [hd hm]
    exact ht m (List.mem_of_getElem? hm) H1 e1) (fun i x H1 e1 hi hf => by
    obtain ⟨m, hm, rfl⟩ := iL_at hi
    rw [hd hm] at hf ⊢
    exact he m (List.mem_of_getElem? hm) H1 e1 hf)
  rw [iL_len] at r
  exact r
/-! ### what the law's own defs tell -/
def spDigits : Sp := fun vs H Q _ => ∃ n : Nat, vs = [.int (n : Int)] ∧ n < 2 ^ 64 ∧ ∀ p H', H p = none → Ex H H' → H' p = some (.lst ((iL (bs 64 n)).map V.int)) → Q (.ref p) H'
theorem SpDigits {H : Hp} {n : Nat} (hn : n < 2 ^ 64) : SpL spDigits ([.int (n : Int)] ++ []) H ((iL (bs 64 n)).map V.int) := fun H1 e Q q E => ⟨n, rfl, hn, q⟩
def spRowOf (K : PySem.W.Frag) : Sp := fun vs H Q _ => ∃ (a : Addr) (ps : List Nat), vs = [.ref a] ∧ SqL K H a ((iL ps).map V.int) ∧ (∀ p ∈ ps, p ≤ 40) ∧ ps.length ≤ 1000 ∧ ∀ H', Ex H H' → Q (.int ((rowOf ps : Nat) : Int)) H'
theorem SpRowOf {K : PySem.W.Frag} {H : Hp} {a : Addr} {ps : List Nat} (h : SqL K H a ((iL ps).map V.int)) (hp : ∀ p ∈ ps, p ≤ 40) (hl : ps.length ≤ 1000) : SpV (spRowOf K) ([.ref a] ++ []) H (.int ((rowOf ps : Nat) : Int)) := fun H1 e Q q E => ⟨a, ps, rfl, ex_l e h, hp, hl, q⟩
def spLspot : Sp := fun vs H Q _ => ∃ n : Nat, vs = [.int (n : Int)] ∧ n < 2 ^ 64 ∧ ∀ H', Ex H H' → Q (.int ((spotN 64 n : Nat) : Int)) H'
theorem SpLspot {H : Hp} {n : Nat} (hn : n < 2 ^ 64) : SpV spLspot ([.int (n : Int)] ++ []) H (.int ((spotN 64 n : Nat) : Int)) := fun H1 e Q q E => ⟨n, rfl, hn, q⟩
def spLvalue (K : PySem.W.Frag) : Sp := fun vs H Q _ => ∃ (a : Addr) (ns : List Int) (i b : Nat), vs = [.ref a, .int (i : Int), .int (b : Int)] ∧ SqL K H a (ns.map V.int) ∧ (∀ n ∈ ns, 0 ≤ n ∧ n < 1009) ∧ i + 3 < ns.length ∧ 4 ≤ b ∧ b ≤ 32 ∧ ∀ (v : Nat) H', v < 2 ^ b → Ex H H' → Q (.int (v : Int)) H'
/-- the digits of a sum without carrying -/
theorem tb_sx (k : Nat) : ∀ l : List Nat, (sx l).testBit k = decide ((l.filter fun p => p.testBit k).length % 2 = 1)
  | [] => by show (0 : Nat).testBit k = _; simp
  | a :: r => by
    rw [sx_cons, Nat.testBit_xor, tb_sx k r, List.filter_cons]
    cases e : a.testBit k with
    | true =>
      rw [if_pos rfl, List.length_cons]
      by_cases h : (r.filter fun p => p.testBit k).length % 2 = 1
      · rw [decide_eq_true h, decide_eq_false (by omega)]; rfl
      · rw [decide_eq_false h, decide_eq_true (by omega)]; rfl
    | false =>
      rw [if_neg (by decide)]
      simp
theorem spot64 {m n : Nat} (h : n < 2 ^ m) (hm : m ≤ 64) : spotN 64 n = spotN m n := by unfold spotN; rw [bs_more h hm]
theorem row_ext {b : Nat} (l : List Nat) : rowOf l = (l.map (2 ^ ·)).sum := rfl
/-- the two ways to the check places that are turned -/
theorem cks_eq {b s : Nat} (h4 : 4 ≤ b) (h32 : b ≤ 32) (hs : s < 64) : (ckN b).filter (fun c => decide (0 < c) && decide (s / c % 2 = 1)) = cksN b s := by
  have h : ∀ c, c < 40 → isPw c = true → ∀ s, s < 64 → (decide (0 < c) && decide (s / c % 2 = 1)) = ((s &&& c) != 0) := by decide +kernel
  unfold cksN
  refine List.filter_congr fun c hc => ?_
  have hc := List.mem_filter.mp hc
  have := pl_le h32
  exact h c (by have := List.mem_range.mp hc.1; omega) hc.2 s hs
/-- the word, as the law makes it -/
theorem cod_law {b v : Nat} (h4 : 4 ≤ b) (h32 : b ≤ 32) :
    rowOf ((onesN b v ++ cksN b (spotN (pl b) (cod0 b v))) ++ (if (onesN b v ++ cksN b (spotN (pl b) (cod0 b v))).length % 2 = 1 then [0] else [])) = cod b v := by
  have dis : ∀ x ∈ onesN b v, x ∉ cksN b (spotN (pl b) (cod0 b v)) := fun x hx hy => by
    have a := (ones_lt h4 h32 (Nat.le_refl _) x hx).2
    rw [(cks_lt _ _ x hy).2] at a
    cases a
  have nd : (onesN b v ++ cksN b (spotN (pl b) (cod0 b v))).Nodup := List.nodup_append.mpr ⟨ones_nodup h4 h32 (Nat.le_refl _), cks_nodup _ _, fun a ha c hc e => dis a ha (e ▸ hc)⟩
  have n0 : 0 ∉ onesN b v ++ cksN b (spotN (pl b) (cod0 b v)) := fun z => by
    rcases List.mem_append.mp z with z | z
    · have := (ones_lt h4 h32 (Nat.le_refl _) 0 z).2; cases this
    · exact cks_pos _ _ z
  have lt : ∀ p ∈ onesN b v ++ cksN b (spotN (pl b) (cod0 b v)), p < pl b := fun p hp => by
    rcases List.mem_append.mp hp with z | z
    · exact (ones_lt h4 h32 (Nat.le_refl _) p z).1
    · exact (cks_lt _ _ p z).1
  have f1 : flip 0 (onesN b v ++ cksN b (spotN (pl b) (cod0 b v))) = cod1 b v := by rw [flip_append]; rfl
  have par : parB (pl b) (cod1 b v) = decide ((onesN b v ++ cksN b (spotN (pl b) (cod0 b v))).length % 2 = 1) := by
    rw [← f1, par_flip lt, par_zero, Bool.false_xor]
  rw [← flip_row]
  · rw [flip_append, f1]
    unfold cod
    rw [par]
    by_cases h : (onesN b v ++ cksN b (spotN (pl b) (cod0 b v))).length % 2 = 1
    · rw [if_pos h, if_pos (decide_eq_true h)]
    · rw [if_neg h, if_neg (by rw [decide_eq_false h]; decide)]
  · split
    · exact List.nodup_append.mpr ⟨nd, by simp, fun a ha c hc e => by rw [List.mem_singleton.mp hc] at e; exact n0 (e ▸ ha)⟩
    · rw [List.append_nil]; exact nd
/-- xs + [..], xs a list that stands somewhere -/
theorem el_catA {σ : L2.St} {H : Hp} {ta tb : TE} {p : Addr} {xs ys : List V} (ha : Ev ta σ H (.ref p)) (hp : H p = some (.lst xs)) (hb : EvL tb σ H ys) (hz : xs.length + ys.length ≤ 100000) : EvL (tOp rCat ta tb) σ H (xs ++ ys) := fun H1 e Q q =>
  ha H1 e _ fun H2 e2 => hb H2 (e.trans e2) _ fun p' H3 np' e3 hp' => ⟨p, p', xs, ys, rfl, rfl, ((e.trans e2).trans e3) _ _ hp, hp', sz_of hz, fun l nl => q l _ (fresh_back (e2.trans e3) nl) ((e2.trans e3).trans (Ex.new nl)) upd_same⟩
theorem bs_len (m n : Nat) : (bs m n).length ≤ m := by
  have := List.length_filter_le (fun p => n.testBit p) (List.range m)
  rw [List.length_range] at this
  exact this
theorem ck_le (b : Nat) : (ckN b).length ≤ pl b := by
  have := List.length_filter_le isPw (List.range (pl b))
  rw [List.length_range] at this
  exact this
theorem cks_len (b s : Nat) : (cksN b s).length ≤ pl b := Nat.le_trans (List.length_filter_le _ _) (ck_le b)
def spLcod : Sp := spCod
/-! ### flips of words -/
theorem flip_xor : ∀ (l : List Nat) (n : Nat), flip n l = n ^^^ flip 0 l
  | [], n => by show n = n ^^^ 0; rw [Nat.xor_zero]
  | p :: r, n => by
    show flip (n ^^^ 2 ^ p) r = n ^^^ flip (0 ^^^ 2 ^ p) r
    rw [flip_xor r (n ^^^ 2 ^ p), flip_xor r (0 ^^^ 2 ^ p), Nat.zero_xor, Nat.xor_assoc]
theorem xor_flip (n : Nat) (l : List Nat) : n ^^^ flip n l = flip 0 l := by rw [flip_xor, ← Nat.xor_assoc, Nat.xor_self, Nat.zero_xor]
theorem flip_bs {n x m : Nat} (h : x < 2 ^ m) : flip n (bs m x) = n ^^^ x := by rw [flip_xor, flip_row (bs_nodup m x), row_bs h]
theorem bs_flip {m : Nat} {l : List Nat} (nd : l.Nodup) : bs m (flip 0 l) = (List.range m).filter fun q => decide (q ∈ l) := by
  unfold bs
  refine List.filter_congr fun q _ => ?_
  rw [tb_flip_nd nd]
  simp
theorem bs_flip1 : ∀ p, p < 40 → bs 40 (flip 0 [p]) = [p] := by decide +kernel
theorem bs_sorted (m n : Nat) : (iL (bs m n)).Pairwise (· ≤ ·) := by
  unfold iL bs
  rw [List.pairwise_map]
  have h : (List.range m).Pairwise (fun (a b : Nat) => (a : Int) ≤ (b : Int)) := List.Pairwise.imp (fun {a b} (h : a < b) => by omega) List.pairwise_lt_range
  exact h.filter _
theorem bs_perm {p q : Nat} (h : p ≠ q) (hp : p < 40) (hq : q < 40) : (bs 40 (flip 0 [p, q])).Perm [p, q] := by
  have nd : [p, q].Nodup := by simp [h]
  rw [bs_flip nd]
  refine (List.perm_ext_iff_of_nodup (List.Nodup.sublist List.filter_sublist List.nodup_range) nd).mpr fun a => ?_
  rw [List.mem_filter, List.mem_range, decide_eq_true_eq]
  constructor
  · exact fun z => z.2
  · intro z
    refine ⟨?_, z⟩
    rcases List.mem_cons.mp z with rfl | z
    · exact hp
    · rw [List.mem_singleton.mp z]; exact hq
/-- sorted([p, q]) -/
theorem ev_sort2 {K : PySem.W.Frag} {σ : L2.St} {H : Hp} {ta : TE} {p q : Nat} (ha : EvL ta σ H [.int (p : Int), .int (q : Int)]) (h : p ≠ q) (hp : p < 40) (hq : q < 40) : EvL (tCB (rSorted K) (tCons ta tNil)) σ H ((iL (bs 40 (flip 0 [p, q]))).map V.int) := fun H1 e Q k =>
  ha H1 e _ fun l H2 nl e2 hl => ⟨l, [(p : Int), (q : Int)], rfl, sq_of hl, (by show 2 < 64; decide), fun ns' s pm so ns => by
    have e3 : ns' = iL (bs 40 (flip 0 [p, q])) := PySem.W.ksm_same (pm.trans ((bs_perm h hp hq).symm.map (fun n : Nat => (n : Int)))) so (bs_sorted _ _)
    subst e3
    exact k s _ (fresh_back e2 ns) (e2.trans (Ex.new ns)) upd_same⟩
def menV (b n : Nat) : V := if parB (pl b) n then (if spotN (pl b) n < pl b then .int ((flip n [spotN (pl b) n] : Nat) : Int) else .non) else (if spotN (pl b) n = 0 then .int (n : Int) else .non)
theorem stV_cases (b n : Nat) : (stV b n = [.str "one", .int ((spotN (pl b) n : Nat) : Int)] ∧ menV b n = .int ((flip n [spotN (pl b) n] : Nat) : Int) ∧ spotN (pl b) n < pl b) ∨ (stV b n = [.str "more", .non] ∧ menV b n = .non) ∨ (stV b n = [.str "clean", .non] ∧ menV b n = .int (n : Int)) := by
  unfold stV menV
  split
  · split
    · exact Or.inl ⟨rfl, rfl, by assumption⟩
    · exact Or.inr (Or.inl ⟨rfl, rfl⟩)
  · split
    · exact Or.inr (Or.inr ⟨rfl, rfl⟩)
    · exact Or.inr (Or.inl ⟨rfl, rfl⟩)
def spMended : Sp := fun vs H Q _ => ∃ b n : Nat, vs = [.int (b : Int), .int (n : Int)] ∧ 4 ≤ b ∧ b ≤ 32 ∧ n < 2 ^ pl b ∧ ∀ H', Ex H H' → Q (menV b n) H'
theorem SpMended {H : Hp} {b n : Nat} (h4 : 4 ≤ b) (h32 : b ≤ 32) (hn : n < 2 ^ pl b) : SpV spMended ([.int (b : Int), .int (n : Int)] ++ []) H (menV b n) := fun H1 e Q q E => ⟨b, n, rfl, h4, h32, hn, q⟩
theorem rv_isN {H : Hp} {x : V} : RV (fun x y H Q => y = .non ∧ Q (.bl (decide (x = .non))) H) x .non H (.bl (decide (x = .non))) := fun H1 _ _ q => ⟨rfl, q H1 (Ex.refl H1)⟩
theorem rv_notN {H : Hp} {x : V} : RV (fun x y H Q => y = .non ∧ Q (.bl (!decide (x = .non))) H) x .non H (.bl (!decide (x = .non))) := fun H1 _ _ q => ⟨rfl, q H1 (Ex.refl H1)⟩
theorem two_out (f s : Nat) (h : f ≠ s) : ∀ m, ((List.range m).filter fun i => !decide (i = f ∨ i = s)).length + (if f < m then 1 else 0) + (if s < m then 1 else 0) = m
  | 0 => rfl
  | m + 1 => by
    have ih := two_out f s h m
    rw [List.range_succ, List.filter_append, List.length_append, List.filter_cons]
    by_cases a : m = f <;> by_cases c : m = s
    · omega
    · subst a
      rw [decide_eq_true (Or.inl rfl), if_neg (by decide)]
      simp only [List.filter_nil, List.length_nil]
      split at ih <;> split at ih <;> split <;> split <;> omega
    · subst c
      rw [decide_eq_true (Or.inr rfl), if_neg (by decide)]
      simp only [List.filter_nil, List.length_nil]
      split at ih <;> split at ih <;> split <;> split <;> omega
    · rw [decide_eq_false (by omega), if_pos (by decide)]
      simp only [List.filter_nil, List.length_cons, List.length_nil]
      split at ih <;> split at ih <;> split <;> split <;> omega
/-- four flips, three of them at different places, give another row -/
theorem flip4_ne {n f s t u : Nat} (h1 : f ≠ s) (h2 : f ≠ t) (h3 : s ≠ t) : flip n [f, s, t, u] ≠ n := fun e => by
  have b1 : (flip n [f, s, t, u]).testBit f = n.testBit f := by rw [e]
  have b2 : (flip n [f, s, t, u]).testBit s = n.testBit s := by rw [e]
  have r : ∀ q, (flip n [f, s, t, u]).testBit q = ((((n.testBit q ^^ decide (f = q)) ^^ decide (s = q)) ^^ decide (t = q)) ^^ decide (u = q)) := fun q => by
    show ((((n ^^^ 2 ^ f) ^^^ 2 ^ s) ^^^ 2 ^ t) ^^^ 2 ^ u).testBit q = _
    rw [tb_flip1, tb_flip1, tb_flip1, tb_flip1]
  rw [r] at b1 b2
  rw [decide_eq_true rfl, decide_eq_false h1.symm, decide_eq_false h2.symm] at b1
  rw [decide_eq_false h1, decide_eq_true rfl, decide_eq_false h3.symm] at b2
  have u1 : u = f := by
    by_cases c : u = f
    · exact c
    · rw [decide_eq_false c] at b1
      cases n.testBit f <;> simp at b1
  have u2 : u = s := by
    by_cases c : u = s
    · exact c
    · rw [decide_eq_false c] at b2
      cases n.testBit s <;> simp at b2
  exact h1 (u1.symm.trans u2)
theorem flip6 (n f s t : Nat) : flip n [f, s, f, t, t, t] = flip n [s, t] := by
  refine Nat.eq_of_testBit_eq fun q => ?_
  show ((((((n ^^^ 2 ^ f) ^^^ 2 ^ s) ^^^ 2 ^ f) ^^^ 2 ^ t) ^^^ 2 ^ t) ^^^ 2 ^ t).testBit q = ((n ^^^ 2 ^ s) ^^^ 2 ^ t).testBit q
  simp only [tb_flip1]
  cases n.testBit q <;> cases decide (f = q) <;> cases decide (s = q) <;> cases decide (t = q) <;> rfl
/-! ### comparisons that find the same -/
theorem et_stNe {K : PySem.W.Frag} {σ : L2.St} {H : Hp} {t1 t2 : TE} {s : Str} {y : V} {d : PyData} (h1 : EvU t1 σ H [.str s, y]) (h2 : EvU t2 σ H [.str s, y]) (hd : ∀ H, Dp K H y d) (ly : Lay d 3) (hs : PyData.strOk s = true) : EvT (tTest (tOp (rNeD K) t1 t2)) σ H false :=
  et_test (ev_opUU h1 h2 fun p p' H1 hp hp' _ => rv_neS (d := .tuple [.str s, d]) (.tup (st_of hp) (.cons (.str _) (.cons (hd _) .nil))) (.tup (st_of hp') (.cons (.str _) (.cons (hd _) .nil))) (Lay.tuple (n := 3) (.cons (.str hs) (.cons ly .nil))).sh)
theorem et_lsNe {K : PySem.W.Frag} {σ : L2.St} {H : Hp} {t1 t2 : TE} {l : List Int} (h1 : EvL t1 σ H (l.map V.int)) (h2 : EvL t2 σ H (l.map V.int)) : EvT (tTest (tOp (rNeD K) t1 t2)) σ H false :=
  et_test (ev_opLL h1 h2 fun p p' H1 hp hp' _ => rv_neS (dp_ints (sq_of hp)) (dp_ints (sq_of hp')) (lay_ints l (n := 3)).sh)
theorem et_lsNeA {K : PySem.W.Frag} {σ : L2.St} {H : Hp} {t1 t2 : TE} {l : List Int} {p q : Addr} (h1 : Ev t1 σ H (.ref p)) (hp : SqL K H p (l.map V.int)) (h2 : Ev t2 σ H (.ref q)) (hq : SqL K H q (l.map V.int)) : EvT (tTest (tOp (rNeD K) t1 t2)) σ H false :=
  et_test (ev_op h1 h2 (rv_neS (dp_ints hp) (dp_ints hq) (lay_ints l (n := 3)).sh))
theorem et_eq {σ : L2.St} {H : Hp} {t1 t2 : TE} {x y : V} (h1 : Ev t1 σ H x) (h2 : Ev t2 σ H y) (hs : scal x y = true) : EvT (tTest (tOp rEq t1 t2)) σ H (decide (x = y)) := et_test (ev_op h1 h2 (rv_eq hs))
theorem et_ne {σ : L2.St} {H : Hp} {t1 t2 : TE} {x y : V} (h1 : Ev t1 σ H x) (h2 : Ev t2 σ H y) (hs : scal x y = true) : EvT (tTest (tOp rNe t1 t2)) σ H (!decide (x = y)) := et_test (ev_op h1 h2 (rv_ne hs))
/-- != of two that are the same -/
theorem et_neS {σ : L2.St} {H : Hp} {t1 t2 : TE} {x y : V} (h1 : Ev t1 σ H x) (h2 : Ev t2 σ H y) (hs : scal x y = true) (e : x = y) : EvT (tTest (tOp rNe t1 t2)) σ H false := et_is (et_ne h1 h2 hs) (by rw [decide_eq_true e]; rfl)
/-- a or b, both false -/
theorem et_or0 {σ : L2.St} {H : Hp} {t u : TT} (h1 : EvT t σ H false) (h2 : EvT u σ H false) : EvT (tOr t u) σ H false := et_or (a := false) (b := false) h1 fun _ => h2
theorem lst1 {σ : L2.St} {H : Hp} {ta : TE} {x : V} (h : Ev ta σ H x) : EvL (tLst (tCons ta tNil)) σ H [x] := el_lst (ea_cons h ea_nil) (by show 1 ≤ 100000; decide)
theorem lst2 {σ : L2.St} {H : Hp} {ta tb : TE} {x y : V} (h : Ev ta σ H x) (h2 : Ev tb σ H y) : EvL (tLst (tCons ta (tCons tb tNil))) σ H [x, y] := el_lst (ea_cons h (ea_cons h2 ea_nil)) (by show 2 ≤ 100000; decide)
theorem lst3 {σ : L2.St} {H : Hp} {ta tb tc : TE} {x y z : V} (h : Ev ta σ H x) (h2 : Ev tb σ H y) (h3 : Ev tc σ H z) : EvL (tLst (tCons ta (tCons tb (tCons tc tNil)))) σ H [x, y, z] := el_lst (ea_cons h (ea_cons h2 (ea_cons h3 ea_nil))) (by show 3 ≤ 100000; decide)
theorem tup2 {σ : L2.St} {H : Hp} {ta tb : TE} {x y : V} (h : Ev ta σ H x) (h2 : Ev tb σ H y) : EvU (tTup (tCons ta (tCons tb tNil))) σ H [x, y] := eu_tup (ea_cons h (ea_cons h2 ea_nil)) (by show 2 ≤ 100000; decide)
/-- t[i], the tuple made on the spot -/
theorem ev_opU0 {K : PySem.W.Frag} {σ : L2.St} {H : Hp} {ta tb : TE} {xs : List V} {i : Int} {v : V} (ha : EvU ta σ H xs) (hb : Ev tb σ H (.int i)) (hx : atI xs i = some v) : Ev (tOp (rIxT K) ta tb) σ H v := fun H1 e Q q =>
  ha H1 e _ fun p H2 _ e2 hp => hb H2 (e.trans e2) _ fun H3 e3 => ⟨p, xs, i, v, rfl, rfl, st_of (e3 _ _ hp), hx, q H3 (e2.trans e3)⟩
/-! ### words far apart -/
theorem spot_xor {m a c : Nat} (hc : c < 2 ^ m) : spotN m (a ^^^ c) = spotN m a ^^^ spotN m c := by
  have e : a ^^^ c = flip a (bs m c) := (flip_bs hc).symm
  rw [e, spot_flip fun p hp => (bs_mem.mp hp).1]
  rfl
theorem par_xor {m a c : Nat} (hc : c < 2 ^ m) : parB m (a ^^^ c) = (parB m a ^^ parB m c) := by
  have e : a ^^^ c = flip a (bs m c) := (flip_bs hc).symm
  rw [e, par_flip fun p hp => (bs_mem.mp hp).1]
  rfl
theorem far {b u v : Nat} (h4 : 4 ≤ b) (h32 : b ≤ 32) (hu : u < 2 ^ b) (hv : v < 2 ^ b) (h : u ≠ v) : 4 ≤ (bs 40 (cod b u ^^^ cod b v)).length := by
  have hpl := pl_le h32
  have cu := cod_lt (v := u) h4 h32
  have cv := cod_lt (v := v) h4 h32
  have hx : cod b u ^^^ cod b v < 2 ^ pl b := Nat.xor_lt_two_pow cu cv
  have hs : spotN (pl b) (cod b u ^^^ cod b v) = 0 := by rw [spot_xor cv, cod_spot h4 h32, cod_spot h4 h32]; rfl
  have hp : parB (pl b) (cod b u ^^^ cod b v) = false := by rw [par_xor cv, cod_par h4 h32, cod_par h4 h32]; rfl
  rw [bs_more hx (by omega)]
  have hne : bs (pl b) (cod b u ^^^ cod b v) ≠ [] := fun z => by
    have e := row_bs hx
    rw [z] at e
    have e2 := xor0 e.symm
    have e3 := val_cod h4 h32 hu
    rw [e2, val_cod h4 h32 hv] at e3
    exact h e3.symm
  have nd := bs_nodup (pl b) (cod b u ^^^ cod b v)
  unfold spotN at hs
  unfold parB at hp
  have hp := of_decide_eq_false hp
  revert hne nd hs hp
  generalize bs (pl b) (cod b u ^^^ cod b v) = l
  intro hs hne nd hp
  match l, hs, hp, hne, nd with
  | [], _, _, hne, _ => exact absurd rfl hne
  | [a], _, hp, _, _ => exact absurd (show [a].length % 2 = 1 from rfl) hp
  | [a, c], hs, _, _, nd =>
    rw [sx_cons, sx_one] at hs
    have := xor0 hs
    subst this
    exact absurd nd (by simp)
  | [a, c, d], _, hp, _, _ => exact absurd (show [a, c, d].length % 2 = 1 by simp) hp
  | a :: c :: d :: e :: r, _, _, _, _ => simp
/-- [e for i, x in enumerate(xs) if t], xs a list that stands somewhere -/
theorem el_lcEA {K : PySem.W.Frag} {σ : L2.St} {H : Hp} {tl te : TE} {tt : TT} {q : Addr} {xs : List V} {j1 j2 : Nat} {vs : List Nat} (f : Nat → Bool) (g : Nat → V) (h : Ev tl σ H (.ref q)) (hq : SqL K H q xs) (hz : xs.length ≤ 40000) (hw : ∀ x y, wipe (((wipe σ vs).set j1 (some x)).set j2 (some y)) vs = wipe σ vs)
    (ht : ∀ (i : Nat) (x : V) H1, Ex H H1 → xs[i]? = some x → EvT tt (((wipe σ vs).set j1 (some (.int (i : Int)))).set j2 (some x)) H1 (f i)) (he : ∀ (i : Nat) (x : V) H1, Ex H H1 → xs[i]? = some x → f i = true → Ev te (((wipe σ vs).set j1 (some (.int (i : Int)))).set j2 (some x)) H1 (g i)) :
    EvL (tLc (iEnum K (tCons tl tNil)) (gTup K 2 (gCons (gName j1) (gCons (gName j2) gNil))) tt te vs) σ H (given xs.length f g) := fun H0 e Q k => h H0 e _ fun H1 e1 => ⟨q, xs, rfl, ex_l (e.trans e1) hq, fun Dl hD => by
  refine ⟨fun i m H' => m = xs.length - i ∧ i ≤ xs.length ∧ Cw H1 f g Dl i H', ⟨xs.length, by simp, Nat.zero_le _, hD, Ex.new hD, upd_same⟩, ?_⟩
  rintro i m H' ⟨rfl, hi, pp⟩
  have qx : SqL K H' q xs := ex_l ((e.trans e1).trans pp.2.1) hq
  by_cases hlt : i < xs.length
  · refine .inr ⟨⟨xs, xs[i], qx, by simp [hlt]⟩, Cw H1 f g Dl (i + 1), fun H2 p' => ⟨xs.length - (i + 1), by omega, rfl, hlt, p'⟩, fun v H2 y => ?_⟩
    obtain ⟨T, x, rfl, nT, rfl, hxx⟩ := y
    have hix := hxx xs qx
    have hDT : Dl ≠ T := ne_of_none pp.2.2 nT
    have pp2 : Cw H1 f g Dl i (upd H' T (.tup [.int ((i : Nat) : Int), x])) := ⟨pp.1, pp.2.1.trans (Ex.new nT), by rw [upd_ne hDT]; exact pp.2.2⟩
    exact ⟨T, _, rfl, st_of upd_same, rfl, _, _, rfl, _, _, rfl, rfl, hw _ _, cw_turn pp2 (by omega) (ht i x H1 (e.trans e1) hix) (fun hf => he i x H1 (e.trans e1) hix hf)⟩
  · have e' : i = xs.length := by omega
    subst e'
    exact .inl ⟨⟨xs, qx, Nat.le_refl _⟩, k Dl H' (fresh_back e1 pp.1) (e1.trans pp.2.1) pp.2.2⟩⟩
/-- [..] + ys, ys a list that stands somewhere -/
theorem el_catB {σ : L2.St} {H : Hp} {ta tb : TE} {p : Addr} {xs ys : List V} (ha : EvL ta σ H xs) (hb : Ev tb σ H (.ref p)) (hp : H p = some (.lst ys)) (hz : xs.length + ys.length ≤ 100000) : EvL (tOp rCat ta tb) σ H (xs ++ ys) := fun H1 e Q q =>
  ha H1 e _ fun p' H2 np' e2 hp' => hb H2 (e.trans e2) _ fun H3 e3 => ⟨p', p, xs, ys, rfl, rfl, e3 _ _ hp', ((e.trans e2).trans e3) _ _ hp, sz_of hz, fun l nl => q l _ (fresh_back (e2.trans e3) nl) ((e2.trans e3).trans (Ex.new nl)) upd_same⟩
/-- all but two objects are kept -/
def Kp (a b : Addr) (H H' : Hp) : Prop := ∀ c o, c ≠ a → c ≠ b → H c = some o → H' c = some o
theorem Kp.refl (a b : Addr) (H : Hp) : Kp a b H H := fun _ _ _ _ h => h
theorem Kp.ex {a b : Addr} {H H1 H2 : Hp} (k : Kp a b H H1) (e : Ex H1 H2) : Kp a b H H2 := fun c o h1 h2 h => e _ _ (k c o h1 h2 h)
theorem Kp.ua {a b : Addr} {H H1 : Hp} {o : HO} (k : Kp a b H H1) : Kp a b H (upd H1 a o) := fun c u h1 h2 h => by rw [upd_ne h1]; exact k c u h1 h2 h
theorem Kp.ub {a b : Addr} {H H1 : Hp} {o : HO} (k : Kp a b H H1) : Kp a b H (upd H1 b o) := fun c u h1 h2 h => by rw [upd_ne h2]; exact k c u h1 h2 h
def spCount : Sp := fun vs H Q _ => ∃ b : Nat, vs = [.int (b : Int)] ∧ 4 ≤ b ∧ b ≤ 32 ∧ ∀ p H', H p = none → Ex H H' → H' p = some (.tup [.int ((2 ^ b : Nat) : Int), .int (((2 ^ b : Nat) : Int) * ((pl b : Nat) : Int)), .int (((2 ^ pl b : Nat) : Int) - ((2 ^ b : Nat) : Int) - ((2 ^ b : Nat) : Int) * ((pl b : Nat) : Int))]) → Q (.ref p) H'
theorem SpCount {H : Hp} {b : Nat} (h4 : 4 ≤ b) (h32 : b ≤ 32) : SpU spCount ([.int (b : Int)] ++ []) H [.int ((2 ^ b : Nat) : Int), .int (((2 ^ b : Nat) : Int) * ((pl b : Nat) : Int)), .int (((2 ^ pl b : Nat) : Int) - ((2 ^ b : Nat) : Int) - ((2 ^ b : Nat) : Int) * ((pl b : Nat) : Int))] := fun H1 e Q q E => ⟨b, rfl, h4, h32, q⟩
def kd (n : Nat) : Nat := if parB 8 n then (if spotN 8 n < 8 then 1 else 2) else (if spotN 8 n = 0 then 0 else 2)
def kds (i j : Nat) : Nat := ((List.range i).filter fun n => decide (kd n = j)).length
theorem kds_succ (i j : Nat) : kds (i + 1) j = kds i j + (if kd i = j then 1 else 0) := by
  unfold kds
  rw [List.range_succ, List.filter_append, List.length_append, List.filter_cons]
  by_cases h : kd i = j
  · rw [if_pos (decide_eq_true h), if_pos h]; rfl
  · rw [if_neg (by rw [decide_eq_false h]; decide), if_neg h]; rfl
theorem kds_all : kds 256 0 = 16 ∧ kds 256 1 = 128 ∧ kds 256 2 = 112 := by decide +kernel
theorem stV_kd (n : Nat) : ∃ y, stV 4 n = [(if kd n = 0 then .str "clean" else if kd n = 1 then .str "one" else .str "more"), y] := by
  have h8 : pl 4 = 8 := by decide
  unfold stV kd
  rw [h8]
  split <;> split <;> exact ⟨_, rfl⟩
theorem kd_lt (n : Nat) : kd n = 0 ∨ kd n = 1 ∨ kd n = 2 := by
  unfold kd
  split <;> split <;> omega
theorem cmul_nat {n : Nat} {j : Int} (h : n < 2 ^ 64) : CMul (n : Int) j := Or.inl ⟨by omega, by omega⟩
theorem p64 {b : Nat} (h : b ≤ 40) : 2 ^ b < 2 ^ 64 := Nat.pow_lt_pow_right (by decide) (by omega)
/-! ### lists whose items have a property -/
def EaA (ta : TA) (σ : L2.St) (H : Hp) (k : Nat) (P : V → Hp → Prop) : Prop := ∀ H1, Ex H H1 → ∀ Q : List V → Hp → Prop, (∀ vs H2, Ex H1 H2 → vs.length = k → (∀ x ∈ vs, P x H2) → Q vs H2) → ta σ H1 Q
theorem eaA_nil {σ : L2.St} {H : Hp} {P : V → Hp → Prop} : EaA tNil σ H 0 P := fun H1 _ _ q => q [] H1 (Ex.refl H1) rfl fun _ z => nomatch z
theorem eaA_cons {σ : L2.St} {H : Hp} {ta : TE} {tr : TA} {k : Nat} {P : V → Hp → Prop} (m : ∀ v H1 H2, Ex H1 H2 → P v H1 → P v H2) (h : EvG ta σ H P) (hr : EaA tr σ H k P) : EaA (tCons ta tr) σ H (k + 1) P := fun H1 e _ q =>
  h H1 e _ fun v H2 e2 pv => hr H2 (e.trans e2) _ fun vs H3 e3 hl pr => q _ H3 (e2.trans e3) (by rw [List.length_cons, hl]) fun x hx => by
    rcases List.mem_cons.mp hx with rfl | hx
    · exact m _ _ _ e3 pv
    · exact pr x hx
theorem evG_lstA {σ : L2.St} {H : Hp} {ta : TA} {k : Nat} {P : V → Hp → Prop} (m : ∀ v H1 H2, Ex H1 H2 → P v H1 → P v H2) (h : EaA ta σ H k P) (hk : k ≤ 100000) : EvG (tLst ta) σ H (fun v H' => ∃ p xs, v = .ref p ∧ H' p = some (.lst xs) ∧ H p = none ∧ xs.length = k ∧ ∀ x ∈ xs, P x H') := fun H1 e Q q =>
  h H1 e _ fun vs H2 e2 hl pv => ⟨sz_of (by omega), fun p np => q _ _ (e2.trans (Ex.new np)) ⟨p, vs, rfl, upd_same, fresh_back (e.trans e2) np, hl, fun x hx => m _ _ _ (Ex.new np) (pv x hx)⟩⟩
theorem s_forG {K : PySem.W.Frag} {σ : L2.St} {H : Hp} {tl : TE} {g : TG} {tu : TS} {D : Ends} {R : Addr → List V → Hp → Prop} (h : EvG tl σ H (fun v H1 => ∃ p xs, v = .ref p ∧ H1 p = some (.lst xs) ∧ R p xs H1)) (Pv : Addr → List V → Nat → L2.St → Hp → Prop) (h0 : ∀ p xs H1, Ex H H1 → H1 p = some (.lst xs) → R p xs H1 → Pv p xs 0 σ H1)
    (hl : ∀ p xs i σ' H', i ≤ xs.length → Pv p xs i σ' H' → SqL K H' p xs) (hs : ∀ p xs i x σ' H', xs[i]? = some x → Pv p xs i σ' H' → g x σ' H' fun σ2 H2 => tu { D with nx := Pv p xs (i + 1), ct := Pv p xs (i + 1), bk := D.nx } σ2 H2)
    (hd : ∀ p xs σ' H', Pv p xs xs.length σ' H' → D.nx σ' H') : tFor (iList K tl) g tu D σ H :=
  h H (Ex.refl H) _ fun v H1 e ⟨p, xs, ev, hp, r⟩ => ⟨p, ev, ⟨xs, sq_of hp⟩, for_list (Pv p xs) (h0 p xs H1 e hp r) (hl p xs) (hs p xs) (hd p xs)⟩
theorem q_unp2 {K : PySem.W.Frag} {σ : L2.St} {H : Hp} {te : TE} {tz : TS} {D : Ends} {i j : Nat} {x y : V} (h : EvU te σ H [x, y]) (k : ∀ H1, Ex H H1 → tz D ((σ.set i (some x)).set j (some y)) H1) : tSeq (tAsg te (gTup K 2 (gCons (gName i) (gCons (gName j) gNil)))) tz D σ H :=
  h H (Ex.refl H) _ fun p H1 _ e hp => ⟨p, _, rfl, st_of hp, rfl, _, _, rfl, _, _, rfl, rfl, k H1 e⟩
/-- [..].index(y) -/
theorem ev_idx {K : PySem.W.Frag} {σ : L2.St} {H : Hp} {ta tb : TE} {ys : List V} {y z : V} {j : Nat} (ha : EvL ta σ H ys) (hb : Ev tb σ H y) (fy : flatV y = true) (fa : ys.all flatV = true) (hz : ys[j]? = some z) (he : eqV z y = true) (hn : ∀ (m : Nat) (z' : V), m < j → ys[m]? = some z' → eqV z' y = false) :
    Ev (tBM K "list" (rIndex K) ta (tCons tb tNil)) σ H (.int (j : Int)) := fun H1 e Q q =>
  ha H1 e _ fun p H2 _ e2 hp => ⟨Or.inl ⟨rfl, _, sq_of hp⟩, hb H2 (e.trans e2) _ fun H3 e3 => ⟨p, ys, y, j, z, rfl, rfl, sq_of (e3 _ _ hp), fy, fa, hz, he, hn, q H3 (e2.trans e3)⟩⟩
theorem eu_tupA {K : PySem.W.Frag} {σ : L2.St} {H : Hp} {ta : TE} {p : Addr} {xs : List V} (ha : Ev ta σ H (.ref p)) (h : SqL K H p xs) : EvU (tCB (rTupS K) (tCons ta tNil)) σ H xs := fun H1 e Q q =>
  ha H1 e _ fun H2 e2 => ⟨p, xs, rfl, Or.inl ⟨ex_l (e.trans e2) h, fun l nl => q l _ (fresh_back e2 nl) (e2.trans (Ex.new nl)) upd_same⟩⟩
/-! ### values known as data -/
section
variable {K : PySem.W.Frag} {σ : L2.St} {H : Hp} {ta tb te : TE} {r : R2}
def EvD (K : PySem.W.Frag) (te : TE) (σ : L2.St) (H : Hp) (d : PyData) : Prop := EvG te σ H (fun v H' => Dp K H' v d)
theorem Ev.d {v : V} {d : PyData} (h : Ev te σ H v) (hd : ∀ H, Dp K H v d) : EvD K te σ H d := fun H1 e Q q => h H1 e Q fun H2 e2 => q v H2 e2 (hd H2)
theorem Ev.dAt {v : V} {d : PyData} (h : Ev te σ H v) (hd : Dp K H v d) : EvD K te σ H d := fun H1 e Q q => h H1 e Q fun H2 e2 => q v H2 e2 (dp_ex (e.trans e2) hd)
theorem EvU.d {xs : List V} {ds : List PyData} (h : EvU te σ H xs) (hd : ∀ H, DpAll K H xs ds) : EvD K te σ H (.tuple ds) := fun H1 e Q q => h H1 e Q fun p H2 _ e2 hp => q _ H2 e2 (.tup (st_of hp) (hd H2))
theorem evG_tup2 {P1 P2 : V → Hp → Prop} (h1 : EvG ta σ H P1) (m1 : ∀ v H1 H2, Ex H1 H2 → P1 v H1 → P1 v H2) (h2 : EvG tb σ H P2) (m2 : ∀ v H1 H2, Ex H1 H2 → P2 v H1 → P2 v H2) :
    EvG (tTup (tCons ta (tCons tb tNil))) σ H (fun v H' => ∃ p a c, v = .ref p ∧ H p = none ∧ H' p = some (.tup [a, c]) ∧ P1 a H' ∧ P2 c H') := fun H1 e Q q =>
  h1 H1 e _ fun a H2 e2 p1 => h2 H2 (e.trans e2) _ fun c H3 e3 p2 => ⟨(by decide : 2 ≤ sizeLine), fun p np =>
    q _ _ ((e2.trans e3).trans (Ex.new np)) ⟨p, a, c, rfl, fresh_back ((e.trans e2).trans e3) np, upd_same, m1 _ _ _ (e3.trans (Ex.new np)) p1, m2 _ _ _ (Ex.new np) p2⟩⟩
theorem evD_tup2 {d1 d2 : PyData} (h1 : EvD K ta σ H d1) (h2 : EvD K tb σ H d2) : EvD K (tTup (tCons ta (tCons tb tNil))) σ H (.tuple [d1, d2]) :=
  (evG_tup2 h1 (fun _ _ _ e h => dp_ex e h) h2 (fun _ _ _ e h => dp_ex e h)).imp fun v H1 _ ⟨p, a, c, ev, _, hp, d1, d2⟩ => by
    subst ev
    exact .tup (st_of hp) (.cons d1 (.cons d2 .nil))
theorem et_neD {d : PyData} (h1 : EvD K ta σ H d) (h2 : EvD K tb σ H d) (sh : SeqAt.shaped d = true) : EvT (tTest (tOp (rNeD K) ta tb)) σ H false :=
  et_test (opG h1 (fun _ _ _ e h => dp_ex e h) h2 fun a c H1 _ da dc => rv_neS da dc sh)
theorem evG_op {P1 P2 P : V → Hp → Prop} (h1 : EvG ta σ H P1) (m1 : ∀ v H1 H2, Ex H1 H2 → P1 v H1 → P1 v H2) (h2 : EvG tb σ H P2) (hr : ∀ a c H1, Ex H H1 → P1 a H1 → P2 c H1 → ∀ Q : VK, (∀ v H2, Ex H1 H2 → P v H2 → Q v H2) → r a c H1 Q) : EvG (tOp r ta tb) σ H P := fun H1 e Q q =>
  h1 H1 e _ fun a H2 e2 p1 => h2 H2 (e.trans e2) _ fun c H3 e3 p2 => hr a c H3 ((e.trans e2).trans e3) (m1 _ _ _ e3 p1) p2 Q fun v H4 e4 p => q v H4 ((e2.trans e3).trans e4) p
theorem el_rep1 {x : V} {c : Bool} (ha : EvL ta σ H [x]) (hb : Ev tb σ H (.int (if c then 1 else 0))) : EvL (tOp rRep ta tb) σ H (if c then [x] else []) := fun H1 e Q q =>
  ha H1 e _ fun p H2 np e2 hp => hb H2 (e.trans e2) _ fun H3 e3 => ⟨p, _, [x], rfl, rfl, e3 _ _ hp, by split <;> decide, by split <;> decide, by split <;> first | (show 1 ≤ sizeLine; decide) | (show 0 ≤ sizeLine; decide), fun l nl => by
    refine q l _ (fresh_back (e2.trans e3) nl) ((e2.trans e3).trans (Ex.new nl)) ?_
    rw [upd_same]
    cases c <;> rfl⟩
theorem ev_lenSet {ns : List Int} {p : Addr} (ha : Ev ta σ H (.ref p)) (h : SqL K H p (ns.map V.int)) (nd : ns.Nodup) (hl : ns.length ≤ 4000) : Ev (RZ.tLenSetI K ta) σ H (.int ((ns.length : Nat) : Int)) := fun H1 e Q q =>
  ha H1 e _ fun H2 e2 => ⟨p, ns, rfl, ex_l (e.trans e2) h, nd, hl, q H2 e2⟩
end
/-! ### all rows and all words -/
def wordsN (b : Nat) : List Nat := (List.range (2 ^ b)).map (cod b)
theorem pw_bit : ∀ p, p < 40 → isPw p = true → ∀ k, k < 6 → p.testBit k = true → p = 2 ^ k := by decide +kernel
theorem pw_form : ∀ p, p < 40 → isPw p = true → p = 0 ∨ ∃ k, k < 6 ∧ p = 2 ^ k := by decide +kernel
theorem len1 {α : Type} {q : α} : ∀ {l : List α}, l.Nodup → q ∈ l → (∀ p ∈ l, p = q) → l.length = 1
  | [], _, h, _ => nomatch h
  | [a], _, _, _ => rfl
  | a :: c :: r, nd, _, h => by
    have h1 := h a List.mem_cons_self
    have h2 := h c (List.mem_cons_of_mem _ List.mem_cons_self)
    rw [h1, h2] at nd
    exact absurd List.mem_cons_self (List.nodup_cons.mp nd).1
theorem no_pow {l : List Nat} (nd : l.Nodup) (hp : ∀ p ∈ l, p < 40 ∧ isPw p = true) (hs : sx l = 0) : ∀ p ∈ l, p = 0 := fun p h => by
  rcases pw_form p (hp p h).1 (hp p h).2 with h0 | ⟨k, hk, e⟩
  · exact h0
  · have t := tb_sx k l
    rw [hs] at t
    have e1 : (l.filter fun p => p.testBit k).length = 1 := by
      refine len1 (q := p) (List.Nodup.sublist List.filter_sublist nd) (List.mem_filter.mpr ⟨h, by rw [e, Nat.testBit_two_pow]; simp⟩) fun z hz => ?_
      have hz := List.mem_filter.mp hz
      rw [e]
      exact pw_bit z (hp z hz.1).1 (hp z hz.1).2 k hk hz.2
    rw [e1] at t
    simp at t
theorem is_word {b n : Nat} (h4 : 4 ≤ b) (h32 : b ≤ 32) (hn : n < 2 ^ pl b) : n ∈ wordsN b ↔ (spotN (pl b) n = 0 ∧ parB (pl b) n = false) := by
  have hpl := pl_le h32
  constructor
  · intro h
    obtain ⟨v, _, rfl⟩ := List.mem_map.mp h
    exact ⟨cod_spot h4 h32, cod_par h4 h32⟩
  · rintro ⟨hs, hp⟩
    have hv : valN b n < 2 ^ b := row_lt (List.Nodup.sublist List.filter_sublist List.nodup_range) fun p hp => List.mem_range.mp (List.mem_filter.mp hp).1
    refine List.mem_map.mpr ⟨valN b n, List.mem_range.mpr hv, ?_⟩
    have cl := cod_lt (v := valN b n) h4 h32
    have hx : n ^^^ cod b (valN b n) < 2 ^ pl b := Nat.xor_lt_two_pow hn cl
    have sx0 : sx (bs (pl b) (n ^^^ cod b (valN b n))) = 0 := by
      show spotN _ _ = 0
      rw [spot_xor cl, hs, cod_spot h4 h32]; rfl
    have px : parB (pl b) (n ^^^ cod b (valN b n)) = false := by rw [par_xor cl, hp, cod_par h4 h32]; rfl
    have pw : ∀ p ∈ bs (pl b) (n ^^^ cod b (valN b n)), p < 40 ∧ isPw p = true := fun p hp => by
      have hm := bs_mem.mp hp
      refine ⟨by omega, ?_⟩
      cases e : isPw p with
      | true => rfl
      | false =>
        have hd : p ∈ dtN b := List.mem_filter.mpr ⟨List.mem_range.mpr hm.1, by rw [e]; rfl⟩
        obtain ⟨i, hi, ei⟩ := List.getElem_of_mem hd
        have hib : i < b := by have := dt_len b (by omega) h4; omega
        have ed : dt b i = p := by
          have := dt_at h4 h32 hib
          rw [List.getElem?_eq_getElem hi, ei] at this
          exact (Option.some.inj this).symm
        have t := hm.2
        rw [← ed, Nat.testBit_xor, cod_data h4 h32 hib] at t
        unfold valN at t
        rw [tb_row (List.Nodup.sublist List.filter_sublist List.nodup_range)] at t
        have iff : (i ∈ (List.range b).filter fun i => n.testBit (dt b i)) ↔ n.testBit (dt b i) = true := by
          rw [List.mem_filter, List.mem_range]
          exact ⟨fun z => z.2, fun z => ⟨hib, z⟩⟩
        cases c : n.testBit (dt b i) with
        | true => rw [c, decide_eq_true (iff.mpr c)] at t; cases t
        | false => rw [c, decide_eq_false (fun z => by rw [iff.mp z] at c; cases c)] at t; cases t
    have all0 := no_pow (bs_nodup _ _) pw sx0
    have nil : bs (pl b) (n ^^^ cod b (valN b n)) = [] := by
      have nd := bs_nodup (pl b) (n ^^^ cod b (valN b n))
      unfold parB at px
      have px := of_decide_eq_false px
      cases h : bs (pl b) (n ^^^ cod b (valN b n)) with
      | nil => rfl
      | cons a r =>
        rw [h] at nd px all0
        have := len1 (q := 0) nd (by rw [← all0 a List.mem_cons_self]; exact List.mem_cons_self) all0
        rw [this] at px
        exact absurd rfl px
    have e := row_bs hx
    rw [nil] at e
    exact (xor0 e.symm).symm
/-- what is due of a row -/
def dueD (b n : Nat) : PyData := if parB (pl b) n then (if spotN (pl b) n < pl b then .tuple [.tuple [.str "one", .int ((spotN (pl b) n : Nat) : Int)], .int ((flip n [spotN (pl b) n] : Nat) : Int)] else .tuple [.tuple [.str "more", .none], .none])
  else (if spotN (pl b) n = 0 then .tuple [.tuple [.str "clean", .none], .int (n : Int)] else .tuple [.tuple [.str "more", .none], .none])
def stD (b n : Nat) : PyData := if parB (pl b) n then (if spotN (pl b) n < pl b then .tuple [.str "one", .int ((spotN (pl b) n : Nat) : Int)] else .tuple [.str "more", .none]) else (if spotN (pl b) n = 0 then .tuple [.str "clean", .none] else .tuple [.str "more", .none])
def meD (b n : Nat) : PyData := if parB (pl b) n then (if spotN (pl b) n < pl b then .int ((flip n [spotN (pl b) n] : Nat) : Int) else .none) else (if spotN (pl b) n = 0 then .int (n : Int) else .none)
theorem due_eq (b n : Nat) : dueD b n = .tuple [stD b n, meD b n] := by
  unfold dueD stD meD
  split <;> split <;> rfl
theorem due_sh (b n : Nat) : SeqAt.shaped (dueD b n) = true := by
  have s1 : PyData.strOk ("one" : Str) = true := by decide +kernel
  have s2 : PyData.strOk ("more" : Str) = true := by decide +kernel
  have s3 : PyData.strOk ("clean" : Str) = true := by decide +kernel
  unfold dueD
  split <;> split
  · exact (Lay.tuple (n := 4) (.cons (.tuple (n := 3) (.cons (.str s1) (.cons (.int _) .nil))) (.cons (.int _) .nil))).sh
  · exact (Lay.tuple (n := 4) (.cons (.tuple (n := 3) (.cons (.str s2) (.cons .none .nil))) (.cons .none .nil))).sh
  · exact (Lay.tuple (n := 4) (.cons (.tuple (n := 3) (.cons (.str s3) (.cons .none .nil))) (.cons (.int _) .nil))).sh
  · exact (Lay.tuple (n := 4) (.cons (.tuple (n := 3) (.cons (.str s2) (.cons .none .nil))) (.cons .none .nil))).sh
theorem st_dp {K : PySem.W.Frag} (b n : Nat) : ∃ ds, stD b n = .tuple ds ∧ ∀ H, DpAll K H (stV b n) ds := by
  unfold stD stV
  split <;> split
  · exact ⟨_, rfl, fun H => .cons (.str _) (.cons (.int _) .nil)⟩
  · exact ⟨_, rfl, fun H => .cons (.str _) (.cons .non .nil)⟩
  · exact ⟨_, rfl, fun H => .cons (.str _) (.cons .non .nil)⟩
  · exact ⟨_, rfl, fun H => .cons (.str _) (.cons .non .nil)⟩
theorem me_dp {K : PySem.W.Frag} (b n : Nat) (H : Hp) : Dp K H (menV b n) (meD b n) := by
  unfold meD menV
  split <;> split
  · exact .int _
  · exact .non
  · exact .int _
  · exact .non
/-- a place turned in a list of places -/
def togg (l : List Nat) (p : Nat) : List Nat := l.filter (fun m => !decide (m = p)) ++ (if p ∉ l then [p] else [])
theorem togg_nodup {l : List Nat} {p : Nat} (nd : l.Nodup) : (togg l p).Nodup := by
  unfold togg
  refine List.nodup_append.mpr ⟨List.Nodup.sublist List.filter_sublist nd, by split <;> simp, fun a ha c hc e => ?_⟩
  split at hc
  · rename_i h
    rw [List.mem_singleton.mp hc] at e
    exact h (e ▸ (List.mem_filter.mp ha).1)
  · cases hc
theorem togg_mem {l : List Nat} {p q : Nat} : q ∈ togg l p ↔ ((q ∈ l ∧ q ≠ p) ∨ (q = p ∧ p ∉ l)) := by
  unfold togg
  rw [List.mem_append, List.mem_filter]
  by_cases h : p ∈ l
  · rw [if_neg (fun z => z h)]
    constructor
    · rintro (⟨a, c⟩ | z)
      · exact Or.inl ⟨a, fun e => by rw [decide_eq_true e] at c; cases c⟩
      · cases z
    · rintro (⟨a, c⟩ | ⟨_, z⟩)
      · exact Or.inl ⟨a, by rw [decide_eq_false c]; rfl⟩
      · exact absurd h z
  · rw [if_pos h]
    constructor
    · rintro (⟨a, c⟩ | z)
      · exact Or.inl ⟨a, fun e => by rw [decide_eq_true e] at c; cases c⟩
      · exact Or.inr ⟨List.mem_singleton.mp z, h⟩
    · rintro (⟨a, c⟩ | ⟨e, _⟩)
      · exact Or.inl ⟨a, by rw [decide_eq_false c]; rfl⟩
      · rw [e]; exact Or.inr (List.mem_singleton.mpr rfl)
theorem togg_row {l : List Nat} {p : Nat} (nd : l.Nodup) : rowOf (togg l p) = rowOf l ^^^ 2 ^ p := by
  refine Nat.eq_of_testBit_eq fun q => ?_
  rw [tb_row (togg_nodup nd), tb_flip1, tb_row nd]
  by_cases h : q ∈ l <;> by_cases e : p = q
  · subst e
    rw [decide_eq_true h, decide_eq_true rfl, decide_eq_false]
    · rfl
    · intro z
      rcases togg_mem.mp z with z | z
      · exact z.2 rfl
      · exact z.2 h
  · rw [decide_eq_true h, decide_eq_false e, decide_eq_true (togg_mem.mpr (Or.inl ⟨h, fun z => e z.symm⟩))]
    rfl
  · subst e
    rw [decide_eq_false h, decide_eq_true rfl, decide_eq_true (togg_mem.mpr (Or.inr ⟨rfl, h⟩))]
    rfl
  · rw [decide_eq_false h, decide_eq_false e, decide_eq_false]
    · rfl
    · intro z
      rcases togg_mem.mp z with z | z
      · exact h z.1
      · exact e z.1.symm
theorem togg_len {l : List Nat} {p : Nat} : (togg l p).length ≤ l.length + 1 := by
  unfold togg
  rw [List.length_append]
  have := List.length_filter_le (fun m => !decide (m = p)) l
  split
  · show _ + 1 ≤ _; omega
  · show _ + 0 ≤ _; omega
theorem togg_iL (l : List Nat) (p : Nat) : (iL (l.filter (fun m => !decide (V.int (m : Int) = V.int (p : Int))))).map V.int ++ (if (!decide ((p : Int) ∈ iL l)) = true then [V.int (p : Int)] else []) = (iL (togg l p)).map V.int := by
  unfold togg
  rw [iL_app]
  congr 1
  · congr 2
    refine List.filter_congr fun m _ => ?_
    congr 1
    refine decide_eq_decide.mpr ⟨fun z => ?_, fun z => by rw [z]⟩
    injection z with z
    omega
  · by_cases h : p ∈ l
    · rw [decide_eq_true (mem_iL.mpr h), if_neg (by decide), if_neg (fun z => z h)]; rfl
    · rw [decide_eq_false (fun z => h (mem_iL.mp z)), if_pos (by decide), if_pos h]; rfl
def spLstate (K : PySem.W.Frag) : Sp := fun vs H Q _ => ∃ (wa : Addr) (b n : Nat), vs = [.ref wa, .int ((pl b : Nat) : Int), .int (n : Int)] ∧ 4 ≤ b ∧ b ≤ 7 ∧ n < 2 ^ pl b ∧ SqL K H wa ((iL (wordsN b)).map V.int) ∧ ∀ x H', Dp K H' x (dueD b n) → Ex H H' → Q x H'
theorem s_appG {K : PySem.W.Frag} {σ : L2.St} {H : Hp} {ta te : TE} {D : Ends} {l : Addr} {xs : List V} {P : V → Hp → Prop} (hl : H l = some (.lst xs)) (ha : Ev ta σ H (.ref l)) (h : EvG te σ H P) (hz : xs.length < 100000) (k : ∀ v H1, Ex H H1 → P v H1 → D.nx σ (upd H1 l (.lst (xs ++ [v])))) :
    tDrop (tBM K "list" rAppend ta (tCons te tNil)) D σ H := ha H (Ex.refl H) _ fun H1 e1 =>
  ⟨Or.inl ⟨rfl, xs, sq_of (e1 l _ hl)⟩, h H1 e1 _ fun v H2 e2 pv => ⟨l, xs, v, rfl, rfl, e2 l _ (e1 l _ hl), sz_lt hz, k v H2 (e1.trans e2) pv⟩⟩
end My
set_option Elab.async false
set_option linter.all false
set_option maxRecDepth 100000
set_option maxHeartbeats 400000
/-! ### math.comb; sum and min of a tuple of ints -/
namespace My
open PySem PySem.Spec PyProof.Rows L2 Evl
section
variable {X : Cx}
def CComb : Int → Int → Prop := fun a b => 0 ≤ a ∧ 0 ≤ b ∧ a < 1000
def rComb : List V → Hp → VK → Prop := fun vs H Q => ∃ a b : Int, vs = [.int a, .int b] ∧ CComb a b ∧ Q (.int (PySem.W.mcComb a b)) H
theorem cr_comb : CallR X (.builtin "math.comb") rComb := by
  intro pins s σ H vs us Q I r h
  obtain ⟨a, b, rfl, ⟨h1, h2, h3⟩, q⟩ := h
  obtain ⟨t, u, rfl⟩ := Vals.int2 r
  refine call_function_meets PySem.W.MGF.kind_comb PySem.W.MGF.plain_comb PySem.W.MGF.entry_comb (PySem.W.MGF.args_comb _ _) (PySem.W.mc_gives_comb t u h1 h2 (by omega) (Or.inr (by omega))).meets ?_
  exact ⟨.int _, H, I.tok _, ⟨_, rfl⟩, q⟩
def rSumU (K : PySem.W.Frag) : List V → Hp → VK → Prop := fun vs H Q => ∃ (a : Addr) (ns : List Int), vs = [V.ref a] ∧ SqT K H a (ns.map V.int) ∧ Q (.int ns.sum) H
theorem cr_sumU (hc : X.calm = true) : CallR X (.builtin "sum") (rSumU X.K) := by
  intro pins s σ H vs us Q I r h
  obtain ⟨a, ns, rfl, hs, q⟩ := h
  obtain ⟨its, rv, hl, _⟩ := I.tuple hs
  rw [Vals.ref1 r]
  have hi := rv.ints
  obtain ⟨xs, e⟩ := hi.allInts.items
  have hn : numsOf (intItems xs).toList = ns := by rw [← e]; exact hi.numsOf
  rw [nums_intItems] at hn
  rw [e] at hl
  refine PySem.W.ktm_sumG (I.ok.hd hc) hl fun h' tk t' hk => ?_
  have := (⟨.int _, H, I.kept hk, ⟨_, rfl⟩, q⟩ : ∃ x H', Inv X pins σ H' { s with heap := h', toks := tk } ∧ RelV x (.int ns.sum t') ∧ Q x H')
  rw [preSum_eq, List.take_of_length_le (by simp), hn]
  exact this
def rMinU (K : PySem.W.Frag) : List V → Hp → VK → Prop := fun vs H Q => ∃ (a : Addr) (n : Int) (ns : List Int), vs = [V.ref a] ∧ SqT K H a ((n :: ns).map V.int) ∧ Q (.int (ns.foldl min n)) H
theorem ra_ints {h : Heap} : ∀ {vs : List Value} {ns : List Int}, IntsAre vs ns → ∃ as, ReadsAll h vs (ns.map PyData.int) as
  | _, _, .nil => ⟨_, .nil⟩
  | _, _, .cons n t r => by
    obtain ⟨as, h2⟩ := ra_ints (h := h) r
    exact ⟨_, .cons (.int n t) h2⟩
theorem ak_ints (ns : List Int) : PySem.W.AlikeAll (ns.map PyData.int) := by
  refine ⟨fun x hx y hy => ?_, fun x hx => ?_⟩
  · obtain ⟨i, _, rfl⟩ := List.mem_map.mp hx
    obtain ⟨j, _, rfl⟩ := List.mem_map.mp hy
    rfl
  · obtain ⟨i, _, rfl⟩ := List.mem_map.mp hx
    exact fun h => nomatch h
theorem da_ints : ∀ ns : List Int, PyData.depthAll (ns.map PyData.int) ≤ 1
  | [] => by simp [PyData.depthAll]
  | n :: r => by
    have := da_ints r
    simp [PyData.depthAll, PyData.depth]
    omega
theorem cr_minU (hc : X.calm = true) (hu : X.A.units + 64 < cLine) : CallR X (.builtin "min") (rMinU X.K) := by
  intro pins s σ H vs us Q I r h
  obtain ⟨a, n, ns, rfl, hs, q⟩ := h
  obtain ⟨its, rv, hl, _⟩ := I.tuple hs
  rw [Vals.ref1 r]
  have hi := rv.ints
  obtain ⟨as, hr⟩ := ra_ints (h := s.heap) hi
  have hd := da_ints (n :: ns)
  refine PySem.W.min_tuple_data (xs := ns.map PyData.int) (x := .int n) (I.ok.hd hc) hl hr (ak_ints (n :: ns)) (by have : PyData.depthAll (PyData.int n :: ns.map PyData.int) ≤ 1 := hd; omega) fun i v h' tk bs hv hrd hk => ?_
  rw [PySem.W.minD_ints] at hrd
  cases hrd
  exact ⟨.int _, H, I.kept hk, ⟨_, rfl⟩, q⟩
end
section
variable {K : PySem.W.Frag} {σ : L2.St} {H : Hp} {ta tb te : TE}
theorem ev_comb {a b : Int} {ta : TA} (h : EvA ta σ H [.int a, .int b]) (hc : CComb a b) : Ev (tCB rComb ta) σ H (.int (PySem.W.mcComb a b)) := ev_cb h fun H1 _ _ q => ⟨a, b, rfl, hc, q H1 (Ex.refl H1)⟩
theorem ev_sumU {ns : List Int} (h : EvU ta σ H (ns.map V.int)) : Ev (tCB (rSumU K) (tCons ta tNil)) σ H (.int ns.sum) := fun H1 e Q q =>
  h H1 e _ fun p H2 _ e2 hp => ⟨p, ns, rfl, st_of hp, q H2 e2⟩
theorem ev_minA {p : Addr} {n : Int} {ns : List Int} (h : Ev ta σ H (.ref p)) (hp : SqT K H p ((n :: ns).map V.int)) : Ev (tCB (rMinU K) (tCons ta tNil)) σ H (.int (ns.foldl min n)) := fun H1 e Q q =>
  h H1 e _ fun H2 e2 => ⟨p, n, ns, rfl, ex_t (e.trans e2) hp, q H2 e2⟩
end
section
variable {K : PySem.W.Frag} {σ : L2.St} {H : Hp} {ta tb te : TE}
theorem eu_slT {tl th : TO} {a : Addr} {xs : List V} {lo hi : Option Int} (h : Ev te σ H (.ref a)) (h1 : EvO tl σ H lo) (h2 : EvO th σ H hi) (hs : SqT K H a xs) (hw : ¬ (HT.sIx xs.length 0 lo = 0 ∧ HT.sIx xs.length xs.length hi = xs.length)) : EvU (tSl (rSlT K) te tl th) σ H (cutV xs lo hi) := fun H1 e _ q =>
  h H1 e _ fun H2 e2 => h1 H2 (e.trans e2) _ fun H3 e3 => h2 H3 ((e.trans e2).trans e3) _ fun H4 e4 =>
    ⟨a, xs, rfl, ex_t (((e.trans e2).trans e3).trans e4) hs, hw, fun p hp => q p _ (fresh_back ((e2.trans e3).trans e4) hp) (((e2.trans e3).trans e4).trans (Ex.new hp)) upd_same⟩
theorem ev_isTup {p : Addr} {xs : List V} (ha : Ev ta σ H (.ref p)) (h : H p = some (.tup xs)) : Ev (tCB (rIsi K) (tCons ta (tCons (tC (.ty "tuple")) tNil))) σ H (.bl true) :=
  ev_cb (ea_cons ha (ea_cons ev_c ea_nil)) fun H1 e _ q => ⟨.ref p, .ty "tuple", .type "tuple", .type "tuple", true, rfl, .ty _, .base (.tup (e _ _ h)), kit_ty (by decide +kernel), q H1 (Ex.refl H1)⟩
/-- two tuples of ints that are alike -/
theorem et_tuNe {t1 t2 : TE} {l : List Int} (h1 : EvU t1 σ H (l.map V.int)) (h2 : EvU t2 σ H (l.map V.int)) : EvT (tTest (tOp (rNeD K) t1 t2)) σ H false :=
  et_test (ev_opUU h1 h2 fun p p' H1 hp hp' _ => rv_neS (dp_intsT (st_of hp)) (dp_intsT (st_of hp')) (lay_intsT l (n := 3)).sh)
end
/-! the ways, as numbers -/
def mc (a b : Nat) : Int := PySem.W.mcComb (a : Int) (b : Int)
def wBits (b m : Nat) : Int := mc b m * 3 ^ m
def wWords (b m : Nat) : Int := if m = 0 then 1 else 3 * mc b m
def wStep (b m s : Nat) (acc : Int) : Int := if m - 2 * s = s then acc + 3 * mc b s * mc b (m - 2 * s) - 2 * mc b s else acc + 3 * mc b s * mc b (m - 2 * s)
def wWrong (b m : Nat) : Nat → Int
  | 0 => 0
  | k + 1 => wStep b m (k + 1) (wWrong b m k)
def waysL (b m : Nat) : List Int := [mc (3 * b) m, wBits b m, wWords b m, wWrong b m (m / 2), mc (3 * b) m - wWords b m - wWrong b m (m / 2)]
def waysChk (b m : Nat) : Bool := decide (wWords b m ≤ wBits b m) && decide (0 ≤ wWrong b m (m / 2)) && decide (0 ≤ mc (3 * b) m - wWords b m - wWrong b m (m / 2)) && decide (0 ≤ wWords b m) && decide (0 ≤ mc (3 * b) m)
/-! promises -/
def spW (f : Nat → Nat → Int) : Sp := fun vs H Q _ => ∃ b m : Nat, vs = [.int (b : Int), .int (m : Int)] ∧ b ≤ 32 ∧ m ≤ 96 ∧ ∀ H', Ex H H' → Q (.int (f b m)) H'
theorem SpW {f : Nat → Nat → Int} {H : Hp} {b m : Nat} (hb : b ≤ 32) (hm : m ≤ 96) : SpV (spW f) ([.int (b : Int), .int (m : Int)] ++ []) H (.int (f b m)) := fun H1 e Q q E => ⟨b, m, rfl, hb, hm, q⟩
def spWays : Sp := fun vs H Q _ => ∃ b m : Nat, vs = [.int (b : Int), .int (m : Int)] ∧ b ≤ 32 ∧ m ≤ 96 ∧ ∀ p H', H p = none → Ex H H' → H' p = some (.tup ((waysL b m).map V.int)) → Q (.ref p) H'
theorem SpWays {H : Hp} {b m : Nat} (hb : b ≤ 32) (hm : m ≤ 96) : SpU spWays ([.int (b : Int), .int (m : Int)] ++ []) H ((waysL b m).map V.int) := fun H1 e Q q E => ⟨b, m, rfl, hb, hm, q⟩
theorem mc_small_tab : ((List.range 33).all fun b => (List.range 97).all fun m => decide (mc b m < 2 ^ 60 ∧ 0 ≤ mc b m)) = true := by decide +kernel
theorem mc_small {b m : Nat} (hb : b ≤ 32) (hm : m ≤ 96) : mc b m < 2 ^ 60 ∧ 0 ≤ mc b m := of_decide_eq_true (List.all_eq_true.mp (List.all_eq_true.mp mc_small_tab b (List.mem_range.mpr (by omega))) m (List.mem_range.mpr (by omega)))
end My
set_option Elab.async false
set_option linter.all false
set_option maxRecDepth 100000
set_option maxHeartbeats 1000000
/-! ### an error class over an error class over ValueError, whose own __init__ says super().__init__(f"..") and stores one field -/
namespace My
open PySem PySem.Spec PyProof.Rows L2 Evl NdefX ClX PySem.W
/-- what an f-string writes without more -/
def FmtOk (y : V) : Prop := (∃ z : Str, y = .str z ∧ z.length ≤ 1000) ∨ ∃ i : Int, y = .int i ∧ i.natAbs.log2 < 1920
def spSup (C : Addr) (fld : Str) : Sp := fun vs H Q _ => ∃ (a : Addr) (y : V), vs = [.ref a, y] ∧ H a = some (exo a C none) ∧ FmtOk y ∧ ∀ dx, H dx = none → dx ≠ a → Q .non (upd (upd H dx (exd dx [(fld, y)])) a (exo a C (some dx)))
/-- what the written part says of the class C and of its __init__ at f -/
structure SupC (P : Program) (K : PySem.W.Frag) (C f cda cc : Addr) (fld : Str) (F : NF) (doc pm ct : Value) (kV : Value) : Prop where
  T : OexC K C
  lk : ∃ oc od osl, K.lookup f = some ⟨oc, od, .func (ksFn F.name F.qual F.params F.body F.scope .none kV doc pm none (.ref cda) ct cc), osl⟩
  hcd : codeIn K (.ref cda) F.qual = true
  code : ∃ ccl cdd vs ccs file tf, K.lookup cda = some ⟨ccl, cdd, .fields vs, ccs⟩ ∧ vs[2]? = some (.str file tf) ∧ ((P.main.file : Str) == file) = true
  cell : ∃ cl cld csl, K.lookup cc = some ⟨cl, cld, .cell (some (.ref C)), csl⟩
  hsub : mroIn K C (.ref C) = some true
  hsup : ks_superIn K C C "__init__" = some (some (.builtin "ValueError.__init__"))
  hB : subIn K (.ref C) (.type "ValueError") = some true
  ho : nsIn K cStatics "thirdparty.any" = some none
  hno : findIn K (.ref C) fld = some none
/-- the f-string is of a kind that leaves the heap as it is -/
def FmtE (N : List Str) (sc : Scope) (e1 : Expr) : Prop := ∀ X : Cx, X.N = N → X.env.scope = sc → ∃ te, PE X e1 te ∧ ∀ (σ : L2.St) (H : Hp) (y : V) (Q : VK), σ[1]? = some (some y) → FmtOk y → (∀ v, Q v H) → te σ H Q
theorem fn_sup {P : Program} {w : World} {K : PySem.W.Frag} {mg : Str → Option Value} {base : Heap} {C f cda cc : Addr} {fld pn : Str} {F : NF} {doc pm ct kV : Value}
    (Z : SupC P K C f cda cc fld F doc pm ct kV) (hFc : F.c = cda) (hFcl : F.cl = [(("__class__" : Str), cc)])
    {p0 p1 p2 p3 p4 p5 p6 p7 p8 p9 : Pos} {e1 : Expr} (hbd : F.body = [.Expr (.Call (.Attribute (.Call (.Name "super" p0) [] [] p1) "__init__" p2) [e1] [] p3) p4, .Assign [.Attribute (.Name "self" p5) fld p6] (.Name pn p7) p8])
    {ar : Arg} (hp : (F.params.posonlyargs ++ F.params.args).head? = some ar) (har : ar.arg = "self")
    (S : NScope ["self", pn, "__class__"] ["self", pn] ["__class__"] F.scope) (hks : F.scope.names.lookup ("super" : Str) = some .globalImplicit)
    (htop : (P.main.scope.names.lookup ("super" : Str)).isSome = false) (hm : mg "super" = none) (hpn : (pn == ("__debug__" : Str)) = false) (hpn2 : (pn == ("__classdict__" : Str)) = false) (hfe : FmtE ["self", pn, "__class__"] F.scope e1) (hst : ∀ env, starEach [e1] env = (false, eval e1 env) :: starEach [] env) {pl : Env → Sem Bool}
    (hev : ∀ env, eval (.Call (.Attribute (.Call (.Name "super" p0) [] [] p1) "__init__" p2) [e1] [] p3) env = (do
      let ov ← attributeBase (.Call (.Name "super" p0) [] [] p1) "__init__" env (eval (.Call (.Name "super" p0) [] [] p1) env)
      standAt p2.atName
      let (f, first) ← holding [ov] (getMethod ov "__init__" (pl env))
      callWith p3 f first (backTo p3 (starEach [e1] env)) []))
    (hsw : ∀ env, swapsWith (.Call (.Attribute (.Call (.Name "super" p0) [] [] p1) "__init__" p2) [e1] [] p3) none p4.line env = pure false) (hsw2 : ∀ env, swapsWith (.Name pn p7) (some (.Attribute (.Name "self" p5) fld p6)) p8.line env = pure false) :
    FnOk P w K mg base CX0 1 f (ksFn F.name F.qual F.params F.body F.scope .none kV doc pm none (.ref cda) ct cc) ["self", pn] (spSup C fld) := by
  refine ⟨fun vs H Q E h => by obtain ⟨a, y, rfl, _⟩ := h; rfl, fun A outer s H args us vs Q E hr e0 hb r hsp => ?_⟩
  obtain ⟨a, y, rfl, ha, hy, q⟩ := hsp
  have KX : K.In s.heap := e0.mod.kin.keeps fun b o e => (e0.bs b o e).1
  have lim : s.heap.NoLimit := e0.mod.nolimit.keeps fun b o e => (e0.bs b o e).1
  obtain ⟨oc, od, osl, lk⟩ := Z.lk
  refine ks_codeAny_call_defAt (fd := ksFn F.name F.qual F.params F.body F.scope .none kV doc pm none (.ref cda) ct cc) (body := F.body) (binds := [("self" : Str), pn].zip us) hr.depth (KX _ _ lk) rfl lim (codeRec_of KX Z.hcd) rfl hb S.nocell (fun ⟨n, v⟩ hy => S.par n (List.of_mem_zip hy).1) (fun h₁ hns kp => ?_) S.co S.gen S.kind
  have hcl : CellsAt F.cl ["__class__"] [none] s.heap H := by
    obtain ⟨cl, cld, csl, hc⟩ := Z.cell
    have hcc := (e0.bs cc _ (e0.mod.kin _ _ hc))
    refine ⟨rfl, fun y' c e => ?_, fun x' y' c e1 e2 => ?_, fun i y' e => ?_⟩
    · rw [hFcl] at e
      have : c = cc := by
        unfold List.lookup at e
        split at e
        · exact (Option.some.inj e).symm
        · cases e
      subst this
      exact ⟨hcc.2, _, _, hcc.1, rfl⟩
    · rw [hFcl] at e1 e2
      unfold List.lookup at e1 e2
      split at e1
      · rename_i z1
        split at e2
        · rename_i z2
          rw [beq_iff_eq.mp z1, beq_iff_eq.mp z2]
        · cases e2
      · cases e1
    · match i, e with
      | 0, e =>
        have e := Option.some.inj e
        subst e
        exact ⟨cc, by rw [hFcl]; rfl, fun v z => nomatch z⟩
  have hl : [V.ref a, y].length = [("self" : Str), pn].length := rfl
  have I := inv_startN (CX := CX0) (E := E) (F := F) (f := f) (N := ["self", pn, "__class__"]) (tk := s.toks + ([("self" : Str), pn].zip us).length) S hr.hd e0 hl r hcl hns kp
  have henv : callEnv (ksFn F.name F.qual F.params F.body F.scope .none kV doc pm none (.ref cda) ct cc) s.heap.objs.size f = envF F f s.heap.objs.size := by
    unfold envF
    rw [hFc, hFcl]
    rfl
  rw [henv]
  clear henv
  have hkc : (envF F f s.heap.objs.size).kindOf "__class__" = some .free := S.frk "__class__" (by simp)
  have hka : (envF F f s.heap.objs.size).kindOf "self" = some .local := S.par "self" (by simp)
  have hcel : (envF F f s.heap.objs.size).cells.lookup ("__class__" : Str) = some cc := by
    show F.cl.lookup _ = _
    rw [hFcl]
    rfl
  obtain ⟨ccl, cdd, vs, ccs, file, tf, hco, hvs, hfile⟩ := Z.code
  obtain ⟨cl, cld, csl, hcc⟩ := Z.cell
  obtain ⟨nm, qn, N', bs, bm, sn, sub, ab, col, dd, k0, k1, k2, k3, k5, hC, hbm⟩ := Z.T.cls
  have hD : clsIn K C = some { name := nm, bases := bs, mro := .ref C :: bm, ns := N', qualname := qn, hasDict := true, slotNames := sn, subclasses := sub, abstract := ab, collection := col, hasDel := false } := by unfold clsIn; rw [hC] <;> rfl
  have hdat : ∀ t1 : Addr, ∀ c, ({ cls := .ref C, dict := none, data := .fields #[.ref t1, .none, .none, .none, .bool false, .none] } : Obj).data ≠ .cls c := fun t1 c z => nomatch z
  have eB : execs F.body (envF F f s.heap.objs.size) = execs [.Expr (.Call (.Attribute (.Call (.Name "super" p0) [] [] p1) "__init__" p2) [e1] [] p3) p4, .Assign [.Attribute (.Name "self" p5) fld p6] (.Name pn p7) p8] (envF F f s.heap.objs.size) := by rw [hbd]
  rw [eB]
  refine ks_wpAt_execs_cons (ks_wpAt_Expr_any (ks_wpAt_MethodCall ?_ (hev _)) I.quiet (hsw _))
  refine ks_wpAt_super_base (f := f) (cc := cda) (vs := vs) (file := file) (tf := tf) hks hkc rfl rfl (I.kIn _ _ lk) rfl hp (by show Value.ref F.c = _; rw [hFc]) (I.kIn _ _ hco) rfl hvs hfile htop ?_
  obtain ⟨mb, hb1, hb2⟩ := I.mod.blt
  refine ks_loadName_global S.kind hks (Calls.loadGlobal_builtin (I.mod.glob.keeps I.bk) hm (hb1.keeps I.bk) ((hb2 _ (by decide)).trans (by decide +kernel)) ⟨rfl, ?_⟩)
  refine wpAny_loadName_free S.kind hkc hcel ⟨_, I.kIn _ _ hcc, rfl⟩ ?_
  obtain ⟨mL, hnL, hlL⟩ := id I.loc
  obtain ⟨u, ru, lku⟩ := hlL 0 "self" (.ref a) rfl rfl (Or.inl hka)
  obtain rfl : u = .ref a := ru
  rw [har]
  refine wpAny_loadName_local S.kind hka hnL (by
    rcases lku with ⟨_, z⟩ | ⟨z, _⟩
    · exact z
    · rcases z with z | z
      · exact absurd ((show F.scope.names.lookup ("self" : Str) = some .local from hka).symm.trans z) (by decide)
      · exact absurd ((show F.scope.names.lookup ("self" : Str) = some .local from hka).symm.trans z) (by decide)) ?_
  refine ks_wpAny_isType_cls (I.kIn _ _ hC) rfl ⟨rfl, ?_⟩
  obtain ⟨t1, hx⟩ := exo_at I.hok ha
  refine ks_wpAny_call_super (I.kIn _ _ hC) rfl hx rfl (hdat t1) (looks_mroIn I.kIn Z.hsub) (fun h' hso kk => ?_)
  have I2 := I.kept (t' := s.toks + ([("self" : Str), pn].zip us).length) kk
  have hmro : Looks (model P w) h' (mroOf (.ref C)) (.ref C :: bm) := fun A Q E s k q => wpAny_bind ((looks_clsIn I2.kIn hD) A _ E s k (wpAny_pure q))
  have hsup := Z.hsup
  unfold ks_superIn at hsup
  rw [hD] at hsup
  have J : InstAt h' a ({ cls := .ref C, dict := none, data := .fields #[.ref t1, .none, .none, .none, .bool false, .none] } : Obj) C none := ⟨kk _ _ hx, rfl, rfl, trivial⟩
  have hI : Looks (model P w) h' (isInstance (.ref a) (.type "ValueError")) true := J.type.andThen (looks_subIn I2.kIn Z.hB)
  refine kxs_getMethod kxs_ValueError hso (looks_opaque I2.kIn Z.ho) hmro rfl I2.kIn hsup hI (ks_ne I2.kIn J hD) (by decide) ?_
  have I3 := pin_new (o := kxs_mw "ValueError.__init__" a) (a := h'.objs.size) (t' := s.toks + ([("self" : Str), pn].zip us).length + 1) I2 (fun b o e => Heap.get?_push_of_some _ e) (Nat.le_refl _) (Heap.get?_push_at rfl rfl) (fun v z => nomatch z)
  have ha' : h'.objs.size ≠ a := fun z => by
    have := pin_un I3
    rw [z, ha] at this
    cases this
  show wpAny _ _ (callWith p3 (.ref h'.objs.size) [] (backTo p3 (starEach [e1] (envF F f s.heap.objs.size))) []) _ _ _
  rw [hst]
  refine kxs_callWith (i := "ValueError.__init__") (x := a) rfl (Calls.evalArgs_plain ?_)
  obtain ⟨te, hte, hread⟩ := hfe (ncx CX0 P w K mg base ["self", pn, "__class__"] F f A outer s H E) rfl rfl
  have hrun := (pa_cons hte pa_nil (hst _)).run p3 _ _ _ _ (fun vs H1 => H1 = H ∧ vs.length ≤ 1000) I3 (hread _ _ y _ rfl hy fun v => ⟨rfl, by show 1 ≤ 1000; decide⟩)
  rw [show (ncx CX0 P w K mg base ["self", pn, "__class__"] F f A outer s H E).env = envF F f s.heap.objs.size from rfl, hst] at hrun
  refine thn hrun fun us1 s1 hh => ?_
  obtain ⟨vs1, H1, I4, r4, rfl, hlen⟩ := hh
  refine ⟨pin_at I4, ?_⟩
  have hus : us1.length ≤ sizeLine := by
    rw [← Paired.length r4, sizeLine_eq]
    omega
  obtain ⟨t2, hx4⟩ := exo_at I4.hok ha
  have hu4 := pin_at I4
  obtain ⟨hh4, g4, d4, tk4, os4⟩ := s1
  show wpAny _ _ (call (.ref h'.objs.size) us1) _ _ _
  refine wpAny_call (codeAny_of_tree ?_)
  show wpAny _ _ (callAny (.ref h'.objs.size) ⟨us1, []⟩) _ _ _
  simp only [callAny]
  refine wpAny_bind (wpAny_load hu4 ?_)
  simp only [kxs_mw, show (Value.type "method-wrapper" == Value.type "method" || Value.type "method-wrapper" == Value.type "builtin_function_or_method" || Value.type "method-wrapper" == Value.type "method-wrapper") = true by decide, if_true]
  refine KFB.if_so (by decide) ?_
  refine wpAny_bind (check_bound_init PySem.F.excBase_ValueError.toExcCallFacts (I4.kIn _ _ hC) hx4 rfl ?_)
  refine wpAny_bind (wpAny_pure (wpAny_pure ?_))
  refine ⟨plainId_quiet PySem.F.excBase_ValueError.init.plain _, codeAny_builtin PySem.F.excBase_ValueError.initEntry ?_⟩
  refine exc_init_tree (cls := .ref C) (t0 := t2) (dv := none) (c2 := .none) (c3 := .none) (b4 := .bool false) hx4 hus fun h5 k5 hx5 _ => ?_
  have I5 := I4.write (t' := tk4) (x := a) (e := a) (o := exo a C none) (by rw [ha]; exact True.intro) (.inl rfl) k5 ⟨_, hx5⟩ (exo_ok hx5)
  have eu : upd H1 a (exo a C none) = H1 := by
    funext b
    by_cases hb : b = a
    · rw [hb, upd_same, ha]
    · rw [upd_ne hb]
  rw [eu] at I5
  have I6 := unpin I5
  show PySem.wpAt _ _ _ (execs _ _) _ _ _
  refine PySem.wpAt_of_wpAny ?_
  have hkp : F.scope.names.lookup pn = some .local := S.par pn (by simp)
  have hstm : PS (ncx CX0 P w K mg base ["self", pn, "__class__"] F f A outer s H1 E) (.Assign [.Attribute (.Name "self" p5) fld p6] (.Name pn p7) p8) (tOst K fld (tVar 0) (tVar 1)) :=
    ps_ost (pv 0 rfl (Or.inl hka)) (pv 1 rfl (Or.inl hkp) hpn hpn2) (hsw2 _)
  have hps := (pss_one hstm).run [] _ _ H1 { nx := fun _ H' => Q .non H', rt := Q, bk := fun _ _ => False, ct := fun _ _ => False } I6 ⟨y, rfl, .ref a, rfl, a, C, rfl, Z.T, Z.hno, Or.inl ⟨ha, q⟩⟩
  refine wpAny_mono hps (fun fl s' hs => ?_) fun e s' hs => hs
  have fin : ∀ {σ' : L2.St} {H' : Hp} {v : V} {u : Value}, L2.Inv (ncx CX0 P w K mg base ["self", pn, "__class__"] F f A outer s H1 E) [] σ' H' s' → L2.RelV v u → Q v H' → CE outer P w H1 s Q u s' :=
    fun {σ' H' v u} J rv q => ⟨v, H', J.os, J.bare, J.base, J.hok, rv, q⟩
  cases fl with
  | ret u =>
    obtain ⟨v, σ', H', J, rv, q⟩ := hs
    exact fin J rv q
  | next =>
    obtain ⟨σ', H', J, q⟩ := hs
    exact fin (v := V.non) (u := Value.none) J rfl q
  | brk =>
    obtain ⟨_, _, _, q⟩ := hs
    exact False.elim q
  | cont =>
    obtain ⟨_, _, _, q⟩ := hs
    exact False.elim q
end My
set_option Elab.async false
set_option linter.all false
set_option maxRecDepth 100000
set_option maxHeartbeats 1000000
/-! ### methods, methods that may raise, errors with a field: raised, caught, asked -/
namespace My
open PySem PySem.Spec PyProof.Rows L2 Evl
section
variable {P : Program} {w : World} {K : PySem.W.Frag} {mg : Str → Option Value} {base : Heap}
/-- a method (or an __init__) of the class C that keeps a promise -/
structure Mdf (P : Program) (w : World) (K : PySem.W.Frag) (mg : Str → Option Value) (base : Heap) (CX : CXT) (k : Nat) (C : Addr) (m : Str) (ps : List Str) (sp : Sp) : Prop where
  ex : ∃ (f : Addr) (fd : FuncData), FnOk P w K mg base CX k f fd ps sp ∧ Meth K C m f ∧ Binds K fd ps []
/-- a method as the text has it -/
def AtM (K : PySem.W.Frag) (C : Addr) (m qual : Str) (st : Stmt) : Prop := ∃ f fd, Fun K m qual st f fd ∧ Meth K C m f
theorem mdf_ok {C : Addr} {m qual : Str} {st : Stmt} {N ps : List Str} {k : Nat} {sp : Sp} (A : AtM K C m qual st) (S : FnScope N ps (defScope st))
    (hb : ∀ (kV doc pm : Value) (an : Option Addr) (cdv ct : Value) (us : List Value), us.length = ps.length → bindArgs (PySem.W.fnOf m qual (defArgs st) (defBody st) (defScope st) .none kV doc pm an cdv ct) ⟨us, []⟩ = pure (ps.zip us))
    (len : ∀ vs H Q E, sp vs H Q E → vs.length = ps.length)
    (hbody : ∀ (f : Addr) (cdv : Value) (A : Around) (outer : List Env) (s : Shared) (H : Hp) (vs : List V) (Q : VK) (E : XK), Room k (A.deeper (envOfC qual (defScope st) s.heap.objs.size f cdv)) → sp vs H Q E →
      ∃ t, PSs (cxOf CX0 P w K mg base N qual (defScope st) f cdv A outer s H E).nox (defBody st) t ∧ t { nx := fun _ H' => Q .non H', rt := Q } (start N vs) H) : Mdf P w K mg base CX0 (k + 1) C m ps sp := by
  obtain ⟨f, fd, F, hm⟩ := A
  exact ⟨f, fd, F.ok S len (hbody f), hm, F.binds hb⟩
theorem mdf_okX {C : Addr} {m qual : Str} {st : Stmt} {N ps : List Str} {k : Nat} {sp : Sp} (A : AtM K C m qual st) (S : FnScope N ps (defScope st))
    (hb : ∀ (kV doc pm : Value) (an : Option Addr) (cdv ct : Value) (us : List Value), us.length = ps.length → bindArgs (PySem.W.fnOf m qual (defArgs st) (defBody st) (defScope st) .none kV doc pm an cdv ct) ⟨us, []⟩ = pure (ps.zip us))
    (len : ∀ vs H Q E, sp vs H Q E → vs.length = ps.length)
    (hbody : ∀ (f : Addr) (cdv : Value) (A : Around) (outer : List Env) (s : Shared) (H : Hp) (vs : List V) (Q : VK) (E : XK), Room k (A.deeper (envOfC qual (defScope st) s.heap.objs.size f cdv)) → sp vs H Q E →
      ∃ t, PSs (cxOf (L2.CX P w) P w K mg base N qual (defScope st) f cdv A outer s H E) (defBody st) t ∧ t { nx := fun _ H' => Q .non H', rt := Q } (start N vs) H) : Mdf P w K mg base (L2.CX P w) (k + 1) C m ps sp := by
  obtain ⟨f, fd, F, hm⟩ := A
  exact ⟨f, fd, F.okX S len (hbody f), hm, F.binds hb⟩
theorem Mdf.mono {CX : CXT} {C : Addr} {m : Str} {ps : List Str} {j k : Nat} {sp : Sp} (D : Mdf P w K mg base CX j C m ps sp) (h : j ≤ k) : Mdf P w K mg base CX k C m ps sp := by
  obtain ⟨f, fd, F, r⟩ := D.ex
  exact ⟨f, fd, F.mono h, r⟩
/-- a def that never lets an error out where its promise wishes none -/
theorem fnok_never {k : Nat} {f : Addr} {fd : FuncData} {ps : List Str} {sp : Sp} (F : FnOk P w K mg base (L2.CX P w) k f fd ps sp) : FnOk P w K mg base CX0 k f fd ps (fun vs H Q _ => sp vs H Q fun _ _ _ => False) :=
  ⟨fun vs H Q E h => F.len vs H Q _ h, fun A outer s H args us vs Q E hr he hb hv hs => codeAny_mono (F.run A outer s H args us vs Q _ hr he hb hv hs) fun r s' hq => by
    cases r with
    | ok fl => cases fl <;> exact hq
    | error e =>
      have hq : L2.CX P w outer H s (fun _ _ _ => False) e s' := hq
      obtain ⟨_, _, _, _, _, _, _, _, _, _, _, _, _, _, _, z⟩ := hq⟩
theorem Mdf.never {k : Nat} {C : Addr} {m : Str} {ps : List Str} {sp : Sp} (D : Mdf P w K mg base (L2.CX P w) k C m ps sp) : Mdf P w K mg base CX0 k C m ps (fun vs H Q _ => sp vs H Q fun _ _ _ => False) := by
  obtain ⟨f, fd, F, r⟩ := D.ex
  exact ⟨f, fd, fnok_never F, r⟩
end
section
variable {X : Cx} {k : Nat} {C : Addr} {m x : Str} {ps : List Str} {sp : Sp} {e o : Expr} {es : List Expr} {p pos apos : Pos} {ta : TE} {t : TA}
theorem pe_m {pl : Sem Bool} (D : Mdf X.prog X.w X.K X.mg X.base CX0 k C m ps sp) (c : Cls X.K C) (hr : Room k X.A) (he : PE X o ta) (ha : PA X (e :: es) t)
    (hst : starEach (e :: es) X.env = (false, eval e X.env) :: starEach es X.env := by rfl) (hpl : (backTo pos (starEach es X.env)).any (·.1) = false := by rfl)
    (ht : eval (.Call (.Attribute o m apos) (e :: es) [] pos) X.env = (do
      let ov ← eval o X.env; standAt apos.atName
      let (f, first) ← holding [ov] (getMethod ov m pl)
      callWith pos f first (backTo pos (starEach (e :: es) X.env)) (backToKw pos (keywordEach [] X.env))) := by rfl) : PE X (.Call (.Attribute o m apos) (e :: es) [] pos) (tMeth C m sp [] E0 ta t) := by
  obtain ⟨f, fd, F, hm, hb⟩ := D.ex
  exact pe_meth he c hm F hr hb .nil pass0 ha hst hpl ht
theorem pe_m0 {pl : Sem Bool} (D : Mdf X.prog X.w X.K X.mg X.base CX0 k C m ps sp) (c : Cls X.K C) (hr : Room k X.A) (he : PE X o ta)
    (ht : eval (.Call (.Attribute o m apos) [] [] pos) X.env = (do
      let ov ← eval o X.env; standAt apos.atName
      let (f, first) ← holding [ov] (getMethod ov m pl)
      callWith pos f first (backTo pos (starEach [] X.env)) (backToKw pos (keywordEach [] X.env))) := by rfl) : PE X (.Call (.Attribute o m apos) [] [] pos) (tMeth C m sp [] E0 ta tNil) := by
  obtain ⟨f, fd, F, hm, hb⟩ := D.ex
  exact pe_meth0 he c hm F hr hb .nil pass0 ht
/-- o.m(e, ..), what is raised is wished for at the caller's slots -/
def tMethA (C : Addr) (m : Str) (sp : Sp) (E : L2.St → XK) (ta : TE) (t : TA) : TE := fun σ H Q => ta σ H fun x H1 => ∃ a dx fs, x = .ref a ∧ H1 a = some (.ins C dx fs) ∧ fs.lookup m = none ∧ t σ H1 fun vs H2 => sp (x :: vs) H2 Q (E σ)
theorem pe_mA {W : WX} {pl : Sem Bool} (D : Mdf X.prog X.w X.K X.mg X.base (L2.CX X.prog X.w) k C m ps sp) (c : Cls X.K C) (hr : Room k X.A) (tk : Takes X W) (he : PE X o ta) (ha : PA X (e :: es) t)
    (hst : starEach (e :: es) X.env = (false, eval e X.env) :: starEach es X.env := by rfl) (hpl : (backTo pos (starEach es X.env)).any (·.1) = false := by rfl)
    (ht : eval (.Call (.Attribute o m apos) (e :: es) [] pos) X.env = (do
      let ov ← eval o X.env; standAt apos.atName
      let (f, first) ← holding [ov] (getMethod ov m pl)
      callWith pos f first (backTo pos (starEach (e :: es) X.env)) (backToKw pos (keywordEach [] X.env))) := by rfl) : PE X (.Call (.Attribute o m apos) (e :: es) [] pos) (tMethA C m sp (WE W) ta t) := by
  obtain ⟨f, fd, F, hm, hb⟩ := D.ex
  refine ⟨fun pins s σ H Q I h => PySem.W.methodCall_KW (pl := pl) (thn (he.run pins s σ H _ I h) fun u s1 hh => ?_) ht⟩
  obtain ⟨x, H1, I1, rx, a, dx, fs, ex, ea, l, q⟩ := hh
  subst ex
  obtain rfl : u = Value.ref a := rx
  refine getmeth_ok I1 ea c hm l (PySem.W.callWith_K (first := [.ref a]) (h₀ := X.base) I.ok.mod.kin hm.kp (thn (ha.run pos pins s1 σ H1 _ I1 q) fun us s2 hh => ?_) hst hpl)
  obtain ⟨vs, H2, I2, r, q2⟩ := hh
  exact ⟨I2.kIn, run_fnS (us := .ref a :: us) (vs := .ref a :: vs) F hr hb (passAt tk σ) I2 (.cons rfl r) q2⟩
/-- C(e, ..) by the promise of its __init__ -/
theorem pe_mk (D : Mdf X.prog X.w X.K X.mg X.base CX0 k C "__init__" ps sp) (mk : PySem.W.makesIn X.K C = true) (kc : PySem.W.keepIn X.K (.ref C) = true) (hm : X.mg x = some (.ref C)) (hr : Room (k + 1) X.A) (ha : PA X (e :: es) t) (hg : Gl X x := by rfl)
    (hdb : (x == ("__debug__" : Str)) = false := by decide) (he : starEach (e :: es) X.env = (false, eval e X.env) :: starEach es X.env := by rfl) (hpl : (backTo pos (starEach es X.env)).any (·.1) = false := by rfl) :
    PE X (.Call (.Name x p) (e :: es) [] pos) (tMake C sp [] E0 t) := by
  obtain ⟨f, fd, F, hmt, hb⟩ := D.ex
  exact pe_make ⟨mk, hmt.at_, hmt.fn, kc⟩ F hr hg hm hb .nil pass0 ha hdb he hpl
end
/-! ### an error with one field is made -/
section
variable {K : PySem.W.Frag} {σ : L2.St} {H : Hp} {te : TE}
theorem mk_sup {C : Addr} {fld : Str} {y : V} {XQ : XK} (h : Ev te σ H y) (hy : FmtOk y) (k : ∀ d H', H d = none → Ex H H' → H' d = some (.xd [(fld, y)]) → XQ (.ref C) (some d) H') : tMkO C (spSup C fld) [] (tCons te tNil) σ H XQ :=
  h H (Ex.refl H) _ fun H1 e1 => ⟨by show 1 ≤ 1000; decide, fun a na => ⟨a, y, rfl, upd_same, hy, fun dx nx nex => by
    have nd1 : H1 dx = none := by rw [upd_ne nex] at nx; exact nx
    refine ⟨rfl, dx, [(fld, y)], upd_same, by rw [upd_ne nex, upd_same], nd1, ?_⟩
    have eq : upd (del (upd (upd (upd H1 a (exo a C none)) dx (exd dx [(fld, y)])) a (exo a C (some dx))) a) dx (.xd [(fld, y)]) = upd H1 dx (.xd [(fld, y)]) := by
      funext b
      by_cases hb : b = dx
      · rw [hb, upd_same, upd_same]
      · rw [upd_ne hb, upd_ne hb]
        by_cases hba : b = a
        · rw [hba, del_same, na]
        · rw [del_ne hba, upd_ne hba, upd_ne hb, upd_ne hba]
    rw [eq]
    exact k dx _ (fresh_back e1 nd1) (e1.trans (Ex.new nd1)) upd_same⟩⟩
end
end My
set_option Elab.async false
set_option linter.all false
set_option maxRecDepth 100000
set_option maxHeartbeats 4000000
/-! ### isinstance of a caught error that has a dict -/
namespace My
open PySem PySem.Spec PySem.Calls PyProof.Rows PySem.W
section
variable {prog : Program} {w : World} {A : Around} {E : Value → Shared → Prop} {s : Shared} {K : Frag} {x D : Addr} {ox : Obj} {od : Option Obj}
theorem fo_data {C : Addr} {name : Str} {a g : Value} (hc : (clsIn K C).isSome = true) (ha : findIn K (.ref C) name = some (some a)) (hg : specialIn K a "__get__" = some (some g)) (ht : takesIn K a = some true) :
    findObj K C od name = some (.bind g a) := by
  obtain ⟨cd, hc⟩ := Option.isSome_iff_exists.mp hc
  unfold findObj
  rw [hc, Option.bind_some, ha, Option.bind_some]
  simp [hg, ht]
/-- error.__class__ -/
theorem cls_of_err {Q : Option Value → Shared → Prop} (C : L2.ExcC K D) (X : K.In s.heap) (I : InstAt s.heap x ox D od) (h : Q (some (.ref D)) { s with toks := s.toks + 1 }) :
    wpAny (model prog w) A (getAttr? (.ref x) "__class__") Q E s := by
  have hf : findObj K D od "__class__" = some (.bind (.builtin "getset_descriptor.__get__") (.builtin "object.__class__")) :=
    fo_data (by obtain ⟨cd, hc, _⟩ := any_some C.hd; rw [hc]; rfl) C.ha C.hn C.ht
  obtain ⟨hp, g, d, t, os⟩ := s
  have T0 := I.type (M := model prog w)
  have T1 := looks_findIn (M := model prog w) X C.hg
  have T2 := looks_findIn (M := model prog w) X C.hk
  have T3 := looks_find (M := model prog w) X I hf
  have sub : Looks (model prog w) hp (isInstance (.ref x) (.type "BaseException")) true := T0.andThen (looks_subIn X C.hs)
  have n2 : (Value.builtin "BaseException.__getattribute__" == Value.builtin "object.__getattribute__") = false := by decide +kernel
  have n1 : (onTheHeap (Value.ref D) && Value.builtin "BaseException.__getattribute__" == Value.builtin "object.__getattribute__") = false := by rw [n2]; rfl
  have n0 : (false && onTheHeap (Value.builtin "BaseException.__getattribute__")) = false := rfl
  unfold getAttr? getAttrBy? getAttrBy
  refine wpAny_bind (wpAny_mkText (wpAny_bind (wpAny_attempt (wpAny_holding (wpAny_bind (T0.at (wpAny_bind (T1.at ?_))))))))
  show wpAny _ _ (if (onTheHeap (Value.ref D) && Value.builtin "BaseException.__getattribute__" ==
    Value.builtin "object.__getattribute__") = true then _ else _) _ _ _
  rw [n1, if_neg Bool.false_ne_true]
  unfold getAttrByItsOwn hookBefore
  refine wpAny_bind ?_
  rw [if_pos (show onTheHeap (Value.ref D) = true from rfl)]
  refine T2.at (wpAny_bind (wpAny_attempt (wpAny_holding ?_)))
  unfold callGetattribute
  rw [n0, if_neg Bool.false_ne_true]
  unfold boundAndCalled
  rw [PySem.F.excAttr_ValueError.ga.bind (.ref x)]
  refine wpAny_bind (wpAny_pure (?_ : wpAny _ _ (call (.builtin "BaseException.__getattribute__") [.ref x, .str "__class__" t]) _ _ _))
  refine wpAny_call (codeAny_call_builtin PySem.F.excAttr_ValueError.ga.plain PySem.F.entry_bexc_ga
    (@check_slot (model prog w) _ _ ⟨hp, g, d, t + 1, os⟩ "BaseException.__getattribute__" "BaseException" "__getattribute__" (.ref x) [.str "__class__" t] [] _ (by decide +kernel) (by decide +kernel) sub (PySem.F.args_bexc_ga (.ref x) (.str "__class__" t)) ?_))
  unfold Builtin.«object.__getattribute__»
  refine wpAny_bind (wpAny_of_eq (a := ((Value.ref x : Value), [Value.str "__class__" t])) (by first | rfl | (simp only [slotArgs]; rfl)) (wpAny_bind (wpAny_pure (wpAny_bind (T0.at (wpAny_bind (T3.at ?_)))))))
  show wpAny _ _ (holding [Value.builtin "object.__class__"] (call (.builtin "getset_descriptor.__get__")
    [.builtin "object.__class__", .ref x, .ref D]) >>= ret) _ _ _
  refine wpAny_bind (wpAny_holding (wpAny_call (class_get (s := ⟨hp, g, d, t + 1, os⟩) (ox := ox) (od := od) X I C.hm (wpAny_pure ?_))))
  show wpAny _ _ (handedOut (.ref D)) _ _ _
  rw [handedOut_of (v := .ref D) rfl]
  first
    | exact wpAny_pure (wpAny_pure h) | exact wpAny_pure h
    | exact wpAny_pure (wpAny_bind (wpAny_pure (wpAny_pure h)))
theorem kit_err (C : L2.ExcC K D) : KitX K (.ref x) (.ref D) (fun h => ∃ od, InstAt h x ox D od) where
  ty := fun _ _ _ ⟨_, I⟩ => I.type
  it := fun _ _ X _ => by
    obtain ⟨cdD, hcD, _⟩ := any_some C.hd
    unfold clsIn at hcD
    split at hcD
    · rename_i c' d' cd' sl' ho
      intro A' Q' E' s' k q
      unfold isType loadHead
      exact wpAny_bind (wpAny_loadPart (k _ _ (X _ _ ho)) (wpAny_pure q))
    · cases hcD
  ne := fun h tp dd its n sl X htp => by
    obtain ⟨cdD, hcD, _⟩ := any_some C.hd
    refine Bool.eq_false_iff.mpr fun q => ?_
    have e : D = tp := Value.ref.inj (beq_iff_eq.mp q)
    subst e
    unfold clsIn at hcD
    split at hcD
    · rename_i c' d' cd' sl' ho
      have z := (X _ _ ho).symm.trans htp
      cases z
    · cases hcD
  ca := fun X ⟨_, I⟩ k => cls_of_err C X I k
end
open L2 Evl
/-- isinstance(e, C), both own classes of errors, the answer of the text -/
def rIsX (K : PySem.W.Frag) (D a : Addr) (cls : Value) : List V → Hp → VK → Prop := fun xs H Q => ∃ (c : Addr) (b : Bool), xs = [.ref a, .ref c] ∧ cls = .ref D ∧ PySem.W.kitOne K (.ref D) (.ref c) = some b ∧ Q (.bl b) H
theorem call_isX {X : Cx} {a D : Addr} {oe : Obj} {pn : List (Addr × Obj)} {cls : Value} {d : Option Addr} (C : ExcC X.K D) (hz : Zc cls d oe) (hf : ∃ vs, oe.data = .fields vs) (hd : ∀ dd, d = some dd → True) :
    CallR (X.suite a ((a, oe) :: pn)) (.builtin "isinstance") (fun xs H Q => (∀ dd, d = some dd → ∃ fs, H dd = some (.xd fs)) ∧ rIsX X.K D a cls xs H Q) := by
  intro pins s σ H xs us Q I r ⟨hdd, h⟩
  obtain ⟨c, b, rfl, rfl, e, q⟩ := h
  cases r with
  | cons rx rr =>
    cases rr with
    | cons rt rr =>
      cases rr
      cases rx
      cases rt
      obtain ⟨hget, _⟩ := I.pin (a, oe) (List.mem_append.mpr (.inl List.mem_cons_self))
      obtain ⟨vs, hv⟩ := hf
      have J : ∃ od, PySem.W.InstAt s.heap a oe D od := by
        obtain ⟨oc, od, oda, osl⟩ := oe
        obtain ⟨h1, h2⟩ := hz
        dsimp only at h1 h2 hv
        subst h1 h2 hv
        cases od with
        | none => exact ⟨none, hget, rfl, rfl, trivial⟩
        | some dd =>
          obtain ⟨fs, hfs⟩ := hdd dd rfl
          obtain ⟨mA, hns, _⟩ := (show ObjOk X.prog X.w H s.heap dd (.xd fs) from I.hok dd _ hfs)
          obtain ⟨o, ho, _⟩ := lookIn_ns hns
          exact ⟨some o, hget, rfl, rfl, ho⟩
      exact PySem.W.kia_one (kit_err C) I.kIn J e (fun z => nomatch z) fun tk => ⟨.bl b, H, I.kept (t' := tk) fun _ _ z => z, rfl, q⟩
end My
set_option Elab.async false
set_option linter.all false
set_option maxRecDepth 100000
set_option maxHeartbeats 400000
/-! ### a memory: an object with a list of rows -/
namespace My
open PySem PySem.Spec PyProof.Rows L2 Evl
section
variable {K : PySem.W.Frag} {σ : L2.St} {H : Hp} {ta tb te : TE} {tz : TS} {D : Ends}
theorem ev_fld {f : Str} {a C dx : Addr} {fs : List (Str × V)} {v : V} (h : Ev ta σ H (.ref a)) (ha : H a = some (.ins C dx fs)) (c : Cls K C) (n : NoAttr K C f) (l : fs.lookup f = some v) : Ev (tFld K ta f) σ H v := fun H1 e Q q =>
  h H1 e _ fun H2 e2 => ⟨a, C, dx, fs, v, rfl, (e.trans e2) _ _ ha, c, n, l, q H2 e2⟩
theorem el_repN {x : V} {n : Nat} (ha : EvL ta σ H [x]) (hb : Ev tb σ H (.int (n : Int))) (hn : n ≤ 100000) : EvL (tOp rRep ta tb) σ H (List.replicate n x) := fun H1 e Q q =>
  ha H1 e _ fun p H2 np e2 hp => hb H2 (e.trans e2) _ fun H3 e3 => ⟨p, _, [x], rfl, rfl, e3 _ _ hp, by omega, by omega, by rw [Int.toNat_natCast]; exact sz_of (by show 1 * n ≤ _; omega), fun l nl => by
    refine q l _ (fresh_back (e2.trans e3) nl) ((e2.trans e3).trans (Ex.new nl)) ?_
    rw [upd_same, Int.toNat_natCast]
    have : ∀ n : Nat, (List.replicate n [x]).flatten = List.replicate n x := fun n => by
      induction n with
      | zero => rfl
      | succ n ih => rw [List.replicate_succ, List.flatten_cons, ih]; rfl
    rw [this]⟩
/-- a value that comes with a heap that may be changed -/
def EvM (te : TE) (σ : L2.St) (H : Hp) (P : V → Hp → Prop) : Prop := ∀ Q : VK, (∀ v H', P v H' → Q v H') → te σ H Q
theorem q_dropM {P : V → Hp → Prop} (h : EvM te σ H P) (k : ∀ v H', P v H' → tz D σ H') : tSeq (tDrop te) tz D σ H := h _ k
theorem s_dropM {P : V → Hp → Prop} (h : EvM te σ H P) (k : ∀ v H', P v H' → D.nx σ H') : tDrop te D σ H := h _ k
theorem q_asgM {i : Nat} {P : V → Hp → Prop} (h : EvM te σ H P) (k : ∀ v H', P v H' → tz D (σ.set i (some v)) H') : tSeq (tAsg te (gName i)) tz D σ H := h _ k
end
/-- all that stands elsewhere than at R stands as before -/
def Kp1 (R : Addr) (H H' : Hp) : Prop := ∀ o u, o ≠ R → H o = some u → H' o = some u
theorem Kp1.ex {R : Addr} {H H1 H2 : Hp} (k : Kp1 R H H1) (e : Ex H1 H2) : Kp1 R H H2 := fun o u h1 h => e _ _ (k o u h1 h)
theorem Kp1.of {R : Addr} {H H' : Hp} (e : Ex H H') : Kp1 R H H' := fun o u _ h => e _ _ h
theorem Kp1.u {R : Addr} {H H1 : Hp} {o : HO} (k : Kp1 R H H1) : Kp1 R H (upd H1 R o) := fun a u h1 h => by rw [upd_ne h1]; exact k a u h1 h
theorem Kp1.trans {R : Addr} {H H1 H2 : Hp} (k : Kp1 R H H1) (k2 : Kp1 R H1 H2) : Kp1 R H H2 := fun a u h1 h => k2 a u h1 (k a u h1 h)
theorem Ex.kp1 {R : Addr} {H H1 H2 : Hp} (e : Ex H H1) (k : Kp1 R H1 H2) : Kp1 R H H2 := fun a u h1 h => k a u h1 (e _ _ h)
/-- the fields, in the order of their stores -/
def mflds (R : Addr) (c b : Nat) : List (Str × V) := [("cells", .int (c : Int)), ("bits", .int (b : Int)), ("_rows", .ref R)]
theorem s_cb : ¬ ("cells" : Str) = "bits" := by decide +kernel
theorem s_cr : ¬ ("cells" : Str) = "_rows" := by decide +kernel
theorem s_br : ¬ ("bits" : Str) = "_rows" := by decide +kernel
theorem mf_cells (R : Addr) (c b : Nat) : (mflds R c b).lookup ("cells" : Str) = some (.int (c : Int)) := by
  unfold mflds
  rw [List.lookup_cons, show (("cells" : Str) == "cells") = true by decide +kernel]
theorem mf_bits (R : Addr) (c b : Nat) : (mflds R c b).lookup ("bits" : Str) = some (.int (b : Int)) := by
  unfold mflds
  rw [List.lookup_cons, show (("bits" : Str) == "cells") = false by decide +kernel, List.lookup_cons, show (("bits" : Str) == "bits") = true by decide +kernel]
theorem mf_rows (R : Addr) (c b : Nat) : (mflds R c b).lookup ("_rows" : Str) = some (.ref R) := by
  unfold mflds
  rw [List.lookup_cons, show (("_rows" : Str) == "cells") = false by decide +kernel, List.lookup_cons, show (("_rows" : Str) == "bits") = false by decide +kernel, List.lookup_cons, show (("_rows" : Str) == "_rows") = true by decide +kernel]
theorem mf_no {m : Str} (R : Addr) (c b : Nat) (h1 : (m == ("cells" : Str)) = false) (h2 : (m == ("bits" : Str)) = false) (h3 : (m == ("_rows" : Str)) = false) : (mflds R c b).lookup m = none := by
  unfold mflds
  rw [List.lookup_cons, h1, List.lookup_cons, h2, List.lookup_cons, h3]
  rfl
theorem mf_put (R : Addr) (c b : Nat) : putF "_rows" (.ref R) (putF "bits" (.int (b : Int)) (putF "cells" (.int (c : Int)) [])) = mflds R c b := by
  have e1 : putF "bits" (.int (b : Int)) (putF "cells" (.int (c : Int)) []) = [(("cells" : Str), V.int (c : Int)), ("bits", .int (b : Int))] := by
    show (if ("cells" : Str) = "bits" then [(("cells" : Str), V.int (b : Int))] else (("cells" : Str), V.int (c : Int)) :: putF "bits" (.int (b : Int)) []) = _
    rw [if_neg s_cb]
    rfl
  rw [e1]
  show (if ("cells" : Str) = "_rows" then _ else (("cells" : Str), V.int (c : Int)) :: (if ("bits" : Str) = "_rows" then _ else (("bits" : Str), V.int (b : Int)) :: putF "_rows" (.ref R) [])) = _
  rw [if_neg s_cr, if_neg s_br]
  rfl
theorem mf_put2 (R R2 : Addr) (c b : Nat) : putF "_rows" (.ref R2) (mflds R c b) = mflds R2 c b := by
  show (if ("cells" : Str) = "_rows" then _ else (("cells" : Str), V.int (c : Int)) :: (if ("bits" : Str) = "_rows" then _ else (("bits" : Str), V.int (b : Int)) :: (if ("_rows" : Str) = "_rows" then _ else _))) = _
  rw [if_neg s_cr, if_neg s_br, if_pos rfl]
  rfl
/-- at M a memory with the rows at R -/
structure MemAt (C : Addr) (H : Hp) (M R : Addr) (c b : Nat) (rows : List Nat) : Prop where
  ob : ∃ dx, H M = some (.ins C dx (mflds R c b))
  rw_ : H R = some (.lst ((iL rows).map V.int))
  len : rows.length = c
theorem MemAt.ne {C : Addr} {H : Hp} {M R : Addr} {c b : Nat} {rows : List Nat} (m : MemAt C H M R c b rows) : M ≠ R := fun z => by
  obtain ⟨dx, h⟩ := m.ob
  rw [z, m.rw_] at h
  cases h
theorem MemAt.ex {C : Addr} {H H' : Hp} {M R : Addr} {c b : Nat} {rows : List Nat} (m : MemAt C H M R c b rows) (e : Ex H H') : MemAt C H' M R c b rows := ⟨m.ob.imp fun dx h => e _ _ h, e _ _ m.rw_, m.len⟩
theorem MemAt.put {C : Addr} {H H' : Hp} {M R : Addr} {c b : Nat} {rows rows' : List Nat} (m : MemAt C H M R c b rows) (k : Kp1 R H H') (h : H' R = some (.lst ((iL rows').map V.int))) (hl : rows'.length = rows.length) : MemAt C H' M R c b rows' :=
  ⟨m.ob.imp fun dx h => k _ _ m.ne h, h, hl.trans m.len⟩
theorem MemAt.at_ {C : Addr} {H : Hp} {M R : Addr} {c b i : Nat} {rows : List Nat} (m : MemAt C H M R c b rows) (hi : i < c) : ((iL rows).map V.int)[i]? = some (.int ((rows.getD i 0 : Nat) : Int)) := by
  refine at_iL ?_
  rw [List.getElem?_eq_getElem (by rw [m.len]; exact hi), List.getD_eq_getElem?_getD, List.getElem?_eq_getElem (by rw [m.len]; exact hi)]
  rfl
/-- what the rows are -/
def RowsOk (b : Nat) (rows : List Nat) : Prop := ∀ r ∈ rows, r < 2 ^ pl b
theorem RowsOk.at_ {b i : Nat} {rows : List Nat} (h : RowsOk b rows) : rows.getD i 0 < 2 ^ pl b := by
  rw [List.getD_eq_getElem?_getD]
  cases e : rows[i]? with
  | none => exact Nat.two_pow_pos _
  | some r => exact h r (List.mem_of_getElem? e)
theorem RowsOk.set {b i r : Nat} {rows : List Nat} (h : RowsOk b rows) (hr : r < 2 ^ pl b) : RowsOk b (rows.set i r) := fun z hz => by
  rcases List.mem_or_eq_of_mem_set hz with hz | rfl
  · exact h z hz
  · exact hr
theorem iL_set (rows : List Nat) (i r : Nat) : ((iL rows).map V.int).set i (.int (r : Int)) = (iL (rows.set i r)).map V.int := by
  unfold iL
  rw [← List.map_set, ← List.map_set]
/-- the word that a row is or is one flip away from -/
def menO (b n : Nat) : Option Nat := if parB (pl b) n then (if spotN (pl b) n < pl b then some (flip n [spotN (pl b) n]) else none) else (if spotN (pl b) n = 0 then some n else none)
def oV : Option Nat → V
  | some n => .int (n : Int)
  | none => .non
theorem menV_o (b n : Nat) : menV b n = oV (menO b n) := by
  unfold menV menO
  split
  · split <;> rfl
  · split <;> rfl
theorem menO_lt {b n w : Nat} (hn : n < 2 ^ pl b) (h : menO b n = some w) : w < 2 ^ pl b := by
  unfold menO at h
  split at h
  · split at h
    · rename_i h2
      cases h
      exact flip_lt hn fun p hp => by rw [List.mem_singleton.mp hp]; exact h2
    · cases h
  · split at h
    · cases h; exact hn
    · cases h
/-- the state of a row, told by a text -/
def stO (b n : Nat) : Str := if parB (pl b) n then (if spotN (pl b) n < pl b then "one" else "more") else (if spotN (pl b) n = 0 then "clean" else "more")
def stP (b n : Nat) : V := if parB (pl b) n then (if spotN (pl b) n < pl b then .int ((spotN (pl b) n : Nat) : Int) else .non) else .non
theorem stV_o (b n : Nat) : stV b n = [.str (stO b n), stP b n] := by
  unfold stV stO stP
  split
  · split <;> rfl
  · split <;> rfl
theorem st_men (b n : Nat) : (stO b n = "clean" ∧ menO b n = some n ∧ parB (pl b) n = false ∧ spotN (pl b) n = 0) ∨ (stO b n = "one" ∧ menO b n = some (flip n [spotN (pl b) n]) ∧ flip n [spotN (pl b) n] ≠ n ∧ spotN (pl b) n < pl b ∧ parB (pl b) n = true) ∨ (stO b n = "more" ∧ menO b n = none) := by
  unfold stO menO
  by_cases h : parB (pl b) n
  · rw [if_pos h, if_pos h]
    by_cases h2 : spotN (pl b) n < pl b
    · rw [if_pos h2, if_pos h2]
      refine Or.inr (Or.inl ⟨rfl, rfl, fun z => ?_, h2, h⟩)
      have := par_flip1 (m := pl b) (n := n) h2
      have z' : n ^^^ 2 ^ spotN (pl b) n = n := z
      rw [z'] at this
      cases hh : parB (pl b) n <;> rw [hh] at this <;> cases this
    · rw [if_neg h2, if_neg h2]
      exact Or.inr (Or.inr ⟨rfl, rfl⟩)
  · have h' : parB (pl b) n = false := by simpa using h
    rw [if_neg h, if_neg h]
    by_cases h2 : spotN (pl b) n = 0
    · rw [if_pos h2, if_pos h2]
      exact Or.inl ⟨rfl, rfl, h', h2⟩
    · rw [if_neg h2, if_neg h2]
      exact Or.inr (Or.inr ⟨rfl, rfl⟩)
theorem st_ne1 : ¬ ("clean" : Str) = "one" := by decide +kernel
theorem st_ne2 : ¬ ("more" : Str) = "one" := by decide +kernel
theorem st_ne3 : ¬ ("one" : Str) = "more" := by decide +kernel
theorem st_ne4 : ¬ ("clean" : Str) = "more" := by decide +kernel
theorem cod_zero {b : Nat} (h4 : 4 ≤ b) (h32 : b ≤ 32) : cod b 0 = 0 := by
  have h0 : onesN b 0 = [] := by unfold onesN; rw [bs_zero]; rfl
  have h1 : cod0 b 0 = 0 := by unfold cod0; rw [h0]; rfl
  have h2 : cksN b 0 = [] := by
    unfold cksN
    exact List.filter_eq_nil_iff.mpr fun p _ => by rw [Nat.zero_and]; decide
  have h3 : cod1 b 0 = 0 := by unfold cod1; rw [h1, spot_zero, h2]; rfl
  unfold cod
  rw [h3, par_zero]
  rfl
/-! promises of the methods; CE the class of the error -/
def spMInit (C : Addr) : Sp := fun vs H Q _ => ∃ (M dx : Addr) (c b : Nat), vs = [.ref M, .int (c : Int), .int (b : Int)] ∧ H M = some (.ins C dx []) ∧ c ≤ 512 ∧ 4 ≤ b ∧ b ≤ 32 ∧
  ∀ R H', H R = none → Kp1 M H H' → H' M = some (.ins C dx (mflds R c b)) → H' R = some (.lst ((iL (List.replicate c 0)).map V.int)) → Q .non H'
def spMWrite (C : Addr) : Sp := fun vs H Q _ => ∃ (M R : Addr) (c b i v : Nat) (rows : List Nat), vs = [.ref M, .int (i : Int), .int (v : Int)] ∧ MemAt C H M R c b rows ∧ i < c ∧ 4 ≤ b ∧ b ≤ 32 ∧ v < 2 ^ b ∧
  ∀ H', Kp1 R H H' → H' R = some (.lst ((iL (rows.set i (cod b v))).map V.int)) → Q .non H'
def spMFlip (C : Addr) : Sp := fun vs H Q _ => ∃ (M R : Addr) (c b i p : Nat) (rows : List Nat), vs = [.ref M, .int (i : Int), .int (p : Int)] ∧ MemAt C H M R c b rows ∧ i < c ∧ p < 64 ∧
  ∀ H', Kp1 R H H' → H' R = some (.lst ((iL (rows.set i (flip (rows.getD i 0) [p]))).map V.int)) → Q .non H'
def spMRow (C : Addr) : Sp := fun vs H Q _ => ∃ (M R : Addr) (c b i : Nat) (rows : List Nat), vs = [.ref M, .int (i : Int)] ∧ MemAt C H M R c b rows ∧ i < c ∧ ∀ H', Ex H H' → Q (.int ((rows.getD i 0 : Nat) : Int)) H'
def spMState (C : Addr) : Sp := fun vs H Q _ => ∃ (M R : Addr) (c b i : Nat) (rows : List Nat), vs = [.ref M, .int (i : Int)] ∧ MemAt C H M R c b rows ∧ i < c ∧ 4 ≤ b ∧ b ≤ 32 ∧ RowsOk b rows ∧
  ∀ p H', H p = none → Ex H H' → H' p = some (.tup (stV b (rows.getD i 0))) → Q (.ref p) H'
def spMWord (C CE : Addr) : Sp := fun vs H Q E => ∃ (M R : Addr) (c b i : Nat) (rows : List Nat), vs = [.ref M, .int (i : Int)] ∧ MemAt C H M R c b rows ∧ i < c ∧ c ≤ 512 ∧ 4 ≤ b ∧ b ≤ 32 ∧ RowsOk b rows ∧
  (∀ w H', menO b (rows.getD i 0) = some w → Ex H H' → Q (.int (w : Int)) H') ∧ (menO b (rows.getD i 0) = none → ∀ d H', H d = none → Ex H H' → H' d = some (.xd [("place", .int (i : Int))]) → E (.ref CE) (some d) H')
def spMRead (C CE : Addr) : Sp := fun vs H Q E => ∃ (M R : Addr) (c b i : Nat) (rows : List Nat), vs = [.ref M, .int (i : Int)] ∧ MemAt C H M R c b rows ∧ i < c ∧ c ≤ 512 ∧ 4 ≤ b ∧ b ≤ 32 ∧ RowsOk b rows ∧
  (∀ w H', menO b (rows.getD i 0) = some w → Ex H H' → Q (.int ((valN b w : Nat) : Int)) H') ∧ (menO b (rows.getD i 0) = none → ∀ d H', H d = none → Ex H H' → H' d = some (.xd [("place", .int (i : Int))]) → E (.ref CE) (some d) H')
def spMScrub (C CE : Addr) : Sp := fun vs H Q E => ∃ (M R : Addr) (c b i : Nat) (rows : List Nat), vs = [.ref M, .int (i : Int)] ∧ MemAt C H M R c b rows ∧ i < c ∧ c ≤ 512 ∧ 4 ≤ b ∧ b ≤ 32 ∧ RowsOk b rows ∧
  (∀ w H', menO b (rows.getD i 0) = some w → Kp1 R H H' → H' R = some (.lst ((iL (rows.set i w)).map V.int)) → Q (.bl (!decide (w = rows.getD i 0))) H') ∧
  (menO b (rows.getD i 0) = none → ∀ d H', H d = none → Ex H H' → H' d = some (.xd [("place", .int (i : Int))]) → E (.ref CE) (some d) H')
/-- all cells scrubbed, up to k -/
def scrubbed (b : Nat) (rows : List Nat) (k : Nat) : List Nat := (List.range rows.length).map fun i => if i < k then (menO b (rows.getD i 0)).getD (rows.getD i 0) else rows.getD i 0
def cellsOf (b : Nat) (rows : List Nat) (k : Nat) (t : Str) : List Nat := (List.range k).filter fun i => decide (stO b (rows.getD i 0) = t)
def spMAll (C : Addr) : Sp := fun vs H Q _ => ∃ (M R : Addr) (c b : Nat) (rows : List Nat), vs = [.ref M] ∧ MemAt C H M R c b rows ∧ c ≤ 512 ∧ 4 ≤ b ∧ b ≤ 32 ∧ RowsOk b rows ∧
  ∀ (t p q : Addr) H', Kp1 R H H' → H' R = some (.lst ((iL (scrubbed b rows c)).map V.int)) → H t = none → H p = none → H q = none → H' t = some (.tup [.ref p, .ref q]) → H' p = some (.lst ((iL (cellsOf b rows c "one")).map V.int)) → H' q = some (.lst ((iL (cellsOf b rows c "more")).map V.int)) → p ≠ q → Q (.ref t) H'
def spMTwin (C : Addr) : Sp := fun vs H Q _ => ∃ (M R : Addr) (c b : Nat) (rows : List Nat), vs = [.ref M] ∧ MemAt C H M R c b rows ∧ c ≤ 512 ∧ 4 ≤ b ∧ b ≤ 32 ∧
  ∀ (M2 R2 : Addr) H', H M2 = none → H R2 = none → Ex H H' → MemAt C H' M2 R2 c b rows → Q (.ref M2) H'
/-- the class as the text has it -/
structure MemC (K : PySem.W.Frag) (C : Addr) : Prop where
  cl : Cls K C
  n1 : NoAttr K C "cells"
  n2 : NoAttr K C "bits"
  n3 : NoAttr K C "_rows"
section
variable {K : PySem.W.Frag} {σ : L2.St} {H : Hp} {ta : TE} {C M R : Addr} {c b : Nat} {rows : List Nat}
theorem ev_mcells (T : MemC K C) (h : Ev ta σ H (.ref M)) (m : MemAt C H M R c b rows) : Ev (tFld K ta "cells") σ H (.int (c : Int)) := by
  obtain ⟨dx, ho⟩ := m.ob
  exact ev_fld h ho T.cl T.n1 (mf_cells R c b)
theorem ev_mbits (T : MemC K C) (h : Ev ta σ H (.ref M)) (m : MemAt C H M R c b rows) : Ev (tFld K ta "bits") σ H (.int (b : Int)) := by
  obtain ⟨dx, ho⟩ := m.ob
  exact ev_fld h ho T.cl T.n2 (mf_bits R c b)
theorem ev_mrows (T : MemC K C) (h : Ev ta σ H (.ref M)) (m : MemAt C H M R c b rows) : Ev (tFld K ta "_rows") σ H (.ref R) := by
  obtain ⟨dx, ho⟩ := m.ob
  exact ev_fld h ho T.cl T.n3 (mf_rows R c b)
end
/-- an error class with one field, as the text has it -/
structure ErrC (P : Program) (w : World) (K : PySem.W.Frag) (mg : Str → Option Value) (base : Heap) (x : Str) (C : Addr) (fld pn : Str) : Prop where
  T : OexC K C
  init : ∃ (f : Addr) (fd : FuncData), FnOk P w K mg base CX0 1 f fd ["self", pn] (spSup C fld) ∧ PySem.W.findIn K (.ref C) "__init__" = some (some (.ref f)) ∧ PySem.W.typeIn K (.ref f) = some (.type "function") ∧ Binds K fd ["self", pn] []
  g : mg x = some (.ref C)
  xf : XfC K C
  no : PySem.W.findIn K (.ref C) fld = some none
  te : PySem.W.exmOne K (.ref C) (.ref C) = some true
  is_ : ExcC K C
theorem ps_raiseE {X : Cx} {W : WX} {x : Str} {C : Addr} {fld pn : Str} {e : Expr} {te : TE} {p p1 pos : Pos} (Z : ErrC X.prog X.w X.K X.mg X.base x C fld pn) (hr : Room 2 X.A) (tk : Takes X W) (he : PE X e te) (hc : X.calm = true := by rfl) (hg : Gl X x := by rfl)
    (hst : starEach [e] X.env = (false, eval e X.env) :: starEach [] X.env := by rfl) (hdb : (x == ("__debug__" : Str)) = false := by decide) (hpl : (backTo p1 (starEach [] X.env)).any (·.1) = false := by rfl) :
    PS X (.Raise (some (.Call (.Name x p) [e] [] p1)) none pos) (fun _ σ H => tMkO C (spSup C fld) [] (tCons te tNil) σ H fun cls d H' => W cls d σ H') := by
  obtain ⟨f, fd, F, h1, h2, hb⟩ := Z.init
  exact ps_raise hc tk (pmk_oex Z.T h1 h2 F hr hb .nil (fun _ _ _ _ _ _ _ h => h.elim) hg Z.g (pa_cons he pa_nil hst) hdb hst hpl)
section
variable {K : PySem.W.Frag} {σ : L2.St} {H : Hp} {ta : TE} {t : TA} {C a dx : Addr} {m : Str} {fs : List (Str × V)} {sp : Sp} {vs xs : List V} {z : V}
theorem ev_meth (h : Ev ta σ H (.ref a)) (ho : H a = some (.ins C dx fs)) (hl : fs.lookup m = none) (hv : EvA t σ H vs) (hs : SpV sp (.ref a :: (vs ++ [])) H z) : Ev (tMeth C m sp [] E0 ta t) σ H z := fun H1 e Q q =>
  h H1 e _ fun H2 e2 => ⟨a, dx, fs, rfl, (e.trans e2) _ _ ho, hl, hv H2 (e.trans e2) _ fun H3 e3 => hs H3 ((e.trans e2).trans e3) Q (fun H4 e4 => q H4 ((e2.trans e3).trans e4)) E0⟩
theorem eu_meth (h : Ev ta σ H (.ref a)) (ho : H a = some (.ins C dx fs)) (hl : fs.lookup m = none) (hv : EvA t σ H vs) (hs : SpU sp (.ref a :: (vs ++ [])) H xs) : EvU (tMeth C m sp [] E0 ta t) σ H xs := fun H1 e Q q =>
  h H1 e _ fun H2 e2 => ⟨a, dx, fs, rfl, (e.trans e2) _ _ ho, hl, hv H2 (e.trans e2) _ fun H3 e3 => hs H3 ((e.trans e2).trans e3) Q (fun p H4 np e4 hp => q p H4 (fresh_back (e2.trans e3) np) ((e2.trans e3).trans e4) hp) E0⟩
/-- a method that may change what stands -/
theorem em_meth {P : V → Hp → Prop} (h : Ev ta σ H (.ref a)) (ho : H a = some (.ins C dx fs)) (hl : fs.lookup m = none) (hv : EvA t σ H vs) (hs : ∀ H1, Ex H H1 → ∀ Q : VK, (∀ v H', P v H' → Q v H') → sp (.ref a :: (vs ++ [])) H1 Q E0) : EvM (tMeth C m sp [] E0 ta t) σ H P := fun Q q =>
  h H (Ex.refl H) _ fun H2 e2 => ⟨a, dx, fs, rfl, e2 _ _ ho, hl, hv H2 e2 _ fun H3 e3 => hs H3 (e2.trans e3) Q q⟩
theorem em_call {P : V → Hp → Prop} (hv : EvA t σ H vs) (hs : ∀ H1, Ex H H1 → ∀ Q : VK, (∀ v H', P v H' → Q v H') → sp (vs ++ []) H1 Q E0) : EvM (tCall sp [] E0 t) σ H P := fun Q q => hv H (Ex.refl H) _ fun H2 e2 => hs H2 e2 Q q
/-- a new memory -/
theorem em_make {C : Addr} {c b : Nat} (hv : EvA t σ H [.int (c : Int), .int (b : Int)]) (hc : c ≤ 512) (h4 : 4 ≤ b) (h32 : b ≤ 32) : EvM (tMake C (spMInit C) [] E0 t) σ H (fun v H' => ∃ M R : Addr, v = .ref M ∧ H M = none ∧ H R = none ∧ Ex H H' ∧ MemAt C H' M R c b (List.replicate c 0)) := fun Q q =>
  hv H (Ex.refl H) _ fun H1 e1 x dx nx ndx nex => ⟨x, dx, c, b, rfl, upd_same, hc, h4, h32, fun R H' nR kp hx hR => ⟨rfl, q _ H' ⟨x, R, rfl, fresh_back e1 nx, by
    by_cases z : R = x
    · subst z; rw [upd_same] at nR; cases nR
    · rw [upd_ne z] at nR
      by_cases z2 : R = dx
      · subst z2; rw [upd_same] at nR; cases nR
      · rw [upd_ne z2] at nR; exact fresh_back e1 nR, fun o u h => by
    have h1 := e1 _ _ h
    refine kp o u (ne_of_none h1 nx) ?_
    rw [upd_ne (ne_of_none h1 nx), upd_ne (ne_of_none h1 ndx)]
    exact h1, ⟨dx, hx⟩, hR, List.length_replicate⟩⟩⟩
end
theorem scrubbed_len (b : Nat) (rows : List Nat) (k : Nat) : (scrubbed b rows k).length = rows.length := by unfold scrubbed; rw [List.length_map, List.length_range]
theorem scrubbed_at {b k i : Nat} {rows : List Nat} (h : i < rows.length) : (scrubbed b rows k).getD i 0 = if i < k then (menO b (rows.getD i 0)).getD (rows.getD i 0) else rows.getD i 0 := by
  unfold scrubbed
  rw [List.getD_eq_getElem?_getD, List.getElem?_map, List.getElem?_range h]
  rfl
theorem ext_getD {l r : List Nat} (h : l.length = r.length) (k : ∀ i, i < l.length → l.getD i 0 = r.getD i 0) : l = r := by
  refine List.ext_getElem h fun i h1 h2 => ?_
  have := k i h1
  rw [List.getD_eq_getElem?_getD, List.getD_eq_getElem?_getD, List.getElem?_eq_getElem h1, List.getElem?_eq_getElem h2] at this
  exact this
theorem set_getD {l : List Nat} {i j r : Nat} (h : i < l.length) : (l.set i r).getD j 0 = if i = j then r else l.getD j 0 := by
  by_cases e : i = j
  · subst e
    rw [if_pos rfl, List.getD_eq_getElem?_getD, List.getElem?_set_self h]
    rfl
  · rw [if_neg e, List.getD_eq_getElem?_getD, List.getD_eq_getElem?_getD, List.getElem?_set_ne e]
theorem scrubbed_zero (b : Nat) (rows : List Nat) : scrubbed b rows 0 = rows := ext_getD (scrubbed_len b rows 0) fun i h => by
  rw [scrubbed_len] at h
  rw [scrubbed_at h, if_neg (Nat.not_lt_zero i)]
theorem scrubbed_succ {b k : Nat} {rows : List Nat} (h : k < rows.length) : scrubbed b rows (k + 1) = (scrubbed b rows k).set k ((menO b (rows.getD k 0)).getD (rows.getD k 0)) := by
  refine ext_getD (by rw [List.length_set, scrubbed_len, scrubbed_len]) fun i hi => ?_
  rw [scrubbed_len] at hi
  rw [set_getD (by rw [scrubbed_len]; exact h), scrubbed_at hi, scrubbed_at hi]
  by_cases e : k = i
  · subst e
    rw [if_pos (Nat.lt_succ_self k), if_pos rfl]
  · rw [if_neg e]
    by_cases c : i < k
    · rw [if_pos c, if_pos (by omega)]
    · rw [if_neg c, if_neg (by omega)]
theorem scrubbed_same {b k : Nat} {rows : List Nat} (h : k < rows.length) (hm : (menO b (rows.getD k 0)).getD (rows.getD k 0) = rows.getD k 0) : scrubbed b rows (k + 1) = scrubbed b rows k := by
  rw [scrubbed_succ h, hm]
  refine ext_getD (by rw [List.length_set]) fun i hi => ?_
  rw [set_getD (by rw [scrubbed_len]; exact h)]
  split
  · rename_i e
    subst e
    rw [scrubbed_at h, if_neg (Nat.lt_irrefl _)]
  · rfl
theorem scrubbed_ok {b k : Nat} {rows : List Nat} (h : RowsOk b rows) : RowsOk b (scrubbed b rows k) := fun r hr => by
  unfold scrubbed at hr
  obtain ⟨i, hi, rfl⟩ := List.mem_map.mp hr
  have hi := List.mem_range.mp hi
  split
  · cases e : menO b (rows.getD i 0) with
    | none => exact h.at_
    | some w => exact menO_lt h.at_ e
  · exact h.at_
theorem cellsOf_succ (b : Nat) (rows : List Nat) (k : Nat) (t : Str) : cellsOf b rows (k + 1) t = cellsOf b rows k t ++ (if stO b (rows.getD k 0) = t then [k] else []) := by
  unfold cellsOf
  rw [List.range_succ, List.filter_append]
  congr 1
  by_cases h : stO b (rows.getD k 0) = t
  · rw [if_pos h, List.filter_cons, if_pos (decide_eq_true h)]; rfl
  · rw [if_neg h, List.filter_cons, if_neg (by rw [decide_eq_false h]; decide)]; rfl
theorem cellsOf_len (b : Nat) (rows : List Nat) (k : Nat) (t : Str) : (cellsOf b rows k t).length ≤ k := by
  have := List.length_filter_le (fun i => decide (stO b (rows.getD i 0) = t)) (List.range k)
  rw [List.length_range] at this
  exact this
theorem log_small {i : Nat} (h : i < 2 ^ 1000) : i.log2 < 1920 := by
  by_cases h0 : i = 0
  · subst h0; decide
  · exact Nat.lt_of_lt_of_le ((Nat.log2_lt h0).mpr h) (by decide)
theorem p512 {i : Nat} (h : i < 512) : ((i : Nat) : Int).natAbs.log2 < 1920 := by
  rw [Int.natAbs_natCast]
  exact log_small (Nat.lt_of_lt_of_le h (by have : 512 ≤ 2 ^ 1000 := by decide +kernel
                                            exact this))
theorem putF_len2 (b c : Nat) : (putF "bits" (.int (b : Int)) (putF "cells" (.int (c : Int)) [])).length ≤ 2 := by
  show (if ("cells" : Str) = "bits" then [(("cells" : Str), V.int (b : Int))] else (("cells" : Str), V.int (c : Int)) :: putF "bits" (.int (b : Int)) []).length ≤ 2
  rw [if_neg s_cb]
  exact Nat.le_refl 2
end My
set_option Elab.async false
set_option linter.all false
set_option maxRecDepth 100000
set_option maxHeartbeats 400000
/-! ### the deeds of the laws on memories -/
namespace My
open PySem PySem.Spec PyProof.Rows L2 Evl
def nD (ns : List Int) (i : Nat) : Int := ns.getD i 0
theorem nD_at {ns : List Int} {i : Nat} (h : i < ns.length) : atI (ns.map V.int) ((i : Nat) : Int) = some (.int (nD ns i)) := by
  refine atI_nat ?_
  unfold nD
  rw [List.getElem?_map, List.getD_eq_getElem?_getD, List.getElem?_eq_getElem h]
  rfl
theorem nD_small {ns : List Int} {i : Nat} (hs : ∀ n ∈ ns, 0 ≤ n ∧ n < 1009) : 0 ≤ nD ns i ∧ nD ns i < 1009 := by
  unfold nD
  rw [List.getD_eq_getElem?_getD]
  cases e : ns[i]? with
  | none => exact ⟨by decide, by decide⟩
  | some n => exact hs n (List.mem_of_getElem? e)
def lvX (ns : List Int) (i : Nat) : Int := nD ns i + 1009 * nD ns (i + 1) + 1009 * 1009 * nD ns (i + 2) + 1009 * 1009 * 1009 * nD ns (i + 3)
/-- the value that the law draws -/
def lvN (ns : List Int) (i b : Nat) : Nat := (([lvX ns i % ((2 ^ b : Nat) : Int), lvX ns i % ((2 ^ b : Nat) : Int), lvX ns i % ((2 ^ b : Nat) : Int), 0, ((2 ^ b : Nat) : Int) - 1] : List Int).getD ((nD ns (i + 3) % 5).toNat) 0).toNat
theorem mod5 (x : Int) : (x % 5).toNat = 0 ∨ (x % 5).toNat = 1 ∨ (x % 5).toNat = 2 ∨ (x % 5).toNat = 3 ∨ (x % 5).toNat = 4 := by omega
theorem lvN_at (ns : List Int) (i b : Nat) : lvN ns i b < 2 ^ b ∧ ([.int (lvX ns i % ((2 ^ b : Nat) : Int)), .int (lvX ns i % ((2 ^ b : Nat) : Int)), .int (lvX ns i % ((2 ^ b : Nat) : Int)), .int 0, .int (((2 ^ b : Nat) : Int) - 1)] : List V)[(nD ns (i + 3) % 5).toNat]? = some (.int ((lvN ns i b : Nat) : Int)) := by
  unfold lvN
  have hp := Nat.two_pow_pos b
  generalize 2 ^ b = B at *
  have h0 : 0 ≤ lvX ns i % (B : Int) := Int.emod_nonneg _ (by omega)
  have h1 : lvX ns i % (B : Int) < B := Int.emod_lt_of_pos _ (by omega)
  generalize lvX ns i % (B : Int) = x at *
  rcases mod5 (nD ns (i + 3)) with h | h | h | h | h <;> rw [h]
  · exact ⟨by show x.toNat < B; omega, by show some (V.int x) = some (V.int (x.toNat : Int)); rw [Int.toNat_of_nonneg h0]⟩
  · exact ⟨by show x.toNat < B; omega, by show some (V.int x) = some (V.int (x.toNat : Int)); rw [Int.toNat_of_nonneg h0]⟩
  · exact ⟨by show x.toNat < B; omega, by show some (V.int x) = some (V.int (x.toNat : Int)); rw [Int.toNat_of_nonneg h0]⟩
  · exact ⟨hp, rfl⟩
  · exact ⟨by show ((B : Int) - 1).toNat < B; omega, by show some (V.int ((B : Int) - 1)) = some (V.int (((B : Int) - 1).toNat : Int)); rw [Int.toNat_of_nonneg (by omega)]⟩
theorem lvN_lt (ns : List Int) (i b : Nat) : lvN ns i b < 2 ^ b := (lvN_at ns i b).1
def spLvF (K : PySem.W.Frag) : Sp := fun vs H Q _ => ∃ (a : Addr) (ns : List Int) (i b : Nat), vs = [.ref a, .int (i : Int), .int (b : Int)] ∧ SqL K H a (ns.map V.int) ∧ i + 3 < ns.length ∧ 4 ≤ b ∧ b ≤ 32 ∧ ∀ H', Ex H H' → Q (.int ((lvN ns i b : Nat) : Int)) H'
theorem SpLvF {K : PySem.W.Frag} {H : Hp} {a : Addr} {ns : List Int} {i b : Nat} (h : SqL K H a (ns.map V.int)) (hi : i + 3 < ns.length) (h4 : 4 ≤ b) (h32 : b ≤ 32) : SpV (spLvF K) ([.ref a, .int (i : Int), .int (b : Int)] ++ []) H (.int ((lvN ns i b : Nat) : Int)) := fun H1 e Q q E => ⟨a, ns, i, b, rfl, ex_l e h, hi, h4, h32, q⟩
def spRowsL (C : Addr) : Sp := fun vs H Q _ => ∃ (M R : Addr) (c b : Nat) (rows : List Nat), vs = [.ref M] ∧ MemAt C H M R c b rows ∧ c ≤ 512 ∧ ∀ p H', H p = none → Ex H H' → H' p = some (.lst ((iL rows).map V.int)) → Q (.ref p) H'
theorem SpRowsL {C M R : Addr} {H : Hp} {c b : Nat} {rows : List Nat} (m : MemAt C H M R c b rows) (hc : c ≤ 512) : SpL (spRowsL C) ([.ref M] ++ []) H ((iL rows).map V.int) := fun H1 e Q q E => ⟨M, R, c, b, rows, rfl, m.ex e, hc, q⟩
/-- the rows behind a scrubbing of one cell -/
def scrR (b : Nat) (rows : List Nat) (i : Nat) : List Nat := match menO b (rows.getD i 0) with
  | some w => rows.set i w
  | none => rows
def scrV (b : Nat) (rows : List Nat) (i : Nat) : V := match menO b (rows.getD i 0) with
  | some w => .bl (!decide (w = rows.getD i 0))
  | none => .non
def spLscrub (C : Addr) : Sp := fun vs H Q _ => ∃ (M R : Addr) (c b i : Nat) (rows : List Nat), vs = [.ref M, .int (i : Int)] ∧ MemAt C H M R c b rows ∧ i < c ∧ c ≤ 512 ∧ 4 ≤ b ∧ b ≤ 32 ∧ RowsOk b rows ∧
  ∀ H', Kp1 R H H' → H' R = some (.lst ((iL (scrR b rows i)).map V.int)) → Q (scrV b rows i) H'
def doR (b c : Nat) (rows : List Nat) (ns : List Int) (t : Nat) : List Nat :=
  if nD ns (t + 1) % 5 = 0 then rows.set (nD ns t % (c : Int)).toNat (cod b (lvN ns (t + 2) b))
  else if nD ns (t + 1) % 5 < 3 then rows.set (nD ns t % (c : Int)).toNat (flip (rows.getD (nD ns t % (c : Int)).toNat 0) [(nD ns (t + 2) % ((pl b : Nat) : Int)).toNat])
  else if nD ns (t + 1) % 5 = 3 then scrR b rows (nD ns t % (c : Int)).toNat
  else scrubbed b rows c
theorem scrR_len (b : Nat) (rows : List Nat) (i : Nat) : (scrR b rows i).length = rows.length := by
  unfold scrR
  split
  · rw [List.length_set]
  · rfl
theorem scrR_ok {b i : Nat} {rows : List Nat} (h : RowsOk b rows) : RowsOk b (scrR b rows i) := by
  unfold scrR
  split
  · rename_i w e
    exact h.set (menO_lt h.at_ e)
  · exact h
theorem doR_len (b c : Nat) (rows : List Nat) (ns : List Int) (t : Nat) : (doR b c rows ns t).length = rows.length := by
  unfold doR
  split
  · rw [List.length_set]
  · split
    · rw [List.length_set]
    · split
      · exact scrR_len _ _ _
      · exact scrubbed_len _ _ _
theorem doR_ok {b c t : Nat} {rows : List Nat} {ns : List Int} (h : RowsOk b rows) (h4 : 4 ≤ b) (h32 : b ≤ 32) : RowsOk b (doR b c rows ns t) := by
  have hp := pl_pos (b := b)
  unfold doR
  split
  · exact h.set (cod_lt h4 h32)
  · split
    · refine h.set (flip_lt h.at_ fun p hp' => ?_)
      rw [List.mem_singleton.mp hp']
      have h1 := Int.emod_nonneg (nD ns (t + 2)) (b := ((pl b : Nat) : Int)) (by omega)
      have h2 := Int.emod_lt_of_pos (nD ns (t + 2)) (b := ((pl b : Nat) : Int)) (by omega)
      omega
    · split
      · exact scrR_ok h
      · exact scrubbed_ok h
def spDo (C : Addr) : Sp := fun vs H Q _ => ∃ (M R n : Addr) (c b t : Nat) (rows : List Nat) (ns : List Int), vs = [.ref M, .ref n, .int (t : Int)] ∧ MemAt C H M R c b rows ∧ 1 ≤ c ∧ c ≤ 512 ∧ 4 ≤ b ∧ b ≤ 32 ∧ RowsOk b rows ∧
  H n = some (.lst (ns.map V.int)) ∧ (∀ z ∈ ns, 0 ≤ z ∧ z < 1009) ∧ t + 5 < ns.length ∧ ∀ v H', Kp1 R H H' → H' R = some (.lst ((iL (doR b c rows ns t)).map V.int)) → Q v H'
section
variable {K : PySem.W.Frag} {σ : L2.St} {H : Hp} {ta tb : TE} {C M R n : Addr} {c b t : Nat} {rows : List Nat} {ns : List Int}
theorem ev_isC {a dx : Addr} {fs : List (Str × V)} {ta : TA} (h : EvA ta σ H [.ref a, .ref C]) (ha : H a = some (.ins C dx fs)) : Ev (tCB (fun xs H Q => ∃ a dx fs, xs = [V.ref a, .ref C] ∧ H a = some (.ins C dx fs) ∧ Q (.bl true) H) ta) σ H (.bl true) :=
  ev_cb h fun H1 e _ q => ⟨a, dx, fs, rfl, e _ _ ha, q H1 (Ex.refl H1)⟩
theorem et_yes : EvT tYes σ H true := fun H1 e Q q => q H1 (Ex.refl _)
theorem ev_xf {a D dd : Addr} {f : Str} {fs : List (Str × V)} {v : V} (h : Ev ta σ H (.ref a)) (hd : H dd = some (.xd fs)) (hl : fs.lookup f = some v) : Ev (tXf a (.ref D) (some dd) D f ta) σ H v := fun H1 e Q q =>
  h H1 e _ fun H2 e2 => ⟨rfl, rfl, dd, fs, v, rfl, (e.trans e2) _ _ hd, hl, q H2 e2⟩
theorem ev_isX {a D x dd : Addr} {fs : List (Str × V)} {r : Bool} {t2 : TA} (h : EvA t2 σ H [.ref a, .ref x]) (hd : H dd = some (.xd fs)) (k : PySem.W.kitOne K (.ref D) (.ref x) = some r) :
    Ev (tCB (fun xs H Q => (∀ d, some dd = some d → ∃ fs, H d = some (.xd fs)) ∧ rIsX K D a (.ref D) xs H Q) t2) σ H (.bl r) :=
  ev_cb h fun H1 e _ q => ⟨fun d z => by cases z; exact ⟨fs, e _ _ hd⟩, x, r, rfl, rfl, k, q H1 (Ex.refl H1)⟩
theorem rows_range (rows : List Nat) : given rows.length (fun _ => true) (fun i => V.int ((rows.getD i 0 : Nat) : Int)) = (iL rows).map V.int := by
  rw [given_ints, List.filter_eq_self.mpr fun _ _ => rfl]
  congr 1
  unfold iL
  refine List.ext_getElem (by rw [List.length_map, List.length_map, List.length_range]) fun i h1 h2 => ?_
  rw [List.length_map] at h2
  rw [List.getElem_map, List.getElem_map, List.getElem_range, List.getD_eq_getElem?_getD, List.getElem?_eq_getElem h2]
  rfl
theorem evG_lstL2 {xs ys : List V} (ha : EvL ta σ H xs) (hb : EvL tb σ H ys) : EvG (tLst (tCons ta (tCons tb tNil))) σ H (fun v H' => ∃ p p0 p1, v = .ref p ∧ H p = none ∧ H p0 = none ∧ H p1 = none ∧ H' p = some (.lst [.ref p0, .ref p1]) ∧ H' p0 = some (.lst xs) ∧ H' p1 = some (.lst ys)) := fun H1 e Q q =>
  ha H1 e _ fun p0 H2 n0 e2 h0 => hb H2 (e.trans e2) _ fun p1 H3 n1 e3 h1 => ⟨sz_of (by show 2 ≤ 100000; decide), fun p np => by
    have x3 := (e2.trans e3).trans (Ex.new (o := .lst [.ref p0, .ref p1]) np)
    exact q _ _ x3 ⟨p, p0, p1, rfl, fresh_back (e.trans (e2.trans e3)) np, fresh_back e n0, fresh_back (e.trans e2) n1, upd_same, (Ex.new np) _ _ (e3 _ _ h0), (Ex.new np) _ _ h1⟩⟩
theorem et_lsNe3 {t1 t2 : TE} {l : List Int} {p : Addr} (h1 : EvL t1 σ H (l.map V.int)) (h2 : Ev t2 σ H (.ref p)) (hp : SqL K H p (l.map V.int)) : EvT (tTest (tOp (rNeD K) t1 t2)) σ H false :=
  et_test fun H1 e Q q => h1 H1 e _ fun p1 H2 n1 e2 hp1 => h2 H2 (e.trans e2) _ fun H3 e3 =>
    (rv_neS (dp_ints (sq_of (e3 _ _ hp1))) (dp_ints (ex_l ((e.trans e2).trans e3) hp)) (lay_ints l (n := 3)).sh) H3 (Ex.refl _) Q fun H4 e4 => q H4 ((e2.trans e3).trans e4)
theorem MemAt.other {H' : Hp} {M2 R2 : Addr} {c2 b2 : Nat} {rows2 : List Nat} (m2 : MemAt C H M2 R2 c2 b2 rows2) (hR : ∃ l, H R = some (.lst l)) (k : Kp1 R H H') (ne : R2 ≠ R) : MemAt C H' M2 R2 c2 b2 rows2 := by
  obtain ⟨l, hR⟩ := hR
  refine ⟨m2.ob.imp fun dx h => k _ _ (fun z => ?_) h, k _ _ ne m2.rw_, m2.len⟩
  rw [z, hR] at h
  cases h
theorem em_do {t3 : TA} (h : EvA t3 σ H [.ref M, .ref n, .int (t : Int)]) (m : MemAt C H M R c b rows) (h1 : 1 ≤ c) (h5 : c ≤ 512) (h4 : 4 ≤ b) (h32 : b ≤ 32) (ok : RowsOk b rows) (hn : H n = some (.lst (ns.map V.int))) (hs : ∀ z ∈ ns, 0 ≤ z ∧ z < 1009) (ht : t + 5 < ns.length) :
    EvM (tCall (spDo C) [] E0 t3) σ H (fun _ H' => Kp1 R H H' ∧ MemAt C H' M R c b (doR b c rows ns t)) :=
  em_call h fun H1 e Q q => ⟨M, R, n, c, b, t, rows, ns, rfl, m.ex e, h1, h5, h4, h32, ok, e _ _ hn, hs, ht, fun v H' k hR => q v H' ⟨fun o u a b => k o u a (e _ _ b), m.put (fun o u a b => k o u a (e _ _ b)) hR (doR_len _ _ _ _ _)⟩⟩
theorem em_twin (h : Ev ta σ H (.ref M)) (m : MemAt C H M R c b rows) (h5 : c ≤ 512) (h4 : 4 ≤ b) (h32 : b ≤ 32) (hl : (mflds R c b).lookup ("twin" : Str) = none) :
    EvM (tMeth C "twin" (spMTwin C) [] E0 ta tNil) σ H (fun v H' => ∃ M2 R2, v = .ref M2 ∧ H M2 = none ∧ H R2 = none ∧ Ex H H' ∧ MemAt C H' M2 R2 c b rows) := by
  obtain ⟨dx, ho⟩ := m.ob
  exact em_meth h ho hl ea_nil fun H1 e Q q => ⟨M, R, c, b, rows, rfl, m.ex e, h5, h4, h32, fun M2 R2 H' n1 n2 e2 m2 => q _ H' ⟨M2, R2, rfl, fresh_back e n1, fresh_back e n2, e.trans e2, m2⟩⟩
end
end My
set_option Elab.async false
set_option linter.all false
set_option maxRecDepth 100000
set_option maxHeartbeats 400000
/-! ### three copies: mathematics and what lists of three need -/
namespace My
open PySem PySem.Spec PyProof.Rows L2 Evl
section
variable {K : PySem.W.Frag} {σ : L2.St} {H : Hp} {ta tb te : TE} {tz : TS} {D : Ends}
theorem q_unl3 {i j l : Nat} {x y z : V} {a : Addr} (h : Ev te σ H (.ref a)) (hx : SqL K H a [x, y, z]) (k : ∀ H1, Ex H H1 → tz D (((σ.set i (some x)).set j (some y)).set l (some z)) H1) : tSeq (tAsg te (gUnl K 3 (gCons (gName i) (gCons (gName j) (gCons (gName l) gNil))))) tz D σ H :=
  h H (Ex.refl H) _ fun H1 e => ⟨a, _, rfl, ex_l e hx, rfl, _, _, rfl, _, _, rfl, _, _, rfl, rfl, k H1 e⟩
theorem ev_cnt {p : Addr} {ns : List Int} {k : Int} (ha : Ev ta σ H (.ref p)) (hp : SqL K H p (ns.map V.int)) (hb : Ev tb σ H (.int k)) : Ev (tBM K "list" (rCntI K) ta (tCons tb tNil)) σ H (.int ((ns.count k : Nat) : Int)) := fun H1 e Q q =>
  ha H1 e _ fun H2 e2 => ⟨Or.inl ⟨rfl, _, ex_l (e.trans e2) hp⟩, hb H2 (e.trans e2) _ fun H3 e3 => ⟨p, ns, k, rfl, rfl, ex_l ((e.trans e2).trans e3) hp, q H3 (e2.trans e3)⟩⟩
end
def maj (a b c : Nat) : Nat := (a &&& b ||| a &&& c) ||| b &&& c
theorem maj_bit (a b c p : Nat) : (maj a b c).testBit p = decide (1 < (a.testBit p).toNat + (b.testBit p).toNat + (c.testBit p).toNat) := by
  unfold maj
  rw [Nat.testBit_or, Nat.testBit_or, Nat.testBit_and, Nat.testBit_and, Nat.testBit_and]
  cases a.testBit p <;> cases b.testBit p <;> cases c.testBit p <;> decide
theorem maj_lt {a b c m : Nat} (ha : a < 2 ^ m) (hb : b < 2 ^ m) (hc : c < 2 ^ m) : maj a b c < 2 ^ m := by
  unfold maj
  exact Nat.or_lt_two_pow (Nat.or_lt_two_pow (Nat.and_lt_two_pow _ hb) (Nat.and_lt_two_pow _ hc)) (Nat.and_lt_two_pow _ hc)
theorem maj_rot (a b c : Nat) : maj b c a = maj a b c := by
  refine Nat.eq_of_testBit_eq fun p => ?_
  rw [maj_bit, maj_bit]
  cases a.testBit p <;> cases b.testBit p <;> cases c.testBit p <;> decide
theorem maj_row {a b c m : Nat} (ha : a < 2 ^ m) (hb : b < 2 ^ m) (hc : c < 2 ^ m) : rowOf ((List.range m).filter fun p => decide (1 < (a.testBit p).toNat + (b.testBit p).toNat + (c.testBit p).toNat)) = maj a b c := by
  have h := row_bs (maj_lt ha hb hc)
  unfold bs at h
  rw [← h]
  congr 1
  exact List.filter_congr fun p _ => (maj_bit a b c p).symm
/-- the value by words -/
def wrd (a b c : Nat) : V := if a = b ∨ a = c then .int (a : Int) else if b = c then .int (b : Int) else .non
theorem wrd_rot (a b c : Nat) : wrd b c a = wrd a b c := by
  unfold wrd
  by_cases h1 : a = b
  · subst h1
    by_cases h2 : a = c
    · subst h2; simp
    · simp [h2]
  · have h1' : ¬ b = a := fun h => h1 h.symm
    by_cases h2 : a = c
    · subst h2; simp [h1, h1']
    · have h2' : ¬ c = a := fun h => h2 h.symm
      by_cases h3 : b = c
      · subst h3; simp [h1, h1']
      · simp [h1, h1', h2, h2', h3]
theorem tab4 : ∀ p : Nat, p < 32 → atI [V.int 1, .int 256, .int 65536, .int 16777216] ((p : Int) / 8) = some (.int ((2 ^ (8 * (p / 8)) : Nat) : Int)) := by decide +kernel
theorem tab8 : ∀ p : Nat, p < 32 → atI [V.int 1, .int 2, .int 4, .int 8, .int 16, .int 32, .int 64, .int 128] ((p : Int) % 8) = some (.int ((2 ^ (p % 8) : Nat) : Int)) := by decide +kernel
theorem pow_two_parts : ∀ p : Nat, p < 32 → 2 ^ (8 * (p / 8)) < 2 ^ 30 ∧ 2 ^ (p % 8) < 2 ^ 30 := by decide +kernel
theorem pow_parts (p : Nat) : 2 ^ (8 * (p / 8)) * 2 ^ (p % 8) = 2 ^ p := by
  rw [← Nat.pow_add]
  congr 1
  omega
theorem digit_eq (n p : Nat) : ((n : Int) / ((2 ^ (8 * (p / 8)) : Nat) : Int) / ((2 ^ (p % 8) : Nat) : Int)) % 2 = ((n.testBit p).toNat : Int) := by
  have h : (n : Int) / ((2 ^ (8 * (p / 8)) : Nat) : Int) / ((2 ^ (p % 8) : Nat) : Int) = ((n / 2 ^ p : Nat) : Int) := by
    rw [← Int.natCast_ediv, ← Int.natCast_ediv, Nat.div_div_eq_div_mul, pow_parts]
  rw [h, Nat.testBit_eq_decide_div_mod_eq]
  have h2 := Nat.mod_two_eq_zero_or_one (n / 2 ^ p)
  rcases h2 with h2 | h2
  · rw [decide_eq_false (by omega)]; show _ = (0 : Int); omega
  · rw [decide_eq_true h2]; show _ = (1 : Int); omega
/-! promises -/
def spLdig : Sp := fun vs H Q _ => ∃ n p : Nat, vs = [.int (n : Int), .int (p : Int)] ∧ p < 32 ∧ ∀ H', Ex H H' → Q (.int ((n.testBit p).toNat : Int)) H'
theorem SpLdig {H : Hp} {n p : Nat} (hp : p < 32) : SpV spLdig ([.int (n : Int), .int (p : Int)] ++ []) H (.int ((n.testBit p).toNat : Int)) := fun H1 e Q q E => ⟨n, p, rfl, hp, q⟩
def spLstep : Sp := fun vs H Q _ => ∃ p : Nat, vs = [.int (p : Int)] ∧ p < 32 ∧ ∀ H', Ex H H' → Q (.int ((2 ^ p : Nat) : Int)) H'
theorem SpLstep {H : Hp} {p : Nat} (hp : p < 32) : SpV spLstep ([.int (p : Int)] ++ []) H (.int ((2 ^ p : Nat) : Int)) := fun H1 e Q q E => ⟨p, rfl, hp, q⟩
def spLval2 (K : PySem.W.Frag) : Sp := fun vs H Q _ => ∃ (a : Addr) (ns : List Int) (i b : Nat), vs = [.ref a, .int (i : Int), .int (b : Int)] ∧ SqL K H a (ns.map V.int) ∧ (∀ n ∈ ns, 0 ≤ n ∧ n < 1009) ∧ i + 3 < ns.length ∧ b ≤ 32 ∧ ∀ (v : Nat) H', v < 2 ^ b → Ex H H' → Q (.int (v : Int)) H'
def spLcopies (K : PySem.W.Frag) : Sp := fun vs H Q _ => ∃ (a : Addr) (ns : List Int) (i b : Nat), vs = [.ref a, .int (i : Int), .int (b : Int)] ∧ SqL K H a (ns.map V.int) ∧ (∀ n ∈ ns, 0 ≤ n ∧ n < 1009) ∧ i + 10 < ns.length ∧ 1 ≤ b ∧ b ≤ 32 ∧
  ∀ (x y z : Nat) p H', x < 2 ^ b → y < 2 ^ b → z < 2 ^ b → H p = none → Ex H H' → H' p = some (.lst [.int (x : Int), .int (y : Int), .int (z : Int)]) → Q (.ref p) H'
def spByBits (K : PySem.W.Frag) : Sp := fun vs H Q _ => ∃ (p : Addr) (a b c : Nat), vs = [.ref p] ∧ SqL K H p [.int (a : Int), .int (b : Int), .int (c : Int)] ∧ ∀ H', Ex H H' → Q (.int ((maj a b c : Nat) : Int)) H'
theorem SpByBits {K : PySem.W.Frag} {H : Hp} {p : Addr} {a b c : Nat} (h : SqL K H p [.int (a : Int), .int (b : Int), .int (c : Int)]) : SpV (spByBits K) ([.ref p] ++ []) H (.int ((maj a b c : Nat) : Int)) := fun H1 e Q q E => ⟨p, a, b, c, rfl, ex_l e h, q⟩
def spByWords (K : PySem.W.Frag) : Sp := fun vs H Q _ => ∃ (p : Addr) (a b c : Nat), vs = [.ref p] ∧ SqL K H p [.int (a : Int), .int (b : Int), .int (c : Int)] ∧ ∀ H', Ex H H' → Q (wrd a b c) H'
theorem SpByWords {K : PySem.W.Frag} {H : Hp} {p : Addr} {a b c : Nat} (h : SqL K H p [.int (a : Int), .int (b : Int), .int (c : Int)]) : SpV (spByWords K) ([.ref p] ++ []) H (wrd a b c) := fun H1 e Q q E => ⟨p, a, b, c, rfl, ex_l e h, q⟩
/-- the numbers of the copies that are not the value -/
def odd3 (a b c : Nat) : List Nat := (List.range 3).filter fun i => !decide ([a, b, c].getD i 0 = maj a b c)
def spOdd (K : PySem.W.Frag) : Sp := fun vs H Q _ => ∃ (p : Addr) (a b c : Nat), vs = [.ref p] ∧ SqL K H p [.int (a : Int), .int (b : Int), .int (c : Int)] ∧ ∀ r H', H r = none → Ex H H' → H' r = some (.lst ((iL (odd3 a b c)).map V.int)) → Q (.ref r) H'
theorem SpOdd {K : PySem.W.Frag} {H : Hp} {p : Addr} {a b c : Nat} (h : SqL K H p [.int (a : Int), .int (b : Int), .int (c : Int)]) : SpL (spOdd K) ([.ref p] ++ []) H ((iL (odd3 a b c)).map V.int) := fun H1 e Q q E => ⟨p, a, b, c, rfl, ex_l e h, q⟩
section
variable {K : PySem.W.Frag} {σ : L2.St} {H : Hp} {ta tb te : TE}
theorem ev_isIB {i : Int} (h : Ev ta σ H (.int i)) : Ev (tCB (rIsi K) (tCons ta (tCons (tC (.ty "bool")) tNil))) σ H (.bl false) :=
  ev_cb (ea_cons h (ea_cons ev_c ea_nil)) fun H1 e _ q => ⟨_, _, .type "int", .type "bool", false, rfl, .ty _, .base (.int _), kit_ty (by decide +kernel), q H1 (Ex.refl H1)⟩
theorem et_lsNe2 {t1 t2 : TE} {l : List Int} {p : Addr} (h1 : Ev t1 σ H (.ref p)) (hp : SqL K H p (l.map V.int)) (h2 : EvL t2 σ H (l.map V.int)) : EvT (tTest (tOp (rNeD K) t1 t2)) σ H false :=
  et_test (ev_opL h1 h2 fun q H1 hq e => rv_neS (dp_ints (ex_l e hp)) (dp_ints (sq_of hq)) (lay_ints l (n := 3)).sh)
theorem ev_isBB {c : Bool} (h : Ev ta σ H (.bl c)) : Ev (tCB (rIsi K) (tCons ta (tCons (tC (.ty "bool")) tNil))) σ H (.bl true) :=
  ev_cb (ea_cons h (ea_cons ev_c ea_nil)) fun H1 e _ q => ⟨_, _, .type "bool", .type "bool", true, rfl, .ty _, .base (.bl _), kit_ty (by decide +kernel), q H1 (Ex.refl H1)⟩
/-- the copies that come twice or more -/
def sameF (ns : List Int) : Nat → Bool := fun i => decide ((1 : Int) < ((ns.count (ns.getD i 0) : Nat) : Int))
def sameV (x y z : Nat) : List V := given 3 (sameF [(x : Int), (y : Int), (z : Int)]) (fun i => V.int ([(x : Int), (y : Int), (z : Int)].getD i 0))
theorem same_wrd (x y z : Nat) : atI (sameV x y z ++ [.non]) 0 = some (wrd x y z) := by
  have r : List.range 3 = [0, 1, 2] := rfl
  have key : ∀ l : List V, ∀ v, (l ++ [V.non])[0]? = some v → atI (l ++ [.non]) 0 = some v := fun l v h => atI_nat (j := 0) h
  refine key _ _ ?_
  unfold sameV given sameF wrd
  rw [r]
  by_cases h1 : x = y
  · subst h1
    by_cases h2 : x = z
    · subst h2; simp [List.count_cons, List.filter_cons]
    · have i1 : ¬ (x : Int) = z := by omega
      have i2 : ¬ (z : Int) = x := by omega
      simp [List.count_cons, List.filter_cons, i1, i2]
  · have i1 : ¬ (x : Int) = y := by omega
    have i2 : ¬ (y : Int) = x := by omega
    by_cases h2 : x = z
    · subst h2
      simp [List.count_cons, List.filter_cons, h1, i1, i2]
    · have i3 : ¬ (x : Int) = z := by omega
      have i4 : ¬ (z : Int) = x := by omega
      by_cases h3 : y = z
      · subst h3
        simp [List.count_cons, List.filter_cons, h1, i1, i2]
      · have i5 : ¬ (y : Int) = z := by omega
        have i6 : ¬ (z : Int) = y := by omega
        simp [List.count_cons, List.filter_cons, h1, h2, h3, i1, i2, i3, i4, i5, i6]
theorem same_len (x y z : Nat) : (sameV x y z).length ≤ 3 := given_len _ _ _
theorem inj_at {x y z i : Nat} {v : V} (h : ([V.int (x : Int), .int (y : Int), .int (z : Int)])[i]? = some v) : v = .int ([(x : Int), (y : Int), (z : Int)].getD i 0) ∧ i < 3 ∧ v = .int (([x, y, z].getD i 0 : Nat) : Int) := by
  match i, h with
  | 0, h => exact ⟨(Option.some.inj h).symm, by omega, (Option.some.inj h).symm⟩
  | 1, h => exact ⟨(Option.some.inj h).symm, by omega, (Option.some.inj h).symm⟩
  | 2, h => exact ⟨(Option.some.inj h).symm, by omega, (Option.some.inj h).symm⟩
end
theorem xor_row {a c m : Nat} (ha : a < 2 ^ m) (hc : c < 2 ^ m) : rowOf ((List.range m).filter fun p => !decide (V.int ((a.testBit p).toNat : Int) = V.int ((c.testBit p).toNat : Int))) = a ^^^ c := by
  have h := row_bs (Nat.xor_lt_two_pow ha hc)
  unfold bs at h
  rw [← h]
  congr 1
  refine List.filter_congr fun p _ => ?_
  rw [Nat.testBit_xor]
  cases a.testBit p <;> cases c.testBit p <;> decide
section
variable {K : PySem.W.Frag} {σ : L2.St} {H : Hp} {T1 T2 : TE} {ta : TA}
theorem ev_sumx {j : Nat} {vs : List Nat} {a c b : Nat} (hb : b ≤ 32) (ha : a < 2 ^ b) (hc : c < 2 ^ b) (h : EvA ta σ H [.int (b : Int)]) (hw : ∀ x, wipe ((wipe σ vs).set j (some x)) vs = wipe σ vs) (hj : ∀ x : V, ((wipe σ vs).set j (some x))[j]? = some (some x))
    (h1 : ∀ (p : Nat) H1, Ex H H1 → Ev T1 ((wipe σ vs).set j (some (.int (p : Int)))) H1 (.int (a : Int))) (h2 : ∀ (p : Nat) H1, Ex H H1 → Ev T2 ((wipe σ vs).set j (some (.int (p : Int)))) H1 (.int (c : Int))) :
    Ev (tCB (rSum K) (tCons (tLc (iRng1 ta) (gName j) (tTest (tOp rNe (tCall spLdig [] E0 (tCons T1 (tCons (tVar j) tNil))) (tCall spLdig [] E0 (tCons T2 (tCons (tVar j) tNil))))) (tCall spLstep [] E0 (tCons (tVar j) tNil)) vs) tNil)) σ H (.int ((a ^^^ c : Nat) : Int)) := by
  refine ev_is (ev_sumL (ns := iL (((List.range b).filter fun p => !decide (V.int ((a.testBit p).toNat : Int) = V.int ((c.testBit p).toNat : Int))).map (2 ^ ·))) (el_is (el_lcR1 (n := (b : Int)) (fun p => !decide (V.int ((a.testBit p).toNat : Int) = V.int ((c.testBit p).toNat : Int))) (fun p => V.int ((2 ^ p : Nat) : Int)) h (by omega) hw (fun p H1 e1 hp => et_ne (ev_call (ea_cons (h1 p H1 e1) (ea_cons (ev_var (hj _)) ea_nil)) (SpLdig (by omega))) (ev_call (ea_cons (h2 p H1 e1) (ea_cons (ev_var (hj _)) ea_nil)) (SpLdig (by omega))) rfl) (fun p H1 e1 hp _ => ev_call (ea_cons (ev_var (hj _)) ea_nil) (SpLstep (by omega)))) ?ll)) ?vv
  case ll =>
    rw [Int.toNat_natCast, given_ints]
    unfold iL
    simp only [List.map_map]
    rfl
  case vv =>
    rw [sum_iL]
    show V.int ((rowOf _ : Nat) : Int) = _
    rw [xor_row ha hc]
end
theorem maj_xor (a b c v : Nat) : maj (a ^^^ v) (b ^^^ v) (c ^^^ v) = maj a b c ^^^ v := by
  refine Nat.eq_of_testBit_eq fun p => ?_
  rw [Nat.testBit_xor, maj_bit, maj_bit, Nat.testBit_xor, Nat.testBit_xor, Nat.testBit_xor]
  cases a.testBit p <;> cases b.testBit p <;> cases c.testBit p <;> cases v.testBit p <;> decide
theorem xor_inj {a b v : Nat} : a ^^^ v = b ^^^ v ↔ a = b := by
  constructor
  · intro h
    have h2 : (a ^^^ v) ^^^ v = (b ^^^ v) ^^^ v := by rw [h]
    rw [Nat.xor_assoc, Nat.xor_assoc, Nat.xor_self, Nat.xor_zero, Nat.xor_zero] at h2
    exact h2
  · intro h; rw [h]
/-- the outcome by words -/
def outc (a b c : Nat) : Str := if wrd a b c = .non then "none" else if wrd a b c = .int 0 then "right" else "wrong"
theorem wrd_xor (a b c v : Nat) : (wrd a b c = .non ∧ wrd (a ^^^ v) (b ^^^ v) (c ^^^ v) = .non) ∨ ∃ x : Nat, wrd a b c = .int (x : Int) ∧ wrd (a ^^^ v) (b ^^^ v) (c ^^^ v) = .int ((x ^^^ v : Nat) : Int) ∧ (x = 0 → maj a b c = 0) := by
  have hm : ∀ b c, maj 0 b c = b &&& c := fun b c => by unfold maj; simp
  unfold wrd
  simp only [xor_inj]
  by_cases h1 : a = b ∨ a = c
  · rw [if_pos h1, if_pos h1]
    refine Or.inr ⟨a, rfl, rfl, fun h => ?_⟩
    subst h
    rw [hm]
    rcases h1 with h1 | h1
    · rw [← h1]; simp
    · rw [← h1]; simp
  · rw [if_neg h1, if_neg h1]
    by_cases h2 : b = c
    · rw [if_pos h2, if_pos h2]
      refine Or.inr ⟨b, rfl, rfl, fun h => ?_⟩
      subst h
      subst h2
      unfold maj
      simp
    · rw [if_neg h2, if_neg h2]
      exact Or.inl ⟨rfl, rfl⟩
def spSure (K : PySem.W.Frag) : Sp := fun vs H Q _ => ∃ (p : Addr) (a b c : Nat), vs = [.ref p] ∧ SqL K H p [.int (a : Int), .int (b : Int), .int (c : Int)] ∧ ∀ H', Ex H H' → Q (.bl (decide (maj a b c = 0))) H'
theorem SpSure {K : PySem.W.Frag} {H : Hp} {p : Addr} {a b c : Nat} (h : SqL K H p [.int (a : Int), .int (b : Int), .int (c : Int)]) : SpV (spSure K) ([.ref p] ++ []) H (.bl (decide (maj a b c = 0))) := fun H1 e Q q E => ⟨p, a, b, c, rfl, ex_l e h, q⟩
def spOutc (K : PySem.W.Frag) : Sp := fun vs H Q _ => ∃ (p : Addr) (a b c : Nat), vs = [.ref p] ∧ SqL K H p [.int (a : Int), .int (b : Int), .int (c : Int)] ∧ ∀ H', Ex H H' → Q (.str (outc a b c)) H'
theorem SpOutc {K : PySem.W.Frag} {H : Hp} {p : Addr} {a b c : Nat} (h : SqL K H p [.int (a : Int), .int (b : Int), .int (c : Int)]) : SpV (spOutc K) ([.ref p] ++ []) H (.str (outc a b c)) := fun H1 e Q q E => ⟨p, a, b, c, rfl, ex_l e h, q⟩
end My
set_option Elab.async false
set_option linter.all false
set_option maxRecDepth 100000
set_option maxHeartbeats 400000
/-! ### a memory whose cells hold words, each with at most one place off -/
namespace My
open PySem PySem.Spec PyProof.Rows L2 Evl
def rng {α : Type} (f : Nat → α) (c : Nat) : List α := (List.range c).map f
def fset {α : Type} (f : Nat → α) (i : Nat) (x : α) : Nat → α := fun j => if j = i then x else f j
theorem rng_len {α : Type} (f : Nat → α) (c : Nat) : (rng f c).length = c := by unfold rng; rw [List.length_map, List.length_range]
theorem rng_at {α : Type} {f : Nat → α} {c i : Nat} (h : i < c) : (rng f c)[i]? = some (f i) := by
  unfold rng
  rw [List.getElem?_map, List.getElem?_range h]
  rfl
theorem rng_getD {f : Nat → Nat} {c i : Nat} (h : i < c) : (rng f c).getD i 0 = f i := by rw [List.getD_eq_getElem?_getD, rng_at h]; rfl
theorem rng_ext {α : Type} {f g : Nat → α} {c : Nat} (h : ∀ i, i < c → f i = g i) : rng f c = rng g c := List.map_congr_left fun i hi => h i (List.mem_range.mp hi)
theorem rng_set {α : Type} (f : Nat → α) (c i : Nat) (x : α) : (rng f c).set i x = rng (fset f i x) c := by
  refine List.ext_getElem? fun j => ?_
  rw [List.getElem?_set, rng_len]
  by_cases hj : j < c
  · rw [rng_at hj, rng_at hj]
    unfold fset
    by_cases e : i = j
    · subst e
      rw [if_pos rfl, if_pos hj, if_pos rfl]
    · rw [if_neg e, if_neg (Ne.symm e)]
  · have n1 : (rng f c)[j]? = none := List.getElem?_eq_none (by rw [rng_len]; omega)
    have n2 : (rng (fset f i x) c)[j]? = none := List.getElem?_eq_none (by rw [rng_len]; omega)
    rw [n1, n2]
    by_cases e : i = j
    · subst e
      rw [if_pos rfl, if_neg hj]
    · rw [if_neg e]
theorem rng_rep {α : Type} (x : α) (c : Nat) : List.replicate c x = rng (fun _ => x) c := by
  unfold rng
  refine List.ext_getElem (by rw [List.length_replicate, List.length_map, List.length_range]) fun i h1 h2 => ?_
  rw [List.getElem_replicate, List.getElem_map]
theorem rng_map {α β : Type} (f : Nat → α) (g : α → β) (c : Nat) : (rng f c).map g = rng (fun i => g (f i)) c := by unfold rng; rw [List.map_map]; rfl
theorem rngI (f : Nat → Nat) (c : Nat) : (iL (rng f c)).map V.int = rng (fun i => V.int ((f i : Nat) : Int)) c := by unfold iL; rw [rng_map, rng_map]
def rowF (b v : Nat) : Option Nat → Nat
  | none => cod b v
  | some p => flip (cod b v) [p]
def offV : Option Nat → V
  | none => .non
  | some p => .int (p : Int)
theorem offV_none (o : Option Nat) : decide (offV o = .non) = o.isNone := by cases o <;> rfl
theorem flip_two (n p : Nat) : flip (flip n [p]) [p] = n := by
  show (n ^^^ 2 ^ p) ^^^ 2 ^ p = n
  rw [Nat.xor_assoc, Nat.xor_self, Nat.xor_zero]
theorem flip_ne (n p : Nat) : flip n [p] ≠ n := fun e => by
  have e' : n ^^^ 2 ^ p = n := e
  have := tb_flip1 n p p
  rw [e'] at this
  cases h : n.testBit p <;> rw [h] at this <;> simp at this
section
variable {b v : Nat} {o : Option Nat} (h4 : 4 ≤ b) (h32 : b ≤ 32) (ho : ∀ p, o = some p → p < pl b)
include h4 h32 ho
theorem rowF_lt : rowF b v o < 2 ^ pl b := by
  cases o with
  | none => exact cod_lt h4 h32
  | some p => exact flip_lt (cod_lt h4 h32) fun q hq => by rw [List.mem_singleton.mp hq]; exact ho p rfl
theorem men_rowF : menO b (rowF b v o) = some (cod b v) := by
  unfold menO
  cases o with
  | none =>
    show (if parB (pl b) (cod b v) = true then _ else _) = _
    rw [cod_par h4 h32, if_neg Bool.false_ne_true]
    show (if spotN (pl b) (cod b v) = 0 then _ else _) = _
    rw [cod_spot h4 h32, if_pos rfl]
    rfl
  | some p =>
    have hp := ho p rfl
    have l1 : ∀ q ∈ [p], q < pl b := fun q hq => by rw [List.mem_singleton.mp hq]; exact hp
    have e1 : parB (pl b) (flip (cod b v) [p]) = true := by rw [par_flip l1, cod_par h4 h32]; rfl
    have e2 : spotN (pl b) (flip (cod b v) [p]) = p := by rw [spot_flip l1, cod_spot h4 h32, Nat.zero_xor, sx_one]
    show (if parB (pl b) (flip (cod b v) [p]) = true then (if spotN (pl b) (flip (cod b v) [p]) < pl b then some (flip (flip (cod b v) [p]) [spotN (pl b) (flip (cod b v) [p])]) else none) else _) = _
    rw [e1, if_pos rfl, e2, if_pos hp, flip_two]
theorem st_rowF : stO b (rowF b v o) = if o.isNone then "clean" else "one" := by
  unfold stO
  cases o with
  | none =>
    show (if parB (pl b) (cod b v) = true then _ else _) = _
    rw [cod_par h4 h32, if_neg Bool.false_ne_true]
    show (if spotN (pl b) (cod b v) = 0 then _ else _) = _
    rw [cod_spot h4 h32, if_pos rfl]
    rfl
  | some p =>
    have hp := ho p rfl
    have l1 : ∀ q ∈ [p], q < pl b := fun q hq => by rw [List.mem_singleton.mp hq]; exact hp
    have e1 : parB (pl b) (flip (cod b v) [p]) = true := by rw [par_flip l1, cod_par h4 h32]; rfl
    have e2 : spotN (pl b) (flip (cod b v) [p]) = p := by rw [spot_flip l1, cod_spot h4 h32, Nat.zero_xor, sx_one]
    show (if parB (pl b) (flip (cod b v) [p]) = true then (if spotN (pl b) (flip (cod b v) [p]) < pl b then _ else _) else _) = _
    rw [e1, if_pos rfl, e2, if_pos hp]
    rfl
theorem is_rowF : decide (cod b v = rowF b v o) = o.isNone := by
  cases o with
  | none => exact decide_eq_true rfl
  | some p => exact decide_eq_false fun e => flip_ne (cod b v) p e.symm
end
theorem two_off {b v p q : Nat} (h4 : 4 ≤ b) (h32 : b ≤ 32) (hp : p < pl b) (hq : q < pl b) (d : p ≠ q) : menO b (flip (flip (cod b v) [p]) [q]) = none ∧ stO b (flip (flip (cod b v) [p]) [q]) = "more" := by
  have e : flip (flip (cod b v) [p]) [q] = flip (cod b v) [p, q] := rfl
  have l2 : ∀ z ∈ [p, q], z < pl b := fun z hz => by
    rcases List.mem_cons.mp hz with rfl | hz
    · exact hp
    · rw [List.mem_singleton.mp hz]; exact hq
  have e1 : parB (pl b) (flip (cod b v) [p, q]) = false := by rw [par_flip l2, cod_par h4 h32]; show (false ^^ decide ((2 : Nat) % 2 = 1)) = false; decide
  have e2 : spotN (pl b) (flip (cod b v) [p, q]) ≠ 0 := by
    rw [spot_flip l2, cod_spot h4 h32, Nat.zero_xor, sx_cons, sx_one]
    intro z
    have z2 : p ^^^ (p ^^^ q) = p := by rw [z, Nat.xor_zero]
    rw [← Nat.xor_assoc, Nat.xor_self, Nat.zero_xor] at z2
    exact d z2.symm
  rw [e]
  unfold menO stO
  rw [e1, if_neg Bool.false_ne_true, if_neg Bool.false_ne_true, if_neg e2, if_neg e2]
  exact ⟨rfl, rfl⟩
def readV (b r : Nat) : V := match menO b r with
  | some w => .int ((valN b w : Nat) : Int)
  | none => .non
def spLread (C : Addr) : Sp := fun vs H Q _ => ∃ (M R : Addr) (c b i : Nat) (rows : List Nat), vs = [.ref M, .int (i : Int)] ∧ MemAt C H M R c b rows ∧ i < c ∧ c ≤ 512 ∧ 4 ≤ b ∧ b ≤ 32 ∧ RowsOk b rows ∧ ∀ H', Ex H H' → Q (readV b (rows.getD i 0)) H'
theorem SpLread {C M R : Addr} {H : Hp} {c b i : Nat} {rows : List Nat} (m : MemAt C H M R c b rows) (hi : i < c) (h5 : c ≤ 512) (h4 : 4 ≤ b) (h32 : b ≤ 32) (ok : RowsOk b rows) : SpV (spLread C) ([.ref M, .int (i : Int)] ++ []) H (readV b (rows.getD i 0)) := fun H1 e Q q E => ⟨M, R, c, b, i, rows, rfl, m.ex e, hi, h5, h4, h32, ok, q⟩
/-- what is held of the laws' lists: vs the values, os the places that are off, rs the rows -/
structure St (C : Addr) (H : Hp) (M R n va oa : Addr) (c b : Nat) (ns : List Int) (rs vs : Nat → Nat) (os : Nat → Option Nat) : Prop where
  m : MemAt C H M R c b (rng rs c)
  v : H va = some (.lst ((iL (rng vs c)).map V.int))
  o : H oa = some (.lst ((rng os c).map offV))
  n_ : H n = some (.lst (ns.map V.int))
  d : va ≠ R ∧ oa ≠ R ∧ va ≠ oa ∧ n ≠ R ∧ n ≠ va ∧ n ≠ oa
section
variable {C M R n va oa : Addr} {H H' : Hp} {c b : Nat} {ns : List Int} {rs vs rs' : Nat → Nat} {os : Nat → Option Nat}
theorem St.ex (s : St C H M R n va oa c b ns rs vs os) (e : Ex H H') : St C H' M R n va oa c b ns rs vs os := ⟨s.m.ex e, e _ _ s.v, e _ _ s.o, e _ _ s.n_, s.d⟩
theorem St.kR (s : St C H M R n va oa c b ns rs vs os) (k : Kp1 R H H') (m' : MemAt C H' M R c b (rng rs' c)) : St C H' M R n va oa c b ns rs' vs os :=
  ⟨m', k _ _ s.d.1 s.v, k _ _ s.d.2.1 s.o, k _ _ s.d.2.2.2.1 s.n_, s.d⟩
theorem St.uV {i x : Nat} (s : St C H M R n va oa c b ns rs vs os) : St C (upd H va (.lst (((iL (rng vs c)).map V.int).set i (.int (x : Int))))) M R n va oa c b ns rs (fset vs i x) os := by
  obtain ⟨d1, d2, d3, d4, d5, d6⟩ := s.d
  refine ⟨s.m.other ⟨_, s.v⟩ (Kp1.of (Ex.refl H)).u (Ne.symm d1), ?_, ?_, ?_, s.d⟩
  · rw [upd_same, iL_set, rng_set]
  · rw [upd_ne (Ne.symm d3)]; exact s.o
  · rw [upd_ne d5]; exact s.n_
theorem St.uO {i : Nat} {x : Option Nat} (s : St C H M R n va oa c b ns rs vs os) : St C (upd H oa (.lst (((rng os c).map offV).set i (offV x)))) M R n va oa c b ns rs vs (fset os i x) := by
  obtain ⟨d1, d2, d3, d4, d5, d6⟩ := s.d
  refine ⟨s.m.other ⟨_, s.o⟩ (Kp1.of (Ex.refl H)).u (Ne.symm d2), ?_, ?_, ?_, s.d⟩
  · rw [upd_ne d3]; exact s.v
  · rw [upd_same, ← List.map_set, rng_set]
  · rw [upd_ne d6]; exact s.n_
theorem St.atV {i : Nat} (s : St C H M R n va oa c b ns rs vs os) (h : i < c) : atI ((iL (rng vs c)).map V.int) (i : Int) = some (.int ((vs i : Nat) : Int)) := by
  rw [rngI]
  exact atI_nat (rng_at h)
theorem St.atO {i : Nat} (s : St C H M R n va oa c b ns rs vs os) (h : i < c) : atI ((rng os c).map offV) (i : Int) = some (offV (os i)) := by
  rw [rng_map]
  exact atI_nat (rng_at h)
end
section
variable {K : PySem.W.Frag} {σ : L2.St} {H : Hp} {ta tb te : TE} {tz : TS} {D : Ends} {C M R n va oa : Addr} {c b : Nat} {ns : List Int} {rs vs : Nat → Nat} {os : Nat → Option Nat}
theorem mf_m {m : Str} {R : Addr} {c b : Nat} (h : ((m == ("cells" : Str)) || (m == ("bits" : Str)) || (m == ("_rows" : Str))) = false) : (mflds R c b).lookup m = none := by
  have h1 := Bool.or_eq_false_iff.mp h
  have h2 := Bool.or_eq_false_iff.mp h1.1
  exact mf_no R c b h2.1 h2.2 h1.2
theorem em_fl {i p : Nat} {t2 : TA} (s : St C H M R n va oa c b ns rs vs os) (h : Ev ta σ H (.ref M)) (h2 : EvA t2 σ H [.int (i : Int), .int (p : Int)]) (hi : i < c) (hp : p < 64) :
    EvM (tMeth C "flip" (spMFlip C) [] E0 ta t2) σ H (fun _ H' => St C H' M R n va oa c b ns (fset rs i (flip (rs i) [p])) vs os) := by
  obtain ⟨dx, ho⟩ := s.m.ob
  exact em_meth h ho (mf_m (by decide +kernel)) h2 fun H1 e Q q => ⟨M, R, c, b, i, p, _, rfl, s.m.ex e, hi, hp, fun H2 k hR => q _ _ ((s.ex e).kR k ⟨(s.m.ex e).ob.imp fun dx h => k _ _ s.m.ne h, by rw [hR, rng_set, rng_getD hi], rng_len _ _⟩)⟩
theorem em_wr {i v : Nat} {t2 : TA} (s : St C H M R n va oa c b ns rs vs os) (h : Ev ta σ H (.ref M)) (h2 : EvA t2 σ H [.int (i : Int), .int (v : Int)]) (hi : i < c) (h4 : 4 ≤ b) (h32 : b ≤ 32) (hv : v < 2 ^ b) :
    EvM (tMeth C "write" (spMWrite C) [] E0 ta t2) σ H (fun _ H' => St C H' M R n va oa c b ns (fset rs i (cod b v)) vs os) := by
  obtain ⟨dx, ho⟩ := s.m.ob
  exact em_meth h ho (mf_m (by decide +kernel)) h2 fun H1 e Q q => ⟨M, R, c, b, i, v, _, rfl, s.m.ex e, hi, h4, h32, hv, fun H2 k hR => q _ _ ((s.ex e).kR k ⟨(s.m.ex e).ob.imp fun dx h => k _ _ s.m.ne h, by rw [hR, rng_set], rng_len _ _⟩)⟩
theorem em_lsc {i : Nat} {t2 : TA} (s : St C H M R n va oa c b ns rs vs os) (h2 : EvA t2 σ H [.ref M, .int (i : Int)]) (hi : i < c) (h5 : c ≤ 512) (h4 : 4 ≤ b) (h32 : b ≤ 32) (ok : RowsOk b (rng rs c)) :
    EvM (tCall (spLscrub C) [] E0 t2) σ H (fun v H' => (∀ wd, menO b (rs i) = some wd → v = .bl (!decide (wd = rs i)) ∧ St C H' M R n va oa c b ns (fset rs i wd) vs os) ∧ (menO b (rs i) = none → v = .non ∧ St C H' M R n va oa c b ns rs vs os)) :=
  em_call h2 fun H1 e Q q => ⟨M, R, c, b, i, _, rfl, s.m.ex e, hi, h5, h4, h32, ok, fun H2 k hR => q _ _ ⟨fun wd hw => by
    have e1 : scrV b (rng rs c) i = .bl (!decide (wd = rs i)) := by unfold scrV; rw [rng_getD hi, hw]
    have e2 : scrR b (rng rs c) i = rng (fset rs i wd) c := by unfold scrR; rw [rng_getD hi, hw]; exact rng_set _ _ _ _
    exact ⟨e1, (s.ex e).kR k ⟨(s.m.ex e).ob.imp fun dx h => k _ _ s.m.ne h, by rw [hR, e2], rng_len _ _⟩⟩, fun hw => by
    have e1 : scrV b (rng rs c) i = .non := by unfold scrV; rw [rng_getD hi, hw]
    have e2 : scrR b (rng rs c) i = rng rs c := by unfold scrR; rw [rng_getD hi, hw]
    exact ⟨e1, (s.ex e).kR k ⟨(s.m.ex e).ob.imp fun dx h => k _ _ s.m.ne h, by rw [hR, e2], rng_len _ _⟩⟩⟩⟩
theorem scrubbed_rng (b c : Nat) (rs : Nat → Nat) : scrubbed b (rng rs c) c = rng (fun i => (menO b (rs i)).getD (rs i)) c := by
  unfold scrubbed
  rw [rng_len]
  refine List.map_congr_left fun i hi => ?_
  have hi := List.mem_range.mp hi
  rw [if_pos hi, rng_getD hi]
theorem cells_rng (b c : Nat) (rs : Nat → Nat) (t : Str) : cellsOf b (rng rs c) c t = (List.range c).filter fun i => decide (stO b (rs i) = t) := by
  unfold cellsOf
  refine List.filter_congr fun i hi => ?_
  rw [rng_getD (List.mem_range.mp hi)]
theorem em_sal (s : St C H M R n va oa c b ns rs vs os) (h : Ev ta σ H (.ref M)) (h5 : c ≤ 512) (h4 : 4 ≤ b) (h32 : b ≤ 32) (ok : RowsOk b (rng rs c)) :
    EvM (tMeth C "scrub_all" (spMAll C) [] E0 ta tNil) σ H (fun v H' => ∃ t p q, v = .ref t ∧ St C H' M R n va oa c b ns (fun i => (menO b (rs i)).getD (rs i)) vs os ∧ H' t = some (.tup [.ref p, .ref q]) ∧
      H' p = some (.lst ((iL ((List.range c).filter fun i => decide (stO b (rs i) = "one"))).map V.int)) ∧ H' q = some (.lst ((iL ((List.range c).filter fun i => decide (stO b (rs i) = "more"))).map V.int))) := by
  obtain ⟨dx, ho⟩ := s.m.ob
  exact em_meth h ho (mf_m (by decide +kernel)) ea_nil fun H1 e Q q => ⟨M, R, c, b, _, rfl, s.m.ex e, h5, h4, h32, ok, fun t p q' H2 k hR nt np nq ht hp hq _ => q _ _ ⟨t, p, q', rfl, (s.ex e).kR k ⟨(s.m.ex e).ob.imp fun dx h => k _ _ s.m.ne h, by rw [hR, scrubbed_rng], rng_len _ _⟩, ht, by rw [hp, cells_rng], by rw [hq, cells_rng]⟩⟩
theorem q_tail {t u : TS} {Pm : L2.St → Hp → Prop} (tail : ∀ σ' H', Pm σ' H' → u D σ' H') (h : ∀ N : L2.St → Hp → Prop, (∀ σ' H', Pm σ' H' → N σ' H') → t { D with nx := N } σ H) : tSeq t u D σ H := h _ tail
theorem q_whenM {t : TT} {tu : TS} {Pm : Hp → Prop} (h : ∀ Q : Bool → Hp → Prop, (∀ H', Pm H' → Q false H') → t σ H Q) (k : ∀ H', Pm H' → tz D σ H') : tSeq (tIfS t tu tNext) tz D σ H := h _ fun H' p => by
  rw [if_neg Bool.false_ne_true]
  exact k H' p
theorem evG_tupL2 {xs ys : List V} (ha : EvL ta σ H xs) (hb : EvL tb σ H ys) : EvG (tTup (tCons ta (tCons tb tNil))) σ H (fun v H' => ∃ p p0 p1, v = .ref p ∧ H' p = some (.tup [.ref p0, .ref p1]) ∧ H' p0 = some (.lst xs) ∧ H' p1 = some (.lst ys)) := fun H1 e Q q =>
  ha H1 e _ fun p0 H2 n0 e2 h0 => hb H2 (e.trans e2) _ fun p1 H3 n1 e3 h1 => ⟨sz_of (by show 2 ≤ 100000; decide), fun p np => by
    have x3 := (e2.trans e3).trans (Ex.new (o := .tup [.ref p0, .ref p1]) np)
    exact q _ _ x3 ⟨p, p0, p1, rfl, upd_same, (Ex.new np) _ _ (e3 _ _ h0), (Ex.new np) _ _ h1⟩⟩
/-- two pairs of lists of ints that are the same -/
theorem rv_tupLL {t p q t' p' q' : Addr} {xs ys : List Int} (h1 : H t = some (.tup [.ref p, .ref q])) (h2 : H p = some (.lst (xs.map V.int))) (h3 : H q = some (.lst (ys.map V.int))) (g1 : H t' = some (.tup [.ref p', .ref q'])) (g2 : H p' = some (.lst (xs.map V.int))) (g3 : H q' = some (.lst (ys.map V.int))) :
    RV (rNeD K) (.ref t) (.ref t') H (.bl false) :=
  rv_neS (d := .tuple [.list (xs.map PyData.int), .list (ys.map PyData.int)]) (.tup (st_of h1) (.cons (dp_ints (sq_of h2)) (.cons (dp_ints (sq_of h3)) .nil))) (.tup (st_of g1) (.cons (dp_ints (sq_of g2)) (.cons (dp_ints (sq_of g3)) .nil))) (Lay.tuple (n := 3) (.cons (lay_ints xs) (.cons (lay_ints ys) .nil))).sh
theorem ev_lsEq {t1 t2 : TE} {l : List Int} {p : Addr} (h1 : EvL t1 σ H (l.map V.int)) (h2 : Ev t2 σ H (.ref p)) (hp : SqL K H p (l.map V.int)) : Ev (tOp (rEqD K) t1 t2) σ H (.bl true) := fun H1 e Q q =>
  h1 H1 e _ fun p1 H2 n1 e2 hp1 => h2 H2 (e.trans e2) _ fun H3 e3 =>
    (rv_eqS (dp_ints (sq_of (e3 _ _ hp1))) (dp_ints (ex_l ((e.trans e2).trans e3) hp)) (lay_ints l (n := 3)).sh) H3 (Ex.refl _) Q fun H4 e4 => q H4 ((e2.trans e3).trans e4)
end
end My
namespace My
open PySem PySem.Spec PyProof.Rows L2 Evl
theorem fset_same {α : Type} {f : Nat → α} {i : Nat} {x : α} : fset f i x i = x := if_pos rfl
theorem fset_ne {α : Type} {f : Nat → α} {i j : Nat} {x : α} (h : j ≠ i) : fset f i x j = f j := if_neg h
structure Ok18 (b : Nat) (rs vs : Nat → Nat) (os : Nat → Option Nat) : Prop where
  r : ∀ j, rs j = rowF b (vs j) (os j)
  v : ∀ j, vs j < 2 ^ b
  o : ∀ j p, os j = some p → p < pl b
section
variable {b c i : Nat} {rs vs rs' : Nat → Nat} {os : Nat → Option Nat}
theorem Ok18.rows (o : Ok18 b rs vs os) (h4 : 4 ≤ b) (h32 : b ≤ 32) : RowsOk b (rng rs c) := fun r hr => by
  obtain ⟨j, _, rfl⟩ := List.mem_map.mp hr
  rw [o.r j]
  exact rowF_lt h4 h32 (o.o j)
theorem Ok18.men (o : Ok18 b rs vs os) (h4 : 4 ≤ b) (h32 : b ≤ 32) (j : Nat) : menO b (rs j) = some (cod b (vs j)) := by
  rw [o.r j]
  exact men_rowF h4 h32 (o.o j)
theorem Ok18.read (o : Ok18 b rs vs os) (h4 : 4 ≤ b) (h32 : b ≤ 32) (j : Nat) : readV b (rs j) = .int ((vs j : Nat) : Int) := by
  unfold readV
  rw [o.men h4 h32 j]
  show V.int ((valN b (cod b (vs j)) : Nat) : Int) = _
  rw [val_cod h4 h32 (o.v j)]
theorem Ok18.set {x : Nat} {y : Option Nat} (o : Ok18 b rs vs os) (hn : ∀ j, j ≠ i → rs' j = rs j) (hi : rs' i = rowF b x y) (hx : x < 2 ^ b) (hy : ∀ p, y = some p → p < pl b) : Ok18 b rs' (fset vs i x) (fset os i y) := by
  refine ⟨fun j => ?_, fun j => ?_, fun j p => ?_⟩
  · by_cases h : j = i
    · subst h; rw [fset_same, fset_same]; exact hi
    · rw [fset_ne h, fset_ne h, hn j h]; exact o.r j
  · by_cases h : j = i
    · subst h; rw [fset_same]; exact hx
    · rw [fset_ne h]; exact o.v j
  · by_cases h : j = i
    · subst h; rw [fset_same]; exact hy p
    · rw [fset_ne h]; exact o.o j p
theorem fset_self {α : Type} (f : Nat → α) (i : Nat) : fset f i (f i) = f := funext fun j => by
  by_cases h : j = i
  · subst h; exact fset_same
  · exact fset_ne h
theorem Ok18.setO {y : Option Nat} (o : Ok18 b rs vs os) (hn : ∀ j, j ≠ i → rs' j = rs j) (hi : rs' i = rowF b (vs i) y) (hy : ∀ p, y = some p → p < pl b) : Ok18 b rs' vs (fset os i y) := by
  have := o.set (i := i) hn hi (o.v i) hy
  rw [fset_self] at this
  exact this
theorem Ok18.all (o : Ok18 b rs vs os) (h4 : 4 ≤ b) (h32 : b ≤ 32) : Ok18 b (fun i => (menO b (rs i)).getD (rs i)) vs (fun _ => none) :=
  ⟨fun j => by rw [o.men h4 h32 j]; rfl, o.v, fun _ _ z => by cases z⟩
theorem range_one : ∀ {c : Nat}, i < c → (List.range c).filter (fun j => decide (j = i)) = [i] := by
  intro c h
  have nodup := List.nodup_range (n := c)
  have key : ∀ l : List Nat, l.Nodup → i ∈ l → l.filter (fun j => decide (j = i)) = [i] := by
    intro l
    induction l with
    | nil => intro _ z; cases z
    | cons a r ih =>
      intro nd hm
      obtain ⟨na, nr⟩ := List.nodup_cons.mp nd
      by_cases e : a = i
      · subst e
        rw [List.filter_cons, if_pos (decide_eq_true rfl)]
        congr 1
        exact List.filter_eq_nil_iff.mpr fun z hz q => na (by rw [← of_decide_eq_true q]; exact hz)
      · rw [List.filter_cons, if_neg (by rw [decide_eq_false e]; decide)]
        exact ih nr ((List.mem_cons.mp hm).resolve_left fun z => e z.symm)
  exact key _ nodup (List.mem_range.mpr h)
theorem other_place {f y m : Nat} (hf : f < m) (hy : y < m - 1) : (f + 1 + y) % m < m ∧ (f + 1 + y) % m ≠ f := by
  refine ⟨Nat.mod_lt _ (by omega), ?_⟩
  by_cases h : f + 1 + y < m
  · rw [Nat.mod_eq_of_lt h]; omega
  · rw [Nat.mod_eq_sub_mod (by omega), Nat.mod_eq_of_lt (by omega)]; omega
theorem St.newO {C M R n va oa oa' : Addr} {H H' : Hp} {ns : List Int} {os' : Nat → Option Nat} (s : St C H M R n va oa c b ns rs vs os) (e : Ex H H') (no : H oa' = none) (h : H' oa' = some (.lst ((rng os' c).map offV))) : St C H' M R n va oa' c b ns rs vs os' := by
  obtain ⟨d1, d2, d3, d4, d5, d6⟩ := s.d
  refine ⟨s.m.ex e, e _ _ s.v, h, e _ _ s.n_, d1, fun z => ?_, fun z => ?_, d4, d5, fun z => ?_⟩
  · rw [z, s.m.rw_] at no; cases no
  · rw [← z, s.v] at no; cases no
  · rw [← z, s.n_] at no; cases no
end
end My
set_option Elab.async false
set_option linter.all false
set_option maxRecDepth 100000
set_option maxHeartbeats 400000
/-! ### a dict of rows -/
namespace My
open PySem PySem.Spec PyProof.Rows L2 Evl
section
variable {K : PySem.W.Frag} {σ : L2.St} {H : Hp} {ta tb tc td te : TE} {tz : TS} {D : Ends} {C M R : Addr} {c b : Nat} {f : Nat → Nat}
theorem evG_dnew : EvG tDNewK σ H (fun v H' => ∃ p, v = .ref p ∧ H p = none ∧ H' p = some (.dK [])) := fun H1 e Q q p np => q _ _ (Ex.new np) ⟨p, rfl, fresh_back e np, upd_same⟩
theorem ev_dget2 {a : Addr} {kvs : List (Key × V)} {k : Key} {z : V} (h : Ev ta σ H (.ref a)) (ha : H a = some (.dK kvs)) (h2 : Ev tb σ H (kV k)) (h3 : Ev tc σ H z) : Ev (tDGet2 ta tb tc) σ H ((valV kvs k).getD z) := fun H1 e Q q =>
  h H1 e _ fun H2 e2 => ⟨a, rfl, Or.inl ⟨kvs, Or.inl ((e.trans e2) _ _ ha)⟩, h2 H2 (e.trans e2) _ fun H3 e3 => h3 H3 ((e.trans e2).trans e3) _ fun H4 e4 => ⟨_, DGet.k ((((e.trans e2).trans e3).trans e4) _ _ ha), q H4 ((e2.trans e3).trans e4)⟩⟩
theorem q_dput {a : Addr} {kvs : List (Key × V)} {k : Key} {v : V} (ha : H a = some (.dK kvs)) (hl : kvs.length < sizeLine) (h : Ev tc σ H v) (h1 : Ev ta σ H (.ref a)) (h2 : Ev tb σ H (kV k)) (q : ∀ H1, Ex H H1 → tz D σ (upd H1 a (.dK (putK kvs k v)))) : tSeq (sDPut ta tb tc) tz D σ H :=
  h H (Ex.refl H) _ fun H1 e1 => h1 H1 e1 _ fun H2 e2 => h2 H2 (e1.trans e2) _ fun H3 e3 => ⟨a, _, rfl, DPut.k (((e1.trans e2).trans e3) _ _ ha) hl, q H3 ((e1.trans e2).trans e3)⟩
theorem em_fl2 {i p : Nat} {t2 : TA} (m : MemAt C H M R c b (rng f c)) (h : Ev ta σ H (.ref M)) (h2 : EvA t2 σ H [.int (i : Int), .int (p : Int)]) (hi : i < c) (hp : p < 64) :
    EvM (tMeth C "flip" (spMFlip C) [] E0 ta t2) σ H (fun v H' => v = .non ∧ Kp1 R H H' ∧ MemAt C H' M R c b (rng (fset f i (flip (f i) [p])) c)) := by
  obtain ⟨dx, ho⟩ := m.ob
  exact em_meth h ho (mf_m (by decide +kernel)) h2 fun H1 e Q q => ⟨M, R, c, b, i, p, _, rfl, m.ex e, hi, hp, fun H2 k hR => q _ _ ⟨rfl, Ex.kp1 e k, ⟨(m.ex e).ob.imp fun dx h => k _ _ m.ne h, by rw [hR, rng_set, rng_getD hi], rng_len _ _⟩⟩⟩
theorem em_wr2 {i v : Nat} {t2 : TA} (m : MemAt C H M R c b (rng f c)) (h : Ev ta σ H (.ref M)) (h2 : EvA t2 σ H [.int (i : Int), .int (v : Int)]) (hi : i < c) (h4 : 4 ≤ b) (h32 : b ≤ 32) (hv : v < 2 ^ b) :
    EvM (tMeth C "write" (spMWrite C) [] E0 ta t2) σ H (fun w H' => w = .non ∧ Kp1 R H H' ∧ MemAt C H' M R c b (rng (fset f i (cod b v)) c)) := by
  obtain ⟨dx, ho⟩ := m.ob
  exact em_meth h ho (mf_m (by decide +kernel)) h2 fun H1 e Q q => ⟨M, R, c, b, i, v, _, rfl, m.ex e, hi, h4, h32, hv, fun H2 k hR => q _ _ ⟨rfl, Ex.kp1 e k, ⟨(m.ex e).ob.imp fun dx h => k _ _ m.ne h, by rw [hR, rng_set], rng_len _ _⟩⟩⟩
theorem ev_rowat {i : Nat} {t2 : TA} (m : MemAt C H M R c b (rng f c)) (h : Ev ta σ H (.ref M)) (h2 : EvA t2 σ H [.int (i : Int)]) (hi : i < c) : Ev (tMeth C "row_at" (spMRow C) [] E0 ta t2) σ H (.int ((f i : Nat) : Int)) := by
  obtain ⟨dx, ho⟩ := m.ob
  refine ev_meth h ho (mf_m (by decide +kernel)) h2 fun H1 e Q q E => ⟨M, R, c, b, i, _, rfl, m.ex e, hi, fun H' e' => ?_⟩
  rw [rng_getD hi]
  exact q H' e'
theorem eu_stat {i : Nat} {t2 : TA} (m : MemAt C H M R c b (rng f c)) (h : Ev ta σ H (.ref M)) (h2 : EvA t2 σ H [.int (i : Int)]) (hi : i < c) (h4 : 4 ≤ b) (h32 : b ≤ 32) (ok : RowsOk b (rng f c)) : EvU (tMeth C "state_at" (spMState C) [] E0 ta t2) σ H (stV b (f i)) := by
  obtain ⟨dx, ho⟩ := m.ob
  refine eu_meth h ho (mf_m (by decide +kernel)) h2 fun H1 e Q q E => ⟨M, R, c, b, i, _, rfl, m.ex e, hi, h4, h32, ok, fun p H' n e' h' => ?_⟩
  rw [rng_getD hi] at h'
  exact q p H' n e' h'
theorem et_stV {t1 t2 : TE} {r : Nat} (h1 : EvU t1 σ H (stV b r)) (h2 : EvU t2 σ H (stV b r)) : EvT (tTest (tOp (rNeD K) t1 t2)) σ H false := by
  obtain ⟨ds, hds, hda⟩ := st_dp (K := K) b r
  refine et_test (ev_opUU h1 h2 fun p p' H1 hp hp' _ => rv_neS (d := .tuple ds) (.tup (st_of hp) (hda _)) (.tup (st_of hp') (hda _)) ?_)
  rw [← hds]
  unfold stD
  have s1 : PyData.strOk "one" = true := by decide +kernel
  have s2 : PyData.strOk "more" = true := by decide +kernel
  have s3 : PyData.strOk "clean" = true := by decide +kernel
  split <;> split
  · exact (Lay.tuple (n := 3) (.cons (.str s1) (.cons (.int _) .nil))).sh
  · exact (Lay.tuple (n := 3) (.cons (.str s2) (.cons .none .nil))).sh
  · exact (Lay.tuple (n := 3) (.cons (.str s3) (.cons .none .nil))).sh
  · exact (Lay.tuple (n := 3) (.cons (.str s2) (.cons .none .nil))).sh
theorem MemAt.kd {H' : Hp} {d : Addr} {kvs : List (Key × V)} {rows : List Nat} (m : MemAt C H M R c b rows) (hd : H d = some (.dK kvs)) (k : Kp1 d H H') (ne : R ≠ d) : MemAt C H' M R c b rows :=
  ⟨m.ob.imp fun dx h => k _ _ (fun z => by rw [z, hd] at h; cases h) h, k _ _ ne m.rw_, m.len⟩
theorem s_forNLn {xs : List V} {tl : TE} {tu : TS} {j : Nat} (h : EvL tl σ H xs) (Pv : Addr → Nat → L2.St → Hp → Prop) (h0 : ∀ p H1, H p = none → Ex H H1 → H1 p = some (.lst xs) → Pv p 0 σ H1) (hl : ∀ p i σ' H', i ≤ xs.length → Pv p i σ' H' → SqL K H' p xs)
    (hs : ∀ p i x σ' H', xs[i]? = some x → Pv p i σ' H' → tu { D with nx := Pv p (i + 1), ct := Pv p (i + 1), bk := D.nx } (σ'.set j (some x)) H') (hd : ∀ p σ' H', Pv p xs.length σ' H' → D.nx σ' H') : tFor (iList K tl) (gName j) tu D σ H :=
  s_forNL h Pv h0 hl hs hd
theorem s_whenM {t : TT} {tu : TS} {Pm : Hp → Prop} (h : ∀ Q : Bool → Hp → Prop, (∀ H', Pm H' → Q false H') → t σ H Q) (k : ∀ H', Pm H' → D.nx σ H') : tIfS t tu tNext D σ H := h _ fun H' p => by
  rw [if_neg Bool.false_ne_true]
  exact k H' p
theorem readV_s (b r : Nat) : scal (readV b r) (readV b r) = true := by unfold readV; split <;> rfl
/-- the dict tells the row of each cell -/
def Tells (kvs : List (Key × V)) (f : Nat → Nat) : Prop := ∀ j : Nat, (valV kvs (.inl (j : Int))).getD (.int 0) = .int ((f j : Nat) : Int)
theorem Tells.put {kvs : List (Key × V)} {i r : Nat} (h : Tells kvs f) : Tells (putK kvs (.inl (i : Int)) (.int (r : Int))) (fset f i r) := fun j => by
  rw [valV_put]
  by_cases e : j = i
  · subst e
    rw [if_pos rfl, fset_same]
    rfl
  · rw [if_neg (fun z => e (by injection z with z; exact Int.ofNat.inj z)), fset_ne e]
    exact h j
end
end My
set_option Elab.async false
set_option linter.all false
set_option maxRecDepth 100000
set_option maxHeartbeats 400000
/-! ### all cells scrubbed: what is told -/
namespace My
open PySem PySem.Spec PyProof.Rows L2 Evl
def mnd (b r : Nat) : Nat := (menO b r).getD r
/-- what a scrubbing of a row tells -/
def scrX (b r : Nat) : V := match menO b r with
  | some w => .bl (!decide (w = r))
  | none => .non
theorem st_mnd (b r : Nat) : stO b (mnd b r) = if stO b r = "more" then "more" else "clean" := by
  unfold mnd
  rcases st_men b r with ⟨h1, h2, _, _⟩ | ⟨h1, h2, h3, h4, h5⟩ | ⟨h1, h2⟩
  · rw [h2, h1, if_neg (show ¬ ("clean" : Str) = "more" from st_ne4)]
    exact h1
  · rw [h2, h1, if_neg (show ¬ ("one" : Str) = "more" from st_ne3)]
    have l1 : ∀ q ∈ [spotN (pl b) r], q < pl b := fun q hq => by rw [List.mem_singleton.mp hq]; exact h4
    have e1 : parB (pl b) (flip r [spotN (pl b) r]) = false := by rw [par_flip l1, h5]; rfl
    have e2 : spotN (pl b) (flip r [spotN (pl b) r]) = 0 := by rw [spot_flip l1, sx_one, Nat.xor_self]
    show stO b (flip r [spotN (pl b) r]) = _
    unfold stO
    rw [e1, if_neg Bool.false_ne_true, e2, if_pos rfl]
  · rw [h2, h1, if_pos rfl]
    exact h1
theorem mnd_lt {b r : Nat} (h : r < 2 ^ pl b) : mnd b r < 2 ^ pl b := by
  unfold mnd
  cases e : menO b r with
  | none => exact h
  | some w => exact menO_lt h e
theorem mnd_not {b r : Nat} (h : ¬ stO b r = "one") : mnd b r = r := by
  unfold mnd
  rcases st_men b r with ⟨_, h2, _, _⟩ | ⟨h1, _⟩ | ⟨_, h2⟩
  · rw [h2]; rfl
  · exact absurd h1 h
  · rw [h2]; rfl
theorem mnd_one {b r : Nat} (h : stO b r = "one") : menO b r = some (mnd b r) := by
  unfold mnd
  rcases st_men b r with ⟨h1, _⟩ | ⟨_, h2, _⟩ | ⟨h1, _⟩
  · rw [h1] at h; exact absurd h st_ne1
  · rw [h2]; rfl
  · rw [h1] at h; exact absurd h st_ne2
section
variable {K : PySem.W.Frag} {σ : L2.St} {H : Hp} {ta tb tc td te : TE} {tt : TT} {tz : TS} {D : Ends} {C M R : Addr} {c b : Nat} {f : Nat → Nat}
def dvals : List (Key × V) := [(.inr "clean", .bl false), (.inr "one", .bl true), (.inr "more", .non)]
theorem valV_hd {s : Str} {v : V} {r : List (Key × V)} {k : Key} (e : k = .inr s) : valV ((.inr s, v) :: r) k = some v := valV_pos e.symm
theorem dval_clean : valV (mergeK [] dvals) (.inr "clean") = some (.bl false) := by decide +kernel
theorem dval_one : valV (mergeK [] dvals) (.inr "one") = some (.bl true) := by decide +kernel
theorem dval_more : valV (mergeK [] dvals) (.inr "more") = some .non := by decide +kernel
theorem dval (b r : Nat) : valV (mergeK [] dvals) (.inr (stO b r)) = some (scrX b r) := by
  unfold scrX
  rcases st_men b r with ⟨h1, h2, _⟩ | ⟨h1, h2, h3, _⟩ | ⟨h1, h2⟩
  · rw [h1, h2, dval_clean]
    show _ = some (V.bl (!decide (r = r)))
    rw [decide_eq_true rfl]
    rfl
  · rw [h1, h2, dval_one]
    show _ = some (V.bl (!decide (_ = r)))
    rw [decide_eq_false h3]
    rfl
  · rw [h1, h2, dval_more]
theorem ev_disp3 {s : Str} {v : V} (h : Ev te σ H (.str s)) (hv : valV (mergeK [] dvals) (.inr s) = some v) : Ev (tDGet (tDisp [(tC (.str "clean"), tC (.bl false)), (tC (.str "one"), tC (.bl true)), (tC (.str "more"), tC .non)]) te) σ H v := fun H1 e Q q p np => by
  have ex : Ex H1 (upd (upd H1 p (.dK [])) p (.dK (mergeK [] dvals))) := fun o u h => by
    have ne : o ≠ p := fun z => by rw [z, np] at h; cases h
    rw [upd_ne ne, upd_ne ne]
    exact h
  exact ⟨upd_same, dvals, rfl, by decide, h _ (e.trans ex) _ fun H3 e3 => ⟨p, v, rfl, by rw [← hv]; exact DGet.k (k := .inr s) (e3 _ _ upd_same), q H3 (ex.trans e3)⟩⟩
theorem s_par2 {i j : Nat} {x : V} {ys : List V} (h1 : Ev ta σ H x) (h2 : EvL tb σ H ys) (k : ∀ p H1, H p = none → Ex H H1 → H1 p = some (.lst ys) → D.nx ((σ.set i (some x)).set j (some (.ref p))) H1) : tPar i j (tCons ta (tCons tb tNil)) D σ H :=
  h1 H (Ex.refl H) _ fun H1 e1 => h2 H1 e1 _ fun p H2 np e2 hp => ⟨_, _, rfl, k p H2 (fresh_back e1 np) (e1.trans e2) hp⟩
theorem el_lcT2 {a : Addr} {xs : List V} {tl : TE} {j : Nat} {vs : List Nat} (f : Nat → Bool) (g : Nat → V) (h : Ev tl σ H (.ref a)) (hx : SqT K H a xs) (hz : xs.length ≤ 40000) (hw : ∀ y, wipe ((wipe σ vs).set j (some y)) vs = wipe σ vs)
    (ht : ∀ (i : Nat) (x : V) H1, Ex H H1 → xs[i]? = some x → EvT tt ((wipe σ vs).set j (some x)) H1 (f i)) (he : ∀ (i : Nat) (x : V) H1, Ex H H1 → xs[i]? = some x → f i = true → Ev te ((wipe σ vs).set j (some x)) H1 (g i)) :
    EvL (tLc (iTup K tl) (gName j) tt te vs) σ H (given xs.length f g) := fun H0 e Q q => h H0 e _ fun H1 e1 => ⟨a, rfl, ⟨xs, ex_t (e.trans e1) hx⟩, fun Dl hD =>
  lc_tup (xs := xs) (Cw H1 f g Dl) ⟨hD, Ex.new hD, upd_same⟩ (fun i H' _ p => ex_t ((e.trans e1).trans p.2.1) hx) (fun i x H' hi p => ⟨hw x, cw_turn p (by have := (List.getElem?_eq_some_iff.mp hi).1; omega) (ht i x H1 (e.trans e1) hi) (fun hf => he i x H1 (e.trans e1) hi hf)⟩) (fun H' p => q Dl H' (fresh_back e1 p.1) (e1.trans p.2.1) p.2.2)⟩
theorem em_lsc2 {i : Nat} {t2 : TA} (m : MemAt C H M R c b (rng f c)) (h2 : EvA t2 σ H [.ref M, .int (i : Int)]) (hi : i < c) (h5 : c ≤ 512) (h4 : 4 ≤ b) (h32 : b ≤ 32) (ok : RowsOk b (rng f c)) :
    EvM (tCall (spLscrub C) [] E0 t2) σ H (fun v H' => v = scrX b (f i) ∧ Kp1 R H H' ∧ MemAt C H' M R c b (rng (fset f i (mnd b (f i))) c)) :=
  em_call h2 fun H1 e Q q => ⟨M, R, c, b, i, _, rfl, m.ex e, hi, h5, h4, h32, ok, fun H2 k hR => q _ _ ⟨by unfold scrV scrX; rw [rng_getD hi]; first | done | (cases menO b (f i) <;> rfl), Ex.kp1 e k, ⟨(m.ex e).ob.imp fun dx h => k _ _ m.ne h, by
    rw [hR]
    have er : scrR b (rng f c) i = rng (fset f i (mnd b (f i))) c := by
      unfold scrR mnd
      rw [rng_getD hi]
      cases menO b (f i) with
      | none =>
        show rng f c = rng (fset f i (f i)) c
        rw [fset_self]
      | some w => exact rng_set _ _ _ _
    rw [er], rng_len _ _⟩⟩⟩
theorem em_sal2 (m : MemAt C H M R c b (rng f c)) (h : Ev ta σ H (.ref M)) (h5 : c ≤ 512) (h4 : 4 ≤ b) (h32 : b ≤ 32) (ok : RowsOk b (rng f c)) :
    EvM (tMeth C "scrub_all" (spMAll C) [] E0 ta tNil) σ H (fun v H' => ∃ t p q, v = .ref t ∧ Kp1 R H H' ∧ MemAt C H' M R c b (rng (fun i => mnd b (f i)) c) ∧ H t = none ∧ H p = none ∧ H q = none ∧ p ≠ q ∧ H' t = some (.tup [.ref p, .ref q]) ∧
      H' p = some (.lst ((iL ((List.range c).filter fun i => decide (stO b (f i) = "one"))).map V.int)) ∧ H' q = some (.lst ((iL ((List.range c).filter fun i => decide (stO b (f i) = "more"))).map V.int))) := by
  obtain ⟨dx, ho⟩ := m.ob
  exact em_meth h ho (mf_m (by decide +kernel)) ea_nil fun H1 e Q q => ⟨M, R, c, b, _, rfl, m.ex e, h5, h4, h32, ok, fun t p q' H2 k hR nt np nq ht hp hq d => q _ _ ⟨t, p, q', rfl, Ex.kp1 e k, ⟨(m.ex e).ob.imp fun dx h => k _ _ m.ne h, by rw [hR, scrubbed_rng]; rfl, rng_len _ _⟩, fresh_back e nt, fresh_back e np, fresh_back e nq, d, ht, by rw [hp, cells_rng], by rw [hq, cells_rng]⟩⟩
theorem evG_tupLA {xs : List V} {r : Addr} (ha : EvL ta σ H xs) (hb : Ev tb σ H (.ref r)) : EvG (tTup (tCons ta (tCons tb tNil))) σ H (fun v H' => ∃ p p0, v = .ref p ∧ H' p = some (.tup [.ref p0, .ref r]) ∧ H' p0 = some (.lst xs)) := fun H1 e Q q =>
  ha H1 e _ fun p0 H2 n0 e2 h0 => hb H2 (e.trans e2) _ fun H3 e3 => ⟨sz_of (by show 2 ≤ 100000; decide), fun p np => by
    have x3 := (e2.trans e3).trans (Ex.new (o := .tup [.ref p0, .ref r]) np)
    exact q _ _ x3 ⟨p, p0, rfl, upd_same, (Ex.new np) _ _ (e3 _ _ h0)⟩⟩
theorem rv_tupLLe {t p q t' p' q' : Addr} {xs ys : List Int} (h1 : H t = some (.tup [.ref p, .ref q])) (h2 : H p = some (.lst (xs.map V.int))) (h3 : H q = some (.lst (ys.map V.int))) (g1 : H t' = some (.tup [.ref p', .ref q'])) (g2 : H p' = some (.lst (xs.map V.int))) (g3 : H q' = some (.lst (ys.map V.int))) :
    RV (rEqD K) (.ref t) (.ref t') H (.bl true) :=
  rv_eqS (d := .tuple [.list (xs.map PyData.int), .list (ys.map PyData.int)]) (.tup (st_of h1) (.cons (dp_ints (sq_of h2)) (.cons (dp_ints (sq_of h3)) .nil))) (.tup (st_of g1) (.cons (dp_ints (sq_of g2)) (.cons (dp_ints (sq_of g3)) .nil))) (Lay.tuple (n := 3) (.cons (lay_ints xs) (.cons (lay_ints ys) .nil))).sh
theorem el_rg {n : Nat} (h : Ev ta σ H (.int (n : Int))) (hn : n ≤ 100000) : EvL (tLstRg (tRg1 ta)) σ H ((iL (List.range n)).map V.int) := fun H1 e Q q =>
  h H1 e _ fun H2 e2 => ⟨_, rfl, RgOk.of_le (by omega) (by omega) (by omega) (by omega), fun p np => by
    refine q p _ (fresh_back e2 np) (e2.trans (Ex.new np)) ?_
    rw [upd_same]
    congr 2
    unfold rgV iL
    rw [List.map_map]
    have : ((n : Int) - 0).toNat = n := by omega
    rw [this]
    refine List.map_congr_left fun i _ => ?_
    show V.int ((0 : Int) + (i : Nat)) = V.int _
    rw [Int.zero_add]⟩
theorem str_dec {s t : Str} : decide (V.str s = V.str t) = decide (s = t) := decide_eq_decide.mpr ⟨fun h => by injection h, fun h => by rw [h]⟩
theorem MemAt.kl {H' : Hp} {d : Addr} {xs : List V} {rows : List Nat} (m : MemAt C H M R c b rows) (hd : H d = some (.lst xs)) (k : Kp1 d H H') (ne : R ≠ d) : MemAt C H' M R c b rows :=
  ⟨m.ob.imp fun dx h => k _ _ (fun z => by rw [z, hd] at h; cases h) h, k _ _ ne m.rw_, m.len⟩
end
end My
namespace My
open PySem PySem.Spec PyProof.Rows L2 Evl
section
variable {K : PySem.W.Frag} {σ : L2.St} {H : Hp} {ta tb : TE}
theorem evG_tupL3 {xs ys : List V} (ha : EvL ta σ H xs) (hb : EvL tb σ H ys) : EvG (tTup (tCons ta (tCons tb tNil))) σ H (fun v H' => ∃ p p0 p1, v = .ref p ∧ H p = none ∧ H p0 = none ∧ H p1 = none ∧ H' p = some (.tup [.ref p0, .ref p1]) ∧ H' p0 = some (.lst xs) ∧ H' p1 = some (.lst ys)) := fun H1 e Q q =>
  ha H1 e _ fun p0 H2 n0 e2 h0 => hb H2 (e.trans e2) _ fun p1 H3 n1 e3 h1 => ⟨sz_of (by show 2 ≤ 100000; decide), fun p np => by
    have x3 := (e2.trans e3).trans (Ex.new (o := .tup [.ref p0, .ref p1]) np)
    exact q _ _ x3 ⟨p, p0, p1, rfl, fresh_back (e.trans (e2.trans e3)) np, fresh_back e n0, fresh_back (e.trans e2) n1, upd_same, (Ex.new np) _ _ (e3 _ _ h0), (Ex.new np) _ _ h1⟩⟩
end
end My
set_option Elab.async false
set_option linter.all false
set_option maxRecDepth 100000
set_option maxHeartbeats 1000000
/-! ### an f-string of three parts: what it writes is short -/
namespace My
open PySem PySem.Spec PyProof.Rows L2 Evl
theorem fmt_of {pn c1 c2 : Str} {k1 k2 : _} {q1 q2 q3 q4 q5 : Pos} {sc : Scope} (hpn : sc.names.lookup pn = some .local) (h1 : (pn == ("__debug__" : Str)) = false) (h2 : (pn == ("__classdict__" : Str)) = false) (l1 : c1.length ≤ 1000) (l2 : c2.length ≤ 1000) :
    FmtE ["self", pn, "__class__"] sc (.JoinedStr [.Constant (.str c1) k1 q1, .FormattedValue (.Name pn q2) (-1) none q3, .Constant (.str c2) k2 q4] q5) := fun X hN hs => by
  refine ⟨_, pe_joined (.cons pe_str (.cons (pe_fmt (pv 1 (by rw [hN]; rfl) (Or.inl (by rw [hs]; exact hpn)) h1 h2)) (.cons pe_str .nil))), fun σ H y Q hσ hy q => ?_⟩
  have fin : ∀ z : Str, z.length ≤ 3000 → (Str.empty ++ c1 ++ z).length ≤ sizeLine ∧ (Str.empty ++ c1 ++ z ++ c2).length ≤ sizeLine := fun z hz => by
    have e0 : (Str.empty : Str).length = 0 := rfl
    have e1 := Str.length_append Str.empty c1
    have e2 := Str.length_append (Str.empty ++ c1) z
    have e3 := Str.length_append (Str.empty ++ c1 ++ z) c2
    rw [sizeLine_eq]
    omega
  have f0 : (Str.empty ++ c1).length ≤ sizeLine := by
    have e1 := Str.length_append Str.empty c1
    have e0 : (Str.empty : Str).length = 0 := rfl
    rw [sizeLine_eq]
    omega
  refine ⟨c1, rfl, f0, y, hσ, ?_⟩
  rcases hy with ⟨z, rfl, hz⟩ | ⟨i, rfl, hi⟩
  · exact Or.inl ⟨z, rfl, by rw [sizeLine_eq]; omega, z, rfl, (fin z (by omega)).1, c2, rfl, (fin z (by omega)).2, q _⟩
  · have hl : (toString i : Str).length ≤ 3000 := by
      have e := int_text_length_le (k := 1920) (by decide) hi
      rw [show (toString i : Str) = Str.ofString (toString i) from rfl, PySem.ofString_length]
      omega
    exact Or.inr ⟨i, rfl, hi, _, rfl, (fin _ hl).1, c2, rfl, (fin _ hl).2, q _⟩
end My
set_option Elab.async false
set_option linter.all false
set_option maxRecDepth 100000
set_option maxHeartbeats 400000

namespace My_farword_k16_scrubbed_cells
open PySem PySem.Spec PyProof.Rows L2 Evl My
/-- the values' evaluation, told by the term: the value is found on the way -/
local macro_rules | `(tactic| walk_at "rv") => `(tactic| first
  | exact rv_I0
  | exact ru_neg
  | exact rv_eq rfl
  | exact rv_ne rfl
  | (refine' rv_I ?hc; case hc => first | (show (0 : Int) < _; omega) | (unfold CDiv; omega) | (unfold CPow; omega) | (unfold CMul; omega) | omega | decide))
local macro_rules | `(tactic| walk_at "ea") => `(tactic| first
  | exact ea_nil
  | (refine' ea_cons ?eah ?eat; (case eah => walk_at "ev"); (case eat => walk_at "ea")))
local macro_rules | `(tactic| walk_at "et") => `(tactic| first
  | (refine' et_test ?h; case h => walk_at "ev")
  | (refine' et_B ?h; case h => walk_at "ev")
  | (refine' et_not ?h; case h => walk_at "et"))
local macro_rules | `(tactic| walk_at "ev") => `(tactic| first
  | exact ev_c
  | exact ev_var rfl
  | (refine' ev_lenL ?h ?hl; (case h => walk_at "ev"); (case hl => walk_at "sq"))
  | (refine' ev_op ?eva ?evb ?evr; (case eva => walk_at "ev"); (case evb => walk_at "ev"); (case evr => walk_at "rv"))
  | (refine' ev_un ?eva ?evr; (case eva => walk_at "ev"); (case evr => walk_at "rv"))
  | (refine' ev_abs ?h; case h => walk_at "ea")
  | (refine' ev_int ?h; case h => walk_at "ea")
  | (refine' ev_intB ?h; case h => walk_at "ea")
  | (refine' ev_max1 ?h; case h => walk_at "ea")
  | (refine' ev_call ?h ?hs; (case h => walk_at "ea"); (case hs => walk_at "sp"))
  | (refine' ev_notV ?h; case h => walk_at "ev"))
local macro_rules | `(tactic| walk_at "sq") => `(tactic| first
  | assumption
  | (refine sq_of ?hq; case hq => assumption))
local macro_rules | `(tactic| walk_at "sp") => `(tactic| first
  | exact SpPlaces (by omega) (by omega)
  | exact SpOnes (by omega)
  | exact SpSpot (by omega) (by omega) (by omega))

/-! ### the text -/
def topS (i : Nat) : Stmt := PySem.Challenge.pw_farword_k16_scrubbed_cells.main.body.getD i (.Pass ⟨0, 0, 0, 0⟩)
abbrev s__wall : Stmt := topS 0
abbrev N__wall : List Str := ["k"]
abbrev p__wall : List Str := ["k"]
theorem sc__wall : FnScope N__wall p__wall (defScope s__wall) := ⟨rfl, rfl, rfl, by decide +kernel, rfl, by decide +kernel, by decide +kernel⟩
abbrev s_Unmendable___init__ : Stmt := inClass (topS 3) 0
abbrev N_Unmendable___init__ : List Str := ["self", "place"]
abbrev p_Unmendable___init__ : List Str := ["self", "place"]
abbrev s_places_of : Stmt := topS 5
abbrev N_places_of : List Str := ["bits", "turns"]
abbrev p_places_of : List Str := ["bits"]
theorem sc_places_of : FnScope N_places_of p_places_of (defScope s_places_of) := ⟨rfl, rfl, rfl, by decide +kernel, rfl, by decide +kernel, by decide +kernel⟩
abbrev s_check_places : Stmt := topS 6
abbrev N_check_places : List Str := ["bits", "place"]
abbrev p_check_places : List Str := ["bits"]
theorem sc_check_places : FnScope N_check_places p_check_places (defScope s_check_places) := ⟨rfl, rfl, rfl, by decide +kernel, rfl, by decide +kernel, by decide +kernel⟩
abbrev s_data_places : Stmt := topS 7
abbrev N_data_places : List Str := ["bits", "place"]
abbrev p_data_places : List Str := ["bits"]
theorem sc_data_places : FnScope N_data_places p_data_places (defScope s_data_places) := ⟨rfl, rfl, rfl, by decide +kernel, rfl, by decide +kernel, by decide +kernel⟩
abbrev s_coded : Stmt := topS 8
abbrev N_coded : List Str := ["bits", "value", "row", "at", "place", "spot"]
abbrev p_coded : List Str := ["bits", "value"]
theorem sc_coded : FnScope N_coded p_coded (defScope s_coded) := ⟨rfl, rfl, rfl, by decide +kernel, rfl, by decide +kernel, by decide +kernel⟩
abbrev s_value_in : Stmt := topS 9
abbrev N_value_in : List Str := ["bits", "row", "at", "place"]
abbrev p_value_in : List Str := ["bits", "row"]
theorem sc_value_in : FnScope N_value_in p_value_in (defScope s_value_in) := ⟨rfl, rfl, rfl, by decide +kernel, rfl, by decide +kernel, by decide +kernel⟩
abbrev s_ones_in : Stmt := topS 10
abbrev N_ones_in : List Str := ["row"]
abbrev p_ones_in : List Str := ["row"]
theorem sc_ones_in : FnScope N_ones_in p_ones_in (defScope s_ones_in) := ⟨rfl, rfl, rfl, by decide +kernel, rfl, by decide +kernel, by decide +kernel⟩
abbrev s_spot_of : Stmt := topS 11
abbrev N_spot_of : List Str := ["bits", "row", "spot", "place"]
abbrev p_spot_of : List Str := ["bits", "row"]
theorem sc_spot_of : FnScope N_spot_of p_spot_of (defScope s_spot_of) := ⟨rfl, rfl, rfl, by decide +kernel, rfl, by decide +kernel, by decide +kernel⟩
abbrev s_state_of : Stmt := topS 12
abbrev N_state_of : List Str := ["bits", "row", "spot"]
abbrev p_state_of : List Str := ["bits", "row"]
theorem sc_state_of : FnScope N_state_of p_state_of (defScope s_state_of) := ⟨rfl, rfl, rfl, by decide +kernel, rfl, by decide +kernel, by decide +kernel⟩
abbrev s_mended : Stmt := topS 13
abbrev N_mended : List Str := ["bits", "row", "state", "place"]
abbrev p_mended : List Str := ["bits", "row"]
theorem sc_mended : FnScope N_mended p_mended (defScope s_mended) := ⟨rfl, rfl, rfl, by decide +kernel, rfl, by decide +kernel, by decide +kernel⟩
abbrev s_flipped : Stmt := topS 14
abbrev N_flipped : List Str := ["row", "places", "place"]
abbrev p_flipped : List Str := ["row", "places"]
theorem sc_flipped : FnScope N_flipped p_flipped (defScope s_flipped) := ⟨rfl, rfl, rfl, by decide +kernel, rfl, by decide +kernel, by decide +kernel⟩
abbrev s_differing : Stmt := topS 15
abbrev N_differing : List Str := ["one", "other", "change", "place"]
abbrev p_differing : List Str := ["one", "other"]
theorem sc_differing : FnScope N_differing p_differing (defScope s_differing) := ⟨rfl, rfl, rfl, by decide +kernel, rfl, by decide +kernel, by decide +kernel⟩
abbrev s_Memory___init__ : Stmt := inClass (topS 17) 0
abbrev N_Memory___init__ : List Str := ["self", "cells", "bits"]
abbrev p_Memory___init__ : List Str := ["self", "cells", "bits"]
theorem sc_Memory___init__ : FnScope N_Memory___init__ p_Memory___init__ (defScope s_Memory___init__) := ⟨rfl, rfl, rfl, by decide +kernel, rfl, by decide +kernel, by decide +kernel⟩
abbrev s_Memory_write : Stmt := inClass (topS 17) 1
abbrev N_Memory_write : List Str := ["self", "cell", "value"]
abbrev p_Memory_write : List Str := ["self", "cell", "value"]
theorem sc_Memory_write : FnScope N_Memory_write p_Memory_write (defScope s_Memory_write) := ⟨rfl, rfl, rfl, by decide +kernel, rfl, by decide +kernel, by decide +kernel⟩
abbrev s_Memory_read : Stmt := inClass (topS 17) 2
abbrev N_Memory_read : List Str := ["self", "cell"]
abbrev p_Memory_read : List Str := ["self", "cell"]
theorem sc_Memory_read : FnScope N_Memory_read p_Memory_read (defScope s_Memory_read) := ⟨rfl, rfl, rfl, by decide +kernel, rfl, by decide +kernel, by decide +kernel⟩
abbrev s_Memory_scrub : Stmt := inClass (topS 17) 3
abbrev N_Memory_scrub : List Str := ["self", "cell", "word", "was_off"]
abbrev p_Memory_scrub : List Str := ["self", "cell"]
theorem sc_Memory_scrub : FnScope N_Memory_scrub p_Memory_scrub (defScope s_Memory_scrub) := ⟨rfl, rfl, rfl, by decide +kernel, rfl, by decide +kernel, by decide +kernel⟩
abbrev s_Memory_scrub_all : Stmt := inClass (topS 17) 4
abbrev N_Memory_scrub_all : List Str := ["self", "scrubbed", "unmendable", "cell", "state", "_"]
abbrev p_Memory_scrub_all : List Str := ["self"]
theorem sc_Memory_scrub_all : FnScope N_Memory_scrub_all p_Memory_scrub_all (defScope s_Memory_scrub_all) := ⟨rfl, rfl, rfl, by decide +kernel, rfl, by decide +kernel, by decide +kernel⟩
abbrev s_Memory_flip : Stmt := inClass (topS 17) 5
abbrev N_Memory_flip : List Str := ["self", "cell", "place"]
abbrev p_Memory_flip : List Str := ["self", "cell", "place"]
theorem sc_Memory_flip : FnScope N_Memory_flip p_Memory_flip (defScope s_Memory_flip) := ⟨rfl, rfl, rfl, by decide +kernel, rfl, by decide +kernel, by decide +kernel⟩
abbrev s_Memory_row_at : Stmt := inClass (topS 17) 6
abbrev N_Memory_row_at : List Str := ["self", "cell"]
abbrev p_Memory_row_at : List Str := ["self", "cell"]
theorem sc_Memory_row_at : FnScope N_Memory_row_at p_Memory_row_at (defScope s_Memory_row_at) := ⟨rfl, rfl, rfl, by decide +kernel, rfl, by decide +kernel, by decide +kernel⟩
abbrev s_Memory_state_at : Stmt := inClass (topS 17) 7
abbrev N_Memory_state_at : List Str := ["self", "cell"]
abbrev p_Memory_state_at : List Str := ["self", "cell"]
theorem sc_Memory_state_at : FnScope N_Memory_state_at p_Memory_state_at (defScope s_Memory_state_at) := ⟨rfl, rfl, rfl, by decide +kernel, rfl, by decide +kernel, by decide +kernel⟩
abbrev s_Memory_twin : Stmt := inClass (topS 17) 8
abbrev N_Memory_twin : List Str := ["self"]
abbrev p_Memory_twin : List Str := ["self"]
theorem sc_Memory_twin : FnScope N_Memory_twin p_Memory_twin (defScope s_Memory_twin) := ⟨rfl, rfl, rfl, by decide +kernel, rfl, by decide +kernel, by decide +kernel⟩
abbrev s_Memory__word_at : Stmt := inClass (topS 17) 9
abbrev N_Memory__word_at : List Str := ["self", "cell", "word"]
abbrev p_Memory__word_at : List Str := ["self", "cell"]
theorem sc_Memory__word_at : FnScope N_Memory__word_at p_Memory__word_at (defScope s_Memory__word_at) := ⟨rfl, rfl, rfl, by decide +kernel, rfl, by decide +kernel, by decide +kernel⟩
abbrev s__law_row : Stmt := topS 19
abbrev N__law_row : List Str := ["cell", "many", "row", "rest", "state", "k"]
abbrev p__law_row : List Str := ["cell", "many"]
theorem sc__law_row : FnScope N__law_row p__law_row (defScope s__law_row) := ⟨rfl, rfl, rfl, by decide +kernel, rfl, by decide +kernel, by decide +kernel⟩
abbrev s__law_numbers : Stmt := topS 20
abbrev N__law_numbers : List Str := ["script", "many", "cells", "each", "numbers", "cell", "number"]
abbrev p__law_numbers : List Str := ["script", "many"]
theorem sc__law_numbers : FnScope N__law_numbers p__law_numbers (defScope s__law_numbers) := ⟨rfl, rfl, rfl, by decide +kernel, rfl, by decide +kernel, by decide +kernel⟩
abbrev s__law_checks : Stmt := topS 21
abbrev N__law_checks : List Str := ["bits", "r", "turn", "k"]
abbrev p__law_checks : List Str := ["bits"]
theorem sc__law_checks : FnScope N__law_checks p__law_checks (defScope s__law_checks) := ⟨rfl, rfl, rfl, by decide +kernel, rfl, by decide +kernel, by decide +kernel⟩
abbrev s__law_places : Stmt := topS 22
abbrev N__law_places : List Str := ["bits"]
abbrev p__law_places : List Str := ["bits"]
theorem sc__law_places : FnScope N__law_places p__law_places (defScope s__law_places) := ⟨rfl, rfl, rfl, by decide +kernel, rfl, by decide +kernel, by decide +kernel⟩
abbrev s__law_value : Stmt := topS 23
abbrev N__law_value : List Str := ["numbers", "at", "bits", "value", "top", "k"]
abbrev p__law_value : List Str := ["numbers", "at", "bits"]
theorem sc__law_value : FnScope N__law_value p__law_value (defScope s__law_value) := ⟨rfl, rfl, rfl, by decide +kernel, rfl, by decide +kernel, by decide +kernel⟩
abbrev s__law_scrub : Stmt := topS 24
abbrev N__law_scrub : List Str := ["memory", "cell", "error"]
abbrev p__law_scrub : List Str := ["memory", "cell"]
theorem sc__law_scrub : FnScope N__law_scrub p__law_scrub (defScope s__law_scrub) := ⟨rfl, rfl, rfl, by decide +kernel, rfl, by decide +kernel, by decide +kernel⟩
abbrev s_law : Stmt := topS 25
abbrev N_law : List Str := ["script", "numbers", "bits", "cells", "some", "memory", "j", "k", "cell", "rows", "state", "states", "due", "told", "row", "one"]
abbrev p_law : List Str := ["script"]
theorem sc_law : FnScope N_law p_law (defScope s_law) := ⟨rfl, rfl, rfl, by decide +kernel, rfl, by decide +kernel, by decide +kernel⟩

/-! ### the drawn numbers: all that is wanted of them is how many there are, and that each is from 0 to 1008 -/
def Small (ns : List Int) : Prop := ∀ n ∈ ns, 0 ≤ n ∧ n < 1009
theorem Small.app {ns : List Int} {n : Int} (h : Small ns) (h0 : 0 ≤ n) (h1 : n < 1009) : Small (ns ++ [n]) := fun z hz => by
  rcases List.mem_append.mp hz with hz | hz
  · exact h z hz
  · rw [List.mem_singleton.mp hz]
    exact ⟨h0, h1⟩
def spRow : Sp := fun vs H Q _ => ∃ (c m : Int), vs = [.int c, .int m] ∧ 0 ≤ m ∧ m ≤ 1000 ∧ ∀ (ns : List Int) p H', (ns.length : Int) = m → Small ns → H p = none → Ex H H' → H' p = some (.lst (ns.map V.int)) → Q (.ref p) H'
def spNumbers (K : PySem.W.Frag) : Sp := fun vs H Q _ => ∃ (a : Addr) (xs : List Int) (m : Int), vs = [.ref a, .int m] ∧ SqL K H a (xs.map V.int) ∧ xs.length ≤ 63 ∧ 0 ≤ m ∧ m ≤ 900 ∧
  ∀ (ns : List Int) p H', (ns.length : Int) = m → Small ns → H p = none → Ex H H' → H' p = some (.lst (ns.map V.int)) → Q (.ref p) H'
section
variable {P : Program} {w : World} {K : PySem.W.Frag} {mg : Str → Option Value} {base : Heap}
theorem ok_row (A : At K mg "_law_row" s__law_row) (mz_abs : mg "abs" = none) (mz_int : mg "int" = none) (mz_range : mg "range" = none) : Dfn P w K mg base 1 "_law_row" p__law_row spRow := by
  refine dfn_ok A sc__law_row (fun _ _ _ _ _ _ us hl => match us, hl with | [_, _], _ => rfl) (fun vs H Q E h => ?_) (fun f cdv A outer s H vs Q E hr h => ?_)
  · obtain ⟨c, m, rfl, _⟩ := h
    rfl
  · obtain ⟨c, m, rfl, hm, hm2, q⟩ := h
    refine ⟨_, (pss_cons (ps_set (i := 2) sc__law_row.nd rfl (Or.inl rfl) (pe_lst pa_nil))
  (pss_cons (ps_set (i := 3) sc__law_row.nd rfl (Or.inl rfl) pe_int)
  (pss_cons (ps_if (pt_cmpR op_ge (pe_callB call_abs (by rfl) mz_abs (by decide +kernel) (pa_cons (pv 0) pa_nil)) (pe_op op_pow pe_int pe_int) (by first | exact nomark _ | rfl))
    (pss_one (ps_set (i := 3) sc__law_row.nd rfl (Or.inl rfl) (pe_callB call_abs (by rfl) mz_abs (by decide +kernel) (pa_cons (pv 0) pa_nil))))
    pss_nil)
  (pss_cons (ps_set (i := 4) sc__law_row.nd rfl (Or.inl rfl) (pe_op op_mod (pe_callTy call_int1 (by rfl) mz_int (by decide +kernel) (pa_cons (pe_callB call_abs (by rfl) mz_abs (by decide +kernel) (pa_cons (pv 0) pa_nil)) pa_nil)) pe_int))
  (pss_cons (ps_for PassesOwn.never rfl (pi_range1 (by rfl) mz_range (pa_cons (pv 1) pa_nil)) (pg_name (i := 5) sc__law_row.nd rfl (Or.inl rfl))
    (pss_cons (ps_set (i := 4) sc__law_row.nd rfl (Or.inl rfl) (pe_op op_mod (pe_callTy call_int1 (by rfl) mz_int (by decide +kernel) (pa_cons (pe_op op_add (pe_op op_mul (pe_op op_add (pv 4) pe_int) pe_int) (pe_op op_mul pe_int (pv 5))) pa_nil)) pe_int))
  (pss_one (ps_if (pt_cmpR op_gt (pv 3) pe_int (by first | exact nomark _ | rfl))
    (pss_cons (ps_expr (show PE _ _ (tBM K "list" _ _ _) from pe_bm PySem.F.plainAttrs_list PySem.F.slot_list_append PySem.F.type_list_append mt_append (pv 2) (pa_cons (pe_op op_mod (pe_callTy call_int1 (by rfl) mz_int (by decide +kernel) (pa_cons (pv 3) pa_nil)) pe_int) pa_nil)))
  (pss_one (ps_set (i := 3) sc__law_row.nd rfl (Or.inl rfl) (pe_op op_fdiv (pv 3) pe_int))))
    (pss_one (ps_expr (show PE _ _ (tBM K "list" _ _ _) from pe_bm PySem.F.plainAttrs_list PySem.F.slot_list_append PySem.F.type_list_append mt_append (pv 2) (pa_cons (pe_op op_mod (pe_callTy call_int1 (by rfl) mz_int (by decide +kernel) (pa_cons (pe_op op_fdiv (pv 4) pe_int) pa_nil)) pe_int) pa_nil))))))))
  (pss_one (ps_ret (pv 2)))))))), ?_⟩
    refine q_asgL (xs := []) (by refine el_lst ea_nil (by decide)) fun p H1 np e1 h1 => ?_
    refine' q_asg (v := ?v2) ?e2 fun H2 e2 => ?_
    case e2 => walk_at "ev"
    refine' q_ifAsg (b := decide ((10:Int) ^ (18:Int).toNat ≤ if c < 0 then -c else c)) (v := .int (if (10:Int) ^ (18:Int).toNat ≤ (if c < 0 then -c else c) then (if c < 0 then -c else c) else 0)) ?b3 ?t3 ?f3 fun H3 e3 => ?_
    case b3 => walk_at "et"
    case t3 =>
      intro hb
      rw [if_pos (of_decide_eq_true hb)]
      walk_at "ev"
    case f3 =>
      intro hb
      rw [if_neg (of_decide_eq_false hb)]
      rfl
    generalize hr0 : (if (10:Int) ^ (18:Int).toNat ≤ (if c < 0 then -c else c) then (if c < 0 then -c else c) else 0) = r0
    have hr00 : 0 ≤ r0 := by
      rw [← hr0]
      split
      · split <;> omega
      · omega
    refine' q_asg (v := ?v4) ?e4 fun H4 e4 => ?_
    case e4 => walk_at "ev"
    have hs0 : 0 ≤ (if c < 0 then -c else c) % 2147483647 ∧ (if c < 0 then -c else c) % 2147483647 < 2147483647 := ⟨Int.emod_nonneg _ (by decide), Int.emod_lt_of_pos _ (by decide)⟩
    generalize (if c < 0 then -c else c) % 2147483647 = st0 at hs0
    refine q_forR1 (n := m) (by walk_at "ea") ⟨hm, by omega⟩ (fun i σ' H' => ∃ (st r : Int) (k : Option V) (ns : List Int), σ' = [some (.int c), some (.int m), some (.ref p), some (.int r), some (.int st), k] ∧ 0 ≤ st ∧ st < 2147483647 ∧ ns.length = i ∧ Small ns ∧ Ex H H' ∧ H' p = some (.lst (ns.map V.int))) ?h0 ?hs ?hd
    case h0 => exact fun H5 e5 => ⟨st0, r0, none, [], rfl, hs0.1, hs0.2, rfl, (fun _ z => nomatch z), (((e1.trans e2).trans e3).trans e4).trans e5, e5 _ _ (e4 _ _ (e3 _ _ (e2 _ _ h1)))⟩
    case hs =>
      rintro i σ' H' hi ⟨st, r, k, ns, rfl, s0, s1, hl, hS, eH, hp⟩
      refine' q_asg (v := ?v5) ?e5 fun H5 e5 => ?_
      case e5 => walk_at "ev"
      have hs2 : 0 ≤ ((st + 1) * 48271 + 69621 * (i : Int)) % 2147483647 ∧ ((st + 1) * 48271 + 69621 * (i : Int)) % 2147483647 < 2147483647 := ⟨Int.emod_nonneg _ (by decide), Int.emod_lt_of_pos _ (by decide)⟩
      generalize ((st + 1) * 48271 + 69621 * (i : Int)) % 2147483647 = st2 at hs2
      have hp5 := e5 _ _ hp
      have last : ∀ (x y : Int) H6, Ex H5 H6 → 0 ≤ x → x < 1009 → ∃ (st r : Int) (k : Option V) (ns' : List Int), ([some (.int c), some (.int m), some (.ref p), some (.int y), some (.int st2), some (.int (i : Int))] : L2.St) = [some (.int c), some (.int m), some (.ref p), some (.int r), some (.int st), k] ∧ 0 ≤ st ∧ st < 2147483647 ∧ ns'.length = i + 1 ∧ Small ns' ∧ Ex H (upd H6 p (.lst (ns.map V.int ++ [.int x]))) ∧ (upd H6 p (.lst (ns.map V.int ++ [.int x]))) p = some (.lst (ns'.map V.int)) := fun x y H6 e6 h0 h1 =>
        ⟨st2, y, _, ns ++ [x], rfl, hs2.1, hs2.2, by rw [List.length_append, hl]; rfl, hS.app h0 h1, Ex.mut ((eH.trans e5).trans e6) np, by rw [upd_same, List.map_append]; rfl⟩
      have hz : (ns.map V.int).length < 100000 := by rw [List.length_map]; omega
      refine' s_if (b := decide ((0:Int) < r)) ?b6 ?t6 ?f6
      case b6 => walk_at "et"
      case t6 =>
        intro _ H6 e6
        refine' q_app (e6 _ _ hp5) (ev_var rfl) ?e7 hz fun H7 e7 => ?_
        case e7 => walk_at "ev"
        refine' s_asg (v := ?v8) ?e8 fun H8 e8 => ?_
        case e8 => walk_at "ev"
        obtain ⟨a1, a2, a3, a4, b1, b2, b3, b4, b5, b6, b7⟩ := last (r % 1009) (r / 1009) H7 (e6.trans e7) (Int.emod_nonneg _ (by decide)) (Int.emod_lt_of_pos _ (by decide))
        exact ⟨a1, a2, a3, a4, b1, b2, b3, b4, b5, b6.trans e8, e8 _ _ b7⟩
      case f6 =>
        intro _ H6 e6
        refine' s_app (e6 _ _ hp5) (ev_var rfl) ?e7 hz fun H7 e7 => ?_
        case e7 => walk_at "ev"
        exact last (st2 / 2048 % 1009) r H7 (e6.trans e7) (Int.emod_nonneg _ (by decide)) (Int.emod_lt_of_pos _ (by decide))
    case hd =>
      rintro σ' H' ⟨st, r, k, ns, rfl, s0, s1, hl, hS, eH, hp⟩
      refine s_ret (ev_var rfl) fun H6 e6 => ?_
      exact q ns p H6 (by omega) hS np (eH.trans e6) (e6 _ _ hp)
theorem Small.app2 {ns ms : List Int} (h : Small ns) (h2 : Small ms) : Small (ns ++ ms) := fun z hz => (List.mem_append.mp hz).elim (h z) (h2 z)
theorem Small.take {ns : List Int} (h : Small ns) (k : Nat) : Small (ns.take k) := fun z hz => h z (List.mem_of_mem_take hz)
theorem Small.at {ns : List Int} (h : Small ns) {i : Nat} {n : Int} (e : ns[i]? = some n) : 0 ≤ n ∧ n < 1009 := h n (List.mem_of_getElem? e)
theorem ok_numbers (A : At K mg "_law_numbers" s__law_numbers) (D__law_row : Dfn P w K mg base 1 "_law_row" p__law_row spRow) (mz_len : mg "len" = none) (mz_max : mg "max" = none) : Dfn P w K mg base 2 "_law_numbers" p__law_numbers (spNumbers K) := by
  refine dfn_ok A sc__law_numbers (fun _ _ _ _ _ _ us hl => match us, hl with | [_, _], _ => rfl) (fun vs H Q E h => ?_) (fun f cdv A outer s H vs Q E hr h => ?_)
  · obtain ⟨a, xs, m, rfl, _⟩ := h
    rfl
  · obtain ⟨a, xs, m, rfl, hA, hx, hm, hm2, q⟩ := h
    refine ⟨_, (pss_cons (ps_set (i := 2) sc__law_numbers.nd rfl (Or.inl rfl) (pe_slice (show SlR _ (rSlL K) from sl_list) (pv 0) po_none (po_some pe_int)))
  (pss_cons (ps_set (i := 3) sc__law_numbers.nd rfl (Or.inl rfl) (pe_op op_add pe_int (pe_op op_fdiv (pv 1) (pe_callB (call_max2 rfl) (by rfl) mz_max (by decide +kernel) (pa_cons pe_int (pa_cons (pe_callB (show CallR _ _ (rLenS K) from call_len_seq) (by rfl) mz_len PySem.boot_len (pa_cons (pv 2) pa_nil)) pa_nil))))))
  (pss_cons (ps_set (i := 4) sc__law_numbers.nd rfl (Or.inl rfl) (pe_lst pa_nil))
  (pss_cons (ps_for PassesOwn.never rfl (show PI _ _ _ (iList K _) from pi_list (pv 2)) (pg_name (i := 5) sc__law_numbers.nd rfl (Or.inl rfl))
    (pss_one (ps_for PassesOwn.never rfl (show PI _ _ _ (iList K _) from pi_list (pe_d D__law_row (hr.mono (by decide)) (pa_cons (pv 5) (pa_cons (pv 3) pa_nil)))) (pg_name (i := 6) sc__law_numbers.nd rfl (Or.inl rfl))
    (pss_one (ps_expr (show PE _ _ (tBM K "list" _ _ _) from pe_bm PySem.F.plainAttrs_list PySem.F.slot_list_append PySem.F.type_list_append mt_append (pv 4) (pa_cons (pv 6) pa_nil)))))))
  (pss_cons (ps_while PassesOwn.never (pt_cmpR op_lt (pe_callB (show CallR _ _ (rLenS K) from call_len_seq) (by rfl) mz_len PySem.boot_len (pa_cons (pv 4) pa_nil)) (pv 1) (by first | exact nomark _ | rfl))
    (pss_one (ps_expr (show PE _ _ (tBM K "list" _ _ _) from pe_bm PySem.F.plainAttrs_list PySem.F.slot_list_append PySem.F.type_list_append mt_append (pv 4) (pa_cons pe_int pa_nil)))))
  (pss_one (ps_ret (pe_slice (show SlR _ (rSlL K) from sl_list) (pv 4) po_none (po_some (pv 1)))))))))), ?_⟩
    refine q_asgL (xs := xs.map V.int) ?c1 fun c H1 nc e1 h1 => ?_
    case c1 =>
      have e : xs.map V.int = cutV (xs.map V.int) none (some ((63 : Nat) : Int)) := by
        rw [cut_take, List.take_of_length_le (by rw [List.length_map]; exact hx)]
      rw [e]
      exact el_sl (ev_var rfl) eo_none (eo_some ev_c) hA
    have hlx : ((xs.map V.int).length : Int) ≤ 63 := by rw [List.length_map]; omega
    have hmx : 0 < (if ((xs.map V.int).length : Int) > 1 then ((xs.map V.int).length : Int) else 1) ∧ (if ((xs.map V.int).length : Int) > 1 then ((xs.map V.int).length : Int) else 1) < 1073741824 := by split <;> omega
    refine q_asg (ev_op ev_c (ev_op (ev_var rfl) (ev_max1 (ea_cons ev_c (ea_cons (ev_lenL (ev_var rfl) (sq_of h1)) ea_nil))) (rv_I hmx)) rv_I0) fun H2 e2 => ?_
    generalize hz : (1 + m / (if ((xs.map V.int).length : Int) > 1 then ((xs.map V.int).length : Int) else 1)) = each
    have h2 := e2 _ _ h1
    have hz1 : 0 ≤ each ∧ each ≤ 1000 := by
      have a1 := Int.ediv_nonneg hm (Int.le_of_lt hmx.1)
      have a2 := Int.ediv_le_self (if ((xs.map V.int).length : Int) > 1 then ((xs.map V.int).length : Int) else 1) hm
      omega
    clear hz
    refine q_asgL (xs := []) (by refine el_lst ea_nil (by decide)) fun p H3 np e3 h3 => ?_
    have e0 : Ex H H3 := (e1.trans e2).trans e3
    have np0 : H p = none := fresh_back (e1.trans e2) np
    have h3c := e3 _ _ h2
    have ncp : c ≠ p := ne_of_none h2 np
    refine q_forLn (xs := xs.map V.int) (a := c) (ev_var rfl) (sq_of h3c) (fun i σ' H' => ∃ (u v : Option V) (ns : List Int), σ' = [some (.ref a), some (.int m), some (.ref c), some (.int each), some (.ref p), u, v] ∧ ns.length ≤ i * 1000 ∧ Small ns ∧ Ex H H' ∧ H' c = some (.lst (xs.map V.int)) ∧ H' p = some (.lst (ns.map V.int))) ?h0 ?hl ?hs ?hd
    case h0 => exact fun H4 e4 => ⟨none, none, [], rfl, Nat.zero_le _, (fun _ z => nomatch z), e0.trans e4, e4 _ _ h3c, e4 _ _ h3⟩
    case hl => exact fun i σ' H' _ ⟨_, _, _, _, _, _, _, hc, _⟩ => sq_of hc
    case hs =>
      rintro i x σ' H' hi ⟨u, v, ns, rfl, hl, hS, eH, hc, hp⟩
      have hix : i < 63 := by
        have := (List.getElem?_eq_some_iff.mp hi).1
        rw [List.length_map] at this
        omega
      obtain ⟨n, hn, rfl⟩ := int_at hi
      refine s_forP (P := fun ys => ∃ ms : List Int, ys = ms.map V.int ∧ (ms.length : Int) = each ∧ Small ms) ?hp (fun ys q j σ2 H2 => ∃ (v : Option V) (ms : List Int), ys = ms.map V.int ∧ (ms.length : Int) = each ∧ Small ms ∧ σ2 = [some (.ref a), some (.int m), some (.ref c), some (.int each), some (.ref p), some (.int n), v] ∧ Ex H H2 ∧ H2 c = some (.lst (xs.map V.int)) ∧ H2 q = some (.lst ys) ∧ q ≠ p ∧ H2 p = some (.lst ((ns ++ ms.take j).map V.int))) ?g0 ?gl ?gs ?gd
      case hp =>
        refine evP_call (ea_cons (ev_var rfl) (ea_cons (ev_var rfl) ea_nil)) fun H1 e1 Q q E => ⟨n, each, rfl, hz1.1, hz1.2, fun ms p' H2 hm hS np' e2 h2 => q _ p' H2 ⟨ms, rfl, hm, hS⟩ np' e2 h2⟩
      case g0 =>
        rintro ys q' H1 ⟨ms, rfl, hml, hSm⟩ nq e1 hq
        refine ⟨v, ms, rfl, hml, hSm, rfl, eH.trans e1, e1 _ _ hc, hq, (ne_of_none hp nq).symm, ?_⟩
        rw [List.take_zero, List.append_nil]
        exact e1 _ _ hp
      case gl => exact fun ys q' j σ2 H2 _ ⟨_, _, _, _, _, _, _, _, hq, _⟩ => sq_of hq
      case gs =>
        rintro ys q' j x' σ2 H2 hj ⟨v, ms, rfl, hml, hSm, rfl, eH2, hc2, hq, nqp, hp2⟩
        obtain ⟨n2, hn2, rfl⟩ := int_at hj
        have hj2 := (List.getElem?_eq_some_iff.mp hn2).1
        refine s_app hp2 (ev_var rfl) (ev_var rfl) (by rw [List.length_map, List.length_append, List.length_take]; omega) fun H3 e3 => ?_
        refine ⟨_, ms, rfl, hml, hSm, rfl, Ex.mut (eH2.trans e3) np0, by rw [upd_ne ncp]; exact e3 _ _ hc2, by rw [upd_ne nqp]; exact e3 _ _ hq, nqp, ?_⟩
        rw [upd_same, List.take_add_one, hn2, ← List.append_assoc, List.map_append (l₁ := ns ++ ms.take j)]
        rfl
      case gd =>
        rintro ys q' σ2 H2 ⟨v, ms, rfl, hml, hSm, rfl, eH2, hc2, hq, nqp, hp2⟩
        rw [List.length_map, List.take_of_length_le (Nat.le_refl _)] at hp2
        exact ⟨_, _, _, rfl, by rw [List.length_append]; omega, hS.app2 hSm, eH2, hc2, hp2⟩
    case hd =>
      rintro σ' H' ⟨u, v, ns, rfl, hl, hS, eH, hc, hp⟩
      rw [List.length_map] at hl
      refine q_while (fun d σ2 H2 => ∃ ns : List Int, σ2 = [some (.ref a), some (.int m), some (.ref c), some (.int each), some (.ref p), u, v] ∧ d = m.toNat - ns.length ∧ ns.length ≤ 70000 ∧ Small ns ∧ Ex H H2 ∧ H2 p = some (.lst (ns.map V.int))) _ ⟨ns, rfl, rfl, by omega, hS, eH, hp⟩ ?_
      rintro d σ2 H2 ⟨ns, rfl, rfl, hl, hS, eH, hp⟩
      refine ⟨decide (((ns.map V.int).length : Int) < m), et_test (ev_op (ev_lenL (ev_var rfl) (sq_of hp)) (ev_var rfl) rv_I0), fun hb H3 e3 => ?_, fun hb H3 e3 => ?_⟩
      · have hb := of_decide_eq_true hb
        rw [List.length_map] at hb
        refine ⟨fun σ3 H4 => ∃ ns' : List Int, σ3 = [some (.ref a), some (.int m), some (.ref c), some (.int each), some (.ref p), u, v] ∧ ns'.length = ns.length + 1 ∧ Small ns' ∧ Ex H H4 ∧ H4 p = some (.lst (ns'.map V.int)), fun σ3 H4 ⟨ns', z1, z2, z3, z4, z5⟩ => ⟨_, by omega, ns', z1, rfl, by omega, z3, z4, z5⟩, ?_⟩
        refine s_app (e3 _ _ hp) (ev_var rfl) ev_c (by rw [List.length_map]; omega) fun H4 e4 => ?_
        exact ⟨ns ++ [0], rfl, by rw [List.length_append]; rfl, hS.app (by decide) (by decide), Ex.mut ((eH.trans e3).trans e4) np0, by rw [upd_same, List.map_append]; rfl⟩
      · have hb := of_decide_eq_false hb
        rw [List.length_map] at hb
        refine s_retL (el_sl (ev_var rfl) eo_none (eo_some (ev_var rfl)) (sq_of (e3 _ _ hp))) fun r H4 nr e4 h4 => ?_
        have em : m = ((m.toNat : Nat) : Int) := by omega
        rw [em, cut_take, ← List.map_take] at h4
        exact q _ r H4 (by rw [List.length_take]; omega) (hS.take _) (fresh_back (eH.trans e3) nr) ((eH.trans e3).trans e4) h4
end

section
variable {P : Program} {w : World} {K : PySem.W.Frag} {mg : Str → Option Value} {base : Heap}
theorem ok_places (A : At K mg "places_of" s_places_of) : Dfn P w K mg base 1 "places_of" p_places_of spPlaces := by
  refine dfn_ok A sc_places_of (fun _ _ _ _ _ _ us hl => match us, hl with | [_], _ => rfl) (fun vs H Q E h => ?_) (fun f cdv A outer s H vs Q E hr h => ?_)
  · obtain ⟨b, rfl, _⟩ := h
    rfl
  · obtain ⟨b, rfl, h4, h32, q⟩ := h
    refine ⟨_, (pss_cons (ps_set (i := 1) sc_places_of.nd rfl (Or.inl rfl) pe_int)
  (pss_cons (ps_while PassesOwn.never (pt_cmpR op_lt (pe_op op_shl pe_int (pv 1)) (pe_op op_add (pe_op op_add (pv 0) (pv 1)) pe_int) (by first | exact nomark _ | rfl))
    (pss_one (ps_set (i := 1) sc_places_of.nd rfl (Or.inl rfl) (pe_op op_add (pv 1) pe_int))))
  (pss_one (ps_ret (pe_op op_add (pe_op op_add (pv 0) (pv 1)) pe_int))))), ?_⟩
    refine' q_asg (v := ?v2) ?e2 fun H2 e2 => ?_
    case e2 => walk_at "ev"
    refine q_while (fun d σ2 H2 => ∃ t : Nat, σ2 = [some (.int (b : Int)), some (.int (t : Int))] ∧ d = 6 - t ∧ t ≤ rOf b ∧ Ex H H2) _ ⟨0, rfl, rfl, Nat.zero_le _, e2⟩ ?_
    rintro d σ2 H2 ⟨t, rfl, rfl, ht, eH⟩
    have h6 := rOf_le b
    have hp := pow_lt h4 h32 (show t ≤ 6 by omega)
    refine' ⟨_, (by walk_at "et" : EvT _ _ _ (decide ((1 : Int) * 2 ^ ((t : Int)).toNat < (b : Int) + (t : Int) + 1))), fun hb H3 e3 => ?_, fun hb H3 e3 => ?_⟩
    · have hb := hp.mp (of_decide_eq_true hb)
      refine ⟨fun σ3 H4 => σ3 = [some (.int (b : Int)), some (.int ((t + 1 : Nat) : Int))] ∧ Ex H H4, fun σ3 H4 ⟨z1, z2⟩ => ⟨_, by omega, t + 1, z1, rfl, by omega, z2⟩, ?_⟩
      refine' s_asg (v := ?v4) ?e4 fun H4 e4 => ?_
      case e4 => walk_at "ev"
      exact ⟨rfl, (eH.trans e3).trans e4⟩
    · have hb : ¬ t < rOf b := fun z => of_decide_eq_false hb (hp.mpr z)
      have et : t = rOf b := by omega
      subst et
      refine' s_ret (v := ?v5) ?e5 fun H4 e4 => ?_
      case e5 => walk_at "ev"
      have e : ((b : Int) + (rOf b : Int) + 1) = ((pl b : Nat) : Int) := by unfold pl; omega
      rw [e]
      exact q H4 ((eH.trans e3).trans e4)

theorem ok_check (A : At K mg "check_places" s_check_places) (D_places_of : Dfn P w K mg base 1 "places_of" p_places_of spPlaces) (mz_range : mg "range" = none) : Dfn P w K mg base 2 "check_places" p_check_places (spList ckN) := by
  refine dfn_ok A sc_check_places (fun _ _ _ _ _ _ us hl => match us, hl with | [_], _ => rfl) (fun vs H Q E h => ?_) (fun f cdv A outer s H vs Q E hr h => ?_)
  · obtain ⟨b, rfl, _⟩ := h
    rfl
  · obtain ⟨b, rfl, h4, h32, q⟩ := h
    have hpl := pl_le h32
    refine ⟨_, (pss_one (ps_ret (pe_lc (own := [("place", 1)]) (g := gName 1) rfl sc_check_places.nd (pi_range1 (by rfl) mz_range (pa_cons (pe_d D_places_of (hr.mono (by decide)) (pa_cons (pv 0) pa_nil)) pa_nil)) (blkOk_by (N := N_check_places) (sc := defScope s_check_places) (by decide +kernel)) (fun _ _ _ _ _ => (pg_name (i := 1) sc_check_places.nd rfl (Or.inl rfl))) (fun _ _ _ _ _ => (pts_one (pt_cmpR op_eq (pe_op op_and (pv 1) (pe_op op_sub (pv 1) pe_int)) pe_int (by first | exact nomark _ | rfl)))) (fun _ _ _ _ _ => (pv 1))))), ?_⟩
    refine s_retL (el_is (el_lcR1 (n := ((pl b : Nat) : Int)) (fun i => decide (V.int (Builtin.bitAnd ((i : Nat) : Int) ((i : Int) - 1)) = V.int 0)) (fun i => V.int (i : Int)) (by walk_at "ea") (by omega) (fun _ => rfl) (fun i H1 e1 hi => by walk_at "et") (fun i H1 e1 hi _ => by walk_at "ev")) ?he) q
    case he =>
      rw [Int.toNat_natCast, given_eq (f' := isPw) (g' := fun i => V.int (i : Int)) (fun i hi => pw_and i (by omega)) (fun _ _ _ => rfl), given_ints]
      rfl

theorem ok_data (A : At K mg "data_places" s_data_places) (D_places_of : Dfn P w K mg base 1 "places_of" p_places_of spPlaces) (mz_range : mg "range" = none) : Dfn P w K mg base 2 "data_places" p_data_places (spList dtN) := by
  refine dfn_ok A sc_data_places (fun _ _ _ _ _ _ us hl => match us, hl with | [_], _ => rfl) (fun vs H Q E h => ?_) (fun f cdv A outer s H vs Q E hr h => ?_)
  · obtain ⟨b, rfl, _⟩ := h
    rfl
  · obtain ⟨b, rfl, h4, h32, q⟩ := h
    have hpl := pl_le h32
    refine ⟨_, (pss_one (ps_ret (pe_lc (own := [("place", 1)]) (g := gName 1) rfl sc_data_places.nd (pi_range1 (by rfl) mz_range (pa_cons (pe_d D_places_of (hr.mono (by decide)) (pa_cons (pv 0) pa_nil)) pa_nil)) (blkOk_by (N := N_data_places) (sc := defScope s_data_places) (by decide +kernel)) (fun _ _ _ _ _ => (pg_name (i := 1) sc_data_places.nd rfl (Or.inl rfl))) (fun _ _ _ _ _ => (pts_one (pt_cmpR op_ne (pe_op op_and (pv 1) (pe_op op_sub (pv 1) pe_int)) pe_int (by first | exact nomark _ | rfl)))) (fun _ _ _ _ _ => (pv 1))))), ?_⟩
    refine s_retL (el_is (el_lcR1 (n := ((pl b : Nat) : Int)) (fun i => !decide (V.int (Builtin.bitAnd ((i : Nat) : Int) ((i : Int) - 1)) = V.int 0)) (fun i => V.int (i : Int)) (by walk_at "ea") (by omega) (fun _ => rfl) (fun i H1 e1 hi => by walk_at "et") (fun i H1 e1 hi _ => by walk_at "ev")) ?he) q
    case he =>
      rw [Int.toNat_natCast, given_eq (f' := fun i => !isPw i) (g' := fun i => V.int (i : Int)) (fun i hi => by rw [pw_and i (by omega)]) (fun _ _ _ => rfl), given_ints]
      rfl

theorem ok_differing (A : At K mg "differing" s_differing) (mz_range : mg "range" = none) : Dfn P w K mg base 1 "differing" p_differing spDiff := by
  refine dfn_ok A sc_differing (fun _ _ _ _ _ _ us hl => match us, hl with | [_, _], _ => rfl) (fun vs H Q E h => ?_) (fun f cdv A outer s H vs Q E hr h => ?_)
  · obtain ⟨a, c, rfl, _⟩ := h
    rfl
  · obtain ⟨a, c, rfl, ha, hc, q⟩ := h
    refine ⟨_, (pss_cons (ps_set (i := 2) sc_differing.nd rfl (Or.inr rfl) (pe_op op_xor (pv 0) (pv 1)))
  (pss_one (ps_ret (pe_lc (own := [("place", 3)]) (g := gName 3) rfl sc_differing.nd (pi_range1 (by rfl) mz_range (pa_cons (pe_bits (pv 2)) pa_nil)) (blkOk_by (N := N_differing) (sc := defScope s_differing) (by decide +kernel)) (fun _ _ _ _ _ => (pg_name (i := 3) sc_differing.nd rfl (Or.inl rfl))) (fun _ _ _ _ _ => (pts_one (show PT _ _ (tTr K _) from pt_truth (pe_op op_and (pe_op op_shr (pv 2) (pv 3)) pe_int) (by intro _; rfl)))) (fun _ _ _ _ _ => (pv 3)))))), ?_⟩
    refine q_asg (ev_xor (ev_var rfl) (ev_var rfl)) fun H2 e2 => ?_
    have hx : a ^^^ c < 2 ^ 40 := Nat.xor_lt_two_pow ha hc
    have hb := bits_le hx
    refine s_retL (el_is (el_lcR1 (n := ((Builtin.Int.intBits ((a ^^^ c : Nat) : Int) : Nat) : Int)) (fun i => (a ^^^ c).testBit i) (fun i => V.int (i : Int)) (ea_cons (ev_bits (ev_var rfl)) ea_nil) (by omega) (fun _ => rfl) (fun i H1 e1 hi => et_bit (ev_var rfl) (ev_var rfl)) (fun i H1 e1 hi _ => ev_var rfl)) ?he) fun p H3 np e3 h3 => q p H3 (fresh_back e2 np) (e2.trans e3) h3
    rw [Int.toNat_natCast, given_iL]
    show List.map V.int (iL (bs _ _)) = _
    rw [bs_any hx (bits_lt _)]

theorem ok_ones (A : At K mg "ones_in" s_ones_in) (D_differing : Dfn P w K mg base 1 "differing" p_differing spDiff) (mz_len : mg "len" = none) : Dfn P w K mg base 2 "ones_in" p_ones_in spOnes := by
  refine dfn_ok A sc_ones_in (fun _ _ _ _ _ _ us hl => match us, hl with | [_], _ => rfl) (fun vs H Q E h => ?_) (fun f cdv A outer s H vs Q E hr h => ?_)
  · obtain ⟨a, rfl, _⟩ := h
    rfl
  · obtain ⟨a, rfl, ha, q⟩ := h
    refine ⟨_, (pss_one (ps_ret (pe_callB (show CallR _ _ (rLenS K) from call_len_seq) (by rfl) mz_len PySem.boot_len (pa_cons (pe_d D_differing (hr.mono (by decide)) (pa_cons (pv 0) (pa_cons pe_int pa_nil))) pa_nil)))), ?_⟩
    refine s_ret (ev_is (ev_lenN2 (el_call (ea_cons (ev_var rfl) (ea_cons ev_c ea_nil)) (SpDiff (c := 0) ha (by decide)))) ?he) q
    rw [iL_len, Nat.xor_zero]

theorem ok_spot (A : At K mg "spot_of" s_spot_of) (D_places_of : Dfn P w K mg base 1 "places_of" p_places_of spPlaces) (mz_range : mg "range" = none) : Dfn P w K mg base 2 "spot_of" p_spot_of spSpot := by
  refine dfn_ok A sc_spot_of (fun _ _ _ _ _ _ us hl => match us, hl with | [_, _], _ => rfl) (fun vs H Q E h => ?_) (fun f cdv A outer s H vs Q E hr h => ?_)
  · obtain ⟨b, n, rfl, _⟩ := h
    rfl
  · obtain ⟨b, n, rfl, h4, h32, hn, q⟩ := h
    have hpl := pl_le h32
    refine ⟨_, (pss_cons (ps_set (i := 2) sc_spot_of.nd rfl (Or.inl rfl) pe_int)
  (pss_cons (ps_for PassesOwn.never rfl (pi_range1 (by rfl) mz_range (pa_cons (pe_d D_places_of (hr.mono (by decide)) (pa_cons (pv 0) pa_nil)) pa_nil)) (pg_name (i := 3) sc_spot_of.nd rfl (Or.inl rfl))
    (pss_one (ps_if (show PT _ _ (tTr K _) from pt_truth (pe_op op_and (pe_op op_shr (pv 1) (pv 3)) pe_int) (by intro _; rfl))
    (pss_one (ps_set (i := 2) sc_spot_of.nd rfl (Or.inl rfl) (pe_op op_xor (pv 2) (pv 3))))
    pss_nil)))
  (pss_one (ps_ret (pv 2))))), ?_⟩
    refine' q_asg (v := ?v2) ?e2 fun H2 e2 => ?_
    case e2 => walk_at "ev"
    refine q_forR1 (n := ((pl b : Nat) : Int)) (by walk_at "ea") (by omega) (fun i σ' H' => ∃ k, σ' = [some (.int (b : Int)), some (.int (n : Int)), some (.int ((spotN i n : Nat) : Int)), k] ∧ Ex H H') (fun H3 e3 => ⟨none, rfl, e2.trans e3⟩) ?hs ?hd
    case hs =>
      rintro i σ' H' hi ⟨k, rfl, eH⟩
      refine s_if (et_bit (n := n) (p := i) (ev_var rfl) (ev_var rfl)) (fun hb H3 e3 => ?_) (fun hb H3 e3 => ?_)
      · refine s_asg (ev_xor (a := spotN i n) (b := i) (ev_var rfl) (ev_var rfl)) fun H4 e4 => ⟨some (.int (i : Int)), ?_, (eH.trans e3).trans e4⟩
        rw [spot_succ, hb]
        rfl
      · refine ⟨some (.int (i : Int)), ?_, eH.trans e3⟩
        rw [spot_succ, hb]
        rw [if_neg (by decide), Nat.xor_zero]
        rfl
    case hd =>
      rintro σ' H' ⟨k, rfl, eH⟩
      rw [Int.toNat_natCast]
      exact s_ret (ev_var rfl) fun H3 e3 => q H3 (eH.trans e3)

theorem ok_flipped (A : At K mg "flipped" s_flipped) : Dfn P w K mg base 1 "flipped" p_flipped (spFlip K) := by
  refine dfn_ok A sc_flipped (fun _ _ _ _ _ _ us hl => match us, hl with | [_, _], _ => rfl) (fun vs H Q E h => ?_) (fun f cdv A outer s H vs Q E hr h => ?_)
  · obtain ⟨n, a, ps, rfl, _⟩ := h
    rfl
  · obtain ⟨n, a, ps, rfl, hS, hp, q⟩ := h
    refine ⟨_, (pss_cons (ps_for PassesOwn.never rfl (show PI _ _ _ (iList K _) from pi_list (pv 1)) (pg_name (i := 2) sc_flipped.nd rfl (Or.inl rfl))
    (pss_one (ps_set (i := 0) sc_flipped.nd rfl (Or.inl rfl) (pe_op op_xor (pv 0) (pe_op op_shl pe_int (pv 2))))))
  (pss_one (ps_ret (pv 0)))), ?_⟩
    refine q_forLn (xs := (iL ps).map V.int) (a := a) (ev_var rfl) hS (fun i σ' H' => ∃ k, σ' = [some (.int ((flip n (ps.take i) : Nat) : Int)), some (.ref a), k] ∧ Ex H H') (fun H3 e3 => ⟨none, rfl, e3⟩) (fun i σ' H' _ ⟨_, _, eH⟩ => ex_l eH hS) ?hs ?hd
    case hs =>
      rintro i x σ' H' hi ⟨k, rfl, eH⟩
      obtain ⟨m, hm, rfl⟩ := iL_at hi
      have hm64 := hp m (List.mem_of_getElem? hm)
      refine s_asg (ev_xor (a := flip n (ps.take i)) (b := 1 * 2 ^ m) (ev_var rfl) (ev_shl (a := 1) (p := m) ev_c (ev_var rfl) (by decide) (by omega))) fun H4 e4 => ⟨some (.int (m : Int)), ?_, eH.trans e4⟩
      have e : ps.take (i + 1) = ps.take i ++ [m] := by rw [List.take_add_one, hm]; rfl
      rw [e, flip_append, Nat.one_mul]
      rfl
    case hd =>
      rintro σ' H' ⟨k, rfl, eH⟩
      rw [iL_len, List.take_of_length_le (Nat.le_refl _)]
      exact s_ret (ev_var rfl) fun H3 e3 => q H3 (eH.trans e3)

theorem ok_coded (A : At K mg "coded" s_coded) (D_data_places : Dfn P w K mg base 2 "data_places" p_data_places (spList dtN)) (D_check_places : Dfn P w K mg base 2 "check_places" p_check_places (spList ckN)) (D_spot_of : Dfn P w K mg base 2 "spot_of" p_spot_of spSpot)
    (D_flipped : Dfn P w K mg base 1 "flipped" p_flipped (spFlip K)) (D_ones_in : Dfn P w K mg base 2 "ones_in" p_ones_in spOnes) (mz_enumerate : mg "enumerate" = none) : Dfn P w K mg base 3 "coded" p_coded spCod := by
  refine dfn_ok A sc_coded (fun _ _ _ _ _ _ us hl => match us, hl with | [_, _], _ => rfl) (fun vs H Q E h => ?_) (fun f cdv A outer s H vs Q E hr h => ?_)
  · obtain ⟨b, v, rfl, _⟩ := h
    rfl
  · obtain ⟨b, v, rfl, h4, h32, hv, q⟩ := h
    have hpl := pl_le h32
    have hlen := dt_len b (by omega) h4
    have p40 : 2 ^ pl b ≤ 2 ^ 40 := Nat.pow_le_pow_right (by decide) (by omega)
    have c0 : cod0 b v < 2 ^ 40 := Nat.lt_of_lt_of_le (cod0_lt h4 h32) p40
    have c1 : cod1 b v < 2 ^ 40 := Nat.lt_of_lt_of_le (cod1_lt h4 h32) p40
    refine ⟨_, (pss_cons (ps_set (i := 2) sc_coded.nd rfl (Or.inl rfl) pe_int)
  (pss_cons (ps_for PassesOwn.never rfl (show PI _ _ _ (iEnum K _) from pi_enum (by rfl) mz_enumerate (pa_cons (pe_d D_data_places (hr.mono (by decide)) (pa_cons (pv 0) pa_nil)) pa_nil)) (show PG _ _ (gTup K 2 _) from pg_tup rfl (pgs_cons (pg_name (i := 3) sc_coded.nd rfl (Or.inl rfl)) (pgs_cons (pg_name (i := 4) sc_coded.nd rfl (Or.inl rfl)) pgs_nil)))
    (pss_one (ps_set (i := 2) sc_coded.nd rfl (Or.inl rfl) (pe_op op_or (pv 2) (pe_op op_shl (pe_op op_and (pe_op op_shr (pv 1) (pv 3)) pe_int) (pv 4))))))
  (pss_cons (ps_set (i := 5) sc_coded.nd rfl (Or.inr rfl) (pe_d D_spot_of (hr.mono (by decide)) (pa_cons (pv 0) (pa_cons (pv 2) pa_nil))))
  (pss_cons (ps_set (i := 2) sc_coded.nd rfl (Or.inl rfl) (pe_d D_flipped (hr.mono (by decide)) (pa_cons (pv 2) (pa_cons (pe_lc (own := [("place", 4)]) (g := gName 4) rfl sc_coded.nd (show PI _ _ _ (iList K _) from pi_list (pe_d D_check_places (hr.mono (by decide)) (pa_cons (pv 0) pa_nil))) (blkOk_by (N := N_coded) (sc := defScope s_coded) (by decide +kernel)) (fun _ _ _ _ _ => (pg_name (i := 4) sc_coded.nd rfl (Or.inl rfl))) (fun _ _ _ _ _ => (pts_one (show PT _ _ (tTr K _) from pt_truth (pe_op op_and (pv 5) (pv 4)) (by intro _; rfl)))) (fun _ _ _ _ _ => (pv 4))) pa_nil))))
  (pss_one (ps_ret (pe_op op_or (pv 2) (pe_op op_and (pe_d D_ones_in (hr.mono (by decide)) (pa_cons (pv 2) pa_nil)) pe_int)))))))), ?_⟩
    refine' q_asg (v := ?v2) ?e2 fun H2 e2 => ?_
    case e2 => walk_at "ev"
    refine q_forE (xs := (iL (dtN b)).map V.int) (el_call (ea_cons (ev_var rfl) ea_nil) (SpList (f := dtN) h4 h32)) (fun p i σ' H' => ∃ u3 u4, σ' = [some (.int (b : Int)), some (.int (v : Int)), some (.int ((flip 0 ((bs i v).map (dt b)) : Nat) : Int)), u3, u4, none] ∧ Ex H H' ∧ H' p = some (.lst ((iL (dtN b)).map V.int))) (fun p H1 np e1 hp => ⟨none, none, rfl, e2.trans e1, hp⟩) (fun p i σ' H' _ ⟨_, _, _, _, hp⟩ => sq_of hp) ?hs ?hd
    case hs =>
      rintro p i x σ' H' hi ⟨u3, u4, rfl, eH, hp⟩ T nT
      obtain ⟨m, hm, rfl⟩ := iL_at hi
      have hib : i < b := by
        have := (List.getElem?_eq_some_iff.mp hm).1
        omega
      have em : m = dt b i := Option.some.inj (hm.symm.trans (dt_at h4 h32 hib))
      have eT : Ex H' (upd H' T (.tup [.int ((i : Nat) : Int), .int (m : Int)])) := Ex.new nT
      have hm64 : m < 64 := by
        have := (dt_mem h4 h32 hib).1
        omega
      refine s_asg (ev_or (a := flip 0 ((bs i v).map (dt b))) (b := (v.testBit i).toNat * 2 ^ m) (ev_var rfl) (ev_shl (a := (v.testBit i).toNat) (p := m) (ev_bit (n := v) (p := i) (ev_var rfl) (ev_var rfl)) (ev_var rfl) (by cases v.testBit i <;> decide) (by omega))) fun H4 e4 => ?_
      refine ⟨some (.int (i : Int)), some (.int (m : Int)), ?_, (eH.trans eT).trans e4, e4 _ _ (eT _ _ hp)⟩
      have key : flip 0 ((bs i v).map (dt b)) ||| (v.testBit i).toNat * 2 ^ m = flip 0 ((bs (i + 1) v).map (dt b)) := by
        rw [bs_succ, List.map_append, flip_append]
        cases hb : v.testBit i with
        | true =>
          rw [if_pos rfl]
          show _ ||| 1 * 2 ^ m = _ ^^^ 2 ^ dt b i
          rw [Nat.one_mul, em, or_xor]
          rw [tb_flip_nd (ones_nodup h4 h32 (by omega)), decide_eq_false]
          · simp
          · intro z
            obtain ⟨j, hj, e⟩ := List.mem_map.mp z
            have hj := (bs_mem.mp hj).1
            have := dt_inj h4 h32 (by omega) hib e
            omega
        | false =>
          rw [if_neg (by decide)]
          show _ ||| 0 * 2 ^ m = _
          rw [Nat.zero_mul, Nat.or_zero]
          rfl
      rw [key]
      rfl
    case hd =>
      rintro p σ' H' ⟨u3, u4, rfl, eH, hp⟩
      rw [iL_len, hlen]
      show tSeq _ _ _ ([some (.int (b : Int)), some (.int (v : Int)), some (.int ((cod0 b v : Nat) : Int)), u3, u4, none] : L2.St) H'
      refine q_asg (ev_call (ea_cons (ev_var rfl) (ea_cons (ev_var rfl) ea_nil)) (SpSpot h4 h32 c0)) fun H3 e3 => ?_
      refine q_asg (ev_is (ev_callL2 (sp := spFlip K) (z := .int ((cod1 b v : Nat) : Int)) (ev_var rfl) (el_is (ys := (iL (cksN b (spotN (pl b) (cod0 b v)))).map V.int) (el_lcL' (l := ckN b) (fun m => (spotN (pl b) (cod0 b v) &&& m) != 0) (fun m => m) (el_call (ea_cons (ev_var rfl) ea_nil) (SpList (f := ckN) h4 h32)) ?sz (fun _ => rfl) (fun m hm H1 e1 => ?tt) (fun m hm H1 e1 _ => ev_var rfl)) ?lst) (fun p' H1 e1 hp1 => ?sp)) rfl) fun H4 e4 => ?_
      case sz =>
        unfold ckN
        have := List.length_filter_le isPw (List.range (pl b))
        rw [List.length_range] at this
        omega
      case tt =>
        refine et_is (et_truI (ev_and (a := spotN (pl b) (cod0 b v)) (b := m) (ev_var rfl) (ev_var rfl))) ?_
        cases e : (spotN (pl b) (cod0 b v) &&& m) <;> rfl
      case lst => rw [List.map_id']; rfl
      case sp => exact SpFlip (sq_of hp1) fun z hz => by have := (cks_lt _ _ z hz).1; omega
      refine s_ret (ev_is (ev_or (a := cod1 b v) (b := (bs 40 (cod1 b v)).length &&& 1) (ev_var rfl) (ev_and (a := (bs 40 (cod1 b v)).length) (b := 1) (ev_call (ea_cons (ev_var rfl) ea_nil) (SpOnes c1)) ev_c)) ?_) fun H5 e5 => q H5 (((eH.trans e3).trans e4).trans e5)
      rw [cod_end h4 h32]

theorem ok_value_in (A : At K mg "value_in" s_value_in) (D_data_places : Dfn P w K mg base 2 "data_places" p_data_places (spList dtN)) (mz_enumerate : mg "enumerate" = none) (mz_sum : mg "sum" = none) : Dfn P w K mg base 3 "value_in" p_value_in spVal := by
  refine dfn_ok A sc_value_in (fun _ _ _ _ _ _ us hl => match us, hl with | [_, _], _ => rfl) (fun vs H Q E h => ?_) (fun f cdv A outer s H vs Q E hr h => ?_)
  · obtain ⟨b, v, rfl, _⟩ := h
    rfl
  · obtain ⟨b, n, rfl, h4, h32, q⟩ := h
    have hlen := dt_len b (by omega) h4
    refine ⟨_, (pss_one (ps_ret (pe_callB (show CallR _ _ (rSum K) from (cr_sum rfl)) (by rfl) mz_sum (by decide +kernel) (pa_cons (pe_lc (own := [("at", 2), ("place", 3)]) (tt := tYes) rfl sc_value_in.nd (show PI _ _ _ (iEnum K _) from pi_enum (by rfl) mz_enumerate (pa_cons (pe_d D_data_places (hr.mono (by decide)) (pa_cons (pv 0) pa_nil)) pa_nil)) (blkOk_by (N := N_value_in) (sc := defScope s_value_in) (by decide +kernel)) (fun _ _ _ _ _ => (show PG _ _ (gTup K 2 _) from pg_tup rfl (pgs_cons (pg_name (i := 2) sc_value_in.nd rfl (Or.inl rfl)) (pgs_cons (pg_name (i := 3) sc_value_in.nd rfl (Or.inl rfl)) pgs_nil)))) (fun _ _ _ _ _ => pts_nil) (fun _ _ _ _ _ => (pe_op op_shl (pe_op op_and (pe_op op_shr (pv 1) (pv 3)) pe_int) (pv 2)))) pa_nil)))), ?_⟩
    refine s_ret (ev_is (ev_sumL (ns := iL ((List.range b).map fun i => (n.testBit (dt b i)).toNat * 2 ^ i)) (el_is (el_lcE (xs := (iL (dtN b)).map V.int) (fun _ => true) (fun i => V.int (((n.testBit (dt b i)).toNat * 2 ^ i : Nat) : Int)) (el_call (ea_cons (ev_var rfl) ea_nil) (SpList (f := dtN) h4 h32)) (by rw [iL_len]; omega) (fun _ _ => rfl) (fun i x H1 e1 hi => fun H2 _ Q q => q H2 (Ex.refl H2)) (fun i x H1 e1 hi _ => ?ee)) ?ll)) ?vv) q
    case ee =>
      obtain ⟨m, hm, rfl⟩ := iL_at hi
      have hib : i < b := by
        have := (List.getElem?_eq_some_iff.mp hm).1
        omega
      have em : m = dt b i := Option.some.inj (hm.symm.trans (dt_at h4 h32 hib))
      subst em
      exact ev_shl (a := (n.testBit (dt b i)).toNat) (p := i) (ev_bit (n := n) (p := dt b i) (ev_var rfl) (ev_var rfl)) (ev_var rfl) (by cases n.testBit (dt b i) <;> decide) (by omega)
    case ll =>
      rw [iL_len, hlen, given_ints, List.filter_eq_self.mpr (fun _ _ => rfl)]
      unfold iL
      rw [List.map_map (f := fun i => (n.testBit (dt b i)).toNat * 2 ^ i)]
      rfl
    case vv =>
      rw [sum_iL]
      have h : ∀ l : List Nat, (l.map fun i => (n.testBit (dt b i)).toNat * 2 ^ i).sum = rowOf (l.filter fun i => n.testBit (dt b i)) := by
        intro l
        induction l with
        | nil => rfl
        | cons a r ih =>
          rw [List.map_cons, List.sum_cons, ih, List.filter_cons]
          cases e : n.testBit (dt b a) with
          | true =>
            rw [if_pos rfl]
            show 1 * 2 ^ a + _ = rowOf (a :: _)
            unfold rowOf
            rw [Nat.one_mul, List.map_cons, List.sum_cons]
          | false =>
            rw [if_neg (by decide)]
            show 0 * 2 ^ a + _ = _
            omega
      rw [h]
      rfl

theorem ok_state (A : At K mg "state_of" s_state_of) (D_spot_of : Dfn P w K mg base 2 "spot_of" p_spot_of spSpot) (D_ones_in : Dfn P w K mg base 2 "ones_in" p_ones_in spOnes) (D_places_of : Dfn P w K mg base 1 "places_of" p_places_of spPlaces) : Dfn P w K mg base 3 "state_of" p_state_of spState := by
  refine dfn_ok A sc_state_of (fun _ _ _ _ _ _ us hl => match us, hl with | [_, _], _ => rfl) (fun vs H Q E h => ?_) (fun f cdv A outer s H vs Q E hr h => ?_)
  · obtain ⟨b, v, rfl, _⟩ := h
    rfl
  · obtain ⟨b, n, rfl, h4, h32, hn, q⟩ := h
    have hpl := pl_le h32
    have n40 : n < 2 ^ 40 := Nat.lt_of_lt_of_le hn (Nat.pow_le_pow_right (by decide) (by omega))
    refine ⟨_, (pss_cons (ps_set (i := 2) sc_state_of.nd rfl (Or.inl rfl) (pe_d D_spot_of (hr.mono (by decide)) (pa_cons (pv 0) (pa_cons (pv 1) pa_nil))))
  (pss_cons (ps_if (show PT _ _ (tTr K _) from pt_truth (pe_op op_and (pe_d D_ones_in (hr.mono (by decide)) (pa_cons (pv 1) pa_nil)) pe_int) (by intro _; rfl))
    (pss_one (ps_ret (pe_ifExp (pt_cmpR op_lt (pv 2) (pe_d D_places_of (hr.mono (by decide)) (pa_cons (pv 0) pa_nil)) (by first | exact nomark _ | rfl)) (pe_tup (pa_cons pe_str (pa_cons (pv 2) pa_nil))) (pe_tup (pa_cons pe_str (pa_cons pe_non pa_nil))))))
    pss_nil)
  (pss_one (ps_ret (pe_ifExp (pt_cmpR op_eq (pv 2) pe_int (by first | exact nomark _ | rfl)) (pe_tup (pa_cons pe_str (pa_cons pe_non pa_nil))) (pe_tup (pa_cons pe_str (pa_cons pe_non pa_nil)))))))), ?_⟩
    refine q_asg (ev_call (ea_cons (ev_var rfl) (ea_cons (ev_var rfl) ea_nil)) (SpSpot h4 h32 n40)) fun H2 e2 => ?_
    have hpar : ((((bs 40 n).length &&& 1 : Nat) : Int) != 0) = parB (pl b) n := by
      rw [bs_more hn (by omega), Nat.and_one_is_mod]
      unfold parB
      rcases Nat.mod_two_eq_zero_or_one (bs (pl b) n).length with h | h <;> rw [h] <;> rfl
    refine q_when (b := parB (pl b) n) (et_is (et_truI (ev_and (a := (bs 40 n).length) (b := 1) (ev_call (ea_cons (ev_var rfl) ea_nil) (SpOnes n40)) ev_c)) hpar) (fun hb H3 e3 => ?_) (fun hb H3 e3 => ?_)
    · refine s_retU (eu_is (ys := stV b n) (eu_ite (et_test (ev_op (ev_var rfl) (ev_call (ea_cons (ev_var rfl) ea_nil) (SpPlaces h4 h32)) rv_I0)) (eu_tup (by walk_at "ea") (by show 2 ≤ 100000; decide)) (eu_tup (by walk_at "ea") (by decide))) ?_) fun p H4 np e4 hp => q p H4 (fresh_back (e2.trans e3) np) ((e2.trans e3).trans e4) hp
      unfold stV
      rw [if_pos hb]
      by_cases h : spotN (pl b) n < pl b
      · rw [if_pos h, if_pos (decide_eq_true (by omega))]
      · rw [if_neg h, if_neg (by rw [decide_eq_false (by omega)]; decide)]
    · refine s_retU (eu_is (ys := stV b n) (eu_ite (et_test (ev_op (ev_var rfl) ev_c (rv_eq rfl))) (eu_tup (by walk_at "ea") (by decide)) (eu_tup (by walk_at "ea") (by decide))) ?_) fun p H4 np e4 hp => q p H4 (fresh_back (e2.trans e3) np) ((e2.trans e3).trans e4) hp
      unfold stV
      rw [hb, if_neg (c := false = true) (by decide)]
      by_cases h : spotN (pl b) n = 0
      · rw [if_pos h, if_pos (decide_eq_true (by rw [h]; rfl))]
      · rw [if_neg h, if_neg]
        intro z
        have z := of_decide_eq_true z
        injection z with z
        omega

theorem ok_mended (A : At K mg "mended" s_mended) (D_state_of : Dfn P w K mg base 3 "state_of" p_state_of spState) (D_flipped : Dfn P w K mg base 1 "flipped" p_flipped (spFlip K)) : Dfn P w K mg base 4 "mended" p_mended spMended := by
  refine dfn_ok A sc_mended (fun _ _ _ _ _ _ us hl => match us, hl with | [_, _], _ => rfl) (fun vs H Q E h => ?_) (fun f cdv A outer s H vs Q E hr h => ?_)
  · obtain ⟨b, v, rfl, _⟩ := h
    rfl
  · obtain ⟨b, n, rfl, h4, h32, hn, q⟩ := h
    have hpl := pl_le h32
    refine ⟨_, (pss_cons (ps_asg (pe_d D_state_of (hr.mono (by decide)) (pa_cons (pv 0) (pa_cons (pv 1) pa_nil))) (show PG _ _ (gTup K 2 _) from pg_tup rfl (pgs_cons (pg_name (i := 2) sc_mended.nd rfl (Or.inl rfl)) (pgs_cons (pg_name (i := 3) sc_mended.nd rfl (Or.inl rfl)) pgs_nil))))
  (pss_cons (ps_if (pt_cmpR op_eq (pv 2) pe_str (by first | exact nomark _ | rfl))
    (pss_one (ps_ret pe_non))
    pss_nil)
  (pss_one (ps_ret (pe_ifExp (pt_cmpR op_isN (pv 3) pe_non (by first | exact nomark _ | rfl)) (pv 1) (pe_d D_flipped (hr.mono (by decide)) (pa_cons (pv 1) (pa_cons (pe_lst (pa_cons (pv 3) pa_nil)) pa_nil)))))))), ?_⟩
    refine eu_call (ea_cons (ev_var rfl) (ea_cons (ev_var rfl) ea_nil)) (SpState h4 h32 hn) H (Ex.refl H) _ fun p H2 np e2 hp => ?_
    rcases stV_cases b n with ⟨hs, hm, hlt⟩ | ⟨hs, hm⟩ | ⟨hs, hm⟩ <;> rw [hs] at hp <;> rw [hm] at q
    · refine ⟨p, _, rfl, st_of hp, rfl, _, _, rfl, _, _, rfl, rfl, ?_⟩
      refine q_when (b := false) (et_is (et_test (ev_op (ev_var rfl) ev_c (rv_eq rfl))) (by decide)) (fun hb => Bool.noConfusion hb) fun _ H3 e3 => ?_
      refine s_ret (ev_if (b := false) (et_is (et_test (ev_op (ev_var rfl) ev_c rv_isN)) rfl) (fun hb => Bool.noConfusion hb) fun _ => ev_callL2 (ev_var rfl) (el_lst (ea_cons (ev_var rfl) ea_nil) (by show 1 ≤ 100000; decide)) fun p1 H4 e4 hp1 => SpFlip (ps := [spotN (pl b) n]) (sq_of hp1) fun z hz => by rw [List.mem_singleton.mp hz]; omega) fun H4 e4 => q H4 ((e2.trans e3).trans e4)
    · refine ⟨p, _, rfl, st_of hp, rfl, _, _, rfl, _, _, rfl, rfl, ?_⟩
      refine q_when (b := true) (et_is (et_test (ev_op (ev_var rfl) ev_c (rv_eq rfl))) (by decide)) (fun _ H3 e3 => s_ret ev_c fun H4 e4 => q H4 ((e2.trans e3).trans e4)) fun hb => Bool.noConfusion hb
    · refine ⟨p, _, rfl, st_of hp, rfl, _, _, rfl, _, _, rfl, rfl, ?_⟩
      refine q_when (b := false) (et_is (et_test (ev_op (ev_var rfl) ev_c (rv_eq rfl))) (by decide)) (fun hb => Bool.noConfusion hb) fun _ H3 e3 => ?_
      refine s_ret (ev_if (b := true) (et_is (et_test (ev_op (ev_var rfl) ev_c rv_isN)) rfl) (fun _ => ev_var rfl) fun hb => Bool.noConfusion hb) fun H4 e4 => q H4 ((e2.trans e3).trans e4)

theorem ok_minit {C : Addr} (A : AtM K C "__init__" "Memory.__init__" s_Memory___init__) (TM : MemC K C) (D_coded : Dfn P w K mg base 3 "coded" p_coded spCod) : Mdf P w K mg base CX0 4 C "__init__" p_Memory___init__ (spMInit C) := by
  refine mdf_ok A sc_Memory___init__ (fun _ _ _ _ _ _ us hl => match us, hl with | [_, _, _], _ => rfl) (fun vs H Q E h => ?_) (fun f cdv A outer s H vs Q E hr h => ?_)
  · obtain ⟨M, dx, c, b, rfl, _⟩ := h
    rfl
  · obtain ⟨M, dx, c, b, rfl, hM, hc, h4, h32, q⟩ := h
    refine ⟨_, (pss_cons (ps_fld (pv 0) (pv 1) rfl)
  (pss_cons (ps_fld (pv 0) (pv 2) rfl)
  (pss_one (ps_fld (pv 0) (pe_op op_rep (pe_lst (pa_cons (pe_d D_coded (hr.mono (by decide)) (pa_cons (pv 2) (pa_cons pe_int pa_nil))) pa_nil)) (pv 1)) rfl)))), ?_⟩
    refine ⟨_, rfl, _, rfl, M, C, dx, [], rfl, hM, TM.cl, TM.n1, by decide, ?_⟩
    refine ⟨_, rfl, _, rfl, M, C, dx, _, rfl, upd_same, TM.cl, TM.n2, by show 1 < 1000; decide, ?_⟩
    have hcod : Ev (tCall spCod [] E0 (tCons (tVar 2) (tCons (tC (.int 0)) tNil))) ([some (.ref M), some (.int (c : Int)), some (.int (b : Int))] : L2.St) _ (.int ((0 : Nat) : Int)) :=
      ev_is (ev_call (H := upd (upd H M (.ins C dx (putF "cells" (.int (c : Int)) []))) M (.ins C dx (putF "bits" (.int (b : Int)) (putF "cells" (.int (c : Int)) [])))) (ea_cons (ev_var rfl) (ea_cons ev_c ea_nil)) (SpCod (v := 0) h4 h32 (Nat.two_pow_pos b))) (by rw [cod_zero h4 h32])
    refine (el_repN (n := c) (lst1 hcod) (ev_var rfl) (by omega)) _ (Ex.refl _) _ fun R H3 nR e3 hR => ⟨_, rfl, M, C, dx, _, rfl, e3 _ _ upd_same, TM.cl, TM.n3, by show _ < 1000; exact Nat.lt_of_le_of_lt (putF_len2 b c) (by decide), ?_⟩
    have hRM : R ≠ M := fun z => by rw [z, upd_same] at nR; cases nR
    rw [upd_ne hRM, upd_ne hRM] at nR
    refine q R _ nR (fun o u h1 h2 => ?_) (by rw [upd_same, mf_put]) ?_
    · rw [upd_ne h1]
      exact e3 _ _ (by rw [upd_ne h1, upd_ne h1]; exact h2)
    · rw [upd_ne hRM, hR]
      congr 2
      have : ∀ n : Nat, List.replicate n (V.int ((0 : Nat) : Int)) = (iL (List.replicate n 0)).map V.int := fun n => by
        unfold iL
        rw [List.map_replicate, List.map_replicate]
      exact this c
theorem ok_mwrite {C : Addr} (A : AtM K C "write" "Memory.write" s_Memory_write) (TM : MemC K C) (D_coded : Dfn P w K mg base 3 "coded" p_coded spCod) : Mdf P w K mg base CX0 4 C "write" p_Memory_write (spMWrite C) := by
  refine mdf_ok A sc_Memory_write (fun _ _ _ _ _ _ us hl => match us, hl with | [_, _, _], _ => rfl) (fun vs H Q E h => ?_) (fun f cdv A outer s H vs Q E hr h => ?_)
  · obtain ⟨M, R, c, b, i, v, rows, rfl, _⟩ := h
    rfl
  · obtain ⟨M, R, c, b, i, v, rows, rfl, m, hi, h4, h32, hv, q⟩ := h
    refine ⟨_, (pss_one (ps_asg (pe_d D_coded (hr.mono (by decide)) (pa_cons (show PE _ _ (tFld K _ _) from pe_fld (pv 0) rfl) (pa_cons (pv 2) pa_nil))) (pg_sub (show PE _ _ (tFld K _ _) from pe_fld (pv 0) rfl) (pv 1) set_list))), ?_⟩
    exact s_setL (l := R) (j := i) m.rw_ (ev_call (ea_cons (ev_mbits TM (ev_var rfl) m) (ea_cons (ev_var rfl) ea_nil)) (SpCod h4 h32 hv)) (ev_mrows TM (ev_var rfl) m) (ev_var rfl) (by rw [iL_len, m.len]; exact hi) fun H1 e1 => q _ (Kp1.of e1).u (by rw [upd_same, iL_set])
theorem ok_mflip {C : Addr} (A : AtM K C "flip" "Memory.flip" s_Memory_flip) (TM : MemC K C) (D_flipped : Dfn P w K mg base 1 "flipped" p_flipped (spFlip K)) : Mdf P w K mg base CX0 2 C "flip" p_Memory_flip (spMFlip C) := by
  refine mdf_ok A sc_Memory_flip (fun _ _ _ _ _ _ us hl => match us, hl with | [_, _, _], _ => rfl) (fun vs H Q E h => ?_) (fun f cdv A outer s H vs Q E hr h => ?_)
  · obtain ⟨M, R, c, b, i, p, rows, rfl, _⟩ := h
    rfl
  · obtain ⟨M, R, c, b, i, p, rows, rfl, m, hi, hp, q⟩ := h
    refine ⟨_, (pss_one (ps_asg (pe_d D_flipped (hr.mono (by decide)) (pa_cons (pe_ix (show IxR _ (rIxL K) from ix_list) (show PE _ _ (tFld K _ _) from pe_fld (pv 0) rfl) (pv 1) (fun _ _ => rfl)) (pa_cons (pe_lst (pa_cons (pv 2) pa_nil)) pa_nil))) (pg_sub (show PE _ _ (tFld K _ _) from pe_fld (pv 0) rfl) (pv 1) set_list))), ?_⟩
    exact s_setL (l := R) (j := i) m.rw_ (ev_callL2 (ev_ixI (ev_mrows TM (ev_var rfl) m) (ev_var rfl) (sq_of m.rw_) (atI_nat (m.at_ hi))) (lst1 (ev_var rfl)) fun p1 H1 e1 hp1 => SpFlip (ps := [p]) (sq_of hp1) fun z hz => by rw [List.mem_singleton.mp hz]; exact hp) (ev_mrows TM (ev_var rfl) m) (ev_var rfl) (by rw [iL_len, m.len]; exact hi) fun H1 e1 => q _ (Kp1.of e1).u (by rw [upd_same, iL_set])
theorem ok_mrow {C : Addr} (A : AtM K C "row_at" "Memory.row_at" s_Memory_row_at) (TM : MemC K C) : Mdf P w K mg base CX0 1 C "row_at" p_Memory_row_at (spMRow C) := by
  refine mdf_ok A sc_Memory_row_at (fun _ _ _ _ _ _ us hl => match us, hl with | [_, _], _ => rfl) (fun vs H Q E h => ?_) (fun f cdv A outer s H vs Q E hr h => ?_)
  · obtain ⟨M, R, c, b, i, rows, rfl, _⟩ := h
    rfl
  · obtain ⟨M, R, c, b, i, rows, rfl, m, hi, q⟩ := h
    refine ⟨_, (pss_one (ps_ret (pe_ix (show IxR _ (rIxL K) from ix_list) (show PE _ _ (tFld K _ _) from pe_fld (pv 0) rfl) (pv 1) (fun _ _ => rfl)))), ?_⟩
    exact s_ret (ev_ixI (ev_mrows TM (ev_var rfl) m) (ev_var rfl) (sq_of m.rw_) (atI_nat (m.at_ hi))) q
theorem ok_mstate {C : Addr} (A : AtM K C "state_at" "Memory.state_at" s_Memory_state_at) (TM : MemC K C) (D_state_of : Dfn P w K mg base 3 "state_of" p_state_of spState) : Mdf P w K mg base CX0 4 C "state_at" p_Memory_state_at (spMState C) := by
  refine mdf_ok A sc_Memory_state_at (fun _ _ _ _ _ _ us hl => match us, hl with | [_, _], _ => rfl) (fun vs H Q E h => ?_) (fun f cdv A outer s H vs Q E hr h => ?_)
  · obtain ⟨M, R, c, b, i, rows, rfl, _⟩ := h
    rfl
  · obtain ⟨M, R, c, b, i, rows, rfl, m, hi, h4, h32, hok, q⟩ := h
    refine ⟨_, (pss_one (ps_ret (pe_d D_state_of (hr.mono (by decide)) (pa_cons (show PE _ _ (tFld K _ _) from pe_fld (pv 0) rfl) (pa_cons (pe_ix (show IxR _ (rIxL K) from ix_list) (show PE _ _ (tFld K _ _) from pe_fld (pv 0) rfl) (pv 1) (fun _ _ => rfl)) pa_nil))))), ?_⟩
    exact s_retU (eu_call (ea_cons (ev_mbits TM (ev_var rfl) m) (ea_cons (ev_ixI (ev_mrows TM (ev_var rfl) m) (ev_var rfl) (sq_of m.rw_) (atI_nat (m.at_ hi))) ea_nil)) (SpState h4 h32 hok.at_)) q
theorem ok_mword {C CE : Addr} (A : AtM K C "_word_at" "Memory._word_at" s_Memory__word_at) (TM : MemC K C) (Z_Unmendable : ErrC P w K mg base "Unmendable" CE "place" "place") (D_mended : Dfn P w K mg base 4 "mended" p_mended spMended) : Mdf P w K mg base (L2.CX P w) 5 C "_word_at" p_Memory__word_at (spMWord C CE) := by
  refine mdf_okX A sc_Memory__word_at (fun _ _ _ _ _ _ us hl => match us, hl with | [_, _], _ => rfl) (fun vs H Q E h => ?_) (fun f cdv A outer s H vs Q E hr h => ?_)
  · obtain ⟨M, R, c, b, i, rows, rfl, _⟩ := h
    rfl
  · obtain ⟨M, R, c, b, i, rows, rfl, m, hi, hc, h4, h32, hok, q, qE⟩ := h
    refine ⟨_, (pss_cons (ps_set (i := 2) sc_Memory__word_at.nd rfl (Or.inl rfl) (pe_d D_mended (hr.mono (by decide)) (pa_cons (show PE _ _ (tFld K _ _) from pe_fld (pv 0) rfl) (pa_cons (pe_ix (show IxR _ (rIxL K) from ix_list) (show PE _ _ (tFld K _ _) from pe_fld (pv 0) rfl) (pv 1) (fun _ _ => rfl)) pa_nil))))
  (pss_cons (ps_if (pt_cmpR op_isN (pv 2) pe_non (by first | exact nomark _ | rfl))
    (pss_one (ps_raiseE Z_Unmendable (hr.mono (by decide)) (takes_of rfl rfl rfl rfl) (pv 1)))
    pss_nil)
  (pss_one (ps_ret (pv 2))))), ?_⟩
    refine q_asg (v := oV (menO b (rows.getD i 0))) (ev_is (ev_call (ea_cons (ev_mbits TM (ev_var rfl) m) (ea_cons (ev_ixI (ev_mrows TM (ev_var rfl) m) (ev_var rfl) (sq_of m.rw_) (atI_nat (m.at_ hi))) ea_nil)) (SpMended h4 h32 hok.at_)) (menV_o _ _)) fun H1 e1 => ?_
    cases hm : menO b (rows.getD i 0) with
    | none =>
      refine q_when (b := true) (et_is (et_test (ev_op (ev_var rfl) ev_c rv_isN)) rfl) (fun _ H2 e2 => ?_) fun hb => Bool.noConfusion hb
      exact mk_sup (y := .int (i : Int)) (ev_var rfl) (Or.inr ⟨_, rfl, p512 (by omega)⟩) fun d H3 nd e3 hd => qE hm d H3 (fresh_back (e1.trans e2) nd) ((e1.trans e2).trans e3) hd
    | some wd =>
      refine q_when (b := false) (et_is (et_test (ev_op (ev_var rfl) ev_c rv_isN)) rfl) (fun hb => Bool.noConfusion hb) fun _ H2 e2 => ?_
      exact s_ret (ev_var rfl) fun H3 e3 => q wd H3 hm ((e1.trans e2).trans e3)
theorem ok_mread {C CE : Addr} (A : AtM K C "read" "Memory.read" s_Memory_read) (TM : MemC K C) (M_Memory__word_at : Mdf P w K mg base (L2.CX P w) 5 C "_word_at" p_Memory__word_at (spMWord C CE)) (D_value_in : Dfn P w K mg base 3 "value_in" p_value_in spVal) : Mdf P w K mg base (L2.CX P w) 6 C "read" p_Memory_read (spMRead C CE) := by
  have T_Memory := TM.cl
  refine mdf_okX A sc_Memory_read (fun _ _ _ _ _ _ us hl => match us, hl with | [_, _], _ => rfl) (fun vs H Q E h => ?_) (fun f cdv A outer s H vs Q E hr h => ?_)
  · obtain ⟨M, R, c, b, i, rows, rfl, _⟩ := h
    rfl
  · obtain ⟨M, R, c, b, i, rows, rfl, m, hi, hc, h4, h32, hok, q, qE⟩ := h
    refine ⟨_, (pss_one (ps_ret (pe_d D_value_in (hr.mono (by decide)) (pa_cons (show PE _ _ (tFld K _ _) from pe_fld (pv 0) rfl) (pa_cons (pe_mA M_Memory__word_at T_Memory (hr.mono (by decide)) (takes_of rfl rfl rfl rfl) (pv 0) (pa_cons (pv 1) pa_nil)) pa_nil))))), ?_⟩
    delta tRet tCall tCons
    refine (ev_mbits (σ := start N_Memory_read [.ref M, .int (i : Int)]) TM (ev_var (i := 0) rfl) m) H (Ex.refl H) _ fun H1 e1 => ?_
    obtain ⟨dx, ho⟩ := m.ob
    refine ⟨_, rfl, M, dx, _, rfl, e1 _ _ ho, mf_no R c b (by decide +kernel) (by decide +kernel) (by decide +kernel), _, rfl, M, R, c, b, i, rows, rfl, m.ex e1, hi, hc, h4, h32, hok, fun wd H2 hw e2 => ?_, fun hn d H2 nd e2 hd => qE hn d H2 (fresh_back e1 nd) (e1.trans e2) hd⟩
    exact (SpVal h4 h32) H2 (Ex.refl _) _ (fun H3 e3 => q wd H3 hw ((e1.trans e2).trans e3)) E0
theorem ok_mscrub {C CE : Addr} (A : AtM K C "scrub" "Memory.scrub" s_Memory_scrub) (TM : MemC K C) (M_Memory__word_at : Mdf P w K mg base (L2.CX P w) 5 C "_word_at" p_Memory__word_at (spMWord C CE)) : Mdf P w K mg base (L2.CX P w) 6 C "scrub" p_Memory_scrub (spMScrub C CE) := by
  have T_Memory := TM.cl
  refine mdf_okX A sc_Memory_scrub (fun _ _ _ _ _ _ us hl => match us, hl with | [_, _], _ => rfl) (fun vs H Q E h => ?_) (fun f cdv A outer s H vs Q E hr h => ?_)
  · obtain ⟨M, R, c, b, i, rows, rfl, _⟩ := h
    rfl
  · obtain ⟨M, R, c, b, i, rows, rfl, m, hi, hc, h4, h32, hok, q, qE⟩ := h
    refine ⟨_, (pss_cons (ps_set (i := 2) sc_Memory_scrub.nd rfl (Or.inl rfl) (pe_mA M_Memory__word_at T_Memory (hr.mono (by decide)) (takes_of rfl rfl rfl rfl) (pv 0) (pa_cons (pv 1) pa_nil)))
  (pss_cons (ps_set (i := 3) sc_Memory_scrub.nd rfl (Or.inl rfl) (pe_cmpR op_ne (pv 2) (pe_ix (show IxR _ (rIxL K) from ix_list) (show PE _ _ (tFld K _ _) from pe_fld (pv 0) rfl) (pv 1) (fun _ _ => rfl)) (by first | exact nomark _ | rfl)))
  (pss_cons (ps_asg (pv 2) (pg_sub (show PE _ _ (tFld K _ _) from pe_fld (pv 0) rfl) (pv 1) set_list))
  (pss_one (ps_ret (pv 3)))))), ?_⟩
    obtain ⟨dx, ho⟩ := id m.ob
    refine ⟨_, rfl, M, dx, _, rfl, ho, mf_no R c b (by decide +kernel) (by decide +kernel) (by decide +kernel), _, rfl, M, R, c, b, i, rows, rfl, m, hi, hc, h4, h32, hok, fun wd H2 hw e2 => ?_, fun hn d H2 nd e2 hd => qE hn d H2 nd e2 hd⟩
    have m2 := m.ex e2
    refine q_asg (v := .bl (!decide (wd = rows.getD i 0))) (ev_is (ev_op (ev_var rfl) (ev_ixI (ev_mrows TM (ev_var rfl) m2) (ev_var rfl) (sq_of m2.rw_) (atI_nat (m2.at_ hi))) (rv_ne rfl)) ?ne) fun H3 e3 => ?_
    case ne =>
      congr 2
      exact decide_eq_decide.mpr ⟨fun h => by injection h with h; omega, fun h => by rw [h]⟩
    have m3 := m2.ex e3
    refine q_setL (l := R) (j := i) m3.rw_ (ev_var rfl) (ev_mrows TM (ev_var rfl) m3) (ev_var rfl) (by rw [iL_len, m3.len]; exact hi) fun H4 e4 => ?_
    exact s_ret (ev_var rfl) fun H5 e5 => q wd H5 hw ((Kp1.of ((e2.trans e3).trans e4)).u.ex e5) (e5 _ _ (by rw [upd_same, iL_set]))
theorem ok_mall {C CE : Addr} (A : AtM K C "scrub_all" "Memory.scrub_all" s_Memory_scrub_all) (TM : MemC K C) (M_Memory_state_at : Mdf P w K mg base CX0 4 C "state_at" p_Memory_state_at (spMState C)) (M_scrub : Mdf P w K mg base (L2.CX P w) 6 C "scrub" p_Memory_scrub (spMScrub C CE)) (mz_range : mg "range" = none) : Mdf P w K mg base CX0 7 C "scrub_all" p_Memory_scrub_all (spMAll C) := by
  have T_Memory := TM.cl
  have M_Memory_scrub_0 := M_scrub.never
  refine mdf_ok A sc_Memory_scrub_all (fun _ _ _ _ _ _ us hl => match us, hl with | [_], _ => rfl) (fun vs H Q E h => ?_) (fun f cdv A outer s H vs Q E hr h => ?_)
  · obtain ⟨M, R, c, b, rows, rfl, _⟩ := h
    rfl
  · obtain ⟨M, R, c, b, rows, rfl, m, hc, h4, h32, hok, q⟩ := h
    refine ⟨_, (pss_cons (ps_set (i := 1) sc_Memory_scrub_all.nd rfl (Or.inl rfl) (pe_lst pa_nil))
  (pss_cons (ps_set (i := 2) sc_Memory_scrub_all.nd rfl (Or.inl rfl) (pe_lst pa_nil))
  (pss_cons (ps_for PassesOwn.never rfl (pi_range1 (by rfl) mz_range (pa_cons (show PE _ _ (tFld K _ _) from pe_fld (pv 0) rfl) pa_nil)) (pg_name (i := 3) sc_Memory_scrub_all.nd rfl (Or.inl rfl))
    (pss_cons (ps_asg (pe_m M_Memory_state_at T_Memory (hr.mono (by decide)) (pv 0) (pa_cons (pv 3) pa_nil)) (show PG _ _ (gTup K 2 _) from pg_tup rfl (pgs_cons (pg_name (i := 4) sc_Memory_scrub_all.nd rfl (Or.inl rfl)) (pgs_cons (pg_name (i := 5) sc_Memory_scrub_all.nd rfl (Or.inl rfl)) pgs_nil))))
  (pss_cons (ps_if (pt_cmpR op_eq (pv 4) pe_str (by first | exact nomark _ | rfl))
    (pss_cons (ps_expr (pe_m M_Memory_scrub_0 T_Memory (hr.mono (by decide)) (pv 0) (pa_cons (pv 3) pa_nil)))
  (pss_one (ps_expr (show PE _ _ (tBM K "list" _ _ _) from pe_bm PySem.F.plainAttrs_list PySem.F.slot_list_append PySem.F.type_list_append mt_append (pv 1) (pa_cons (pv 3) pa_nil)))))
    pss_nil)
  (pss_one (ps_if (pt_cmpR op_eq (pv 4) pe_str (by first | exact nomark _ | rfl))
    (pss_one (ps_expr (show PE _ _ (tBM K "list" _ _ _) from pe_bm PySem.F.plainAttrs_list PySem.F.slot_list_append PySem.F.type_list_append mt_append (pv 2) (pa_cons (pv 3) pa_nil))))
    pss_nil)))))
  (pss_one (ps_ret (pe_tup (pa_cons (pv 1) (pa_cons (pv 2) pa_nil)))))))), ?_⟩
    refine q_asgL (xs := []) (el_lst ea_nil (by decide)) fun p1 H1 n1 e1 h1 => ?_
    refine q_asgL (xs := []) (el_lst ea_nil (by decide)) fun p2 H2 n2 e2 h2 => ?_
    have m2 := m.ex (e1.trans e2)
    have n2' := fresh_back e1 n2
    have np : p1 ≠ p2 := fun z => by rw [z, n2] at h1; cases h1
    have r1 : p1 ≠ R := fun z => by rw [z, m.rw_] at n1; cases n1
    have r2 : p2 ≠ R := fun z => by rw [z, m.rw_] at n2'; cases n2'
    refine q_forR1 (n := (c : Int)) (ea_cons (ev_mcells TM (ev_var rfl) m2) ea_nil) (by omega) (fun k σ' H' => ∃ (u3 u4 u5 : Option V), σ' = [some (.ref M), some (.ref p1), some (.ref p2), u3, u4, u5] ∧ Kp1 R H H' ∧ H' R = some (.lst ((iL (scrubbed b rows k)).map V.int)) ∧ H' p1 = some (.lst ((iL (cellsOf b rows k "one")).map V.int)) ∧ H' p2 = some (.lst ((iL (cellsOf b rows k "more")).map V.int)))
      (fun H3 e3 => ⟨_, _, _, rfl, Kp1.of ((e1.trans e2).trans e3), by rw [scrubbed_zero]; exact e3 _ _ m2.rw_, e3 _ _ (e2 _ _ h1), e3 _ _ h2⟩) ?hs ?hd
    case hd =>
      rintro σ' H3 ⟨u3, u4, u5, rfl, kp, hR, hp1, hp2⟩
      rw [Int.toNat_natCast] at hR hp1 hp2
      refine s_retU (tup2 (ev_var rfl) (ev_var rfl)) fun t H4 nt e4 ht => q t p1 p2 H4 (kp.ex e4) (e4 _ _ hR) ?_ n1 n2' ht (e4 _ _ hp1) (e4 _ _ hp2) np
      cases e : H t with
      | none => rfl
      | some o =>
        by_cases z : t = R
        · rw [z, hR] at nt; cases nt
        · rw [kp _ _ z e] at nt; cases nt
    case hs =>
      rintro k σ' H3 hk ⟨u3, u4, u5, rfl, kp, hR, hp1, hp2⟩
      have hk' : k < c := by omega
      have hkr : k < rows.length := by rw [m.len]; exact hk'
      have m3 := m.put kp hR (scrubbed_len _ _ _)
      obtain ⟨dx, ho⟩ := id m3.ob
      have hrow : (scrubbed b rows k).getD k 0 = rows.getD k 0 := by rw [scrubbed_at hkr, if_neg (Nat.lt_irrefl _)]
      have l1 := cellsOf_len b rows k "one"
      have l2 := cellsOf_len b rows k "more"
      refine q_unp2 (x := .str (stO b (rows.getD k 0))) (y := stP b (rows.getD k 0)) (eu_meth (vs := [.int (k : Int)]) (ev_var rfl) ho (mf_no R c b (by decide +kernel) (by decide +kernel) (by decide +kernel)) (ea_cons (ev_var rfl) ea_nil) fun H4 e4 Q' q' E' => ⟨M, R, c, b, k, _, rfl, m3.ex e4, hk', h4, h32, scrubbed_ok hok, fun p H5 np' e5 hp => q' p H5 np' e5 (by rw [hrow, stV_o] at hp; exact hp)⟩) fun H4 e4 => ?_
      rcases st_men b (rows.getD k 0) with ⟨hst, hme, _⟩ | ⟨hst, hme, hne, _⟩ | ⟨hst, hme⟩
      · rw [hst]
        have c1 : cellsOf b rows (k + 1) "one" = cellsOf b rows k "one" := by rw [cellsOf_succ, hst, if_neg st_ne1, List.append_nil]
        have c2 : cellsOf b rows (k + 1) "more" = cellsOf b rows k "more" := by rw [cellsOf_succ, hst, if_neg st_ne4, List.append_nil]
        have c3 : scrubbed b rows (k + 1) = scrubbed b rows k := scrubbed_same hkr (by rw [hme]; rfl)
        refine q_when (b := false) (et_is (et_eq (ev_var rfl) ev_c rfl) (by decide +kernel)) (fun hb => Bool.noConfusion hb) fun _ H5 e5 => ?_
        refine s_when (b := false) (et_is (et_eq (ev_var rfl) ev_c rfl) (by decide +kernel)) (fun hb => Bool.noConfusion hb) fun _ H6 e6 => ?_
        have e46 := (e4.trans e5).trans e6
        exact ⟨_, _, _, rfl, kp.ex e46, by rw [c3]; exact e46 _ _ hR, by rw [c1]; exact e46 _ _ hp1, by rw [c2]; exact e46 _ _ hp2⟩
      · rw [hst]
        have c1 : cellsOf b rows (k + 1) "one" = cellsOf b rows k "one" ++ [k] := by rw [cellsOf_succ, hst, if_pos rfl]
        have c2 : cellsOf b rows (k + 1) "more" = cellsOf b rows k "more" := by rw [cellsOf_succ, hst, if_neg st_ne3, List.append_nil]
        have c3 : scrubbed b rows (k + 1) = (scrubbed b rows k).set k (flip (rows.getD k 0) [spotN (pl b) (rows.getD k 0)]) := by rw [scrubbed_succ hkr, hme]; rfl
        refine q_if (b := true) (et_is (et_eq (ev_var rfl) ev_c rfl) (by decide +kernel)) (fun _ H5 e5 => ?_) fun hb => Bool.noConfusion hb
        have e45 := e4.trans e5
        have m5 := m3.ex e45
        refine q_dropM (em_meth (vs := [.int (k : Int)]) (P := fun _ H' => Kp1 R H5 H' ∧ H' R = some (.lst ((iL (scrubbed b rows (k + 1))).map V.int))) (ev_var rfl) (e45 _ _ ho) (mf_no R c b (by decide +kernel) (by decide +kernel) (by decide +kernel)) (ea_cons (ev_var rfl) ea_nil) fun H6 e6 Q' q' => ⟨M, R, c, b, k, _, rfl, m5.ex e6, hk', hc, h4, h32, scrubbed_ok hok, fun wd H7 hw k7 h7 => q' _ H7 ⟨My.Ex.kp1 e6 k7, ?_⟩, fun hn => ?_⟩) fun v H6 hP => ?_
        · rw [hrow, hme] at hw
          have hw := Option.some.inj hw
          rw [c3, hw]
          exact h7
        · rw [hrow, hme] at hn
          cases hn
        · obtain ⟨k6, h6⟩ := hP
          have hp16 := k6 _ _ r1 (e45 _ _ hp1)
          have hp26 := k6 _ _ r2 (e45 _ _ hp2)
          refine s_app hp16 (ev_var rfl) (ev_var rfl) (by rw [iL_len]; omega) fun H7 e7 => ?_
          refine s_when (b := false) (et_is (et_eq (ev_var rfl) ev_c rfl) (by decide +kernel)) (fun hb => Bool.noConfusion hb) fun _ H8 e8 => ⟨_, _, _, rfl, ?_, ?_, ?_, ?_⟩
          · refine Kp1.ex (fun o u h1 h2 => ?_) e8
            rw [upd_ne (ne_of_none h2 n1)]
            exact e7 _ _ (k6 _ _ h1 (e45 _ _ (kp o u h1 h2)))
          · exact e8 _ _ (by rw [upd_ne (Ne.symm r1)]; exact e7 _ _ h6)
          · exact e8 _ _ (by rw [upd_same, c1, iL_app]; rfl)
          · exact e8 _ _ (by rw [upd_ne (Ne.symm np), c2]; exact e7 _ _ hp26)
      · rw [hst]
        have c1 : cellsOf b rows (k + 1) "one" = cellsOf b rows k "one" := by rw [cellsOf_succ, hst, if_neg st_ne2, List.append_nil]
        have c2 : cellsOf b rows (k + 1) "more" = cellsOf b rows k "more" ++ [k] := by rw [cellsOf_succ, hst, if_pos rfl]
        have c3 : scrubbed b rows (k + 1) = scrubbed b rows k := scrubbed_same hkr (by rw [hme]; rfl)
        refine q_when (b := false) (et_is (et_eq (ev_var rfl) ev_c rfl) (by decide +kernel)) (fun hb => Bool.noConfusion hb) fun _ H5 e5 => ?_
        refine s_if (b := true) (et_is (et_eq (ev_var rfl) ev_c rfl) (by decide +kernel)) (fun _ H6 e6 => ?_) fun hb => Bool.noConfusion hb
        have e46 := (e4.trans e5).trans e6
        refine s_app (e46 _ _ hp2) (ev_var rfl) (ev_var rfl) (by rw [iL_len]; omega) fun H7 e7 => ⟨_, _, _, rfl, fun o u h1 h2 => ?_, ?_, ?_, ?_⟩
        · rw [upd_ne (ne_of_none h2 n2')]
          exact e7 _ _ (e46 _ _ (kp o u h1 h2))
        · rw [upd_ne (Ne.symm r2), c3]
          exact e7 _ _ (e46 _ _ hR)
        · rw [upd_ne np, c1]
          exact e7 _ _ (e46 _ _ hp1)
        · rw [upd_same, c2, iL_app]
          rfl
end
def spLaw (K : PySem.W.Frag) : Sp := fun vs H Q _ => ∃ (a : Addr) (ns : List Int), vs = [.ref a] ∧ SqL K H a (ns.map V.int) ∧ ns.length ≤ 63 ∧ ∀ H', Q (.bl true) H'
section
variable {P : Program} {w : World} {K : PySem.W.Frag} {mg : Str → Option Value} {base : Heap}
theorem SpNum {H : Hp} {a : Addr} {xs : List Int} {m : Int} (hA : SqL K H a (xs.map V.int)) (hx : xs.length ≤ 63) (hm : 0 ≤ m) (hm2 : m ≤ 900) : SpP (spNumbers K) ([.ref a, .int m] ++ []) H (fun ys => ∃ ns : List Int, ys = ns.map V.int ∧ (ns.length : Int) = m ∧ Small ns) :=
  fun H1 e Q q E => ⟨a, xs, m, rfl, ex_l e hA, hx, hm, hm2, fun ns p H' hl hs np e2 hp => q _ p H' ⟨ns, rfl, hl, hs⟩ np e2 hp⟩
end

section
variable {P : Program} {w : World} {K : PySem.W.Frag} {mg : Str → Option Value} {base : Heap}
theorem ok_checks (A : At K mg "_law_checks" s__law_checks) (mz_range : mg "range" = none) : Dfn P w K mg base 1 "_law_checks" p__law_checks (spList ckN) := by
  refine dfn_ok A sc__law_checks (fun _ _ _ _ _ _ us hl => match us, hl with | [_], _ => rfl) (fun vs H Q E h => ?_) (fun f cdv A outer s H vs Q E hr h => ?_)
  · obtain ⟨b, rfl, _⟩ := h
    rfl
  · obtain ⟨b, rfl, h4, h32, q⟩ := h
    have hpl := pl_le h32
    have hr6 := rOf_le b
    refine ⟨_, (pss_cons (ps_set (i := 1) sc__law_checks.nd rfl (Or.inl rfl) pe_int)
  (pss_cons (ps_for PassesOwn.never rfl (pi_range1 (by rfl) mz_range (pa_cons pe_int pa_nil)) (pg_name (i := 2) sc__law_checks.nd rfl (Or.inl rfl))
    (pss_one (ps_if (pt_cmpR op_lt (pe_ix (show IxR _ (rIxL K) from ix_list) (pe_lst (pa_cons pe_int (pa_cons pe_int (pa_cons pe_int (pa_cons pe_int (pa_cons pe_int (pa_cons pe_int (pa_cons pe_int (pa_cons pe_int pa_nil))))))))) (pv 2) (fun _ _ => rfl)) (pe_op op_add (pe_op op_add (pv 0) (pv 2)) pe_int) (by first | exact nomark _ | rfl))
    (pss_one (ps_set (i := 1) sc__law_checks.nd rfl (Or.inl rfl) (pe_op op_add (pv 2) pe_int)))
    pss_nil)))
  (pss_one (ps_ret (pe_op op_cat (pe_lst (pa_cons pe_int pa_nil)) (pe_lc (own := [("k", 3)]) (g := gName 3) (tt := tYes) rfl sc__law_checks.nd (pi_range1 (by rfl) mz_range (pa_cons (pv 1) pa_nil)) (blkOk_by (N := N__law_checks) (sc := defScope s__law_checks) (by decide +kernel)) (fun _ _ _ _ _ => (pg_name (i := 3) sc__law_checks.nd rfl (Or.inl rfl))) (fun _ _ _ _ _ => pts_nil) (fun _ _ _ _ _ => (pe_ix (show IxR _ (rIxL K) from ix_list) (pe_lst (pa_cons pe_int (pa_cons pe_int (pa_cons pe_int (pa_cons pe_int (pa_cons pe_int (pa_cons pe_int pa_nil))))))) (pv 3) (fun _ _ => rfl))))))))), ?_⟩
    refine' q_asg (v := ?v2) ?e2 fun H2 e2 => ?_
    case e2 => walk_at "ev"
    refine q_forR1 (n := 8) (by walk_at "ea") (by omega) (fun i σ' H' => ∃ k : Option V, σ' = [some (.int (b : Int)), some (.int ((min i (rOf b) : Nat) : Int)), k, none] ∧ Ex H H') ?h0 ?hs ?hd
    case h0 => exact fun H3 e3 => ⟨none, by rw [Nat.zero_min]; rfl, e2.trans e3⟩
    case hs =>
      rintro i σ' H' hi ⟨k, rfl, eH⟩
      have hi8 : i < 8 := by omega
      have hx : ∀ i, i < 8 → ([.int 1, .int 2, .int 4, .int 8, .int 16, .int 32, .int 64, .int 128] : List V)[i]? = some (V.int ((2 ^ i : Nat) : Int)) := by decide
      have hlt : ∀ i b : Nat, 4 ≤ b → b ≤ 32 → i < 8 → (((2 ^ i : Nat) : Int) < (b : Int) + (i : Int) + 1 ↔ i < rOf b) := by
        intro i b h4 h32 hi
        have h : i = 0 ∨ i = 1 ∨ i = 2 ∨ i = 3 ∨ i = 4 ∨ i = 5 ∨ i = 6 ∨ i = 7 := by omega
        unfold rOf
        rcases h with rfl | rfl | rfl | rfl | rfl | rfl | rfl | rfl <;> (split <;> (try split) <;> (try split) <;> simp <;> omega)
      refine s_if (b := decide (((2 ^ i : Nat) : Int) < (b : Int) + (i : Int) + 1)) (et_test (ev_op (ev_ixN (el_lst (by walk_at "ea") (by decide)) (ev_var rfl) (atI_nat (hx i hi8))) (by walk_at "ev") rv_I0)) (fun hb H3 e3 => ?_) (fun hb H3 e3 => ?_)
      · have hb := (hlt i b h4 h32 hi8).mp (of_decide_eq_true hb)
        refine' s_asg (v := ?v4) ?e4 fun H4 e4 => ?_
        case e4 => walk_at "ev"
        refine ⟨some (.int (i : Int)), ?_, (eH.trans e3).trans e4⟩
        rw [Nat.min_eq_left (show i + 1 ≤ rOf b by omega)]
        rfl
      · have hb : ¬ i < rOf b := fun z => of_decide_eq_false hb ((hlt i b h4 h32 hi8).mpr z)
        refine ⟨some (.int (i : Int)), ?_, eH.trans e3⟩
        rw [Nat.min_eq_right (show rOf b ≤ i by omega), Nat.min_eq_right (show rOf b ≤ i + 1 by omega)]
        rfl
    case hd =>
      rintro σ' H' ⟨k, rfl, eH⟩
      rw [show (8 : Int).toNat = 8 from rfl, Nat.min_eq_right (by omega : rOf b ≤ 8)]
      have hx : ∀ i, i < 6 → ([.int 1, .int 2, .int 4, .int 8, .int 16, .int 32] : List V)[i]? = some (V.int ((2 ^ i : Nat) : Int)) := by decide
      refine s_retL (el_is (el_cat (xs := [.int 0]) (el_lst (by walk_at "ea") (by decide)) (el_lcR1 (n := ((rOf b : Nat) : Int)) (fun _ => true) (fun i => V.int ((2 ^ i : Nat) : Int)) (by walk_at "ea") (by omega) (fun _ => rfl) (fun i H1 e1 hi => fun H2 _ Q q => q H2 (Ex.refl H2)) (fun i H1 e1 hi _ => ev_ixN (el_lst (by walk_at "ea") (by decide)) (ev_var rfl) (atI_nat (hx i (by omega))))) ?hz) ?he) fun p H3 np e3 h3 => q p H3 (fresh_back eH np) (eH.trans e3) h3
      case hz =>
        have := given_len ((rOf b : Nat) : Int).toNat (fun _ => true) (fun i => V.int ((2 ^ i : Nat) : Int))
        show 1 + _ ≤ _
        omega
      case he =>
        rw [Int.toNat_natCast, given_ints, ← lc_ck b (by omega) h4]
        unfold lcN iL
        rw [List.filter_eq_self.mpr (fun _ _ => rfl), List.map_cons, List.map_cons, List.map_map (f := fun x => 2 ^ x)]
        rfl

theorem ok_lplaces (A : At K mg "_law_places" s__law_places) (D__law_checks : Dfn P w K mg base 1 "_law_checks" p__law_checks (spList ckN)) (mz_len : mg "len" = none) : Dfn P w K mg base 2 "_law_places" p__law_places spPlaces := by
  refine dfn_ok A sc__law_places (fun _ _ _ _ _ _ us hl => match us, hl with | [_], _ => rfl) (fun vs H Q E h => ?_) (fun f cdv A outer s H vs Q E hr h => ?_)
  · obtain ⟨b, rfl, _⟩ := h
    rfl
  · obtain ⟨b, rfl, h4, h32, q⟩ := h
    refine ⟨_, (pss_one (ps_ret (pe_op op_add (pv 0) (pe_callB (show CallR _ _ (rLenS K) from call_len_seq) (by rfl) mz_len PySem.boot_len (pa_cons (pe_d D__law_checks (hr.mono (by decide)) (pa_cons (pv 0) pa_nil)) pa_nil))))), ?_⟩
    refine s_ret (ev_is (ev_op (ev_var rfl) (ev_lenN2 (el_call (ea_cons (ev_var rfl) ea_nil) (SpList h4 h32))) rv_I0) ?he) q
    case he =>
      have := ck_len b (by omega) h4
      unfold iL
      rw [List.length_map, List.length_map]
      show V.int _ = V.int _
      rw [← this]
      simp

theorem ok_lvF (A : At K mg "_law_value" s__law_value) (mz_range : mg "range" = none) (mz_int : mg "int" = none) : Dfn P w K mg base 1 "_law_value" p__law_value (spLvF K) := by
  refine dfn_ok A sc__law_value (fun _ _ _ _ _ _ us hl => match us, hl with | [_, _, _], _ => rfl) (fun vs H Q E h => ?_) (fun f cdv A outer s H vs Q E hr h => ?_)
  · obtain ⟨a, ns, i, b, rfl, _⟩ := h
    rfl
  · obtain ⟨a, ns, i, b, rfl, hS, hi, h4, h32, q⟩ := h
    have g0 : atI (ns.map V.int) (i : Int) = some (.int (nD ns i)) := nD_at (by omega)
    have g1 : atI (ns.map V.int) ((i : Int) + 1) = some (.int (nD ns (i + 1))) := nD_at (i := i + 1) (by omega)
    have g2 : atI (ns.map V.int) ((i : Int) + 2) = some (.int (nD ns (i + 2))) := nD_at (i := i + 2) (by omega)
    have g3 : atI (ns.map V.int) ((i : Int) + 3) = some (.int (nD ns (i + 3))) := nD_at (i := i + 3) (by omega)
    refine ⟨_, (pss_cons (ps_set (i := 3) sc__law_value.nd rfl (Or.inl rfl) (pe_op op_add (pe_op op_add (pe_op op_add (pe_ix (show IxR _ (rIxL K) from ix_list) (pv 0) (pv 1) (fun _ _ => rfl)) (pe_op op_mul pe_int (pe_ix (show IxR _ (rIxL K) from ix_list) (pv 0) (pe_op op_add (pv 1) pe_int) (fun _ _ => rfl)))) (pe_op op_mul (pe_op op_mul pe_int pe_int) (pe_ix (show IxR _ (rIxL K) from ix_list) (pv 0) (pe_op op_add (pv 1) pe_int) (fun _ _ => rfl)))) (pe_op op_mul (pe_op op_mul (pe_op op_mul pe_int pe_int) pe_int) (pe_ix (show IxR _ (rIxL K) from ix_list) (pv 0) (pe_op op_add (pv 1) pe_int) (fun _ _ => rfl)))))
  (pss_cons (ps_set (i := 4) sc__law_value.nd rfl (Or.inl rfl) pe_int)
  (pss_cons (ps_for PassesOwn.never rfl (pi_range1 (by rfl) mz_range (pa_cons (pe_op op_sub (pv 2) pe_int) pa_nil)) (pg_name (i := 5) sc__law_value.nd rfl (Or.inl rfl))
    (pss_one (ps_set (i := 4) sc__law_value.nd rfl (Or.inl rfl) (pe_op op_mul pe_int (pv 4)))))
  (pss_one (ps_ret (pe_ix (show IxR _ (rIxL K) from ix_list) (pe_lst (pa_cons (pe_op op_mod (pe_callTy call_int1 (by rfl) mz_int (by decide +kernel) (pa_cons (pv 3) pa_nil)) (pv 4)) (pa_cons (pe_op op_mod (pe_callTy call_int1 (by rfl) mz_int (by decide +kernel) (pa_cons (pv 3) pa_nil)) (pv 4)) (pa_cons (pe_op op_mod (pe_callTy call_int1 (by rfl) mz_int (by decide +kernel) (pa_cons (pv 3) pa_nil)) (pv 4)) (pa_cons pe_int (pa_cons (pe_op op_sub (pv 4) pe_int) pa_nil)))))) (pe_op op_mod (pe_callTy call_int1 (by rfl) mz_int (by decide +kernel) (pa_cons (pe_ix (show IxR _ (rIxL K) from ix_list) (pv 0) (pe_op op_add (pv 1) pe_int) (fun _ _ => rfl)) pa_nil)) pe_int) (fun _ _ => rfl))))))), ?_⟩
    refine q_asg (v := .int (lvX ns i)) ?v1 fun H1 e1 => ?_
    case v1 =>
      refine ev_op (ev_op (ev_op (ev_ixI (ev_var rfl) (ev_var rfl) hS g0) (ev_op ev_c (ev_ixI (ev_var rfl) (ev_op (ev_var rfl) ev_c rv_I0) hS g1) (rv_I (C := CMul) (Or.inl (by omega)))) rv_I0) (ev_op (ev_op ev_c ev_c (rv_I (C := CMul) (Or.inl (by omega)))) (ev_ixI (ev_var rfl) (ev_op (ev_var rfl) ev_c rv_I0) hS g2) (rv_I (C := CMul) (Or.inl (by omega)))) rv_I0) (ev_op (ev_op (ev_op ev_c ev_c (rv_I (C := CMul) (Or.inl (by omega)))) ev_c (rv_I (C := CMul) (Or.inl (by omega)))) (ev_ixI (ev_var rfl) (ev_op (ev_var rfl) ev_c rv_I0) hS g3) (rv_I (C := CMul) (Or.inl (by omega)))) rv_I0
    have hL := lvN_at ns i b
    generalize lvX ns i = x at *
    refine' q_asg (v := ?v2) ?e2 fun H2 e2 => ?_
    case e2 => walk_at "ev"
    refine q_forR1 (n := (b : Int) - 4) (by walk_at "ea") (by omega) (fun j σ' H' => ∃ k, σ' = [some (.ref a), some (.int (i : Int)), some (.int (b : Int)), some (.int x), some (.int ((2 ^ (4 + j) : Nat) : Int)), k] ∧ Ex H H') (fun H3 e3 => ⟨none, rfl, (e1.trans e2).trans e3⟩) ?hs ?hd
    case hs =>
      rintro j σ' H' hj ⟨k, rfl, eH⟩
      refine s_asg (ev_op ev_c (ev_var rfl) (rv_I (C := CMul) (Or.inl (by omega)))) fun H4 e4 => ⟨some (.int (j : Int)), ?_, eH.trans e4⟩
      have e : (2 : Int) * ((2 ^ (4 + j) : Nat) : Int) = ((2 ^ (4 + (j + 1)) : Nat) : Int) := by
        rw [show 4 + (j + 1) = (4 + j) + 1 by omega, Nat.pow_succ]
        omega
      rw [e]
      rfl
    case hd =>
      rintro σ' H' ⟨k, rfl, eH⟩
      have eb : 4 + ((b : Int) - 4).toNat = b := by omega
      rw [eb]
      have hpos : (0 : Int) < ((2 ^ b : Nat) : Int) := by
        have := Nat.two_pow_pos b
        omega
      have hA := ex_l eH hS
      generalize lvN ns i b = v at *
      have hv2 := hL.2
      refine s_ret (v := .int (v : Int)) (ev_ixN (i := nD ns (i + 3) % 5) (el_lst (vs := [.int (x % ((2 ^ b : Nat) : Int)), .int (x % ((2 ^ b : Nat) : Int)), .int (x % ((2 ^ b : Nat) : Int)), .int 0, .int (((2 ^ b : Nat) : Int) - 1)]) ?ea (by show 5 ≤ 100000; decide)) (ev_op (ev_int (ea_cons (ev_ixI (ev_var rfl) (ev_op (ev_var rfl) ev_c rv_I0) hA g3) ea_nil)) ev_c (rv_I (show (0 : Int) < 5 by decide))) ?hat) fun H3 e3 => q H3 (eH.trans e3)
      case ea =>
        refine ea_cons (ev_op (ev_int (ea_cons (ev_var rfl) ea_nil)) (ev_var rfl) (rv_I hpos)) (ea_cons (ev_op (ev_int (ea_cons (ev_var rfl) ea_nil)) (ev_var rfl) (rv_I hpos)) (ea_cons (ev_op (ev_int (ea_cons (ev_var rfl) ea_nil)) (ev_var rfl) (rv_I hpos)) (ea_cons ev_c (ea_cons (ev_op (ev_var rfl) ev_c rv_I0) ea_nil))))
      case hat =>
        have e : nD ns (i + 3) % 5 = (((nD ns (i + 3) % 5).toNat : Nat) : Int) := by have := mod5 (nD ns (i + 3)); omega
        rw [e]
        exact atI_nat hv2

theorem ok_lscrub {C CE C_FarError : Addr} (A : At K mg "_law_scrub" s__law_scrub) (TM : MemC K C) (Z_Unmendable : ErrC P w K mg base "Unmendable" CE "place" "place") (gC_FarError : mg "FarError" = some (.ref C_FarError)) (kit : PySem.W.kitOne K (.ref CE) (.ref C_FarError) = some true) (M_Memory_scrub : Mdf P w K mg base (L2.CX P w) 6 C "scrub" p_Memory_scrub (spMScrub C CE)) (mz_isinstance : mg "isinstance" = none) : Dfn P w K mg base 8 "_law_scrub" p__law_scrub (spLscrub C) := by
  have T_Memory := TM.cl
  refine dfn_ok A sc__law_scrub (fun _ _ _ _ _ _ us hl => match us, hl with | [_, _], _ => rfl) (fun vs H Q E h => ?_) (fun f cdv A outer s H vs Q E hr h => ?_)
  · obtain ⟨M, R, c, b, i, rows, rfl, _⟩ := h
    rfl
  · obtain ⟨M, R, c, b, i, rows, rfl, m, hi, hc, h4, h32, hok, q⟩ := h
    refine ⟨_, (show PSs _ _ _ from (pss_one (ps_try_as (i := 2) rfl rfl sc__law_scrub.nd rfl rfl ⟨rfl, by decide, Or.inl Z_Unmendable.g⟩ takes0 (fun W pn xe tk _ => (pss_one (ps_ret (pe_mA M_Memory_scrub T_Memory (hr.mono (by decide)) tk (pv 0) (pa_cons (pv 1) pa_nil)))))
    (fun a oe cls d pn hz hf => (pss_cons (ps_if (PW.pt (pw_or (pt_cmpR op_ne (pe_xf (X := _) Z_Unmendable.xf Z_Unmendable.no hz hf (pv 2)) (pv 1) (by first | exact nomark _ | rfl)) (pw_or1 (pt_not (pt_val (pe_callB (call_isX Z_Unmendable.is_ hz hf (fun _ _ => trivial)) (by rfl) mz_isinstance (by decide +kernel) (pa_cons (pv 2) (pa_cons (pe_glob (v := .ref C_FarError) rfl gC_FarError rfl) pa_nil))))))))
    (pss_one (ps_ret (pe_tup (pa_cons pe_str (pa_cons pe_str pa_nil)))))
    pss_nil)
  (pss_one (ps_ret pe_non))))))), ?_⟩
    obtain ⟨dx, ho⟩ := id m.ob
    refine ⟨_, rfl, M, dx, _, rfl, ho, mf_no R c b (by decide +kernel) (by decide +kernel) (by decide +kernel), _, rfl, M, R, c, b, i, rows, rfl, m, hi, hc, h4, h32, hok, fun wd H2 hw k2 hR2 => ?_, fun hn d H2 nd e2 hd => ?_⟩
    · have e : scrR b rows i = rows.set i wd := by unfold scrR; rw [hw]
      have e' : scrV b rows i = .bl (!decide (wd = rows.getD i 0)) := by unfold scrV; rw [hw]
      rw [e, e'] at q
      exact q H2 k2 hR2
    · have e : scrR b rows i = rows := by unfold scrR; rw [hn]
      have e' : scrV b rows i = .non := by unfold scrV; rw [hn]
      rw [e, e'] at q
      refine ⟨true, Z_Unmendable.te, fun _ a na => ?_, fun z => Bool.noConfusion z⟩
      refine q_when (b := false) (et_or0 (et_neS (x := .int (i : Int)) (y := .int (i : Int)) (ev_xf (ev_var rfl) hd rfl) (ev_var rfl) rfl rfl) (et_is (et_not (et_B (ev_isX (ea_cons (ev_var rfl) (ea_cons ev_c ea_nil)) hd kit))) rfl)) (fun z => Bool.noConfusion z) fun _ H3 e3 => ?_
      exact s_ret ev_c fun H4 e4 => q H4 (Kp1.of ((e2.trans e3).trans e4)) (e4 _ _ (e3 _ _ (e2 _ _ m.rw_)))

/-! ### the law -/
theorem ok_law {C_Memory : Addr} {f : Addr} {fd : FuncData} (F : Fun K "law" "law" s_law f fd) (D__law_numbers : Dfn P w K mg base 2 "_law_numbers" p__law_numbers (spNumbers K)) (TM : MemC K C_Memory) (gC_Memory : mg "Memory" = some (.ref C_Memory)) (mk_Memory : PySem.W.makesIn K C_Memory = true) (kc_Memory : PySem.W.keepIn K (.ref C_Memory) = true)
    (M_Memory___init__ : Mdf P w K mg base CX0 4 C_Memory "__init__" p_Memory___init__ (spMInit C_Memory)) (M_Memory_write : Mdf P w K mg base CX0 4 C_Memory "write" p_Memory_write (spMWrite C_Memory)) (M_Memory_flip : Mdf P w K mg base CX0 2 C_Memory "flip" p_Memory_flip (spMFlip C_Memory)) (M_Memory_row_at : Mdf P w K mg base CX0 1 C_Memory "row_at" p_Memory_row_at (spMRow C_Memory)) (M_Memory_state_at : Mdf P w K mg base CX0 4 C_Memory "state_at" p_Memory_state_at (spMState C_Memory)) (M_Memory_scrub_all : Mdf P w K mg base CX0 7 C_Memory "scrub_all" p_Memory_scrub_all (spMAll C_Memory))
    (D__law_scrub : Dfn P w K mg base 8 "_law_scrub" p__law_scrub (spLscrub C_Memory)) (D__law_value : Dfn P w K mg base 1 "_law_value" p__law_value (spLvF K)) (D__law_places : Dfn P w K mg base 2 "_law_places" p__law_places spPlaces)
    (D_mended : Dfn P w K mg base 4 "mended" p_mended spMended) (D_state_of : Dfn P w K mg base 3 "state_of" p_state_of spState)
    (mz_range : mg "range" = none) (mz_int : mg "int" = none) (mz_len : mg "len" = none) (mz_list : mg "list" = none) (mz_all : mg "all" = none) (mz_isinstance : mg "isinstance" = none) : FnOk P w K mg base CX0 10 f fd ["script"] (spLaw K) := by
  have T_Memory := TM.cl
  refine F.ok sc_law (fun vs H Q E h => ?_) (fun cdv A outer s H vs Q E hr h => ?_)
  · obtain ⟨a, ns, rfl, _⟩ := h
    rfl
  · obtain ⟨a, xs, rfl, hA, hx, q⟩ := h
    refine ⟨_, (pss_cons (ps_set (i := 1) sc_law.nd rfl (Or.inl rfl) (pe_d D__law_numbers (hr.mono (by decide)) (pa_cons (pv 0) (pa_cons pe_int pa_nil))))
  (pss_cons (ps_set (i := 2) sc_law.nd rfl (Or.inr rfl) (pe_op op_add pe_int (pe_op op_mod (pe_callTy call_int1 (by rfl) mz_int (by decide +kernel) (pa_cons (pe_ix (show IxR _ (rIxL K) from ix_list) (pv 1) pe_int (fun _ _ => rfl)) pa_nil)) pe_int)))
  (pss_cons (ps_set (i := 3) sc_law.nd rfl (Or.inl rfl) (pe_op op_add pe_int (pe_op op_mod (pe_callTy call_int1 (by rfl) mz_int (by decide +kernel) (pa_cons (pe_ix (show IxR _ (rIxL K) from ix_list) (pv 1) pe_int (fun _ _ => rfl)) pa_nil)) pe_int)))
  (pss_cons (ps_set (i := 4) sc_law.nd rfl (Or.inl rfl) (pe_listRg (by rfl) (by rfl) mz_list (prg_1 (by rfl) mz_range (pv 3))))
  (pss_cons (ps_if (pt_cmpR op_eq (pe_op op_mod (pe_callTy call_int1 (by rfl) mz_int (by decide +kernel) (pa_cons (pe_ix (show IxR _ (rIxL K) from ix_list) (pv 1) pe_int (fun _ _ => rfl)) pa_nil)) pe_int) pe_int (by first | exact nomark _ | rfl))
    (pss_one (ps_par (i := 3) (j := 4) (by rfl) sc_law.nd rfl rfl (by decide) rfl rfl (pa_cons pe_int (pa_cons (pe_lst (pa_cons pe_int (pa_cons pe_int (pa_cons pe_int (pa_cons pe_int (pa_cons pe_int (pa_cons pe_int pa_nil))))))) pa_nil)) (by rfl)))
    pss_nil)
  (pss_cons (ps_set (i := 5) sc_law.nd rfl (Or.inr rfl) (pe_mk M_Memory___init__ mk_Memory kc_Memory gC_Memory (hr.mono (by decide)) (pa_cons (pv 3) (pa_cons (pv 2) pa_nil))))
  (pss_cons (ps_for PassesOwn.never rfl (pi_range1 (by rfl) mz_range (pa_cons (pe_callB (show CallR _ _ (rLenS K) from call_len_seq) (by rfl) mz_len PySem.boot_len (pa_cons (pv 4) pa_nil)) pa_nil)) (pg_name (i := 6) sc_law.nd rfl (Or.inl rfl))
    (pss_cons (ps_expr (pe_m M_Memory_write T_Memory (hr.mono (by decide)) (pv 5) (pa_cons (pe_ix (show IxR _ (rIxL K) from ix_list) (pv 4) (pv 6) (fun _ _ => rfl)) (pa_cons (pe_d D__law_value (hr.mono (by decide)) (pa_cons (pv 1) (pa_cons (pe_op op_add pe_int (pe_op op_mul pe_int (pv 6))) (pa_cons (pv 2) pa_nil)))) pa_nil))))
  (pss_one (ps_for PassesOwn.never rfl (pi_range1 (by rfl) mz_range (pa_cons (pe_op op_mod (pe_callTy call_int1 (by rfl) mz_int (by decide +kernel) (pa_cons (pe_ix (show IxR _ (rIxL K) from ix_list) (pv 1) (pe_op op_add pe_int (pv 6)) (fun _ _ => rfl)) pa_nil)) pe_int) pa_nil)) (pg_name (i := 7) sc_law.nd rfl (Or.inl rfl))
    (pss_one (ps_expr (pe_m M_Memory_flip T_Memory (hr.mono (by decide)) (pv 5) (pa_cons (pe_ix (show IxR _ (rIxL K) from ix_list) (pv 4) (pv 6) (fun _ _ => rfl)) (pa_cons (pe_op op_mod (pe_callTy call_int1 (by rfl) mz_int (by decide +kernel) (pa_cons (pe_op op_add (pe_ix (show IxR _ (rIxL K) from ix_list) (pv 1) (pe_op op_add pe_int (pv 6)) (fun _ _ => rfl)) (pe_op op_mul (pv 7) (pe_ix (show IxR _ (rIxL K) from ix_list) (pv 1) (pe_op op_add pe_int (pv 6)) (fun _ _ => rfl)))) pa_nil)) (pe_d D__law_places (hr.mono (by decide)) (pa_cons (pv 2) pa_nil))) pa_nil)))))))))
  (pss_cons (ps_setLc (i := 9) (own := [("cell", 8)]) (g := gName 8) (tt := tYes) rfl sc_law.nd rfl rfl (sw_true rfl rfl rfl (by decide +kernel)) (pi_range1 (by rfl) mz_range (pa_cons (pv 3) pa_nil)) (blkOk_by (N := N_law) (sc := defScope s_law) (by decide +kernel)) (fun _ _ _ _ _ => (pg_name (i := 8) sc_law.nd rfl (Or.inl rfl))) (fun _ _ _ _ _ => pts_nil) (fun _ _ _ _ _ => (pe_m M_Memory_row_at T_Memory (hr.mono (by decide)) (pv 5) (pa_cons (pv 8) pa_nil))))
  (pss_cons (ps_set (i := 8) sc_law.nd rfl (Or.inl rfl) (pe_ix (show IxR _ (rIxL K) from ix_list) (pv 4) (pe_op op_mod (pe_callTy call_int1 (by rfl) mz_int (by decide +kernel) (pa_cons (pe_ix (show IxR _ (rIxL K) from ix_list) (pv 1) pe_int (fun _ _ => rfl)) pa_nil)) (pe_callB (show CallR _ _ (rLenS K) from call_len_seq) (by rfl) mz_len PySem.boot_len (pa_cons (pv 4) pa_nil))) (fun _ _ => rfl)))
  (pss_cons (ps_set (i := 10) sc_law.nd rfl (Or.inl rfl) (pe_ix (show IxR _ (rIxT K) from ix_tup) (pe_d D_state_of (hr.mono (by decide)) (pa_cons (pv 2) (pa_cons (pe_ix (show IxR _ (rIxL K) from ix_list) (pv 9) (pv 8) (fun _ _ => rfl)) pa_nil))) pe_int (fun _ _ => rfl)))
  (pss_cons (ps_if (pt_cmpR op_ne (pe_d D__law_scrub (hr.mono (by decide)) (pa_cons (pv 5) (pa_cons (pv 8) pa_nil))) (pe_dget (hu_of hr) (pe_disp (pps_cons pe_str pe_bl (pps_cons pe_str pe_bl (pps_cons pe_str pe_non pps_nil))) (by rfl) (by rfl) (by decide) (by decide)) (pv 10) (fun _ _ => rfl)) (by first | exact nomark _ | rfl))
    (pss_one (ps_ret pe_bl))
    pss_nil)
  (pss_cons (ps_if (pt_cmpR op_eq (pv 10) pe_str (by first | exact nomark _ | rfl))
    (pss_one (ps_asg (pe_d D_mended (hr.mono (by decide)) (pa_cons (pv 2) (pa_cons (pe_ix (show IxR _ (rIxL K) from ix_list) (pv 9) (pv 8) (fun _ _ => rfl)) pa_nil))) (pg_sub (pv 9) (pv 8) set_list)))
    pss_nil)
  (pss_cons (ps_if (pt_cmpR (show OpR _ _ (rNeD K) from (op_neD hr.units)) (pe_lc (own := [("k", 7)]) (g := gName 7) (tt := tYes) rfl sc_law.nd (pi_range1 (by rfl) mz_range (pa_cons (pv 3) pa_nil)) (blkOk_by (N := N_law) (sc := defScope s_law) (by decide +kernel)) (fun _ _ _ _ _ => (pg_name (i := 7) sc_law.nd rfl (Or.inl rfl))) (fun _ _ _ _ _ => pts_nil) (fun _ _ _ _ _ => (pe_m M_Memory_row_at T_Memory (hr.mono (by decide)) (pv 5) (pa_cons (pv 7) pa_nil)))) (pv 9) (by first | exact nomark _ | rfl))
    (pss_one (ps_ret pe_bl))
    pss_nil)
  (pss_cons (ps_set (i := 11) sc_law.nd rfl (Or.inr rfl) (pe_lc (own := [("row", 14)]) (g := gName 14) (tt := tYes) rfl sc_law.nd (show PI _ _ _ (iList K _) from pi_list (pv 9)) (blkOk_by (N := N_law) (sc := defScope s_law) (by decide +kernel)) (fun _ _ _ _ _ => (pg_name (i := 14) sc_law.nd rfl (Or.inl rfl))) (fun _ _ _ _ _ => pts_nil) (fun _ _ _ _ _ => (pe_ix (show IxR _ (rIxT K) from ix_tup) (pe_d D_state_of (hr.mono (by decide)) (pa_cons (pv 2) (pa_cons (pv 14) pa_nil))) pe_int (fun _ _ => rfl)))))
  (pss_cons (ps_set (i := 12) sc_law.nd rfl (Or.inl rfl) (pe_tup (pa_cons (pe_lc (own := [("k", 7)]) (g := gName 7) rfl sc_law.nd (pi_range1 (by rfl) mz_range (pa_cons (pv 3) pa_nil)) (blkOk_by (N := N_law) (sc := defScope s_law) (by decide +kernel)) (fun _ _ _ _ _ => (pg_name (i := 7) sc_law.nd rfl (Or.inl rfl))) (fun _ _ _ _ _ => (pts_one (pt_cmpR op_eq (pe_ix (show IxR _ (rIxL K) from ix_list) (pv 11) (pv 7) (fun _ _ => rfl)) pe_str (by first | exact nomark _ | rfl)))) (fun _ _ _ _ _ => (pv 7))) (pa_cons (pe_lc (own := [("k", 7)]) (g := gName 7) rfl sc_law.nd (pi_range1 (by rfl) mz_range (pa_cons (pv 3) pa_nil)) (blkOk_by (N := N_law) (sc := defScope s_law) (by decide +kernel)) (fun _ _ _ _ _ => (pg_name (i := 7) sc_law.nd rfl (Or.inl rfl))) (fun _ _ _ _ _ => (pts_one (pt_cmpR op_eq (pe_ix (show IxR _ (rIxL K) from ix_list) (pv 11) (pv 7) (fun _ _ => rfl)) pe_str (by first | exact nomark _ | rfl)))) (fun _ _ _ _ _ => (pv 7))) pa_nil))))
  (pss_cons (ps_set (i := 13) sc_law.nd rfl (Or.inl rfl) (pe_m0 M_Memory_scrub_all T_Memory (hr.mono (by decide)) (pv 5)))
  (pss_cons (ps_if (PW.pt (pw_or (pt_cmpR (show OpR _ _ (rNeD K) from (op_neD hr.units)) (pv 13) (pv 12) (by first | exact nomark _ | rfl)) (pw_or1 (pt_not (pt_val (pe_callB (show CallR _ _ (rAll K) from (cr_all rfl)) (by rfl) mz_all (by decide +kernel) (pa_cons (pe_lc (own := [("one", 15)]) (g := gName 15) (tt := tYes) rfl sc_law.nd (show PI _ _ _ (iTup K _) from pi_tup (pv 13)) (blkOk_by (N := N_law) (sc := defScope s_law) (by decide +kernel)) (fun _ _ _ _ _ => (pg_name (i := 15) sc_law.nd rfl (Or.inl rfl))) (fun _ _ _ _ _ => pts_nil) (fun _ _ _ _ _ => (pe_callB (show CallR _ _ (rIsi K) from call_isi) (by rfl) mz_isinstance (by decide +kernel) (pa_cons (pv 15) (pa_cons (pe_bltn (v := .ty "list") (by rfl) mz_list (by first | exact PySem.boot_list | decide +kernel) rfl) pa_nil))))) pa_nil)))))))
    (pss_one (ps_ret pe_bl))
    pss_nil)
  (pss_cons (ps_expr (show PE _ _ (tBM K "list" _ _ _) from pe_bm PySem.F.plainAttrs_list PySem.F.slot_list_append PySem.F.type_list_append mt_append (pe_ix (show IxR _ (rIxT K) from ix_tup) (pv 13) pe_int (fun _ _ => rfl)) (pa_cons pe_int pa_nil)))
  (pss_cons (ps_for PassesOwn.never rfl (pi_range1 (by rfl) mz_range (pa_cons (pv 3) pa_nil)) (pg_name (i := 7) sc_law.nd rfl (Or.inl rfl))
    (pss_cons (ps_if (pt_cmpR op_eq (pe_ix (show IxR _ (rIxL K) from ix_list) (pv 11) (pv 7) (fun _ _ => rfl)) pe_str (by first | exact nomark _ | rfl))
    (pss_one (ps_asg (pe_d D_mended (hr.mono (by decide)) (pa_cons (pv 2) (pa_cons (pe_ix (show IxR _ (rIxL K) from ix_list) (pv 9) (pv 7) (fun _ _ => rfl)) pa_nil))) (pg_sub (pv 9) (pv 7) set_list)))
    pss_nil)
  (pss_one (ps_if (PW.pt (pw_or (pt_cmpR op_ne (pe_m M_Memory_row_at T_Memory (hr.mono (by decide)) (pv 5) (pa_cons (pv 7) pa_nil)) (pe_ix (show IxR _ (rIxL K) from ix_list) (pv 9) (pv 7) (fun _ _ => rfl)) (by first | exact nomark _ | rfl)) (pw_or1 (pt_cmpR op_eq (pe_ix (show IxR _ (rIxT K) from ix_tup) (pe_m M_Memory_state_at T_Memory (hr.mono (by decide)) (pv 5) (pa_cons (pv 7) pa_nil)) pe_int (fun _ _ => rfl)) pe_str (by first | exact nomark _ | rfl)))))
    (pss_one (ps_ret pe_bl))
    pss_nil))))
  (pss_one (ps_ret (pe_cmpR (show OpR _ _ (rEqD K) from (op_eqD hr.units)) (pe_m0 M_Memory_scrub_all T_Memory (hr.mono (by decide)) (pv 5)) (pe_tup (pa_cons (pe_lst pa_nil) (pa_cons (pe_ix (show IxR _ (rIxT K) from ix_tup) (pv 12) pe_int (fun _ _ => rfl)) pa_nil))) (by first | exact nomark _ | rfl))))))))))))))))))))))), ?_⟩
    refine q_asgP (P := fun ys => ∃ ns : List Int, ys = ns.map V.int ∧ (ns.length : Int) = 70 ∧ Small ns) (evP_call (ea_cons (ev_var rfl) (ea_cons ev_c ea_nil)) (SpNum hA hx (by decide) (by decide))) fun ys n H1 hys nn e1 hn => ?_
    obtain ⟨ns, rfl, hl, hs⟩ := hys
    obtain ⟨b, hb, h4, h32⟩ : ∃ b : Nat, (4 : Int) + nD ns 0 % 29 = (b : Int) ∧ 4 ≤ b ∧ b ≤ 32 := ⟨(4 + nD ns 0 % 29).toNat, by omega, by omega, by omega⟩
    obtain ⟨c0, hc0, hc1, hc6⟩ : ∃ c : Nat, (1 : Int) + nD ns 1 % 6 = (c : Int) ∧ 1 ≤ c ∧ c ≤ 6 := ⟨(1 + nD ns 1 % 6).toNat, by omega, by omega, by omega⟩
    have hplp := pl_pos (b := b)
    have hpl39 := pl_le h32
    refine q_asg (v := .int (b : Int)) (ev_is (ev_op ev_c (ev_op (ev_int (ea_cons (ev_ixI (ev_var rfl) ev_c (sq_of hn) (nD_at (i := 0) (by omega))) ea_nil)) ev_c (rv_I (show (0 : Int) < 29 by decide))) rv_I0) (by rw [hb])) fun H2 e2 => ?_
    have hn2 := e2 _ _ hn
    refine q_asg (v := .int (c0 : Int)) (ev_is (ev_op ev_c (ev_op (ev_int (ea_cons (ev_ixI (ev_var rfl) ev_c (sq_of hn2) (nD_at (i := 1) (by omega))) ea_nil)) ev_c (rv_I (show (0 : Int) < 6 by decide))) rv_I0) (by rw [hc0])) fun H3 e3 => ?_
    have hn3 := e3 _ _ hn2
    refine q_asgL (el_rg (n := c0) (ev_var rfl) (by omega)) fun s0 H4 ns0 e4 hs0 => ?_
    have hn4 := e4 _ _ hn3
    refine q_tail (Pm := fun σ' H' => ∃ (c : Nat) (sa : Addr) (sl : List Nat), σ' = [some (.ref a), some (.ref n), some (.int (b : Int)), some (.int (c : Int)), some (.ref sa), none, none, none, none, none, none, none, none, none, none, none] ∧ H' n = some (.lst (ns.map V.int)) ∧ 1 ≤ c ∧ c ≤ 512 ∧ H' sa = some (.lst ((iL sl).map V.int)) ∧ (∀ z ∈ sl, z < c) ∧ 1 ≤ sl.length ∧ sl.length ≤ 6) ?tail fun N hN => ?_
    rotate_left
    · refine s_when (b := decide (V.int (nD ns 49 % 16) = V.int 3)) (et_eq (ev_op (ev_int (ea_cons (ev_ixI (ev_var rfl) ev_c (sq_of hn4) (nD_at (i := 49) (by omega))) ea_nil)) ev_c (rv_I (show (0 : Int) < 16 by decide))) ev_c rfl) (fun _ H5 e5 => ?_) fun _ H5 e5 => ?_
      · exact s_par2 ev_c (el_lst (vs := [.int 511, .int 0, .int 300, .int 77, .int 5, .int 201]) (ea_cons ev_c (ea_cons ev_c (ea_cons ev_c (ea_cons ev_c (ea_cons ev_c (ea_cons ev_c ea_nil)))))) (by show 6 ≤ 100000; decide)) fun p H6 np e6 hp => hN _ _ ⟨512, p, [511, 0, 300, 77, 5, 201], rfl, e6 _ _ (e5 _ _ hn4), by decide, by decide, hp, by decide, by decide, by decide⟩
      · exact hN _ _ ⟨c0, s0, List.range c0, rfl, e5 _ _ hn4, hc1, by omega, e5 _ _ hs0, fun z hz => List.mem_range.mp hz, by rw [List.length_range]; exact hc1, by rw [List.length_range]; exact hc6⟩
    rintro σ' H5 ⟨c, sa, sl, rfl, hn5, h1, h5, hsa5, hslc, hsl1, hsl6⟩
    refine q_asgM (em_make (c := c) (b := b) (ea_cons (ev_var rfl) (ea_cons (ev_var rfl) ea_nil)) h5 h4 h32) fun v H6 hv => ?_
    obtain ⟨M, R, rfl, nM, nR, e6, m0⟩ := hv
    have hn6 := e6 _ _ hn5
    have hsa6 := e6 _ _ hsa5
    have dnR : n ≠ R := fun z => by rw [← z, hn5] at nR; cases nR
    have dsR : sa ≠ R := fun z => by rw [← z, hsa5] at nR; cases nR
    rw [rng_rep] at m0
    have plc : ∀ y : Int, ∃ i : Nat, y % ((pl b : Nat) : Int) = (i : Int) ∧ i < pl b := fun y => by
      have i0 := Int.emod_nonneg y (b := ((pl b : Nat) : Int)) (by omega)
      have i1 := Int.emod_lt_of_pos y (b := ((pl b : Nat) : Int)) (by omega)
      exact ⟨(y % ((pl b : Nat) : Int)).toNat, by omega, by omega⟩
    have rok : ∀ f : Nat → Nat, (∀ j, f j < 2 ^ pl b) → RowsOk b (rng f c) := fun f hf r hr => by
      obtain ⟨j, _, rfl⟩ := List.mem_map.mp hr
      exact hf j
    have fok : ∀ (f : Nat → Nat) (i r : Nat), (∀ j, f j < 2 ^ pl b) → r < 2 ^ pl b → ∀ j, fset f i r j < 2 ^ pl b := fun f i r hf hr j => by
      by_cases e : j = i
      · subst e; rw [fset_same]; exact hr
      · rw [fset_ne e]; exact hf j
    have sat : ∀ j, j < sl.length → ∃ z, sl[j]? = some z ∧ z < c := fun j hj => ⟨sl[j], List.getElem?_eq_getElem hj, hslc _ (List.getElem_mem hj)⟩
    refine q_forR1 (n := ((sl.length : Nat) : Int)) (ea_cons (ev_is (ev_lenL (ev_var rfl) (sq_of hsa6)) (by rw [iL_len])) ea_nil) (by omega)
      (fun j σ' H' => ∃ (u6 u7 : Option V) (fr : Nat → Nat), σ' = [some (.ref a), some (.ref n), some (.int (b : Int)), some (.int (c : Int)), some (.ref sa), some (.ref M), u6, u7, none, none, none, none, none, none, none, none] ∧ MemAt C_Memory H' M R c b (rng fr c) ∧ (∀ j, fr j < 2 ^ pl b) ∧ H' n = some (.lst (ns.map V.int)) ∧ H' sa = some (.lst ((iL sl).map V.int)))
      (fun H7 e7 => ⟨_, _, fun _ => 0, rfl, m0.ex e7, fun _ => Nat.two_pow_pos _, e7 _ _ hn6, e7 _ _ hsa6⟩) ?hs ?hd
    case hs =>
      rintro j σ' H7 hj ⟨u6, u7, fr, rfl, m, hf, hn7, hsa7⟩
      obtain ⟨z, hz, hzc⟩ := sat j (by omega)
      refine q_dropM (em_wr2 (i := z) (v := lvN ns (2 + 4 * j) b) m (ev_var rfl) (ea_cons (ev_ixI (ev_var rfl) (ev_var rfl) (sq_of hsa7) (atI_nat (at_iL hz))) (ea_cons (ev_call (ea_cons (ev_var rfl) (ea_cons (ev_is (ev_op ev_c (ev_op ev_c (ev_var rfl) (rv_I (C := CMul) (Or.inl (by omega)))) rv_I0) (show _ = V.int ((2 + 4 * j : Nat) : Int) by rw [show (2 : Int) + 4 * (j : Int) = ((2 + 4 * j : Nat) : Int) by omega])) (ea_cons (ev_var rfl) ea_nil))) (SpLvF (i := 2 + 4 * j) (sq_of hn7) (by omega) h4 h32)) ea_nil)) hzc h4 h32 (lvN_lt _ _ _)) fun v H8 ⟨_, kp, m⟩ => ?_
      have hn8 := kp _ _ dnR hn7
      have hsa8 := kp _ _ dsR hsa7
      have hf := fok fr z _ hf (cod_lt (v := lvN ns (2 + 4 * j) b) h4 h32)
      generalize fset fr z (cod b (lvN ns (2 + 4 * j) b)) = fr at *
      refine s_forR1 (n := nD ns (30 + j) % 4) (ea_cons (ev_op (ev_int (ea_cons (ev_ixI (ev_var rfl) (ev_op ev_c (ev_var rfl) rv_I0) (sq_of hn8) (nD_at (i := 30 + j) (by omega))) ea_nil)) ev_c (rv_I (show (0 : Int) < 4 by decide))) ea_nil) (by omega)
        (fun k σ' H' => ∃ (u7 : Option V) (fr : Nat → Nat), σ' = [some (.ref a), some (.ref n), some (.int (b : Int)), some (.int (c : Int)), some (.ref sa), some (.ref M), some (.int (j : Int)), u7, none, none, none, none, none, none, none, none] ∧ MemAt C_Memory H' M R c b (rng fr c) ∧ (∀ j, fr j < 2 ^ pl b) ∧ H' n = some (.lst (ns.map V.int)) ∧ H' sa = some (.lst ((iL sl).map V.int)))
        (fun H9 e9 => ⟨_, fr, rfl, m.ex e9, hf, e9 _ _ hn8, e9 _ _ hsa8⟩) ?hs2 ?hd2
      case hd2 =>
        rintro σ' H9 ⟨u7, fr, rfl, m, hf, hn9, hsa9⟩
        exact ⟨_, _, fr, rfl, m, hf, hn9, hsa9⟩
      case hs2 =>
        rintro k σ' H9 hk ⟨u7, fr, rfl, m, hf, hn9, hsa9⟩
        obtain ⟨p, hp, hpl⟩ := plc (nD ns (36 + j) + (k : Int) * nD ns (42 + j))
        refine s_dropM (em_fl2 (i := z) (p := p) m (ev_var rfl) (ea_cons (ev_ixI (ev_var rfl) (ev_var rfl) (sq_of hsa9) (atI_nat (at_iL hz))) (ea_cons (ev_is (ev_op (ev_int (ea_cons (ev_op (ev_ixI (ev_var rfl) (ev_op ev_c (ev_var rfl) rv_I0) (sq_of hn9) (nD_at (i := 36 + j) (by omega))) (ev_op (ev_var rfl) (ev_ixI (ev_var rfl) (ev_op ev_c (ev_var rfl) rv_I0) (sq_of hn9) (nD_at (i := 42 + j) (by omega))) (rv_I (C := CMul) (Or.inl (by omega)))) rv_I0) ea_nil)) (ev_call (ea_cons (ev_var rfl) ea_nil) (SpPlaces h4 h32)) (rv_I (by omega))) (by rw [hp])) ea_nil)) hzc (by omega)) fun v H10 ⟨_, kp, m⟩ => ?_
        exact ⟨_, _, rfl, m, fok fr z _ hf (flip_lt (hf z) fun y hy => by rw [List.mem_singleton.mp hy]; exact hpl), kp _ _ dnR hn9, kp _ _ dsR hsa9⟩
    case hd =>
      rintro σ' H7 ⟨u6, u7, fr, rfl, m, hf, hn7, hsa7⟩
      have ok := rok fr hf
      refine q_asgL (xs := (iL (rng fr c)).map V.int) (el_is (el_lcR1 (n := (c : Int)) (fun _ => true) (fun i => V.int ((fr i : Nat) : Int)) (ea_cons (ev_var rfl) ea_nil) (by omega) (fun _ => rfl) (fun i H1 e1 hi => et_yes) (fun i H1 e1 hi _ => ev_rowat (m.ex e1) (ev_var rfl) (ea_cons (ev_var rfl) ea_nil) (by omega))) (by rw [Int.toNat_natCast, rngI]; unfold given rng; rw [List.filter_eq_self.mpr fun _ _ => rfl])) fun ra H8 nra e8 hra => ?_
      have draR : ra ≠ R := fun z => by rw [z, m.rw_] at nra; cases nra
      have m := m.ex e8
      have hn8 := e8 _ _ hn7
      have hsa8 := e8 _ _ hsa7
      obtain ⟨y, hy, hyl⟩ : ∃ y : Nat, nD ns 48 % ((sl.length : Nat) : Int) = (y : Int) ∧ y < sl.length := by
        have i0 := Int.emod_nonneg (nD ns 48) (b := ((sl.length : Nat) : Int)) (by omega)
        have i1 := Int.emod_lt_of_pos (nD ns 48) (b := ((sl.length : Nat) : Int)) (by omega)
        exact ⟨(nD ns 48 % ((sl.length : Nat) : Int)).toNat, by omega, by omega⟩
      obtain ⟨i, hi, hic⟩ := sat y hyl
      refine q_asg (v := .int (i : Int)) (ev_ixI (i := (y : Int)) (ev_var rfl) (ev_is (ev_op (ev_int (ea_cons (ev_ixI (ev_var rfl) ev_c (sq_of hn8) (nD_at (i := 48) (by omega))) ea_nil)) (ev_is (ev_lenL (ev_var rfl) (sq_of hsa8)) (by rw [iL_len])) (rv_I (by omega))) (by rw [hy])) (sq_of hsa8) (atI_nat (at_iL hi))) fun H9 e9 => ?_
      have m := m.ex e9
      have hra9 := e9 _ _ hra
      have atR : ∀ (g : Nat → Nat) (j : Nat), j < c → atI ((iL (rng g c)).map V.int) (j : Int) = some (.int ((g j : Nat) : Int)) := fun g j hj => by rw [rngI]; exact atI_nat (rng_at hj)
      refine q_asg (v := .str (stO b (fr i))) (ev_opU0 (eu_call (ea_cons (ev_var rfl) (ea_cons (ev_ixI (ev_var rfl) (ev_var rfl) (sq_of hra9) (atR fr i hic)) ea_nil)) (SpState h4 h32 (hf i))) ev_c (by rw [stV_o]; rfl)) fun H10 e10 => ?_
      have m := m.ex e10
      have hra10 := e10 _ _ hra9
      have scX : scal (scrX b (fr i)) (scrX b (fr i)) = true := by unfold scrX; cases menO b (fr i) <;> rfl
      refine q_whenM (Pm := fun H' => MemAt C_Memory H' M R c b (rng (fset fr i (mnd b (fr i))) c) ∧ H' ra = some (.lst ((iL (rng fr c)).map V.int))) (fun Q' q' => em_lsc2 m (ea_cons (ev_var rfl) (ea_cons (ev_var rfl) ea_nil)) hic h5 h4 h32 ok _ fun v H11 hv => ?_) fun H11 hv => ?_
      · obtain ⟨rfl, kp, m⟩ := hv
        have hra11 := kp _ _ draR hra10
        refine (ev_disp3 (s := stO b (fr i)) (ev_var rfl) (dval b (fr i))) _ (Ex.refl _) _ fun H12 e12 => ?_
        refine (rv_ne scX) _ (Ex.refl _) _ fun H13 e13 => ⟨_, rfl, ?_⟩
        rw [decide_eq_true rfl]
        exact q' _ ⟨m.ex (e12.trans e13), (e12.trans e13) _ _ hra11⟩
      obtain ⟨m, hra11⟩ := hv
      have hf1 := fok fr i _ hf (mnd_lt (hf i))
      refine q_tail (Pm := fun σ' H' => σ' = [some (.ref a), some (.ref n), some (.int (b : Int)), some (.int (c : Int)), some (.ref sa), some (.ref M), u6, u7, some (.int (i : Int)), some (.ref ra), some (.str (stO b (fr i))), none, none, none, none, none] ∧ MemAt C_Memory H' M R c b (rng (fset fr i (mnd b (fr i))) c) ∧ H' ra = some (.lst ((iL (rng (fset fr i (mnd b (fr i))) c)).map V.int))) ?tail2 fun N hN => ?_
      rotate_left
      · refine s_when (b := decide (V.str (stO b (fr i)) = V.str "one")) (et_eq (ev_var rfl) ev_c rfl) (fun h12 H12 e12 => ?_) fun h12 H12 e12 => ?_
        · have hone : stO b (fr i) = "one" := by rw [str_dec] at h12; exact of_decide_eq_true h12
          have m := m.ex e12
          have hra12 := e12 _ _ hra11
          refine s_setL (l := ra) (j := i) hra12 (ev_is (ev_call (ea_cons (ev_var rfl) (ea_cons (ev_ixI (ev_var rfl) (ev_var rfl) (sq_of hra12) (atR fr i hic)) ea_nil)) (SpMended h4 h32 (hf i))) (show _ = V.int ((mnd b (fr i) : Nat) : Int) by rw [menV_o, mnd_one hone]; rfl)) (ev_var rfl) (ev_var rfl) (by rw [iL_len, rng_len]; exact hic) fun H13 e13 => hN _ _ ⟨rfl, (m.ex e13).kl (e13 _ _ hra12) (Kp1.of (Ex.refl H13)).u (Ne.symm draR), by rw [upd_same, iL_set, rng_set]⟩
        · have hone : ¬ stO b (fr i) = "one" := by rw [str_dec] at h12; exact of_decide_eq_false h12
          refine hN _ _ ⟨rfl, m.ex e12, ?_⟩
          rw [mnd_not hone, fset_self]
          exact e12 _ _ hra11
      rintro σ' H12 ⟨rfl, m, hra12⟩
      generalize fset fr i (mnd b (fr i)) = g at *
      generalize stO b (fr i) = sti at *
      have okg := rok g hf1
      refine q_when (b := false) (et_lsNe3 (l := iL (rng g c)) (el_is (el_lcR1 (n := (c : Int)) (fun _ => true) (fun i => V.int ((g i : Nat) : Int)) (ea_cons (ev_var rfl) ea_nil) (by omega) (fun _ => rfl) (fun i H1 e1 hi => et_yes) (fun i H1 e1 hi _ => ev_rowat (m.ex e1) (ev_var rfl) (ea_cons (ev_var rfl) ea_nil) (by omega))) (by rw [Int.toNat_natCast, rngI]; unfold given rng; rw [List.filter_eq_self.mpr fun _ _ => rfl])) (ev_var rfl) (sq_of hra12)) (fun z => Bool.noConfusion z) fun _ H13 e13 => ?_
      have m := m.ex e13
      have hra13 := e13 _ _ hra12
      refine q_asgL (xs := rng (fun i => V.str (stO b (g i))) c) (el_is (el_lcL (fun _ => true) (fun i => V.str (stO b (g i))) (ev_var rfl) (sq_of hra13) (by rw [iL_len, rng_len]; omega) (fun _ => rfl) (fun i x H1 e1 hi => et_yes) (fun i x H1 e1 hi _ => ?ee)) (by rw [iL_len, rng_len]; unfold given rng; rw [List.filter_eq_self.mpr fun _ _ => rfl])) fun sta H14 nst e14 hst => ?_
      case ee =>
        have hx : x = .int ((g i : Nat) : Int) ∧ i < c := by
          have hic : i < c := by
            have := (List.getElem?_eq_some_iff.mp hi).1
            rw [iL_len, rng_len] at this
            exact this
          rw [rngI, rng_at hic] at hi
          exact ⟨(Option.some.inj hi).symm, hic⟩
        obtain ⟨rfl, _⟩ := hx
        exact ev_opU0 (eu_call (ea_cons (ev_var rfl) (ea_cons (ev_var rfl) ea_nil)) (SpState h4 h32 (hf1 i))) ev_c (by rw [stV_o]; rfl)
      have dstR : sta ≠ R := fun z => by rw [z, m.rw_] at nst; cases nst
      have m := m.ex e14
      have hra14 := e14 _ _ hra13
      have stAt : ∀ j, j < c → atI (rng (fun i => V.str (stO b (g i))) c) (j : Int) = some (.str (stO b (g j))) := fun j hj => atI_nat (rng_at hj)
      refine q_asgG (evG_tupL3 (xs := (iL ((List.range c).filter fun i => decide (stO b (g i) = "one"))).map V.int) (ys := (iL ((List.range c).filter fun i => decide (stO b (g i) = "more"))).map V.int)
        (el_is (el_lcR1 (n := (c : Int)) (fun i => decide (stO b (g i) = "one")) (fun i => V.int ((i : Nat) : Int)) (ea_cons (ev_var rfl) ea_nil) (by omega) (fun _ => rfl) (fun i H1 e1 hi => et_is (et_eq (ev_ixI (ev_var rfl) (ev_var rfl) (sq_of (e1 _ _ hst)) (stAt i (by omega))) ev_c rfl) str_dec) (fun i H1 e1 hi _ => ev_var rfl)) (by rw [Int.toNat_natCast]; exact given_iL _ _))
        (el_is (el_lcR1 (n := (c : Int)) (fun i => decide (stO b (g i) = "more")) (fun i => V.int ((i : Nat) : Int)) (ea_cons (ev_var rfl) ea_nil) (by omega) (fun _ => rfl) (fun i H1 e1 hi => et_is (et_eq (ev_ixI (ev_var rfl) (ev_var rfl) (sq_of (e1 _ _ hst)) (stAt i (by omega))) ev_c rfl) str_dec) (fun i H1 e1 hi _ => ev_var rfl)) (by rw [Int.toNat_natCast]; exact given_iL _ _))) fun v H15 e15 hv => ?_
      obtain ⟨du, du0, du1, rfl, ndu, ndu0, ndu1, hdu, hdu0, hdu1⟩ := hv
      have dduR : du ≠ R := fun z => by rw [z, m.rw_] at ndu; cases ndu
      have ddu0R : du0 ≠ R := fun z => by rw [z, m.rw_] at ndu0; cases ndu0
      have ddu1R : du1 ≠ R := fun z => by rw [z, m.rw_] at ndu1; cases ndu1
      have m := m.ex e15
      have hra15 := e15 _ _ hra14
      have hst15 := e15 _ _ hst
      have rwR := m.rw_
      refine q_asgM (em_sal2 m (ev_var rfl) h5 h4 h32 okg) fun v H16 hv => ?_
      obtain ⟨t1, p1, q1, rfl, kp, m, nt1, np1, nq1, dpq, ht1, hp1, hq1⟩ := hv
      have dpR : p1 ≠ R := fun z => by rw [z, rwR] at np1; cases np1
      have dpra : p1 ≠ ra := fun z => by rw [z, hra15] at np1; cases np1
      have dpst : p1 ≠ sta := fun z => by rw [z, hst15] at np1; cases np1
      have dpdu : p1 ≠ du := fun z => by rw [z, hdu] at np1; cases np1
      have dpdu1 : p1 ≠ du1 := fun z => by rw [z, hdu1] at np1; cases np1
      have hra16 := kp _ _ draR hra15
      have hst16 := kp _ _ dstR hst15
      have hdu16 := kp _ _ dduR hdu
      have hdu016 := kp _ _ ddu0R hdu0
      have hdu116 := kp _ _ ddu1R hdu1
      refine q_when (b := false) (et_or0 (et_test (ev_op (ev_var rfl) (ev_var rfl) (rv_tupLL ht1 hp1 hq1 hdu16 hdu016 hdu116))) (et_is (et_not (et_B (ev_allL (bs := [true, true]) (el_is (el_lcT2 (xs := [.ref p1, .ref q1]) (fun _ => true) (fun _ => .bl true) (ev_var rfl) (st_of ht1) (by show 2 ≤ 40000; decide) (fun _ => rfl) (fun i x H1 e1 hi => et_yes) (fun i x H1 e1 hi _ => ?isl)) rfl)))) rfl)) (fun z => Bool.noConfusion z) fun _ H17 e17 => ?_
      case isl =>
        match i, hi with
        | 0, hi => cases hi; exact ev_isL (ev_var rfl) (e1 _ _ hp1)
        | 1, hi => cases hi; exact ev_isL (ev_var rfl) (e1 _ _ hq1)
        | i + 2, hi => cases hi
      have m := m.ex e17
      refine q_app (l := p1) (e17 _ _ hp1) (ev_op (ev_var rfl) ev_c (rv_ixT (i := 0) (st_of (e17 _ _ ht1)) rfl)) ev_c (by
        rw [iL_len]
        have := List.length_filter_le (fun i => decide (stO b (g i) = "one")) (List.range c)
        rw [List.length_range] at this
        omega) fun H18 e18 => ?_
      have m := (m.ex e18).kl ((e17.trans e18) _ _ hp1) (Kp1.of (Ex.refl H18)).u (Ne.symm dpR) (H' := upd H18 p1 (.lst (((iL ((List.range c).filter fun i => decide (stO b (g i) = "one"))).map V.int) ++ [V.int 0])))
      have hra18 : upd H18 p1 (.lst (((iL ((List.range c).filter fun i => decide (stO b (g i) = "one"))).map V.int) ++ [V.int 0])) ra = some (.lst ((iL (rng g c)).map V.int)) := by rw [upd_ne (Ne.symm dpra)]; exact (e17.trans e18) _ _ hra16
      have hst18 : upd H18 p1 (.lst (((iL ((List.range c).filter fun i => decide (stO b (g i) = "one"))).map V.int) ++ [V.int 0])) sta = some (.lst (rng (fun i => V.str (stO b (g i))) c)) := by rw [upd_ne (Ne.symm dpst)]; exact (e17.trans e18) _ _ hst16
      have hdu18 : upd H18 p1 (.lst (((iL ((List.range c).filter fun i => decide (stO b (g i) = "one"))).map V.int) ++ [V.int 0])) du = some (.tup [.ref du0, .ref du1]) := by rw [upd_ne (Ne.symm dpdu)]; exact (e17.trans e18) _ _ hdu16
      have hdu118 : upd H18 p1 (.lst (((iL ((List.range c).filter fun i => decide (stO b (g i) = "one"))).map V.int) ++ [V.int 0])) du1 = some (.lst ((iL ((List.range c).filter fun i => decide (stO b (g i) = "more"))).map V.int)) := by rw [upd_ne (Ne.symm dpdu1)]; exact (e17.trans e18) _ _ hdu116
      generalize upd H18 p1 (.lst (((iL ((List.range c).filter fun i => decide (stO b (g i) = "one"))).map V.int) ++ [V.int 0])) = H19 at *
      have dstra : sta ≠ ra := fun z => by rw [z, hra18] at hst18; exact absurd (hst18) (by rw [z] at nst; rw [hra13] at nst; cases nst)
      have ddura : du ≠ ra := fun z => by rw [z] at ndu; rw [hra14] at ndu; cases ndu
      have ddu1ra : du1 ≠ ra := fun z => by rw [z] at ndu1; rw [hra14] at ndu1; cases ndu1
      have hf2 : ∀ j, mnd b (g j) < 2 ^ pl b := fun j => mnd_lt (hf1 j)
      have ok2 : RowsOk b (rng (fun j => mnd b (g j)) c) := rok _ hf2
      refine q_forR1 (n := (c : Int)) (ea_cons (ev_var rfl) ea_nil) (by omega) (fun k σ' H' => ∃ (u7 : Option V), σ' = [some (.ref a), some (.ref n), some (.int (b : Int)), some (.int (c : Int)), some (.ref sa), some (.ref M), u6, u7, some (.int (i : Int)), some (.ref ra), some (.str sti), some (.ref sta), some (.ref du), some (.ref t1), none, none] ∧ MemAt C_Memory H' M R c b (rng (fun j => mnd b (g j)) c) ∧ H' ra = some (.lst ((iL (rng (fun j => if j < k then mnd b (g j) else g j) c)).map V.int)) ∧ H' sta = some (.lst (rng (fun i => V.str (stO b (g i))) c)) ∧ H' du = some (.tup [.ref du0, .ref du1]) ∧ H' du1 = some (.lst ((iL ((List.range c).filter fun i => decide (stO b (g i) = "more"))).map V.int)))
        (fun H20 e20 => ⟨_, rfl, m.ex e20, by rw [e20 _ _ hra18]; rfl, e20 _ _ hst18, e20 _ _ hdu18, e20 _ _ hdu118⟩) ?hs3 ?hd3
      case hd3 =>
        rintro σ' H20 ⟨u7, rfl, m, _, _, hdu20, hdu120⟩
        refine em_sal2 m (ev_var rfl) h5 h4 h32 ok2 _ fun v H21 hv => ?_
        obtain ⟨t2, p2, q2, rfl, kp, m, _, _, _, _, ht2, hp2, hq2⟩ := hv
        have f1 : (List.range c).filter (fun i => decide (stO b (mnd b (g i)) = "one")) = [] := List.filter_eq_nil_iff.mpr fun j _ => by
          rw [st_mnd]
          split
          · decide +kernel
          · decide +kernel
        have f2 : (List.range c).filter (fun i => decide (stO b (mnd b (g i)) = "more")) = (List.range c).filter (fun i => decide (stO b (g i) = "more")) := List.filter_congr fun j _ => by
          rw [st_mnd]
          split
          · rename_i h; rw [h]
          · rename_i h; rw [decide_eq_false h]; decide +kernel
        rw [f1] at hp2
        rw [f2] at hq2
        refine (evG_tupLA (xs := []) (el_lst ea_nil (by decide)) (ev_op (ev_var rfl) ev_c (rv_ixT (i := 1) (st_of (kp _ _ dduR hdu20)) rfl))) _ (Ex.refl _) _ fun y H22 e22 hy => ?_
        obtain ⟨p3, p4, rfl, hp3, hp4⟩ := hy
        exact rv_tupLLe (xs := []) (e22 _ _ ht2) (e22 _ _ hp2) (e22 _ _ hq2) hp3 hp4 (e22 _ _ (kp _ _ ddu1R hdu120)) _ (Ex.refl _) _ fun H23 e23 => q H23
      case hs3 =>
        rintro k σ' H20 hk ⟨u7, rfl, m, hra, hst, hdu, hdu1⟩
        have hkc : k < c := by omega
        refine q_tail (Pm := fun σ' H' => σ' = [some (.ref a), some (.ref n), some (.int (b : Int)), some (.int (c : Int)), some (.ref sa), some (.ref M), u6, some (.int (k : Int)), some (.int (i : Int)), some (.ref ra), some (.str sti), some (.ref sta), some (.ref du), some (.ref t1), none, none] ∧ MemAt C_Memory H' M R c b (rng (fun j => mnd b (g j)) c) ∧ H' ra = some (.lst ((iL (rng (fun j => if j < k + 1 then mnd b (g j) else g j) c)).map V.int)) ∧ H' sta = some (.lst (rng (fun i => V.str (stO b (g i))) c)) ∧ H' du = some (.tup [.ref du0, .ref du1]) ∧ H' du1 = some (.lst ((iL ((List.range c).filter fun i => decide (stO b (g i) = "more"))).map V.int))) ?tail4 fun N hN => ?_
        rotate_left
        · refine s_when (b := decide (V.str (stO b (g k)) = V.str "one")) (et_eq (ev_ixI (ev_var rfl) (ev_var rfl) (sq_of hst) (stAt k hkc)) ev_c rfl) (fun h21 H21 e21 => ?_) fun h21 H21 e21 => ?_
          · have hone : stO b (g k) = "one" := by rw [str_dec] at h21; exact of_decide_eq_true h21
            refine s_setL (l := ra) (j := k) (e21 _ _ hra) (ev_is (ev_call (ea_cons (ev_var rfl) (ea_cons (ev_is (ev_ixI (ev_var rfl) (ev_var rfl) (sq_of (e21 _ _ hra)) (atR _ k hkc)) (show _ = V.int ((g k : Nat) : Int) by rw [if_neg (Nat.lt_irrefl k)])) ea_nil)) (SpMended h4 h32 (hf1 k))) (show _ = V.int ((mnd b (g k) : Nat) : Int) by rw [menV_o, mnd_one hone]; rfl)) (ev_var rfl) (ev_var rfl) (by rw [iL_len, rng_len]; exact hkc) fun H22 e22 => hN _ _ ⟨rfl, ((m.ex e21).ex e22).kl (e22 _ _ (e21 _ _ hra)) (Kp1.of (Ex.refl H22)).u (Ne.symm draR), ?_, ?_, ?_, ?_⟩
            · rw [upd_same, iL_set, rng_set]
              congr 4
              refine rng_ext fun j hj => ?_
              by_cases e : j = k
              · subst e; rw [fset_same, if_pos (Nat.lt_succ_self j)]
              · rw [fset_ne e]
                by_cases e2 : j < k
                · rw [if_pos e2, if_pos (by omega)]
                · rw [if_neg e2, if_neg (by omega)]
            · rw [upd_ne dstra]; exact (e21.trans e22) _ _ hst
            · rw [upd_ne ddura]; exact (e21.trans e22) _ _ hdu
            · rw [upd_ne ddu1ra]; exact (e21.trans e22) _ _ hdu1
          · have hone : ¬ stO b (g k) = "one" := by rw [str_dec] at h21; exact of_decide_eq_false h21
            refine hN _ _ ⟨rfl, m.ex e21, ?_, e21 _ _ hst, e21 _ _ hdu, e21 _ _ hdu1⟩
            rw [e21 _ _ hra]
            congr 4
            refine rng_ext fun j hj => ?_
            by_cases e : j = k
            · subst e; rw [if_neg (Nat.lt_irrefl j), if_pos (Nat.lt_succ_self j), mnd_not hone]
            · by_cases e2 : j < k
              · rw [if_pos e2, if_pos (by omega)]
              · rw [if_neg e2, if_neg (by omega)]
        rintro σ' H21 ⟨rfl, m, hra, hst, hdu, hdu1⟩
        refine s_when (b := false) (et_or0 (et_neS (ev_rowat m (ev_var rfl) (ea_cons (ev_var rfl) ea_nil) hkc) (ev_is (ev_ixI (ev_var rfl) (ev_var rfl) (sq_of hra) (atR _ k hkc)) (show _ = V.int ((mnd b (g k) : Nat) : Int) by rw [if_pos (Nat.lt_succ_self k)])) rfl rfl) (et_is (et_eq (ev_opU0 (v := .str (stO b (mnd b (g k)))) (eu_stat m (ev_var rfl) (ea_cons (ev_var rfl) ea_nil) hkc h4 h32 ok2) ev_c (by rw [stV_o]; rfl)) ev_c rfl) ?nn)) (fun z => Bool.noConfusion z) fun _ H22 e22 => ⟨_, rfl, m.ex e22, e22 _ _ hra, e22 _ _ hst, e22 _ _ hdu, e22 _ _ hdu1⟩
        case nn =>
          rw [str_dec, st_mnd]
          split
          · decide +kernel
          · decide +kernel
end
theorem all_mk {l : PySem.W.OpenLaw} {w : World} {K : PySem.W.Frag} {h : Heap} {mg : Str → Option Value} {fa : Addr} (X : K.In h) (G : h.Ns mainGlobals mg) (hfa : mg "law" = some (.ref fa))
    {f0 f1 f2 f3 f4 f5 f6 f7 f8 f9 f10 f11 f12 f13 f14 f15 f16 f17 : Addr} {od0 an0 od1 an1 od2 an2 od3 an3 od4 an4 od5 an5 od6 an6 od7 an7 od8 an8 od9 an9 od10 an10 od11 an11 od12 an12 od13 an13 od14 an14 od15 an15 od16 an16 od17 an17 : Option Addr} {sl0 sl1 sl2 sl3 sl4 sl5 sl6 sl7 sl8 sl9 sl10 sl11 sl12 sl13 sl14 sl15 sl16 sl17 : Array (Option Value)} {oc0 kV0 dc0 pm0 cd0 ct0 oc1 kV1 dc1 pm1 cd1 ct1 oc2 kV2 dc2 pm2 cd2 ct2 oc3 kV3 dc3 pm3 cd3 ct3 oc4 kV4 dc4 pm4 cd4 ct4 oc5 kV5 dc5 pm5 cd5 ct5 oc6 kV6 dc6 pm6 cd6 ct6 oc7 kV7 dc7 pm7 cd7 ct7 oc8 kV8 dc8 pm8 cd8 ct8 oc9 kV9 dc9 pm9 cd9 ct9 oc10 kV10 dc10 pm10 cd10 ct10 oc11 kV11 dc11 pm11 cd11 ct11 oc12 kV12 dc12 pm12 cd12 ct12 oc13 kV13 dc13 pm13 cd13 ct13 oc14 kV14 dc14 pm14 cd14 ct14 oc15 kV15 dc15 pm15 cd15 ct15 oc16 kV16 dc16 pm16 cd16 ct16 oc17 kV17 dc17 pm17 cd17 ct17 : Value}
    {C_Memory : Addr}
    (aC_Memory : PySem.W.nsIn K mainGlobals "Memory" = some (some (.ref C_Memory)))
    (cpg_Memory : PySem.W.plainGet K C_Memory Str.empty = true)
    (chd_Memory : PySem.W.hasDictIn K C_Memory = true)
    (cpo_Memory : PySem.W.plainOver K C_Memory = true)
    (csa_Memory : PySem.W.findIn K (.ref C_Memory) "__setattr__" = some (some (.builtin "object.__setattr__")))
    (cmk_Memory : PySem.W.makesIn K C_Memory = true)
    (ckc_Memory : PySem.W.keepIn K (.ref C_Memory) = true)
    (cci_Memory : PySem.W.findIn K (.ref C_Memory) "__class__" = some (some (.builtin "object.__class__")))
    (csp_Memory : PySem.W.specialIn K (.builtin "object.__class__") "__get__" = some (some (.builtin "getset_descriptor.__get__")))
    (ctk_Memory : PySem.W.takesIn K (.builtin "object.__class__") = some true)
    (cmo_Memory : PySem.W.mroIn K C_Memory (.type "object") = some true)
    (cko_Memory : PySem.W.kitOne K (.ref C_Memory) (.ref C_Memory) = some true)
    (cno_Memory_cells : PySem.W.findIn K (.ref C_Memory) "cells" = some none)
    (cno_Memory_bits : PySem.W.findIn K (.ref C_Memory) "bits" = some none)
    (cno_Memory__rows : PySem.W.findIn K (.ref C_Memory) "_rows" = some none)
    {fMemory___init__ : Addr} {odMemory___init__ anMemory___init__ : Option Addr} {slMemory___init__ : Array (Option Value)} {ocMemory___init__ kVMemory___init__ dcMemory___init__ pmMemory___init__ cdMemory___init__ ctMemory___init__ : Value}
    (ma_Memory___init__ : PySem.W.findIn K (.ref C_Memory) "__init__" = some (some (.ref fMemory___init__)))
    (mi_Memory___init__ : PySem.W.isFn K (.ref fMemory___init__) = true)
    (mk_Memory___init__ : PySem.W.keepIn K (.ref fMemory___init__) = true)
    (ml_Memory___init__ : K.lookup fMemory___init__ = some ⟨ocMemory___init__, odMemory___init__, .func (PySem.W.fnOf "__init__" "Memory.__init__" (defArgs s_Memory___init__) (defBody s_Memory___init__) (defScope s_Memory___init__) .none kVMemory___init__ dcMemory___init__ pmMemory___init__ anMemory___init__ cdMemory___init__ ctMemory___init__), slMemory___init__⟩)
    (mc_Memory___init__ : PySem.W.codeIn K cdMemory___init__ "Memory.__init__" = true)
    {fMemory_write : Addr} {odMemory_write anMemory_write : Option Addr} {slMemory_write : Array (Option Value)} {ocMemory_write kVMemory_write dcMemory_write pmMemory_write cdMemory_write ctMemory_write : Value}
    (ma_Memory_write : PySem.W.findIn K (.ref C_Memory) "write" = some (some (.ref fMemory_write)))
    (mi_Memory_write : PySem.W.isFn K (.ref fMemory_write) = true)
    (mk_Memory_write : PySem.W.keepIn K (.ref fMemory_write) = true)
    (ml_Memory_write : K.lookup fMemory_write = some ⟨ocMemory_write, odMemory_write, .func (PySem.W.fnOf "write" "Memory.write" (defArgs s_Memory_write) (defBody s_Memory_write) (defScope s_Memory_write) .none kVMemory_write dcMemory_write pmMemory_write anMemory_write cdMemory_write ctMemory_write), slMemory_write⟩)
    (mc_Memory_write : PySem.W.codeIn K cdMemory_write "Memory.write" = true)
    {fMemory_read : Addr} {odMemory_read anMemory_read : Option Addr} {slMemory_read : Array (Option Value)} {ocMemory_read kVMemory_read dcMemory_read pmMemory_read cdMemory_read ctMemory_read : Value}
    (ma_Memory_read : PySem.W.findIn K (.ref C_Memory) "read" = some (some (.ref fMemory_read)))
    (mi_Memory_read : PySem.W.isFn K (.ref fMemory_read) = true)
    (mk_Memory_read : PySem.W.keepIn K (.ref fMemory_read) = true)
    (ml_Memory_read : K.lookup fMemory_read = some ⟨ocMemory_read, odMemory_read, .func (PySem.W.fnOf "read" "Memory.read" (defArgs s_Memory_read) (defBody s_Memory_read) (defScope s_Memory_read) .none kVMemory_read dcMemory_read pmMemory_read anMemory_read cdMemory_read ctMemory_read), slMemory_read⟩)
    (mc_Memory_read : PySem.W.codeIn K cdMemory_read "Memory.read" = true)
    {fMemory_scrub : Addr} {odMemory_scrub anMemory_scrub : Option Addr} {slMemory_scrub : Array (Option Value)} {ocMemory_scrub kVMemory_scrub dcMemory_scrub pmMemory_scrub cdMemory_scrub ctMemory_scrub : Value}
    (ma_Memory_scrub : PySem.W.findIn K (.ref C_Memory) "scrub" = some (some (.ref fMemory_scrub)))
    (mi_Memory_scrub : PySem.W.isFn K (.ref fMemory_scrub) = true)
    (mk_Memory_scrub : PySem.W.keepIn K (.ref fMemory_scrub) = true)
    (ml_Memory_scrub : K.lookup fMemory_scrub = some ⟨ocMemory_scrub, odMemory_scrub, .func (PySem.W.fnOf "scrub" "Memory.scrub" (defArgs s_Memory_scrub) (defBody s_Memory_scrub) (defScope s_Memory_scrub) .none kVMemory_scrub dcMemory_scrub pmMemory_scrub anMemory_scrub cdMemory_scrub ctMemory_scrub), slMemory_scrub⟩)
    (mc_Memory_scrub : PySem.W.codeIn K cdMemory_scrub "Memory.scrub" = true)
    {fMemory_scrub_all : Addr} {odMemory_scrub_all anMemory_scrub_all : Option Addr} {slMemory_scrub_all : Array (Option Value)} {ocMemory_scrub_all kVMemory_scrub_all dcMemory_scrub_all pmMemory_scrub_all cdMemory_scrub_all ctMemory_scrub_all : Value}
    (ma_Memory_scrub_all : PySem.W.findIn K (.ref C_Memory) "scrub_all" = some (some (.ref fMemory_scrub_all)))
    (mi_Memory_scrub_all : PySem.W.isFn K (.ref fMemory_scrub_all) = true)
    (mk_Memory_scrub_all : PySem.W.keepIn K (.ref fMemory_scrub_all) = true)
    (ml_Memory_scrub_all : K.lookup fMemory_scrub_all = some ⟨ocMemory_scrub_all, odMemory_scrub_all, .func (PySem.W.fnOf "scrub_all" "Memory.scrub_all" (defArgs s_Memory_scrub_all) (defBody s_Memory_scrub_all) (defScope s_Memory_scrub_all) .none kVMemory_scrub_all dcMemory_scrub_all pmMemory_scrub_all anMemory_scrub_all cdMemory_scrub_all ctMemory_scrub_all), slMemory_scrub_all⟩)
    (mc_Memory_scrub_all : PySem.W.codeIn K cdMemory_scrub_all "Memory.scrub_all" = true)
    {fMemory_flip : Addr} {odMemory_flip anMemory_flip : Option Addr} {slMemory_flip : Array (Option Value)} {ocMemory_flip kVMemory_flip dcMemory_flip pmMemory_flip cdMemory_flip ctMemory_flip : Value}
    (ma_Memory_flip : PySem.W.findIn K (.ref C_Memory) "flip" = some (some (.ref fMemory_flip)))
    (mi_Memory_flip : PySem.W.isFn K (.ref fMemory_flip) = true)
    (mk_Memory_flip : PySem.W.keepIn K (.ref fMemory_flip) = true)
    (ml_Memory_flip : K.lookup fMemory_flip = some ⟨ocMemory_flip, odMemory_flip, .func (PySem.W.fnOf "flip" "Memory.flip" (defArgs s_Memory_flip) (defBody s_Memory_flip) (defScope s_Memory_flip) .none kVMemory_flip dcMemory_flip pmMemory_flip anMemory_flip cdMemory_flip ctMemory_flip), slMemory_flip⟩)
    (mc_Memory_flip : PySem.W.codeIn K cdMemory_flip "Memory.flip" = true)
    {fMemory_row_at : Addr} {odMemory_row_at anMemory_row_at : Option Addr} {slMemory_row_at : Array (Option Value)} {ocMemory_row_at kVMemory_row_at dcMemory_row_at pmMemory_row_at cdMemory_row_at ctMemory_row_at : Value}
    (ma_Memory_row_at : PySem.W.findIn K (.ref C_Memory) "row_at" = some (some (.ref fMemory_row_at)))
    (mi_Memory_row_at : PySem.W.isFn K (.ref fMemory_row_at) = true)
    (mk_Memory_row_at : PySem.W.keepIn K (.ref fMemory_row_at) = true)
    (ml_Memory_row_at : K.lookup fMemory_row_at = some ⟨ocMemory_row_at, odMemory_row_at, .func (PySem.W.fnOf "row_at" "Memory.row_at" (defArgs s_Memory_row_at) (defBody s_Memory_row_at) (defScope s_Memory_row_at) .none kVMemory_row_at dcMemory_row_at pmMemory_row_at anMemory_row_at cdMemory_row_at ctMemory_row_at), slMemory_row_at⟩)
    (mc_Memory_row_at : PySem.W.codeIn K cdMemory_row_at "Memory.row_at" = true)
    {fMemory_state_at : Addr} {odMemory_state_at anMemory_state_at : Option Addr} {slMemory_state_at : Array (Option Value)} {ocMemory_state_at kVMemory_state_at dcMemory_state_at pmMemory_state_at cdMemory_state_at ctMemory_state_at : Value}
    (ma_Memory_state_at : PySem.W.findIn K (.ref C_Memory) "state_at" = some (some (.ref fMemory_state_at)))
    (mi_Memory_state_at : PySem.W.isFn K (.ref fMemory_state_at) = true)
    (mk_Memory_state_at : PySem.W.keepIn K (.ref fMemory_state_at) = true)
    (ml_Memory_state_at : K.lookup fMemory_state_at = some ⟨ocMemory_state_at, odMemory_state_at, .func (PySem.W.fnOf "state_at" "Memory.state_at" (defArgs s_Memory_state_at) (defBody s_Memory_state_at) (defScope s_Memory_state_at) .none kVMemory_state_at dcMemory_state_at pmMemory_state_at anMemory_state_at cdMemory_state_at ctMemory_state_at), slMemory_state_at⟩)
    (mc_Memory_state_at : PySem.W.codeIn K cdMemory_state_at "Memory.state_at" = true)
    {fMemory_twin : Addr} {odMemory_twin anMemory_twin : Option Addr} {slMemory_twin : Array (Option Value)} {ocMemory_twin kVMemory_twin dcMemory_twin pmMemory_twin cdMemory_twin ctMemory_twin : Value}
    (ma_Memory_twin : PySem.W.findIn K (.ref C_Memory) "twin" = some (some (.ref fMemory_twin)))
    (mi_Memory_twin : PySem.W.isFn K (.ref fMemory_twin) = true)
    (mk_Memory_twin : PySem.W.keepIn K (.ref fMemory_twin) = true)
    (ml_Memory_twin : K.lookup fMemory_twin = some ⟨ocMemory_twin, odMemory_twin, .func (PySem.W.fnOf "twin" "Memory.twin" (defArgs s_Memory_twin) (defBody s_Memory_twin) (defScope s_Memory_twin) .none kVMemory_twin dcMemory_twin pmMemory_twin anMemory_twin cdMemory_twin ctMemory_twin), slMemory_twin⟩)
    (mc_Memory_twin : PySem.W.codeIn K cdMemory_twin "Memory.twin" = true)
    {fMemory__word_at : Addr} {odMemory__word_at anMemory__word_at : Option Addr} {slMemory__word_at : Array (Option Value)} {ocMemory__word_at kVMemory__word_at dcMemory__word_at pmMemory__word_at cdMemory__word_at ctMemory__word_at : Value}
    (ma_Memory__word_at : PySem.W.findIn K (.ref C_Memory) "_word_at" = some (some (.ref fMemory__word_at)))
    (mi_Memory__word_at : PySem.W.isFn K (.ref fMemory__word_at) = true)
    (mk_Memory__word_at : PySem.W.keepIn K (.ref fMemory__word_at) = true)
    (ml_Memory__word_at : K.lookup fMemory__word_at = some ⟨ocMemory__word_at, odMemory__word_at, .func (PySem.W.fnOf "_word_at" "Memory._word_at" (defArgs s_Memory__word_at) (defBody s_Memory__word_at) (defScope s_Memory__word_at) .none kVMemory__word_at dcMemory__word_at pmMemory__word_at anMemory__word_at cdMemory__word_at ctMemory__word_at), slMemory__word_at⟩)
    (mc_Memory__word_at : PySem.W.codeIn K cdMemory__word_at "Memory._word_at" = true)
    {C_Unmendable : Addr}
    (eC_Unmendable : PySem.W.nsIn K mainGlobals "Unmendable" = some (some (.ref C_Unmendable)))
    {C_FarError : Addr}
    (eC_FarError : PySem.W.nsIn K mainGlobals "FarError" = some (some (.ref C_FarError)))
    (ek_Unmendable_FarError : PySem.W.kitOne K (.ref C_Unmendable) (.ref C_FarError) = some true)
    {nmUnmendable qUnmendable : Str} {NnUnmendable cdaUnmendable ccUnmendable fUnmendable : Addr} {bsUnmendable subUnmendable : List Value} {snUnmendable : List Str} {abUnmendable : Bool} {colUnmendable : Option Bool} {ddUnmendable : Option Addr} {m0Unmendable m1Unmendable m2Unmendable m3Unmendable m5Unmendable : Option Value} {ocUnmendable kVUnmendable dcUnmendable pmUnmendable ctUnmendable cclUnmendable clUnmendable : Value} {odUnmendable cddUnmendable cldUnmendable : Option Addr} {slUnmendable ccsUnmendable cslUnmendable : Array (Option Value)} {vsUnmendable : Array Value} {fileUnmendable : Str} {tfUnmendable : _}
    (ex_Unmendable : K.lookup C_Unmendable = some (excClassObj nmUnmendable qUnmendable C_Unmendable NnUnmendable bsUnmendable [.ref C_FarError, .type "ValueError", .type "Exception", .type "BaseException", .type "object"] true snUnmendable subUnmendable abUnmendable colUnmendable ddUnmendable m0Unmendable m1Unmendable m2Unmendable m3Unmendable m5Unmendable "ValueError.__new__"))
    (esa_Unmendable : PySem.W.findIn K (.ref C_Unmendable) "__setattr__" = some (some (.builtin "object.__setattr__")))
    (ega_Unmendable : PySem.W.findIn K (.ref C_Unmendable) "__getattribute__" = some (some (.builtin "BaseException.__getattribute__")))
    (egg_Unmendable : PySem.W.findIn K (.ref C_Unmendable) "__getattr__" = some none)
    (ecl_Unmendable : PySem.W.findIn K (.ref C_Unmendable) "__class__" = some (some (.builtin "object.__class__")))
    (esB_Unmendable : PySem.W.subIn K (.ref C_Unmendable) (.type "BaseException") = some true)
    (esV_Unmendable : PySem.W.subIn K (.ref C_Unmendable) (.type "ValueError") = some true)
    (ess_Unmendable : PySem.W.subIn K (.ref C_Unmendable) (.ref C_Unmendable) = some true)
    (ety_Unmendable : PySem.W.typeIn K (.ref C_Unmendable) = some (.type "type"))
    (ekp_Unmendable : PySem.W.keepIn K (.ref C_Unmendable) = true)
    (ehd_Unmendable : PySem.W.hasDictIn K C_Unmendable = true)
    (esp_Unmendable : PySem.W.specialIn K (.builtin "object.__class__") "__get__" = some (some (.builtin "getset_descriptor.__get__")))
    (etk_Unmendable : PySem.W.takesIn K (.builtin "object.__class__") = some true)
    (emo_Unmendable : PySem.W.mroIn K C_Unmendable (.type "object") = some true)
    (ems_Unmendable : PySem.W.mroIn K C_Unmendable (.ref C_Unmendable) = some true)
    (eno_Unmendable : PySem.W.findIn K (.ref C_Unmendable) "place" = some none)
    (ein_Unmendable : PySem.W.findIn K (.ref C_Unmendable) "__init__" = some (some (.ref fUnmendable)))
    (etf_Unmendable : PySem.W.typeIn K (.ref fUnmendable) = some (.type "function"))
    (el_Unmendable : K.lookup fUnmendable = some ⟨ocUnmendable, odUnmendable, .func (PySem.W.ksFn "__init__" "Unmendable.__init__" (defArgs s_Unmendable___init__) (defBody s_Unmendable___init__) (defScope s_Unmendable___init__) .none kVUnmendable dcUnmendable pmUnmendable none (.ref cdaUnmendable) ctUnmendable ccUnmendable), slUnmendable⟩)
    (ec_Unmendable : PySem.W.codeIn K (.ref cdaUnmendable) "Unmendable.__init__" = true)
    (ed_Unmendable : K.lookup cdaUnmendable = some ⟨cclUnmendable, cddUnmendable, .fields vsUnmendable, ccsUnmendable⟩)
    (ev_Unmendable : vsUnmendable[2]? = some (.str fileUnmendable tfUnmendable))
    (ef_Unmendable : ((l.prog.main.file : Str) == fileUnmendable) = true)
    (ee_Unmendable : K.lookup ccUnmendable = some ⟨clUnmendable, cldUnmendable, .cell (some (.ref C_Unmendable)), cslUnmendable⟩)
    (eS_Unmendable : PySem.W.ks_superIn K C_Unmendable C_Unmendable "__init__" = some (some (.builtin "ValueError.__init__")))
    (e_any : PySem.W.nsIn K cStatics "thirdparty.any" = some none)
    (e_top : (l.prog.main.scope.names.lookup ("super" : Str)).isSome = false)
    (a0 : PySem.W.nsIn K mainGlobals "_law_row" = some (some (.ref f0))) (l0 : K.lookup f0 = some ⟨oc0, od0, .func (PySem.W.fnOf "_law_row" "_law_row" (defArgs s__law_row) (defBody s__law_row) (defScope s__law_row) .none kV0 dc0 pm0 an0 cd0 ct0), sl0⟩) (c0 : PySem.W.codeIn K cd0 "_law_row" = true) (k0 : PySem.W.keepIn K (.ref f0) = true)
    (a1 : PySem.W.nsIn K mainGlobals "_law_numbers" = some (some (.ref f1))) (l1 : K.lookup f1 = some ⟨oc1, od1, .func (PySem.W.fnOf "_law_numbers" "_law_numbers" (defArgs s__law_numbers) (defBody s__law_numbers) (defScope s__law_numbers) .none kV1 dc1 pm1 an1 cd1 ct1), sl1⟩) (c1 : PySem.W.codeIn K cd1 "_law_numbers" = true) (k1 : PySem.W.keepIn K (.ref f1) = true)
    (a2 : PySem.W.nsIn K mainGlobals "_law_checks" = some (some (.ref f2))) (l2 : K.lookup f2 = some ⟨oc2, od2, .func (PySem.W.fnOf "_law_checks" "_law_checks" (defArgs s__law_checks) (defBody s__law_checks) (defScope s__law_checks) .none kV2 dc2 pm2 an2 cd2 ct2), sl2⟩) (c2 : PySem.W.codeIn K cd2 "_law_checks" = true) (k2 : PySem.W.keepIn K (.ref f2) = true)
    (a3 : PySem.W.nsIn K mainGlobals "_law_places" = some (some (.ref f3))) (l3 : K.lookup f3 = some ⟨oc3, od3, .func (PySem.W.fnOf "_law_places" "_law_places" (defArgs s__law_places) (defBody s__law_places) (defScope s__law_places) .none kV3 dc3 pm3 an3 cd3 ct3), sl3⟩) (c3 : PySem.W.codeIn K cd3 "_law_places" = true) (k3 : PySem.W.keepIn K (.ref f3) = true)
    (a4 : PySem.W.nsIn K mainGlobals "_law_value" = some (some (.ref f4))) (l4 : K.lookup f4 = some ⟨oc4, od4, .func (PySem.W.fnOf "_law_value" "_law_value" (defArgs s__law_value) (defBody s__law_value) (defScope s__law_value) .none kV4 dc4 pm4 an4 cd4 ct4), sl4⟩) (c4 : PySem.W.codeIn K cd4 "_law_value" = true) (k4 : PySem.W.keepIn K (.ref f4) = true)
    (a5 : PySem.W.nsIn K mainGlobals "_law_scrub" = some (some (.ref f5))) (l5 : K.lookup f5 = some ⟨oc5, od5, .func (PySem.W.fnOf "_law_scrub" "_law_scrub" (defArgs s__law_scrub) (defBody s__law_scrub) (defScope s__law_scrub) .none kV5 dc5 pm5 an5 cd5 ct5), sl5⟩) (c5 : PySem.W.codeIn K cd5 "_law_scrub" = true) (k5 : PySem.W.keepIn K (.ref f5) = true)
    (a6 : PySem.W.nsIn K mainGlobals "places_of" = some (some (.ref f6))) (l6 : K.lookup f6 = some ⟨oc6, od6, .func (PySem.W.fnOf "places_of" "places_of" (defArgs s_places_of) (defBody s_places_of) (defScope s_places_of) .none kV6 dc6 pm6 an6 cd6 ct6), sl6⟩) (c6 : PySem.W.codeIn K cd6 "places_of" = true) (k6 : PySem.W.keepIn K (.ref f6) = true)
    (a7 : PySem.W.nsIn K mainGlobals "check_places" = some (some (.ref f7))) (l7 : K.lookup f7 = some ⟨oc7, od7, .func (PySem.W.fnOf "check_places" "check_places" (defArgs s_check_places) (defBody s_check_places) (defScope s_check_places) .none kV7 dc7 pm7 an7 cd7 ct7), sl7⟩) (c7 : PySem.W.codeIn K cd7 "check_places" = true) (k7 : PySem.W.keepIn K (.ref f7) = true)
    (a8 : PySem.W.nsIn K mainGlobals "data_places" = some (some (.ref f8))) (l8 : K.lookup f8 = some ⟨oc8, od8, .func (PySem.W.fnOf "data_places" "data_places" (defArgs s_data_places) (defBody s_data_places) (defScope s_data_places) .none kV8 dc8 pm8 an8 cd8 ct8), sl8⟩) (c8 : PySem.W.codeIn K cd8 "data_places" = true) (k8 : PySem.W.keepIn K (.ref f8) = true)
    (a9 : PySem.W.nsIn K mainGlobals "differing" = some (some (.ref f9))) (l9 : K.lookup f9 = some ⟨oc9, od9, .func (PySem.W.fnOf "differing" "differing" (defArgs s_differing) (defBody s_differing) (defScope s_differing) .none kV9 dc9 pm9 an9 cd9 ct9), sl9⟩) (c9 : PySem.W.codeIn K cd9 "differing" = true) (k9 : PySem.W.keepIn K (.ref f9) = true)
    (a10 : PySem.W.nsIn K mainGlobals "ones_in" = some (some (.ref f10))) (l10 : K.lookup f10 = some ⟨oc10, od10, .func (PySem.W.fnOf "ones_in" "ones_in" (defArgs s_ones_in) (defBody s_ones_in) (defScope s_ones_in) .none kV10 dc10 pm10 an10 cd10 ct10), sl10⟩) (c10 : PySem.W.codeIn K cd10 "ones_in" = true) (k10 : PySem.W.keepIn K (.ref f10) = true)
    (a11 : PySem.W.nsIn K mainGlobals "spot_of" = some (some (.ref f11))) (l11 : K.lookup f11 = some ⟨oc11, od11, .func (PySem.W.fnOf "spot_of" "spot_of" (defArgs s_spot_of) (defBody s_spot_of) (defScope s_spot_of) .none kV11 dc11 pm11 an11 cd11 ct11), sl11⟩) (c11 : PySem.W.codeIn K cd11 "spot_of" = true) (k11 : PySem.W.keepIn K (.ref f11) = true)
    (a12 : PySem.W.nsIn K mainGlobals "flipped" = some (some (.ref f12))) (l12 : K.lookup f12 = some ⟨oc12, od12, .func (PySem.W.fnOf "flipped" "flipped" (defArgs s_flipped) (defBody s_flipped) (defScope s_flipped) .none kV12 dc12 pm12 an12 cd12 ct12), sl12⟩) (c12 : PySem.W.codeIn K cd12 "flipped" = true) (k12 : PySem.W.keepIn K (.ref f12) = true)
    (a13 : PySem.W.nsIn K mainGlobals "coded" = some (some (.ref f13))) (l13 : K.lookup f13 = some ⟨oc13, od13, .func (PySem.W.fnOf "coded" "coded" (defArgs s_coded) (defBody s_coded) (defScope s_coded) .none kV13 dc13 pm13 an13 cd13 ct13), sl13⟩) (c13 : PySem.W.codeIn K cd13 "coded" = true) (k13 : PySem.W.keepIn K (.ref f13) = true)
    (a14 : PySem.W.nsIn K mainGlobals "value_in" = some (some (.ref f14))) (l14 : K.lookup f14 = some ⟨oc14, od14, .func (PySem.W.fnOf "value_in" "value_in" (defArgs s_value_in) (defBody s_value_in) (defScope s_value_in) .none kV14 dc14 pm14 an14 cd14 ct14), sl14⟩) (c14 : PySem.W.codeIn K cd14 "value_in" = true) (k14 : PySem.W.keepIn K (.ref f14) = true)
    (a15 : PySem.W.nsIn K mainGlobals "state_of" = some (some (.ref f15))) (l15 : K.lookup f15 = some ⟨oc15, od15, .func (PySem.W.fnOf "state_of" "state_of" (defArgs s_state_of) (defBody s_state_of) (defScope s_state_of) .none kV15 dc15 pm15 an15 cd15 ct15), sl15⟩) (c15 : PySem.W.codeIn K cd15 "state_of" = true) (k15 : PySem.W.keepIn K (.ref f15) = true)
    (a16 : PySem.W.nsIn K mainGlobals "mended" = some (some (.ref f16))) (l16 : K.lookup f16 = some ⟨oc16, od16, .func (PySem.W.fnOf "mended" "mended" (defArgs s_mended) (defBody s_mended) (defScope s_mended) .none kV16 dc16 pm16 an16 cd16 ct16), sl16⟩) (c16 : PySem.W.codeIn K cd16 "mended" = true) (k16 : PySem.W.keepIn K (.ref f16) = true)
    (a17 : PySem.W.nsIn K mainGlobals "law" = some (some (.ref f17))) (l17 : K.lookup f17 = some ⟨oc17, od17, .func (PySem.W.fnOf "law" "law" (defArgs s_law) (defBody s_law) (defScope s_law) .none kV17 dc17 pm17 an17 cd17 ct17), sl17⟩) (c17 : PySem.W.codeIn K cd17 "law" = true) (k17 : PySem.W.keepIn K (.ref f17) = true)
    (z_abs : PySem.W.nsIn K mainGlobals "abs" = some none)
    (z_all : PySem.W.nsIn K mainGlobals "all" = some none)
    (z_enumerate : PySem.W.nsIn K mainGlobals "enumerate" = some none)
    (z_int : PySem.W.nsIn K mainGlobals "int" = some none)
    (z_isinstance : PySem.W.nsIn K mainGlobals "isinstance" = some none)
    (z_len : PySem.W.nsIn K mainGlobals "len" = some none)
    (z_list : PySem.W.nsIn K mainGlobals "list" = some none)
    (z_max : PySem.W.nsIn K mainGlobals "max" = some none)
    (z_range : PySem.W.nsIn K mainGlobals "range" = some none)
    (z_sum : PySem.W.nsIn K mainGlobals "sum" = some none)
    (z_super : PySem.W.nsIn K mainGlobals "super" = some none)
    : ∃ fd : FuncData, (∀ (s : Shared) (v : Value), BindsTo s fd ⟨[v], []⟩ [("script", v)]) ∧ ∀ base : Heap, K.In base → base.Ns mainGlobals mg → FnOk l.prog w K mg base CX0 10 fa fd ["script"] (spLaw K) := by
  have e := hfa.symm.trans (PySem.W.mg_of X G a17)
  cases e
  have mz_abs := PySem.W.mg_none_of X G z_abs
  have mz_all := PySem.W.mg_none_of X G z_all
  have mz_enumerate := PySem.W.mg_none_of X G z_enumerate
  have mz_int := PySem.W.mg_none_of X G z_int
  have mz_isinstance := PySem.W.mg_none_of X G z_isinstance
  have mz_len := PySem.W.mg_none_of X G z_len
  have mz_list := PySem.W.mg_none_of X G z_list
  have mz_max := PySem.W.mg_none_of X G z_max
  have mz_range := PySem.W.mg_none_of X G z_range
  have mz_sum := PySem.W.mg_none_of X G z_sum
  have mz_super := PySem.W.mg_none_of X G z_super
  refine ⟨PySem.W.fnOf "law" "law" (defArgs s_law) (defBody s_law) (defScope s_law) .none kV17 dc17 pm17 an17 cd17 ct17, fun s v => .of_eq rfl, fun base _ _ => ?_⟩
  have A__law_row : At K mg "_law_row" s__law_row := ⟨_, _, fun_mk (st := s__law_row) l0 c0 k0, PySem.W.mg_of X G a0⟩
  have A__law_numbers : At K mg "_law_numbers" s__law_numbers := ⟨_, _, fun_mk (st := s__law_numbers) l1 c1 k1, PySem.W.mg_of X G a1⟩
  have A__law_checks : At K mg "_law_checks" s__law_checks := ⟨_, _, fun_mk (st := s__law_checks) l2 c2 k2, PySem.W.mg_of X G a2⟩
  have A__law_places : At K mg "_law_places" s__law_places := ⟨_, _, fun_mk (st := s__law_places) l3 c3 k3, PySem.W.mg_of X G a3⟩
  have A__law_value : At K mg "_law_value" s__law_value := ⟨_, _, fun_mk (st := s__law_value) l4 c4 k4, PySem.W.mg_of X G a4⟩
  have A__law_scrub : At K mg "_law_scrub" s__law_scrub := ⟨_, _, fun_mk (st := s__law_scrub) l5 c5 k5, PySem.W.mg_of X G a5⟩
  have A_places_of : At K mg "places_of" s_places_of := ⟨_, _, fun_mk (st := s_places_of) l6 c6 k6, PySem.W.mg_of X G a6⟩
  have A_check_places : At K mg "check_places" s_check_places := ⟨_, _, fun_mk (st := s_check_places) l7 c7 k7, PySem.W.mg_of X G a7⟩
  have A_data_places : At K mg "data_places" s_data_places := ⟨_, _, fun_mk (st := s_data_places) l8 c8 k8, PySem.W.mg_of X G a8⟩
  have A_differing : At K mg "differing" s_differing := ⟨_, _, fun_mk (st := s_differing) l9 c9 k9, PySem.W.mg_of X G a9⟩
  have A_ones_in : At K mg "ones_in" s_ones_in := ⟨_, _, fun_mk (st := s_ones_in) l10 c10 k10, PySem.W.mg_of X G a10⟩
  have A_spot_of : At K mg "spot_of" s_spot_of := ⟨_, _, fun_mk (st := s_spot_of) l11 c11 k11, PySem.W.mg_of X G a11⟩
  have A_flipped : At K mg "flipped" s_flipped := ⟨_, _, fun_mk (st := s_flipped) l12 c12 k12, PySem.W.mg_of X G a12⟩
  have A_coded : At K mg "coded" s_coded := ⟨_, _, fun_mk (st := s_coded) l13 c13 k13, PySem.W.mg_of X G a13⟩
  have A_value_in : At K mg "value_in" s_value_in := ⟨_, _, fun_mk (st := s_value_in) l14 c14 k14, PySem.W.mg_of X G a14⟩
  have A_state_of : At K mg "state_of" s_state_of := ⟨_, _, fun_mk (st := s_state_of) l15 c15 k15, PySem.W.mg_of X G a15⟩
  have A_mended : At K mg "mended" s_mended := ⟨_, _, fun_mk (st := s_mended) l16 c16 k16, PySem.W.mg_of X G a16⟩
  have F_law := fun_mk (st := s_law) l17 c17 k17
  have T_Memory : Cls K C_Memory := ⟨cpg_Memory, chd_Memory, cpo_Memory, csa_Memory⟩
  have TI_Memory : C8.InsC K C_Memory := ⟨T_Memory, cci_Memory, csp_Memory, ctk_Memory, cmo_Memory, cko_Memory⟩
  have TM_Memory : MemC K C_Memory := ⟨T_Memory, cno_Memory_cells, cno_Memory_bits, cno_Memory__rows⟩
  have gC_Memory := PySem.W.mg_of X G aC_Memory
  have mk_Memory := cmk_Memory
  have kc_Memory := ckc_Memory
  have A_Memory___init__ : AtM K C_Memory "__init__" "Memory.__init__" s_Memory___init__ := ⟨_, _, fun_mk (st := s_Memory___init__) ml_Memory___init__ mc_Memory___init__ mk_Memory___init__, ⟨ma_Memory___init__, mi_Memory___init__, mk_Memory___init__⟩⟩
  have A_Memory_write : AtM K C_Memory "write" "Memory.write" s_Memory_write := ⟨_, _, fun_mk (st := s_Memory_write) ml_Memory_write mc_Memory_write mk_Memory_write, ⟨ma_Memory_write, mi_Memory_write, mk_Memory_write⟩⟩
  have A_Memory_read : AtM K C_Memory "read" "Memory.read" s_Memory_read := ⟨_, _, fun_mk (st := s_Memory_read) ml_Memory_read mc_Memory_read mk_Memory_read, ⟨ma_Memory_read, mi_Memory_read, mk_Memory_read⟩⟩
  have A_Memory_scrub : AtM K C_Memory "scrub" "Memory.scrub" s_Memory_scrub := ⟨_, _, fun_mk (st := s_Memory_scrub) ml_Memory_scrub mc_Memory_scrub mk_Memory_scrub, ⟨ma_Memory_scrub, mi_Memory_scrub, mk_Memory_scrub⟩⟩
  have A_Memory_scrub_all : AtM K C_Memory "scrub_all" "Memory.scrub_all" s_Memory_scrub_all := ⟨_, _, fun_mk (st := s_Memory_scrub_all) ml_Memory_scrub_all mc_Memory_scrub_all mk_Memory_scrub_all, ⟨ma_Memory_scrub_all, mi_Memory_scrub_all, mk_Memory_scrub_all⟩⟩
  have A_Memory_flip : AtM K C_Memory "flip" "Memory.flip" s_Memory_flip := ⟨_, _, fun_mk (st := s_Memory_flip) ml_Memory_flip mc_Memory_flip mk_Memory_flip, ⟨ma_Memory_flip, mi_Memory_flip, mk_Memory_flip⟩⟩
  have A_Memory_row_at : AtM K C_Memory "row_at" "Memory.row_at" s_Memory_row_at := ⟨_, _, fun_mk (st := s_Memory_row_at) ml_Memory_row_at mc_Memory_row_at mk_Memory_row_at, ⟨ma_Memory_row_at, mi_Memory_row_at, mk_Memory_row_at⟩⟩
  have A_Memory_state_at : AtM K C_Memory "state_at" "Memory.state_at" s_Memory_state_at := ⟨_, _, fun_mk (st := s_Memory_state_at) ml_Memory_state_at mc_Memory_state_at mk_Memory_state_at, ⟨ma_Memory_state_at, mi_Memory_state_at, mk_Memory_state_at⟩⟩
  have A_Memory_twin : AtM K C_Memory "twin" "Memory.twin" s_Memory_twin := ⟨_, _, fun_mk (st := s_Memory_twin) ml_Memory_twin mc_Memory_twin mk_Memory_twin, ⟨ma_Memory_twin, mi_Memory_twin, mk_Memory_twin⟩⟩
  have A_Memory__word_at : AtM K C_Memory "_word_at" "Memory._word_at" s_Memory__word_at := ⟨_, _, fun_mk (st := s_Memory__word_at) ml_Memory__word_at mc_Memory__word_at mk_Memory__word_at, ⟨ma_Memory__word_at, mi_Memory__word_at, mk_Memory__word_at⟩⟩
  have gE_Unmendable := PySem.W.mg_of X G eC_Unmendable
  have TX_Unmendable : OexC K C_Unmendable := ⟨⟨nmUnmendable, qUnmendable, NnUnmendable, bsUnmendable, _, snUnmendable, subUnmendable, abUnmendable, colUnmendable, ddUnmendable, m0Unmendable, m1Unmendable, m2Unmendable, m3Unmendable, m5Unmendable, ex_Unmendable, by rfl⟩, esa_Unmendable, esB_Unmendable, ety_Unmendable, ekp_Unmendable⟩
  have TS_Unmendable : SupC l.prog K C_Unmendable fUnmendable cdaUnmendable ccUnmendable "place" ⟨"__init__", "Unmendable.__init__", defArgs s_Unmendable___init__, defBody s_Unmendable___init__, defScope s_Unmendable___init__, [("__class__", ccUnmendable)], cdaUnmendable⟩ dcUnmendable pmUnmendable ctUnmendable kVUnmendable := ⟨TX_Unmendable, ⟨_, _, _, el_Unmendable⟩, ec_Unmendable, ⟨_, _, _, _, _, _, ed_Unmendable, ev_Unmendable, ef_Unmendable⟩, ⟨_, _, _, ee_Unmendable⟩, ems_Unmendable, eS_Unmendable, esV_Unmendable, e_any, eno_Unmendable⟩
  have FS_Unmendable := fn_sup (p9 := ⟨0, 0, 0, 0⟩) (w := w) (mg := mg) (base := base) (pn := "place") TS_Unmendable rfl rfl rfl rfl rfl (show NdefX.NScope _ _ _ (defScope s_Unmendable___init__) from NdefX.nscope_by (by decide +kernel)) rfl e_top mz_super (by decide) (by decide) (fmt_of rfl (by decide) (by decide) (by decide) (by decide)) (fun _ => rfl) (fun _ => rfl) (fun _ => rfl) (fun _ => rfl)
  have Z_Unmendable : ErrC l.prog w K mg base "Unmendable" C_Unmendable "place" "place" := ⟨TX_Unmendable, ⟨_, _, FS_Unmendable, ein_Unmendable, etf_Unmendable, .all fun us hl => match us, hl with | [_, _], _ => rfl⟩, gE_Unmendable, ⟨ega_Unmendable, egg_Unmendable, esB_Unmendable, ehd_Unmendable⟩, eno_Unmendable, PySem.W.exm_ref esB_Unmendable ehd_Unmendable ety_Unmendable ess_Unmendable, ⟨ega_Unmendable, egg_Unmendable, esB_Unmendable, ehd_Unmendable, ecl_Unmendable, esp_Unmendable, etk_Unmendable, emo_Unmendable⟩⟩
  have gC_FarError := PySem.W.mg_of X G eC_FarError
  have D_row : Dfn l.prog w K mg base 1 "_law_row" p__law_row spRow := ok_row A__law_row mz_abs mz_int mz_range
  have D_num : Dfn l.prog w K mg base 2 "_law_numbers" p__law_numbers (spNumbers K) := ok_numbers A__law_numbers D_row mz_len mz_max
  have D_lck : Dfn l.prog w K mg base 1 "_law_checks" p__law_checks (spList ckN) := ok_checks A__law_checks mz_range
  have D_lpl : Dfn l.prog w K mg base 2 "_law_places" p__law_places spPlaces := ok_lplaces A__law_places D_lck mz_len
  have D_pl : Dfn l.prog w K mg base 1 "places_of" p_places_of spPlaces := ok_places A_places_of
  have D_cp : Dfn l.prog w K mg base 2 "check_places" p_check_places (spList ckN) := ok_check A_check_places D_pl mz_range
  have D_dp : Dfn l.prog w K mg base 2 "data_places" p_data_places (spList dtN) := ok_data A_data_places D_pl mz_range
  have D_df : Dfn l.prog w K mg base 1 "differing" p_differing spDiff := ok_differing A_differing mz_range
  have D_on : Dfn l.prog w K mg base 2 "ones_in" p_ones_in spOnes := ok_ones A_ones_in D_df mz_len
  have D_sp : Dfn l.prog w K mg base 2 "spot_of" p_spot_of spSpot := ok_spot A_spot_of D_pl mz_range
  have D_fl : Dfn l.prog w K mg base 1 "flipped" p_flipped (spFlip K) := ok_flipped A_flipped
  have D_co : Dfn l.prog w K mg base 3 "coded" p_coded spCod := ok_coded A_coded D_dp D_cp D_sp D_fl D_on mz_enumerate
  have D_vi : Dfn l.prog w K mg base 3 "value_in" p_value_in spVal := ok_value_in A_value_in D_dp mz_enumerate mz_sum
  have D_st : Dfn l.prog w K mg base 3 "state_of" p_state_of spState := ok_state A_state_of D_sp D_on D_pl
  have D_me : Dfn l.prog w K mg base 4 "mended" p_mended spMended := ok_mended A_mended D_st D_fl
  have M_in := ok_minit A_Memory___init__ TM_Memory D_co
  have M_wr := ok_mwrite A_Memory_write TM_Memory D_co
  have M_fl := ok_mflip A_Memory_flip TM_Memory D_fl
  have M_ro : Mdf l.prog w K mg base CX0 1 C_Memory "row_at" p_Memory_row_at (spMRow C_Memory) := ok_mrow A_Memory_row_at TM_Memory
  have M_st := ok_mstate A_Memory_state_at TM_Memory D_st
  have M_wo := ok_mword A_Memory__word_at TM_Memory Z_Unmendable D_me
  have M_re := ok_mread A_Memory_read TM_Memory M_wo D_vi
  have M_sc := ok_mscrub A_Memory_scrub TM_Memory M_wo
  have M_al := ok_mall A_Memory_scrub_all TM_Memory M_st M_sc mz_range

  have D_lvv : Dfn l.prog w K mg base 1 "_law_value" p__law_value (spLvF K) := ok_lvF A__law_value mz_range mz_int
  have D_lsc := ok_lscrub A__law_scrub TM_Memory Z_Unmendable gC_FarError ek_Unmendable_FarError M_sc mz_isinstance
  exact ok_law F_law D_num TM_Memory gC_Memory mk_Memory kc_Memory M_in M_wr M_fl M_ro M_st M_al D_lsc D_lvv D_lpl D_me D_st mz_range mz_int mz_len mz_list mz_all mz_isinstance
end My_farword_k16_scrubbed_cells
open PySem PySem.W PyProof.Rows
set_option maxRecDepth 100000 in
set_option maxHeartbeats 0 in
theorem My_top : PySem.Challenge.rw_farword_k16_scrubbed_cells.Holds := by
  w_on; o_law; k_head; (case hw => w_witness2)
  k_fill
  refine L2.walk_of (l := PySem.Challenge.rw_farword_k16_scrubbed_cells) (n := 63) (k := 10) (x := "script") (CX := fun _ => L2.CX0) (sp := fun w => My_farword_k16_scrubbed_cells.spLaw _) rfl (by decide) rfl ⟨rfl, by decide, by decide⟩ (fun w h Y => PySem.W.kIn_of Y) ?F (fun _ _ a ns hl _ hS => ⟨a, ns, rfl, hS, hl, fun _ => rfl⟩) (fun _ _ _ _ _ h => h)
  case F =>
    intro w mg fa h KX G hmg
    refine' My_farword_k16_scrubbed_cells.all_mk KX G hmg ?aC_Memory ?cpg_Memory ?chd_Memory ?cpo_Memory ?csa_Memory ?cmk_Memory ?ckc_Memory ?cci_Memory ?csp_Memory ?ctk_Memory ?cmo_Memory ?cko_Memory ?cno_Memory_cells ?cno_Memory_bits ?cno_Memory__rows ?ma_Memory___init__ ?mi_Memory___init__ ?mk_Memory___init__ ?ml_Memory___init__ ?mc_Memory___init__ ?ma_Memory_write ?mi_Memory_write ?mk_Memory_write ?ml_Memory_write ?mc_Memory_write ?ma_Memory_read ?mi_Memory_read ?mk_Memory_read ?ml_Memory_read ?mc_Memory_read ?ma_Memory_scrub ?mi_Memory_scrub ?mk_Memory_scrub ?ml_Memory_scrub ?mc_Memory_scrub ?ma_Memory_scrub_all ?mi_Memory_scrub_all ?mk_Memory_scrub_all ?ml_Memory_scrub_all ?mc_Memory_scrub_all ?ma_Memory_flip ?mi_Memory_flip ?mk_Memory_flip ?ml_Memory_flip ?mc_Memory_flip ?ma_Memory_row_at ?mi_Memory_row_at ?mk_Memory_row_at ?ml_Memory_row_at ?mc_Memory_row_at ?ma_Memory_state_at ?mi_Memory_state_at ?mk_Memory_state_at ?ml_Memory_state_at ?mc_Memory_state_at ?ma_Memory_twin ?mi_Memory_twin ?mk_Memory_twin ?ml_Memory_twin ?mc_Memory_twin ?ma_Memory__word_at ?mi_Memory__word_at ?mk_Memory__word_at ?ml_Memory__word_at ?mc_Memory__word_at ?eC_Unmendable ?eC_FarError ?ek_Unmendable_FarError ?ex_Unmendable ?esa_Unmendable ?ega_Unmendable ?egg_Unmendable ?ecl_Unmendable ?esB_Unmendable ?esV_Unmendable ?ess_Unmendable ?ety_Unmendable ?ekp_Unmendable ?ehd_Unmendable ?esp_Unmendable ?etk_Unmendable ?emo_Unmendable ?ems_Unmendable ?eno_Unmendable ?ein_Unmendable ?etf_Unmendable ?el_Unmendable ?ec_Unmendable ?ed_Unmendable ?ev_Unmendable ?ef_Unmendable ?ee_Unmendable ?eS_Unmendable ?e_any ?e_top ?a0 ?l0 ?c0 ?k0 ?a1 ?l1 ?c1 ?k1 ?a2 ?l2 ?c2 ?k2 ?a3 ?l3 ?c3 ?k3 ?a4 ?l4 ?c4 ?k4 ?a5 ?l5 ?c5 ?k5 ?a6 ?l6 ?c6 ?k6 ?a7 ?l7 ?c7 ?k7 ?a8 ?l8 ?c8 ?k8 ?a9 ?l9 ?c9 ?k9 ?a10 ?l10 ?c10 ?k10 ?a11 ?l11 ?c11 ?k11 ?a12 ?l12 ?c12 ?k12 ?a13 ?l13 ?c13 ?k13 ?a14 ?l14 ?c14 ?k14 ?a15 ?l15 ?c15 ?k15 ?a16 ?l16 ?c16 ?k16 ?a17 ?l17 ?c17 ?k17 ?z_abs ?z_all ?z_enumerate ?z_int ?z_isinstance ?z_len ?z_list ?z_max ?z_range ?z_sum ?z_super
    (case aC_Memory => k_is)
    (case cpg_Memory => k_is)
    (case chd_Memory => k_is)
    (case cpo_Memory => k_is)
    (case csa_Memory => k_is)
    (case cmk_Memory => k_is)
    (case ckc_Memory => k_is)
    (case cci_Memory => k_is)
    (case csp_Memory => k_is)
    (case ctk_Memory => k_is)
    (case cmo_Memory => k_is)
    (case cko_Memory => kit_is)
    (case cno_Memory_cells => k_is)
    (case cno_Memory_bits => k_is)
    (case cno_Memory__rows => k_is)
    (case ma_Memory___init__ => k_is)
    (case mi_Memory___init__ => k_is)
    (case mk_Memory___init__ => k_is)
    (case ml_Memory___init__ => k_is)
    (case mc_Memory___init__ => k_is)
    (case ma_Memory_write => k_is)
    (case mi_Memory_write => k_is)
    (case mk_Memory_write => k_is)
    (case ml_Memory_write => k_is)
    (case mc_Memory_write => k_is)
    (case ma_Memory_read => k_is)
    (case mi_Memory_read => k_is)
    (case mk_Memory_read => k_is)
    (case ml_Memory_read => k_is)
    (case mc_Memory_read => k_is)
    (case ma_Memory_scrub => k_is)
    (case mi_Memory_scrub => k_is)
    (case mk_Memory_scrub => k_is)
    (case ml_Memory_scrub => k_is)
    (case mc_Memory_scrub => k_is)
    (case ma_Memory_scrub_all => k_is)
    (case mi_Memory_scrub_all => k_is)
    (case mk_Memory_scrub_all => k_is)
    (case ml_Memory_scrub_all => k_is)
    (case mc_Memory_scrub_all => k_is)
    (case ma_Memory_flip => k_is)
    (case mi_Memory_flip => k_is)
    (case mk_Memory_flip => k_is)
    (case ml_Memory_flip => k_is)
    (case mc_Memory_flip => k_is)
    (case ma_Memory_row_at => k_is)
    (case mi_Memory_row_at => k_is)
    (case mk_Memory_row_at => k_is)
    (case ml_Memory_row_at => k_is)
    (case mc_Memory_row_at => k_is)
    (case ma_Memory_state_at => k_is)
    (case mi_Memory_state_at => k_is)
    (case mk_Memory_state_at => k_is)
    (case ml_Memory_state_at => k_is)
    (case mc_Memory_state_at => k_is)
    (case ma_Memory_twin => k_is)
    (case mi_Memory_twin => k_is)
    (case mk_Memory_twin => k_is)
    (case ml_Memory_twin => k_is)
    (case mc_Memory_twin => k_is)
    (case ma_Memory__word_at => k_is)
    (case mi_Memory__word_at => k_is)
    (case mk_Memory__word_at => k_is)
    (case ml_Memory__word_at => k_is)
    (case mc_Memory__word_at => k_is)
    (case eC_Unmendable => k_is)
    (case eC_FarError => k_is)
    (case ek_Unmendable_FarError => kit_is)
    (case ex_Unmendable => k_is)
    (case esa_Unmendable => k_is)
    (case ega_Unmendable => k_is)
    (case egg_Unmendable => k_is)
    (case ecl_Unmendable => k_is)
    (case esB_Unmendable => k_is)
    (case esV_Unmendable => k_is)
    (case ess_Unmendable => first | k_is | rfl)
    (case ety_Unmendable => k_is)
    (case ekp_Unmendable => k_is)
    (case ehd_Unmendable => k_is)
    (case esp_Unmendable => k_is)
    (case etk_Unmendable => k_is)
    (case emo_Unmendable => k_is)
    (case ems_Unmendable => k_is)
    (case eno_Unmendable => k_is)
    (case ein_Unmendable => k_is)
    (case etf_Unmendable => k_is)
    (case el_Unmendable => k_is)
    (case ec_Unmendable => k_is)
    (case ed_Unmendable => k_is)
    (case ev_Unmendable => first | rfl | decide +kernel)
    (case ef_Unmendable => first | rfl | decide +kernel)
    (case ee_Unmendable => k_is)
    (case eS_Unmendable => ks_is)
    (case e_any => k_is)
    (case e_top => first | rfl | decide +kernel)
    (case a0 => k_is)
    (case l0 => k_is)
    (case c0 => k_is)
    (case k0 => k_is)
    (case a1 => k_is)
    (case l1 => k_is)
    (case c1 => k_is)
    (case k1 => k_is)
    (case a2 => k_is)
    (case l2 => k_is)
    (case c2 => k_is)
    (case k2 => k_is)
    (case a3 => k_is)
    (case l3 => k_is)
    (case c3 => k_is)
    (case k3 => k_is)
    (case a4 => k_is)
    (case l4 => k_is)
    (case c4 => k_is)
    (case k4 => k_is)
    (case a5 => k_is)
    (case l5 => k_is)
    (case c5 => k_is)
    (case k5 => k_is)
    (case a6 => k_is)
    (case l6 => k_is)
    (case c6 => k_is)
    (case k6 => k_is)
    (case a7 => k_is)
    (case l7 => k_is)
    (case c7 => k_is)
    (case k7 => k_is)
    (case a8 => k_is)
    (case l8 => k_is)
    (case c8 => k_is)
    (case k8 => k_is)
    (case a9 => k_is)
    (case l9 => k_is)
    (case c9 => k_is)
    (case k9 => k_is)
    (case a10 => k_is)
    (case l10 => k_is)
    (case c10 => k_is)
    (case k10 => k_is)
    (case a11 => k_is)
    (case l11 => k_is)
    (case c11 => k_is)
    (case k11 => k_is)
    (case a12 => k_is)
    (case l12 => k_is)
    (case c12 => k_is)
    (case k12 => k_is)
    (case a13 => k_is)
    (case l13 => k_is)
    (case c13 => k_is)
    (case k13 => k_is)
    (case a14 => k_is)
    (case l14 => k_is)
    (case c14 => k_is)
    (case k14 => k_is)
    (case a15 => k_is)
    (case l15 => k_is)
    (case c15 => k_is)
    (case k15 => k_is)
    (case a16 => k_is)
    (case l16 => k_is)
    (case c16 => k_is)
    (case k16 => k_is)
    (case a17 => k_is)
    (case l17 => k_is)
    (case c17 => k_is)
    (case k17 => k_is)
    (case z_abs => k_is)
    (case z_all => k_is)
    (case z_enumerate => k_is)
    (case z_int => k_is)
    (case z_isinstance => k_is)
    (case z_len => k_is)
    (case z_list => k_is)
    (case z_max => k_is)
    (case z_range => k_is)
    (case z_sum => k_is)
    (case z_super => k_is)
theorem PySem.Challenge.cw_farword_k16_scrubbed_cells_holds : PySem.Challenge.rw_farword_k16_scrubbed_cells.Holds :=
  My_top
