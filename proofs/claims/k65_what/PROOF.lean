import PyProof.Rows.All
import Wide.All
import OpenK.AllK
import Wide.FinOn
import HandS.ForMost
import HandS.Evl
import HandS.IsInst
import HandS.WideBits
import HandS.Set
import PyProof.Rows.SetFrom
import PyProof.Rows.SortShellAny
import HandS.Strs
import HandS.Text
import PyProof.Rows.RegRepr
import HandS.NoneIn
import KE.KSortedM
import HandS.Zip
import HandS.Star
import HandS.StrMore
import HandS.TupSets
import KE.KeyNested
import HandS.Nested
import HandS.ClsMeth
import HandS.ExcInit
import HandS.FStr
import KE.KExcSuper
import KE.KSuperObj
import HandS.ForExc
import HandS.ExcField
import HandS.ExcIs
import KE.KIsAll
import KE.KTryMore
import KE.RegKIsAll
import KE.RegKSuper
import HandS.ExcValue
import HandS.Small
import HandS.List
import HandS.TupAny
import HandS.Codes
import PySem.Challenge.RW_farword_k65_what_can_be_taken
set_option Elab.async false
set_option linter.all false
set_option maxRecDepth 100000
set_option maxHeartbeats 4000000
/-! ### Common ground of my proofs: a def as the law's text has it, what expressions evaluate to -/
namespace My
open PySem PySem.Spec PyProof.Rows L2 Evl

section
variable {P : Program} {w : World} {K : PySem.W.Frag} {mg : Str → Option Value} {base : Heap}
/-- the def st stands under its name -/
def At (K : PySem.W.Frag) (mg : Str → Option Value) (x : Str) (st : Stmt) : Prop := ∃ f fd, Fun K x x st f fd ∧ mg x = some (.ref f)
/-- a def of the module that keeps a promise -/
structure Dfn (P : Program) (w : World) (K : PySem.W.Frag) (mg : Str → Option Value) (base : Heap) (k : Nat) (x : Str) (ps : List Str) (sp : Sp) : Prop where
  ex : ∃ (f : Addr) (fd : FuncData), FnOk P w K mg base CX0 k f fd ps sp ∧ mg x = some (.ref f) ∧ PySem.W.keepIn K (.ref f) = true ∧ Binds K fd ps []
theorem dfn_ok {x : Str} {st : Stmt} {N ps : List Str} {k : Nat} {sp : Sp} (A : At K mg x st) (S : FnScope N ps (defScope st))
    (hb : ∀ (kV doc pm : Value) (an : Option Addr) (cdv ct : Value) (us : List Value), us.length = ps.length → bindArgs (PySem.W.fnOf x x (defArgs st) (defBody st) (defScope st) .none kV doc pm an cdv ct) ⟨us, []⟩ = pure (ps.zip us))
    (len : ∀ vs H Q E, sp vs H Q E → vs.length = ps.length)
    (hbody : ∀ (f : Addr) (cdv : Value) (A : Around) (outer : List Env) (s : Shared) (H : Hp) (vs : List V) (Q : VK) (E : XK), Room k (A.deeper (envOfC x (defScope st) s.heap.objs.size f cdv)) → sp vs H Q E →
      ∃ t, PSs (cxOf CX0 P w K mg base N x (defScope st) f cdv A outer s H E).nox (defBody st) t ∧ t { nx := fun _ H' => Q .non H', rt := Q } (start N vs) H) : Dfn P w K mg base (k + 1) x ps sp := by
  obtain ⟨f, fd, F, hm⟩ := A
  exact ⟨f, fd, F.ok S len (hbody f), hm, F.kp, F.binds hb⟩
theorem Dfn.mono {x : Str} {ps : List Str} {j k : Nat} {sp : Sp} (D : Dfn P w K mg base j x ps sp) (h : j ≤ k) : Dfn P w K mg base k x ps sp := by
  obtain ⟨f, fd, F, r⟩ := D.ex
  exact ⟨f, fd, F.mono h, r⟩
end
section
variable {X : Cx} {k : Nat} {x : Str} {ps : List Str} {sp : Sp} {e : Expr} {es : List Expr} {p pos : Pos} {t : TA}
theorem pe_d (D : Dfn X.prog X.w X.K X.mg X.base k x ps sp) (hr : Room k X.A) (ha : PA X (e :: es) t) (hg : Gl X x := by rfl) (hdb : (x == ("__debug__" : Str)) = false := by decide)
    (he : starEach (e :: es) X.env = (false, eval e X.env) :: starEach es X.env := by rfl) (hpl : (backTo pos (starEach es X.env)).any (·.1) = false := by rfl) : PE X (.Call (.Name x p) (e :: es) [] pos) (tCall sp [] E0 t) := by
  obtain ⟨f, fd, F, hm, hk, hb⟩ := D.ex
  exact pe_call F hr hg hm hk hb .nil pass0 ha hdb he hpl
end

section
variable {K : PySem.W.Frag} {σ : L2.St} {H H' : Hp} {ta tb te tx : TE} {t u : TT} {x y z v : V} {r : R2}
/-! ### what evaluates to what, more of it -/
theorem ev_abs {i : Int} (h : EvA (tCons te tNil) σ H [.int i]) : Ev (tCB (fun xs H Q => ∃ i, xs = [.int i] ∧ Q (.int (if i < 0 then -i else i)) H) (tCons te tNil)) σ H (.int (if i < 0 then -i else i)) :=
  ev_cb h fun H1 _ _ q => ⟨i, rfl, q H1 (Ex.refl H1)⟩
theorem ev_int {i : Int} {ta : TA} (h : EvA ta σ H [.int i]) : Ev (tCB (fun xs H Q => (∃ i, xs = [.int i] ∧ Q (.int i) H) ∨ ∃ k, xs = [.bl k] ∧ Q (.int (if k then 1 else 0)) H) ta) σ H (.int i) :=
  ev_cb h fun H1 _ _ q => Or.inl ⟨i, rfl, q H1 (Ex.refl H1)⟩
theorem ev_intB {k : Bool} {ta : TA} (h : EvA ta σ H [.bl k]) : Ev (tCB (fun xs H Q => (∃ i, xs = [.int i] ∧ Q (.int i) H) ∨ ∃ k, xs = [.bl k] ∧ Q (.int (if k then 1 else 0)) H) ta) σ H (.int (if k then 1 else 0)) :=
  ev_cb h fun H1 _ _ q => Or.inr ⟨k, rfl, q H1 (Ex.refl H1)⟩
theorem ev_ite {b : Bool} {v1 v2 : V} (h : EvT t σ H b) (h1 : Ev ta σ H v1) (h2 : Ev tb σ H v2) : Ev (tIf t ta tb) σ H (if b then v1 else v2) := by
  cases b with
  | true => exact ev_if h (fun _ => h1) fun e => Bool.noConfusion e
  | false => exact ev_if h (fun e => Bool.noConfusion e) fun _ => h2
theorem rv_chain {r r' : R2} {tc : TE} {b c : Bool} (ha : Ev ta σ H x) (hb : Ev tb σ H y) (hr : RV r x y H (.bl b)) (hc : b = true → Ev tc σ H z) (hr' : b = true → RV r' y z H (.bl c)) : Ev (tChain r r' ta tb tc) σ H (.bl (b && c)) := fun H1 e Q q =>
  ha H1 e _ fun H2 e2 => hb H2 (e.trans e2) _ fun H3 e3 => hr H3 ((e.trans e2).trans e3) _ fun H4 e4 => ⟨b, rfl, by
    cases b with
    | true =>
      have e5 := ((e.trans e2).trans e3).trans e4
      exact iteT (hc rfl H4 e5 _ fun H5 e6 => hr' rfl H5 (e5.trans e6) Q fun H6 e7 => q H6 ((((e2.trans e3).trans e4).trans e6).trans e7))
    | false => exact iteF (q H4 ((e2.trans e3).trans e4))⟩
/-- tuple(..) of a list or a tuple -/
def rTupS (K : PySem.W.Frag) : List V → Hp → VK → Prop := fun xs H Q => ∃ p ys, xs = [.ref p] ∧ ((SqL K H p ys ∧ ∀ l, H l = none → Q (.ref l) (upd H l (.tup ys))) ∨ (SqT K H p ys ∧ Q (.ref p) H))
def rTupT (K : PySem.W.Frag) : List V → Hp → VK → Prop := fun xs H Q => ∃ a ys, xs = [.ref a] ∧ SqT K H a ys ∧ Q (.ref a) H
/-- a list at an address evaluates to itself; a new list as a value somewhere -/
theorem EvL.any {xs : List V} (h : EvL te σ H xs) : ∀ H1, Ex H H1 → ∀ Q : VK, (∀ p H2, H2 p = some (.lst xs) → Ex H1 H2 → Q (.ref p) H2) → te σ H1 Q := fun H1 e Q q => h H1 e Q fun p H2 _ e2 h2 => q p H2 h2 e2
end
/-! ### new lists of which only a property is known -/
section
variable {K : PySem.W.Frag} {σ : L2.St} {H H' : Hp} {ta tb te tx tl : TE} {t u : TT} {x y z v : V} {r : R2} {D : Ends} {tu tw tz : TS} {g : TG}
def EvP (te : TE) (σ : L2.St) (H : Hp) (P : List V → Prop) : Prop := ∀ H1, Ex H H1 → ∀ Q : VK, (∀ xs p H2, P xs → H1 p = none → Ex H1 H2 → H2 p = some (.lst xs) → Q (.ref p) H2) → te σ H1 Q
def SpP (sp : Sp) (vs : List V) (H : Hp) (P : List V → Prop) : Prop := ∀ H1, Ex H H1 → ∀ Q : VK, (∀ xs p H2, P xs → H1 p = none → Ex H1 H2 → H2 p = some (.lst xs) → Q (.ref p) H2) → ∀ E : XK, sp vs H1 Q E
theorem evP_call {sp : Sp} {dvs vs : List V} {E : XK} {ta : TA} {P : List V → Prop} (h : EvA ta σ H vs) (hs : SpP sp (vs ++ dvs) H P) : EvP (tCall sp dvs E ta) σ H P := fun H1 e Q q =>
  h H1 e _ fun H2 e2 => hs H2 (e.trans e2) Q (fun xs p H3 hP hp e3 h3 => q xs p H3 hP (fresh_back e2 hp) (e2.trans e3) h3) E
theorem q_asgP {i : Nat} {P : List V → Prop} (h : EvP te σ H P) (k : ∀ xs p H1, P xs → H p = none → Ex H H1 → H1 p = some (.lst xs) → tz D (σ.set i (some (.ref p))) H1) : tSeq (tAsg te (gName i)) tz D σ H :=
  h H (Ex.refl H) _ fun xs p H1 hP hp e h1 => k xs p H1 hP hp e h1
theorem s_forP {P : List V → Prop} (h : EvP tl σ H P) (Pv : List V → Addr → Nat → L2.St → Hp → Prop) (h0 : ∀ xs p H1, P xs → H p = none → Ex H H1 → H1 p = some (.lst xs) → Pv xs p 0 σ H1)
    (hl : ∀ xs p i σ' H', i ≤ xs.length → Pv xs p i σ' H' → SqL K H' p xs) (hs : ∀ xs p i x σ' H', xs[i]? = some x → Pv xs p i σ' H' → g x σ' H' fun σ2 H2 => tu { D with nx := Pv xs p (i + 1), ct := Pv xs p (i + 1), bk := D.nx } σ2 H2)
    (hd : ∀ xs p σ' H', Pv xs p xs.length σ' H' → D.nx σ' H') : tFor (iList K tl) g tu D σ H :=
  h H (Ex.refl H) _ fun xs p H1 hP hp e h1 => ⟨p, rfl, ⟨xs, sq_of h1⟩, for_list (Pv xs p) (h0 xs p H1 hP hp e h1) (hl xs p) (hs xs p) (hd xs p)⟩
theorem cut_take (xs : List V) (k : Nat) : cutV xs none (some (k : Int)) = xs.take k := by
  unfold cutV
  rw [HT.sIx_none, HT.sIx_nat, List.drop_zero, Nat.sub_zero]
  by_cases h : k ≤ xs.length
  · rw [Nat.min_eq_left h]
  · rw [Nat.min_eq_right (by omega), List.take_of_length_le (Nat.le_refl _), List.take_of_length_le (by omega)]
theorem ev_max1 {i j : Int} {ta : TA} (h : EvA ta σ H [.int i, .int j]) : Ev (tCB (fun xs H Q => ∃ i j, xs = [.int i, .int j] ∧ Q (.int (if j > i then j else i)) H) ta) σ H (.int (if j > i then j else i)) :=
  ev_cb h fun H1 _ _ q => ⟨i, j, rfl, q H1 (Ex.refl H1)⟩
theorem ev_lenL {p : Addr} {xs : List V} (ha : Ev ta σ H (.ref p)) (h : SqL K H p xs) : Ev (tCB (rLenS K) (tCons ta tNil)) σ H (.int (xs.length : Int)) := fun H1 e Q q =>
  ha H1 e _ fun H2 e2 => ⟨p, xs, rfl, Or.inl (ex_l (e.trans e2) h), q H2 e2⟩
theorem int_at {ns : List Int} {i : Nat} {x : V} (h : (ns.map V.int)[i]? = some x) : ∃ n, ns[i]? = some n ∧ x = .int n := by
  rw [List.getElem?_map] at h
  cases e : ns[i]? with
  | none => rw [e] at h; cases h
  | some n => rw [e] at h; exact ⟨n, rfl, (Option.some.inj h).symm⟩
end
/-! ### data that are compared as wholes -/
def Lay (d : PyData) (n : Nat) : Prop := d.canLay0 = true ∧ d.depth ≤ n
def LayA (ds : List PyData) (n : Nat) : Prop := PyData.canLayAll0 ds = true ∧ PyData.depthAll ds ≤ n
theorem Lay.int (i : Int) {n : Nat} : Lay (.int i) n := ⟨by simp [PyData.canLay0], by simp [PyData.depth]⟩
theorem Lay.bool (b : Bool) {n : Nat} : Lay (.bool b) n := ⟨by simp [PyData.canLay0], by simp [PyData.depth]⟩
theorem Lay.str {x : Str} {n : Nat} (h : PyData.strOk x = true) : Lay (.str x) n := ⟨by simp [PyData.canLay0, h], by simp [PyData.depth]⟩
theorem Lay.none {n : Nat} : Lay .none n := ⟨by simp [PyData.canLay0], by simp [PyData.depth]⟩
theorem Lay.list {ds : List PyData} {n : Nat} (h : LayA ds n) : Lay (.list ds) (n + 1) := ⟨by simpa [PyData.canLay0] using h.1, by have := h.2; simp only [PyData.depth]; omega⟩
theorem Lay.tuple {ds : List PyData} {n : Nat} (h : LayA ds n) : Lay (.tuple ds) (n + 1) := ⟨by simpa [PyData.canLay0] using h.1, by have := h.2; simp only [PyData.depth]; omega⟩
theorem LayA.nil {n : Nat} : LayA [] n := ⟨by simp [PyData.canLayAll0], by simp [PyData.depthAll]⟩
theorem LayA.cons {d : PyData} {ds : List PyData} {n : Nat} (h : Lay d n) (h2 : LayA ds n) : LayA (d :: ds) n :=
  ⟨by simp [PyData.canLayAll0, h.1, h2.1], by have a := h.2; have b := h2.2; simp only [PyData.depthAll]; omega⟩
theorem LayA.map {α : Type} {f : α → PyData} {n : Nat} : ∀ {xs : List α}, (∀ x ∈ xs, Lay (f x) n) → LayA (xs.map f) n
  | [], _ => LayA.nil
  | _ :: xs, h => LayA.cons (h _ List.mem_cons_self) (LayA.map fun x hx => h x (List.mem_cons_of_mem _ hx))
theorem Lay.sh {d : PyData} {n : Nat} (h : Lay d n) (hn : n ≤ 64 := by decide) : SeqAt.shaped d = true := by
  unfold SeqAt.shaped
  rw [h.1, decide_eq_true (Nat.le_trans h.2 hn)]
  rfl
section
variable {K : PySem.W.Frag} {H H' : Hp}
mutual
theorem dp_ex (e : Ex H H') : ∀ {v : V} {d : PyData}, Dp K H v d → Dp K H' v d
  | _, _, .non => .non
  | _, _, .bl b => .bl b
  | _, _, .int i => .int i
  | _, _, .str x => .str x
  | _, _, .lst h a => .lst (ex_l e h) (dpa_ex e a)
  | _, _, .tup h a => .tup (ex_t e h) (dpa_ex e a)
theorem dpa_ex (e : Ex H H') : ∀ {vs : List V} {ds : List PyData}, DpAll K H vs ds → DpAll K H' vs ds
  | _, _, .nil => .nil
  | _, _, .cons h t => .cons (dp_ex e h) (dpa_ex e t)
end
theorem dpa_ints : ∀ ns : List Int, DpAll K H (ns.map V.int) (ns.map PyData.int)
  | [] => .nil
  | n :: r => .cons (.int n) (dpa_ints r)
theorem dp_ints {a : Addr} {ns : List Int} (h : SqL K H a (ns.map V.int)) : Dp K H (.ref a) (.list (ns.map PyData.int)) := .lst h (dpa_ints ns)
theorem dp_intsT {a : Addr} {ns : List Int} (h : SqT K H a (ns.map V.int)) : Dp K H (.ref a) (.tuple (ns.map PyData.int)) := .tup h (dpa_ints ns)
theorem lay_ints (ns : List Int) {n : Nat} : Lay (.list (ns.map PyData.int)) (n + 1) := .list (.map fun _ _ => .int _)
theorem lay_intsT (ns : List Int) {n : Nat} : Lay (.tuple (ns.map PyData.int)) (n + 1) := .tuple (.map fun _ _ => .int _)
theorem rv_neD {x y : V} {d e : PyData} (hx : Dp K H x d) (hy : Dp K H y e) (sd : SeqAt.shaped d = true) (se : SeqAt.shaped e = true) : RV (rNeD K) x y H (.bl (!PyData.eqv d e)) := fun H1 e1 Q q => ⟨d, e, dp_ex e1 hx, dp_ex e1 hy, sd, se, q H1 (Ex.refl H1)⟩
theorem rv_eqD {x y : V} {d e : PyData} (hx : Dp K H x d) (hy : Dp K H y e) (sd : SeqAt.shaped d = true) (se : SeqAt.shaped e = true) : RV (rEqD K) x y H (.bl (PyData.eqv d e)) := fun H1 e1 Q q => ⟨d, e, dp_ex e1 hx, dp_ex e1 hy, sd, se, q H1 (Ex.refl H1)⟩
theorem eqv_self {d : PyData} (h : SeqAt.shaped d = true) : PyData.eqv d d = true := SeqAt.eqv_refl d (SeqAt.canLay_of_shaped h)
/-- the same data: != is False, == is True -/
theorem rv_neS {x y : V} {d : PyData} (hx : Dp K H x d) (hy : Dp K H y d) (sd : SeqAt.shaped d = true) : RV (rNeD K) x y H (.bl false) := fun H1 e1 Q q => ⟨d, d, dp_ex e1 hx, dp_ex e1 hy, sd, sd, by rw [eqv_self sd]; exact q H1 (Ex.refl H1)⟩
theorem rv_eqS {x y : V} {d : PyData} (hx : Dp K H x d) (hy : Dp K H y d) (sd : SeqAt.shaped d = true) : RV (rEqD K) x y H (.bl true) := fun H1 e1 Q q => ⟨d, d, dp_ex e1 hx, dp_ex e1 hy, sd, sd, by rw [eqv_self sd]; exact q H1 (Ex.refl H1)⟩
end
/-! ### lists of ints: joined, filtered, looked into -/
section
variable {K : PySem.W.Frag} {σ : L2.St} {H H' : Hp} {ta tb te tx tl : TE} {t u : TT} {x y z v : V} {r : R2}
theorem el_cat {xs ys : List V} (ha : EvL ta σ H xs) (hb : EvL tb σ H ys) (hz : xs.length + ys.length ≤ 100000) : EvL (tOp rCat ta tb) σ H (xs ++ ys) := fun H1 e Q q =>
  ha H1 e _ fun p H2 np e2 hp => hb H2 (e.trans e2) _ fun p' H3 np' e3 hp' => ⟨p, p', xs, ys, rfl, rfl, e3 _ _ hp, hp', sz_of hz, fun l nl => q l _ (fresh_back (e2.trans e3) nl) ((e2.trans e3).trans (Ex.new nl)) upd_same⟩
theorem el_is {xs ys : List V} (h : EvL te σ H xs) (e : xs = ys) : EvL te σ H ys := by
  rw [← e]
  exact h
theorem inV_ints (i : Int) : ∀ ns : List Int, inV (.int i) (ns.map V.int) = decide (i ∈ ns)
  | [] => rfl
  | n :: r => by
    show ((n == i) || inV (.int i) (r.map V.int)) = decide (i ∈ n :: r)
    rw [inV_ints i r]
    by_cases h : n = i
    · subst h
      simp
    · have h2 : ¬ i = n := fun e => h e.symm
      simp [h, h2]
theorem flat_ints : ∀ ns : List Int, (ns.map V.int).all flatV = true
  | [] => rfl
  | n :: r => flat_ints r
theorem rv_inI {neg : Bool} {p : Addr} {i : Int} {ns : List Int} (h : SqL K H p (ns.map V.int)) : RV (rIn K neg) (.int i) (.ref p) H (.bl (if neg then !decide (i ∈ ns) else decide (i ∈ ns))) := by
  rw [← inV_ints]
  exact rv_inL h rfl (flat_ints ns)
theorem rv_isI {p : Addr} {i : Int} {ns : List Int} (h : SqL K H p (ns.map V.int)) : RV (rIn K false) (.int i) (.ref p) H (.bl (decide (i ∈ ns))) := rv_inI (neg := false) h
theorem rv_niI {p : Addr} {i : Int} {ns : List Int} (h : SqL K H p (ns.map V.int)) : RV (rIn K true) (.int i) (.ref p) H (.bl (!decide (i ∈ ns))) := rv_inI (neg := true) h
theorem given_ints (n : Nat) (f : Nat → Bool) (g : Nat → Int) : given n f (fun i => V.int (g i)) = (((List.range n).filter f).map g).map V.int := by
  unfold given
  rw [List.map_map]
  rfl
theorem given_eq {n : Nat} {f f' : Nat → Bool} {g g' : Nat → V} (hf : ∀ i, i < n → f i = f' i) (hg : ∀ i, i < n → f' i = true → g i = g' i) : given n f g = given n f' g' := by
  unfold given
  rw [List.filter_congr fun i hi => hf i (List.mem_range.mp hi)]
  exact List.map_congr_left fun i hi => hg i (List.mem_range.mp (List.mem_filter.mp hi).1) (List.mem_filter.mp hi).2
theorem ev_isL {p : Addr} {xs : List V} (ha : Ev ta σ H (.ref p)) (h : H p = some (.lst xs)) : Ev (tCB (rIsi K) (tCons ta (tCons (tC (.ty "list")) tNil))) σ H (.bl true) :=
  ev_cb (ea_cons ha (ea_cons ev_c ea_nil)) fun H1 e _ q => ⟨.ref p, .ty "list", .type "list", .type "list", true, rfl, .ty _, .base (.lst (e _ _ h)), kit_ty (by decide +kernel), q H1 (Ex.refl H1)⟩
theorem ev_allL {bs : List Bool} {ta : TE} (ha : EvL ta σ H (bs.map V.bl)) : Ev (tCB (rAll K) (tCons ta tNil)) σ H (.bl (bs.all id)) := fun H1 e Q q =>
  ha H1 e _ fun p H2 _ e2 hp => ⟨p, bs, rfl, sq_of hp, q H2 e2⟩
theorem ev_sumL {ns : List Int} {ta : TE} (ha : EvL ta σ H (ns.map V.int)) : Ev (tCB (rSum K) (tCons ta tNil)) σ H (.int ns.sum) := fun H1 e Q q =>
  ha H1 e _ fun p H2 _ e2 hp => ⟨p, ns, rfl, sq_of hp, q H2 e2⟩
/-- len of a new list -/
theorem ev_lenN2 {xs : List V} {ta : TE} (ha : EvL ta σ H xs) : Ev (tCB (rLenS K) (tCons ta tNil)) σ H (.int (xs.length : Int)) := fun H1 e Q q =>
  ha H1 e _ fun p H2 _ e2 h2 => ⟨p, xs, rfl, Or.inl (sq_of h2), q H2 e2⟩
/-- an item of a list that is made on the spot -/
theorem ev_ixN {xs : List V} {i : Int} (ha : EvL ta σ H xs) (hb : Ev tb σ H (.int i)) (hx : atI xs i = some v) : Ev (tOp (rIxL K) ta tb) σ H v :=
  ev_opL1 ha (fun H1 e => hb.mono e) fun p H1 hp _ => rv_ixL (sq_of hp) hx
theorem ev_ixI {p : Addr} {xs : List V} {i : Int} (ha : Ev ta σ H (.ref p)) (hb : Ev tb σ H (.int i)) (h : SqL K H p xs) (hx : atI xs i = some v) : Ev (tOp (rIxL K) ta tb) σ H v := ev_op ha hb (rv_ixL h hx)
end
/-! ### values of which only a property is known -/
section
variable {K : PySem.W.Frag} {σ : L2.St} {H H' : Hp} {ta tb te tx tl : TE} {t u : TT} {x y z v : V} {r : R2} {D : Ends} {tu tw tz : TS} {P : V → Hp → Prop}
def EvG (te : TE) (σ : L2.St) (H : Hp) (P : V → Hp → Prop) : Prop := ∀ H1, Ex H H1 → ∀ Q : VK, (∀ v H2, Ex H1 H2 → P v H2 → Q v H2) → te σ H1 Q
theorem q_asgG {i : Nat} (h : EvG te σ H P) (k : ∀ v H1, Ex H H1 → P v H1 → tz D (σ.set i (some v)) H1) : tSeq (tAsg te (gName i)) tz D σ H := h H (Ex.refl H) _ fun v H1 e p => k v H1 e p
theorem s_asgG {i : Nat} (h : EvG te σ H P) (k : ∀ v H1, Ex H H1 → P v H1 → D.nx (σ.set i (some v)) H1) : tAsg te (gName i) D σ H := h H (Ex.refl H) _ fun v H1 e p => k v H1 e p
theorem s_retG (h : EvG te σ H P) (k : ∀ v H1, Ex H H1 → P v H1 → D.rt v H1) : tRet te D σ H := h H (Ex.refl H) _ fun v H1 e p => k v H1 e p
theorem EvG.imp {P' : V → Hp → Prop} (h : EvG te σ H P) (i : ∀ v H1, Ex H H1 → P v H1 → P' v H1) : EvG te σ H P' := fun H1 e Q q => h H1 e Q fun v H2 e2 p => q v H2 e2 (i v H2 (e.trans e2) p)
theorem EvL.g {xs : List V} (h : EvL te σ H xs) : EvG te σ H (fun v H' => ∃ p, v = .ref p ∧ H p = none ∧ H' p = some (.lst xs)) := fun H1 e Q q => h H1 e Q fun p H2 np e2 hp => q _ H2 e2 ⟨p, rfl, fresh_back e np, hp⟩
theorem EvU.g {xs : List V} (h : EvU te σ H xs) : EvG te σ H (fun v H' => ∃ p, v = .ref p ∧ H p = none ∧ H' p = some (.tup xs)) := fun H1 e Q q => h H1 e Q fun p H2 np e2 hp => q _ H2 e2 ⟨p, rfl, fresh_back e np, hp⟩
theorem Ev.g (h : Ev te σ H v) : EvG te σ H (fun v' _ => v' = v) := fun H1 e Q q => h H1 e Q fun H2 e2 => q _ H2 e2 rfl
/-- a list, a tuple that is made of two values -/
theorem evG_lst2 {P1 P2 : V → Hp → Prop} (h1 : EvG ta σ H P1) (m1 : ∀ v H1 H2, Ex H1 H2 → P1 v H1 → P1 v H2) (h2 : ∀ v H1, Ex H H1 → P1 v H1 → EvG tb σ H1 P2) (m2 : ∀ v H1 H2, Ex H1 H2 → P2 v H1 → P2 v H2) :
    EvG (tLst (tCons ta (tCons tb tNil))) σ H (fun v H' => ∃ p a b, v = .ref p ∧ H p = none ∧ H' p = some (.lst [a, b]) ∧ P1 a H' ∧ P2 b H') := fun H1 e Q q =>
  h1 H1 e _ fun a H2 e2 p1 => h2 a H2 (e.trans e2) p1 H2 (Ex.refl _) _ fun b H3 e3 p2 => ⟨(by decide : 2 ≤ sizeLine), fun p np =>
    q _ _ ((e2.trans e3).trans (Ex.new np)) ⟨p, a, b, rfl, fresh_back ((e.trans e2).trans e3) np, upd_same, m1 _ _ _ (e3.trans (Ex.new np)) p1, m2 _ _ _ (Ex.new np) p2⟩⟩
/-- data, told as a whole, of a value -/
theorem opG {P1 P2 : V → Hp → Prop} (h1 : EvG ta σ H P1) (m1 : ∀ v H1 H2, Ex H1 H2 → P1 v H1 → P1 v H2) (h2 : EvG tb σ H P2) (hr : ∀ a b H1, Ex H H1 → P1 a H1 → P2 b H1 → RV r a b H1 z) : Ev (tOp r ta tb) σ H z := fun H1 e Q q =>
  h1 H1 e _ fun a H2 e2 p1 => h2 H2 (e.trans e2) _ fun b H3 e3 p2 => hr a b H3 ((e.trans e2).trans e3) (m1 _ _ _ e3 p1) p2 H3 (Ex.refl _) Q fun H4 e4 => q H4 ((e2.trans e3).trans e4)
end
/-! ### enumerate; bits; the truth of a value -/
/-- a test that is a value's truth -/
def tTr (K : PySem.W.Frag) (ta : TE) : TT := fun σ H Q => ta σ H fun x H' => ∃ k, TruV K x H' k ∧ Q k H'
section
variable {K : PySem.W.Frag} {σ : L2.St} {H H' : Hp} {ta tb te tx tl : TE} {t u tt : TT} {x y z v : V} {r : R2} {D : Ends} {tu tw tz : TS}
theorem et_truI {i : Int} (h : Ev ta σ H (.int i)) : EvT (tTr K ta) σ H (i != 0) := fun H1 e _ q => h H1 e _ fun H2 e2 => ⟨i != 0, rfl, q H2 e2⟩
theorem s_forE {xs : List V} {j1 j2 : Nat} (h : EvL tl σ H xs) (Pv : Addr → Nat → L2.St → Hp → Prop) (h0 : ∀ p H1, H p = none → Ex H H1 → H1 p = some (.lst xs) → Pv p 0 σ H1) (hl : ∀ p i σ' H', i ≤ xs.length → Pv p i σ' H' → SqL K H' p xs)
    (hs : ∀ p i x σ' H', xs[i]? = some x → Pv p i σ' H' → ∀ T, H' T = none → tu { D with nx := Pv p (i + 1), ct := Pv p (i + 1), bk := D.nx } ((σ'.set j1 (some (.int ((i : Nat) : Int)))).set j2 (some x)) (upd H' T (.tup [.int ((i : Nat) : Int), x])))
    (hd : ∀ p σ' H', Pv p xs.length σ' H' → D.nx σ' H') : tFor (iEnum K (tCons tl tNil)) (gTup K 2 (gCons (gName j1) (gCons (gName j2) gNil))) tu D σ H :=
  h H (Ex.refl H) _ fun p H1 np e h1 => ⟨p, xs, rfl, sq_of h1, fun i m σ' H' => m = xs.length - i ∧ i ≤ xs.length ∧ Pv p i σ' H', ⟨xs.length, by simp, Nat.zero_le _, h0 p H1 np e h1⟩, by
    rintro i m σ' H' ⟨rfl, hi, pp⟩
    have q := hl p i σ' H' hi pp
    by_cases hlt : i < xs.length
    · refine .inr ⟨⟨xs, xs[i], q, by simp [hlt]⟩, Pv p (i + 1), fun σ2 H2 p' => ⟨xs.length - (i + 1), by omega, rfl, hlt, p'⟩, fun v H2 y => ?_⟩
      obtain ⟨T, x, rfl, nT, rfl, hx⟩ := y
      exact ⟨T, _, rfl, st_of upd_same, rfl, _, _, rfl, _, _, rfl, rfl, hs p i x σ' H' (hx xs q) pp T nT⟩
    · have e : i = xs.length := by omega
      subst e
      exact .inl ⟨⟨xs, q, Nat.le_refl _⟩, hd p σ' H' pp⟩⟩
theorem q_forE {xs : List V} {j1 j2 : Nat} (h : EvL tl σ H xs) (Pv : Addr → Nat → L2.St → Hp → Prop) (h0 : ∀ p H1, H p = none → Ex H H1 → H1 p = some (.lst xs) → Pv p 0 σ H1) (hl : ∀ p i σ' H', i ≤ xs.length → Pv p i σ' H' → SqL K H' p xs)
    (hs : ∀ p i x σ' H', xs[i]? = some x → Pv p i σ' H' → ∀ T, H' T = none → tu { D with nx := Pv p (i + 1), ct := Pv p (i + 1), bk := tz D } ((σ'.set j1 (some (.int ((i : Nat) : Int)))).set j2 (some x)) (upd H' T (.tup [.int ((i : Nat) : Int), x])))
    (hd : ∀ p σ' H', Pv p xs.length σ' H' → tz D σ' H') : tSeq (tFor (iEnum K (tCons tl tNil)) (gTup K 2 (gCons (gName j1) (gCons (gName j2) gNil))) tu) tz D σ H :=
  s_forE (D := { D with nx := tz D }) h Pv h0 hl hs hd
/-- [e for i, x in enumerate(new list) if t] -/
theorem el_lcE {xs : List V} {j1 j2 : Nat} {vs : List Nat} (f : Nat → Bool) (g : Nat → V) (h : EvL tl σ H xs) (hz : xs.length ≤ 40000) (hw : ∀ x y, wipe (((wipe σ vs).set j1 (some x)).set j2 (some y)) vs = wipe σ vs)
    (ht : ∀ (i : Nat) (x : V) H1, Ex H H1 → xs[i]? = some x → EvT tt (((wipe σ vs).set j1 (some (.int (i : Int)))).set j2 (some x)) H1 (f i)) (he : ∀ (i : Nat) (x : V) H1, Ex H H1 → xs[i]? = some x → f i = true → Ev te (((wipe σ vs).set j1 (some (.int (i : Int)))).set j2 (some x)) H1 (g i)) :
    EvL (tLc (iEnum K (tCons tl tNil)) (gTup K 2 (gCons (gName j1) (gCons (gName j2) gNil))) tt te vs) σ H (given xs.length f g) := fun H0 e Q q => h H0 e _ fun a H1 na e1 hx => ⟨a, xs, rfl, sq_of hx, fun Dl hD => by
  refine ⟨fun i m H' => m = xs.length - i ∧ i ≤ xs.length ∧ Cw H1 f g Dl i H', ⟨xs.length, by simp, Nat.zero_le _, hD, Ex.new hD, upd_same⟩, ?_⟩
  rintro i m H' ⟨rfl, hi, pp⟩
  have qx : SqL K H' a xs := sq_of (pp.2.1 _ _ hx)
  by_cases hlt : i < xs.length
  · refine .inr ⟨⟨xs, xs[i], qx, by simp [hlt]⟩, Cw H1 f g Dl (i + 1), fun H2 p' => ⟨xs.length - (i + 1), by omega, rfl, hlt, p'⟩, fun v H2 y => ?_⟩
    obtain ⟨T, x, rfl, nT, rfl, hxx⟩ := y
    have hix := hxx xs qx
    have hDT : Dl ≠ T := ne_of_none pp.2.2 nT
    have pp2 : Cw H1 f g Dl i (upd H' T (.tup [.int ((i : Nat) : Int), x])) := ⟨pp.1, pp.2.1.trans (Ex.new nT), by rw [upd_ne hDT]; exact pp.2.2⟩
    exact ⟨T, _, rfl, st_of upd_same, rfl, _, _, rfl, _, _, rfl, rfl, hw _ _, cw_turn pp2 (by omega) (ht i x H1 (e.trans e1) hix) (fun hf => he i x H1 (e.trans e1) hix hf)⟩
  · have e' : i = xs.length := by omega
    subst e'
    exact .inl ⟨⟨xs, qx, Nat.le_refl _⟩, q Dl H' (fresh_back e1 pp.1) (e1.trans pp.2.1) pp.2.2⟩⟩
theorem bitI (n p : Nat) : Builtin.bitAnd ((n : Int) / 2 ^ ((p : Int)).toNat) 1 = ((n.testBit p).toNat : Int) := by
  have e1 : ((n : Int) / 2 ^ ((p : Int)).toNat) = ((n / 2 ^ p : Nat) : Int) := by
    rw [Int.toNat_natCast]
    simp
  have e2 := Bits.bitAnd_mask (x := ((n / 2 ^ p : Nat) : Int)) 1 (Int.natCast_nonneg _)
  rw [e1]
  have e3 : ((2 : Int) ^ 1 - 1) = 1 := by decide
  rw [e3] at e2
  rw [e2, Nat.testBit_eq_decide_div_mod_eq]
  have h := Nat.mod_two_eq_zero_or_one (n / 2 ^ p)
  show (((n / 2 ^ p : Nat) : Int) % 2) = _
  rcases h with h | h
  · rw [decide_eq_false (by omega)]; show _ = (0 : Int); omega
  · rw [decide_eq_true h]; show _ = (1 : Int); omega
/-- n >> p & 1 -/
theorem ev_bit {n p : Nat} (ha : Ev ta σ H (.int (n : Int))) (hb : Ev tb σ H (.int (p : Int))) :
    Ev (tOp (rI0 fun i j => .int (Builtin.bitAnd i j)) (tOp (rI (fun _ j => 0 ≤ j) fun i j => .int (i / 2 ^ j.toNat)) ta tb) (tC (.int 1))) σ H (.int ((n.testBit p).toNat : Int)) := by
  have h := ev_op (ev_op ha hb (rv_I (C := fun _ j => 0 ≤ j) (g := fun i j => .int (i / 2 ^ j.toNat)) (Int.natCast_nonneg p))) (ev_c (v := .int 1)) (rv_I0 (g := fun i j => .int (Builtin.bitAnd i j)))
  rw [bitI] at h
  exact h
theorem et_bit {n p : Nat} (ha : Ev ta σ H (.int (n : Int))) (hb : Ev tb σ H (.int (p : Int))) :
    EvT (tTr K (tOp (rI0 fun i j => .int (Builtin.bitAnd i j)) (tOp (rI (fun _ j => 0 ≤ j) fun i j => .int (i / 2 ^ j.toNat)) ta tb) (tC (.int 1)))) σ H (n.testBit p) := et_is (et_truI (ev_bit ha hb)) (by cases n.testBit p <;> rfl)
theorem xorI (a b : Nat) : Builtin.bitXor (a : Int) (b : Int) = ((a ^^^ b : Nat) : Int) := by rw [Bits.bitXor_pp (Int.natCast_nonneg _) (Int.natCast_nonneg _)]; rfl
theorem orI (a b : Nat) : Builtin.bitOr (a : Int) (b : Int) = ((a ||| b : Nat) : Int) := by rw [Bits.bitOr_pp (Int.natCast_nonneg _) (Int.natCast_nonneg _)]; rfl
theorem andI (a b : Nat) : Builtin.bitAnd (a : Int) (b : Int) = ((a &&& b : Nat) : Int) := by
  unfold Builtin.bitAnd
  rw [decide_eq_true (Int.natCast_nonneg a), decide_eq_true (Int.natCast_nonneg b)]
  rfl
theorem ev_xor {a b : Nat} (ha : Ev ta σ H (.int (a : Int))) (hb : Ev tb σ H (.int (b : Int))) : Ev (tOp (rI0 fun i j => .int (Builtin.bitXor i j)) ta tb) σ H (.int ((a ^^^ b : Nat) : Int)) := by
  have h := ev_op ha hb (rv_I0 (g := fun i j => .int (Builtin.bitXor i j)))
  rw [xorI] at h
  exact h
theorem ev_or {a b : Nat} (ha : Ev ta σ H (.int (a : Int))) (hb : Ev tb σ H (.int (b : Int))) : Ev (tOp (rI0 fun i j => .int (Builtin.bitOr i j)) ta tb) σ H (.int ((a ||| b : Nat) : Int)) := by
  have h := ev_op ha hb (rv_I0 (g := fun i j => .int (Builtin.bitOr i j)))
  rw [orI] at h
  exact h
theorem ev_and {a b : Nat} (ha : Ev ta σ H (.int (a : Int))) (hb : Ev tb σ H (.int (b : Int))) : Ev (tOp (rI0 fun i j => .int (Builtin.bitAnd i j)) ta tb) σ H (.int ((a &&& b : Nat) : Int)) := by
  have h := ev_op ha hb (rv_I0 (g := fun i j => .int (Builtin.bitAnd i j)))
  rw [andI] at h
  exact h
/-- a << p -/
theorem ev_shl {a p : Nat} (ha : Ev ta σ H (.int (a : Int))) (hb : Ev tb σ H (.int (p : Int))) (h1 : a < 2 ^ 64) (h2 : p ≤ 1000000) : Ev (tOp (rI CPow fun i j => .int (i * 2 ^ j.toNat)) ta tb) σ H (.int ((a * 2 ^ p : Nat) : Int)) := by
  have h := ev_op ha hb (rv_I (C := CPow) (g := fun i j => .int (i * 2 ^ j.toNat)) ⟨by omega, by omega, by omega⟩)
  have e : ((a : Int) * 2 ^ ((p : Int)).toNat) = ((a * 2 ^ p : Nat) : Int) := by rw [Int.toNat_natCast]; simp
  rw [e] at h
  exact h
theorem ev_bits {n : Nat} (ha : Ev ta σ H (.int (n : Int))) : Ev (tBits ta) σ H (.int ((Builtin.Int.intBits (n : Int) : Nat) : Int)) := fun H1 e Q q => ha H1 e _ fun H2 e2 => ⟨_, rfl, q H2 e2⟩
end
theorem bitsN (n : Nat) : Builtin.Int.intBits (n : Int) = if n = 0 then 0 else n.log2 + 1 := by
  unfold Builtin.Int.intBits
  by_cases h : n = 0
  · subst h; rfl
  · have h2 : ¬ ((n : Int) == 0) = true := by simp; exact h
    rw [if_neg h2, if_neg h]
    rfl
theorem bits_lt (n : Nat) : n < 2 ^ Builtin.Int.intBits (n : Int) := by
  rw [bitsN]
  split
  · subst_vars; decide
  · exact Nat.lt_log2_self
theorem bits_le {n k : Nat} (h : n < 2 ^ k) : Builtin.Int.intBits (n : Int) ≤ k := by
  rw [bitsN]
  split
  · exact Nat.zero_le _
  · rename_i h0
    have := (Nat.log2_lt h0).mpr h
    omega
end My
set_option Elab.async false
set_option linter.all false
set_option maxRecDepth 100000
set_option maxHeartbeats 2000000
/-! ### sets of keys of any kind that can be walked: made from a list or a tuple, their number, sorted -/
namespace My
open PySem PySem.Spec PyProof.Rows L2
theorem paired_perm {α β : Type} {R : α → β → Prop} {l l' : List α} (p : l.Perm l') : ∀ {ks : List β}, Paired R l ks → ∃ ks', Paired R l' ks' ∧ ks'.Perm ks := by
  induction p with
  | nil => exact fun h => ⟨_, h, .refl _⟩
  | cons x _ ih =>
    intro ks h
    cases h with
    | cons a r =>
      obtain ⟨ks', r', q⟩ := ih r
      exact ⟨_ :: ks', .cons a r', q.cons _⟩
  | swap x y l =>
    intro ks h
    cases h with
    | cons a r =>
      cases r with
      | cons b r => exact ⟨_, .cons b (.cons a r), .swap ..⟩
  | trans _ _ i1 i2 =>
    intro ks h
    obtain ⟨k1, r1, q1⟩ := i1 h
    obtain ⟨k2, r2, q2⟩ := i2 r1
    exact ⟨k2, r2, q2.trans q1⟩
theorem paired_len {α β : Type} {R : α → β → Prop} {l : List α} {ks : List β} (h : Paired R l ks) : l.length = ks.length := Paired.length h
theorem paired_mem {α β : Type} {R : α → β → Prop} : ∀ {l : List α} {ks : List β}, Paired R l ks → ∀ k ∈ ks, ∃ e ∈ l, R e k
  | _, _, .nil, _, none' => nomatch none'
  | _, _, .cons a r, k, h => by
    rcases List.mem_cons.mp h with rfl | later
    · exact ⟨_, List.mem_cons_self, a⟩
    · obtain ⟨e, he, q⟩ := paired_mem r k later
      exact ⟨e, List.mem_cons_of_mem _ he, q⟩
theorem paired_mem' {α β : Type} {R : α → β → Prop} : ∀ {l : List α} {ks : List β}, Paired R l ks → ∀ e ∈ l, ∃ k ∈ ks, R e k
  | _, _, .nil, _, none' => nomatch none'
  | _, _, .cons a r, k, h => by
    rcases List.mem_cons.mp h with rfl | later
    · exact ⟨_, List.mem_cons_self, a⟩
    · obtain ⟨e, he, q⟩ := paired_mem' r k later
      exact ⟨e, List.mem_cons_of_mem _ he, q⟩
section
variable {P : Program} {w : World} {κ : Type} [DecidableEq κ]
/-- at a the set of the keys ks; its table rises and can be walked -/
def Tab (kk : KeyKind P w κ) (h : Heap) (a : Addr) (ks : List κ) : Prop := ∃ (o : Obj) (es : Array (Int × Value)) (ep : Nat) (t : SetTable),
  (h.get? a = some o ∧ o.ExactSet ∧ o.data = .set es ep t) ∧ (ElemsOf kk es.toList ∧ ∃ kz : List κ, Paired (fun (e : Int × Value) k => kk.is k e.2 = true) es.toList kz ∧ kz.Perm ks) ∧ ks.Nodup ∧
  (es.size < scanBound ∧ t.fits es.size = true) ∧ Ris t.place.toList ∧ (w.params.followText "set-order" = true ∨ t.led = true)
variable {kk : KeyKind P w κ} {h h' : Heap} {a : Addr} {ks : List κ}
theorem Tab.at (R : Tab kk h a ks) (k : ∀ o, h.get? a = some o → h'.get? a = some o) : Tab kk h' a ks := by
  obtain ⟨o, es, ep, t, ⟨ho, r0⟩, r⟩ := R
  exact ⟨o, es, ep, t, ⟨k o ho, r0⟩, r⟩
theorem Tab.perm {kz : List κ} (R : Tab kk h a ks) (p : ks.Perm kz) : Tab kk h a kz := by
  obtain ⟨o, es, ep, t, r0, ⟨r1, ky, r2, r3⟩, r4, r5⟩ := R
  exact ⟨o, es, ep, t, r0, ⟨r1, ky, r2, r3.trans p⟩, p.nodup_iff.mp r4, r5⟩
theorem is_mem {l : List (Int × Value)} {kz : List κ} (r : Paired (fun (e : Int × Value) k => kk.is k e.2 = true) l kz) (k : κ) : k ∈ kz ↔ ∃ e ∈ l, kk.is k e.2 = true := by
  constructor
  · exact fun z => paired_mem r k z
  · rintro ⟨e, he, q⟩
    obtain ⟨k', hk, q'⟩ := paired_mem' r e he
    rw [kk.inj e.2 k k' q q']
    exact hk
theorem Tab.setOf (R : Tab kk h a ks) : h.SetOf kk a (fun k => decide (k ∈ ks)) ks.length := by
  obtain ⟨o, es, ep, t, ⟨ho, hx, hd⟩, ⟨he, kz, hp, pm⟩, nd, ⟨hb, hf⟩, _⟩ := R
  refine ⟨o, es, ep, t, ho, hx, hd, he, fun k => ?_, hb, hf, ?_⟩
  · rw [decide_eq_true_eq, ← pm.mem_iff]
    exact is_mem hp k
  · rw [← pm.length_eq, ← paired_len hp, Array.length_toList]
/-! adding a key -/
variable {A : Around} {E : Value → Shared → Prop} {s : Shared} {k : κ} {v : Value}
/-- the new entry stored, the table laid anew where it grows too full -/
theorem tab_store {G : Bool → Sem Unit} (hG : ∀ (y : Bool) (z : Shared) (R : Unit → Shared → Prop), R () z → wpAny (model P w) A (G y) R E z) {o : Obj} {l0 : Array (Int × Value)} {ep : Nat} {t0 : SetTable}
    (at0 : s.heap.get? a = some o ∧ o.ExactSet ∧ o.data = .set l0 ep t0) {l1 : Array (Int × Value)} {t1 : SetTable} {kz : List κ}
    (el : ElemsOf kk l1.toList) (kp : Paired (fun (e : Int × Value) k => kk.is k e.2 = true) l1.toList kz) (nd : kz.Nodup) (sz : l1.size < scanBound) (ft : t1.fits l1.size = true) (ri : Ris t1.place.toList)
    (ld : w.params.followText "set-order" = true ∨ t1.led = true) {y : Bool} {R : Option Bool → Shared → Prop} (hR : ∀ h', Heap.SameBut a s.heap h' → Tab kk h' a kz → R (some true) { s with heap := h' }) :
    wpAny (model P w) A (storeSet a l1 t1 >>= fun _ => if (!y && t1.tooFull) = true then (do G (relayAll t1 l1 (SetTable.grown l1.size)).2.2; storeSet a (relayAll t1 l1 (SetTable.grown l1.size)).1 (relayAll t1 l1 (SetTable.grown l1.size)).2.1; pure (some true)) else pure (some true)) R E s := by
  obtain ⟨ho, hx, hd⟩ := at0
  have new1 := L2.store_at (es' := l1) (t' := t1) ho hd
  have but1 := Heap.SameBut.update s.heap a (Obj.putSet l1 t1)
  refine wpAny_bind (wpAny_storeSet_of (es' := l1) (t' := t1) ho hd ?first (fits_of_scanBound sz))
  by_cases full : (!y && t1.tooFull) = true
  · rw [if_pos full]
    have q1 : (relayAll t1 l1 (SetTable.grown l1.size)).1.toList.Perm l1.toList := relayAll_perm ..
    have q2 : (relayAll t1 l1 (SetTable.grown l1.size)).2.1.fits (relayAll t1 l1 (SetTable.grown l1.size)).1.size = true := relayAll_fits ..
    have q3 : Ris (relayAll t1 l1 (SetTable.grown l1.size)).2.1.place.toList := relayAll_ris ..
    have q4 : (relayAll t1 l1 (SetTable.grown l1.size)).2.1.led = t1.led := relayAll_led ..
    have len : (relayAll t1 l1 (SetTable.grown l1.size)).1.size = l1.size := by have := q1.length_eq; rwa [Array.length_toList, Array.length_toList] at this
    obtain ⟨ky, kp2, pm⟩ := paired_perm q1.symm kp
    refine wpAny_bind (hG _ _ _ ?_); refine wpAny_bind (wpAny_storeSet_of new1 rfl ?_ (fits_of_scanBound (by rw [len]; exact sz)))
    refine wpAny_pure (hR _ (but1.trans (Heap.SameBut.update _ a _)) ⟨_, _, _, _, ⟨L2.store_at new1 rfl, hx, rfl⟩, ⟨fun e he => el e (q1.mem_iff.mp he), ky, kp2, pm⟩, nd, ⟨by rw [len]; exact sz, q2⟩, q3, ?_⟩)
    rw [q4]
    exact ld
  · rw [if_neg full]
    exact wpAny_pure (hR _ but1 ⟨_, _, _, _, ⟨new1, hx, rfl⟩, ⟨el, kz, kp, .refl _⟩, nd, ⟨sz, ft⟩, ri, ld⟩)
theorem tab_add {R : Bool → Shared → Prop} (T : Tab kk s.heap a ks) (room : ks.length + 1 < scanBound) (hk : kk.is k v = true) (sc : v.scannable = true)
    (hR : ∀ h', Heap.SameBut a s.heap h' → Tab kk h' a (if k ∈ ks then ks else k :: ks) → R (!decide (k ∈ ks)) { s with heap := h' }) : wpAny (model P w) A (setAddHashed a v (kk.hash k)) R E s := by
  obtain ⟨o, l0, ep, t0, ⟨ho, hx, hd⟩, ⟨el, kz, kp, pm⟩, nd, ⟨sz, ft⟩, ri, ld⟩ := T
  have n0 : l0.size = ks.length := by have := paired_len kp; rw [Array.length_toList] at this; rw [this, pm.length_eq]
  have whole : Tab kk s.heap a ks := ⟨o, l0, ep, t0, ⟨ho, hx, hd⟩, ⟨el, kz, kp, pm⟩, nd, ⟨sz, ft⟩, ri, ld⟩
  have scan : byScan v l0 = true := byScan_of sc sz el
  unfold setAddHashed setAddHashedIn; refine wpAny_holding (wpAny_bind (wpAny_setState_of ho hd ft ?_))
  simp only [scan, if_true]
  refine wpAny_bind ?_; unfold setAddByScan; refine wpAny_bind (wpAny_rule ?_)
  refine wpAny_bind (wpAny_setScan_of hk ho hd ft el ?_)
  cases look : List.findIdx? (fun e => kk.is k e.2) l0.toList with
  | some j =>
    obtain ⟨jl, pj, _⟩ := List.findIdx?_eq_some_iff_getElem.mp look
    have there : k ∈ ks := pm.mem_iff.mp ((is_mem kp k).mpr ⟨_, List.getElem_mem jl, pj⟩)
    have q := hR s.heap (Heap.SameBut.refl a s.heap) (by rw [if_pos there]; exact whole)
    rw [decide_eq_true there] at q
    exact wpAny_pure (wpAny_pure q)
  | none =>
    have gone : k ∉ ks := fun z => by
      obtain ⟨e, he, q⟩ := (is_mem kp k).mp (pm.mem_iff.mpr z)
      have := List.findIdx?_eq_none_iff.mp look e he
      rw [q] at this
      cases this
    rw [if_neg gone, decide_eq_false gone] at hR
    have w1 : (layNew t0 l0 (kk.hash k) v).1.toList.Perm (l0.toList ++ [(kk.hash k, v)]) := by rw [← Array.toList_push]; exact layNew_perm t0 l0 (kk.hash k) v
    have w2 : (layNew t0 l0 (kk.hash k) v).2.1.fits (layNew t0 l0 (kk.hash k) v).1.size = true := layNew_fits ..
    have w3 : Ris (layNew t0 l0 (kk.hash k) v).2.1.place.toList := layNew_ris _ _ _ _ ri
    have w4 : (layNew t0 l0 (kk.hash k) v).2.1.led = t0.led := layNew_led ..
    generalize layNew t0 l0 (kk.hash k) v = Z at w1 w2 w3 w4 ⊢
    obtain ⟨l1, t1, dummy, gave⟩ := Z
    dsimp only at w1 w2 w3 w4 ⊢
    have kp1 : Paired (fun (e : Int × Value) k => kk.is k e.2 = true) (l0.toList ++ [(kk.hash k, v)]) (kz ++ [k]) := Paired.snoc kp hk
    obtain ⟨ky, kp2, pm2⟩ := paired_perm w1.symm kp1
    have pm3 : ky.Perm (k :: ks) := pm2.trans ((List.perm_append_singleton k kz).trans (pm.cons k))
    have nd3 : ky.Nodup := pm3.nodup_iff.mpr (List.nodup_cons.mpr ⟨gone, nd⟩)
    have el3 : ElemsOf kk l1.toList := (ElemsOf.push el hk sc).perm w1
    have sz3 : l1.size < scanBound := by
      have := w1.length_eq
      rw [Array.length_toList, List.length_append, Array.length_toList] at this
      have e1 : [(kk.hash k, v)].length = 1 := rfl
      rw [e1, n0] at this
      rw [this]
      exact room
    have led3 : w.params.followText "set-order" = true ∨ t1.led = true := ld.imp id fun z => w4.trans z
    have fin : ∀ h', Heap.SameBut a s.heap h' → Tab kk h' a ky → R true { s with heap := h' } := fun h' sb T2 => hR h' sb (T2.perm pm3)
    refine wpAny_bind ?gate
    case gate =>
      cases gave <;> first | refine wpAny_pure ?_ | refine wpAny_rule ?_
      all_goals
        by_cases hp : t1.plain = true
        · rw [if_pos hp]
          refine wpAny_bind ?_
          rw [hashByValue_scannable 8 sc]
          refine wpAny_pure ?_
          cases pv : plainKind v
          · simp only [if_false, Bool.false_eq_true]
            refine tab_store (kz := ky) ?_ ⟨ho, hx, hd⟩ el3 kp2 nd3 sz3 (SetTable.fits_plain_off w2) w3 led3 fun h' sb T2 => ?_
            · intro y z R' q; cases y <;> first | exact wpAny_pure q | exact wpAny_rule q
            · exact wpAny_pure (fin h' sb T2)
          · simp only [if_true]
            refine tab_store (kz := ky) ?_ ⟨ho, hx, hd⟩ el3 kp2 nd3 sz3 w2 w3 led3 fun h' sb T2 => ?_
            · intro y z R' q; cases y <;> first | exact wpAny_pure q | exact wpAny_rule q
            · exact wpAny_pure (fin h' sb T2)
        · rw [if_neg hp]
          refine wpAny_bind (wpAny_pure ?_); simp only [if_true]
          refine tab_store (kz := ky) ?_ ⟨ho, hx, hd⟩ el3 kp2 nd3 sz3 w2 w3 led3 fun h' sb T2 => ?_
          · intro y z R' q; cases y <;> first | exact wpAny_pure q | exact wpAny_rule q
          · exact wpAny_pure (fin h' sb T2)
end
/-! keys met one after another -/
section
variable {P : Program} {w : World} {κ : Type} [DecidableEq κ]
def grow (ks : List κ) (k : κ) : List κ := if k ∈ ks then ks else k :: ks
def met (val : Nat → κ) : Nat → List κ
  | 0 => []
  | i + 1 => grow (met val i) (val i)
theorem met_le (val : Nat → κ) : ∀ i, (met val i).length ≤ i
  | 0 => Nat.le_refl _
  | i + 1 => by
    show (if _ then _ else _ : List κ).length ≤ _
    split
    · exact Nat.le_succ_of_le (met_le val i)
    · exact Nat.succ_le_succ (met_le val i)
theorem met_mem (val : Nat → κ) (k : κ) : ∀ i, k ∈ met val i ↔ ∃ j, j < i ∧ val j = k
  | 0 => by
    constructor
    · intro h; cases h
    · rintro ⟨j, h, _⟩; cases h
  | i + 1 => by
    have q : k ∈ met val (i + 1) ↔ k = val i ∨ k ∈ met val i := by
      show k ∈ (if _ then _ else _ : List κ) ↔ _
      split
      next c => exact ⟨.inr, fun z => z.elim (fun e => e ▸ c) id⟩
      next => exact List.mem_cons
    rw [q, met_mem val k i]
    constructor
    · rintro (rfl | ⟨j, a, b⟩)
      · exact ⟨i, Nat.lt_succ_self i, rfl⟩
      · exact ⟨j, Nat.lt_succ_of_lt a, b⟩
    · rintro ⟨j, a, b⟩
      rcases Nat.lt_succ_iff_lt_or_eq.mp a with c | rfl
      · exact .inr ⟨j, c, b⟩
      · exact .inl b.symm
theorem met_nodup (val : Nat → κ) : ∀ i, (met val i).Nodup
  | 0 => .nil
  | i + 1 => by
    show (if _ then _ else _ : List κ).Nodup
    split
    next => exact met_nodup val i
    next c => exact List.nodup_cons.mpr ⟨c, met_nodup val i⟩
variable {kk : KeyKind P w κ} {A : Around} {R : Result → Shared → Prop} {it S : Addr} {fp wr : List Addr} {G : Array GenState → Array GenState → Prop} {n : Nat} {V : Nat → Value → Prop} {St : Nat → Shared → Prop}
theorem tab_loop (W : WalksS P w A.in1 it fp wr G n V St) (free : S ∉ fp) (val : Nat → κ) (ok : ∀ i v, V i v → kk.is (val i) v = true ∧ v.scannable = true) (room : n + 1 < scanBound) :
    ∀ (left i : Nat) (s : Shared), i + left = n → St i s → Tab kk s.heap S (met val i) →
      (∀ z, Moved (S :: wr) G s z → Tab kk z.heap S (met val n) → R (.ok (.ret .none)) z) → codeAny (model P w) A (.builtin "set.update.loop" ⟨[.ref S, .ref it], []⟩) R s := by
  have out : S ∉ wr := fun h => free (W.sub _ h)
  have more : ∀ b ∈ wr, b ∈ S :: wr := fun _ h => .tail _ h
  intro left
  induction left with
  | zero =>
    intro i s e st T hR
    obtain rfl : i = n := e
    refine codeAny_builtin PyProof.Rows.F.entry_set_update_loop ?_; rw [Around.under_plainId PyProof.Rows.F.plain_set_update_loop _]
    show wpAny _ A.in1 (pyNext (.ref it) >>= _) _ _ s; refine wpAny_bind (W.done s _ _ st fun z m => ?_)
    exact wpAny_pure (hR z (m.mono more) (T.at fun o h => m.heap S o out h))
  | succ left ih =>
    intro i s e st T hR
    have lt : i < n := by omega
    refine codeAny_builtin PyProof.Rows.F.entry_set_update_loop ?_; rw [Around.under_plainId PyProof.Rows.F.plain_set_update_loop _]
    show wpAny _ A.in1 (pyNext (.ref it) >>= _) _ _ s; refine wpAny_bind (W.item i s _ _ lt st fun v z hv st2 m => ?_)
    obtain ⟨hk, sc⟩ := ok i v hv
    have T2 : Tab kk z.heap S (met val i) := T.at fun o h => m.heap S o out h
    show wpAny _ A.in1 (holding [v] (setAdd S v) >>= _) _ _ z
    refine wpAny_bind (wpAny_holding ?_); unfold setAdd; refine wpAny_holding (wpAny_bind (kk.pyHash hk ?_))
    refine tab_add (s := { z with toks := z.toks + 1 }) T2 (by have := met_le val i; omega) hk sc fun h2 sb T3 => ?_
    refine wpAny_pure ⟨plainId_quiet PyProof.Rows.F.plain_set_update_loop _, ih (i + 1) _ (by omega) (W.frame _ z _ _ st2 (Nat.le_succ _) fun b hb o q => ?_) T3 fun y my Ty => ?_⟩
    · exact (sb.2 b fun c : b = S => free (c ▸ hb)).trans q
    · refine hR y (Moved.trans W.gtrans ((m.mono more).then_heap (Nat.le_succ _) fun b o hb q => ?_) my) Ty
      exact (sb.2 b fun c : b = S => hb (c ▸ .head _)).trans q
end
end My
set_option Elab.async false
set_option linter.all false
set_option maxRecDepth 100000
set_option maxHeartbeats 3200000
namespace My
open PySem PySem.Spec PyProof.Rows L2
/-! ### set(a list), set(a tuple) -/
/-- what set(..) is given: an object at l whose items are walked from the first to the last -/
structure Fed (P : Program) (w : World) (l : Addr) (items : Array Value) (T U : String) (Is : Heap → Prop) : Prop where
  ns : isSubtype (.type T) (.type "set") = pure false
  nf : isSubtype (.type T) (.type "frozenset") = pure false
  nd : (Value.type T == Value.type "dict") = false
  obj : ∀ h, Is h → ∃ d n sl, h.get? l = some { cls := .type T, dict := d, data := .seq items n, slots := sl }
  keep : ∀ h h', Is h → (∀ o, h.get? l = some o → h'.get? l = some o) → Is h'
  iter : ∀ A E (z : Shared) Q, Is z.heap → Q (.ref z.heap.objs.size) { z with heap := z.heap.push { cls := .type U, data := .fields #[.ref l, .int 0 0] } } → wpAny (model P w) A (pyIter (.ref l)) Q E z
  walk : ∀ A I, A.handled = none → l ≠ I → ∃ St, Walks P w A I [I, l] [I] items.size (fun i v => items[i]? = some v) St ∧ ∀ h, Is h → h.get? I = some { cls := .type U, data := .fields #[.ref l, .int 0 0] } → St 0 h
theorem fed_list (P : Program) (w : World) (l : Addr) (items : Array Value) : Fed P w l items "list" "list_iterator" (fun h => h.IsList l items) where
  ns := PySem.F.sub_list_set
  nf := PySem.F.sub_list_frozenset
  nd := by decide
  obj := fun h ⟨⟨c, d, x, sl⟩, a, b, n, e⟩ => by dsimp only at b e; subst b; subst e; exact ⟨d, n, sl, a⟩
  keep := fun h h' ⟨o, a, r⟩ k => ⟨o, k o a, r⟩
  iter := fun A E z Q i q => wpAny_pyIter_list i q
  walk := fun A I hh ne => ⟨_, Walks.list hh I l ne items, fun h i e => ⟨⟨_, e, rfl, rfl⟩, i⟩⟩
theorem fed_tuple (P : Program) (w : World) (l : Addr) (items : Array Value) : Fed P w l items "tuple" "tuple_iterator" (fun h => h.IsTuple l items) where
  ns := PySem.F.sub_tuple_set
  nf := PySem.F.sub_tuple_frozenset
  nd := by decide
  obj := fun h ⟨⟨c, d, x, sl⟩, a, b, n, e⟩ => by dsimp only at b e; subst b; subst e; exact ⟨d, n, sl, a⟩
  keep := fun h h' ⟨o, a, r⟩ k => ⟨o, k o a, r⟩
  iter := fun A E z Q i q => wpAny_pyIter_tuple i q
  walk := fun A I hh ne => ⟨_, Walks.tuple hh I l ne items, fun h i e => ⟨⟨_, e, rfl, rfl⟩, i⟩⟩
section
variable {P : Program} {w : World} {κ : Type} [DecidableEq κ] {kk : KeyKind P w κ} {A : Around} {E : Value → Shared → Prop} {s : Shared}
/-- an empty set, made by a program that is led or follows the text -/
def bare (w : World) : Obj := { cls := .type "set", dict := none, data := .set #[] 0 (.fresh 0 0 (!w.params.followText "set-order")) }
theorem tab_bare {h : Heap} {a : Addr} (e : h.get? a = some (bare w)) : Tab kk h a [] := by
  refine ⟨_, _, _, _, ⟨e, ⟨rfl, rfl, rfl⟩, rfl⟩, ⟨fun e he => by simp at he, [], .nil, .refl _⟩, .nil, ⟨by decide, rfl⟩, .nil, ?_⟩
  show _ ∨ (!w.params.followText "set-order") = true; cases w.params.followText "set-order" <;> simp
theorem new_bare (a : Value) {R : Value → Shared → Prop} (h : R (.ref s.heap.objs.size) { s with heap := s.heap.push (bare w) }) : codeAny (model P w) A (.call (.builtin "set.__new__") ⟨[.type "set", a], []⟩) (wants R E) s := by
  refine codeAny_of_tree ?_; show wpAny _ A.in1 (do checkBuiltinCall "set.__new__" ⟨[.type "set", a], []⟩; again (.builtin "set.__new__" ⟨[.type "set", a], []⟩)) _ _ s
  refine wpAny_bind (wpAny_of_eq (PySem.F.newCall_set_1 a) (wpAny_pure ⟨plainId_quiet F.plain_set_new _, codeAny_builtin F.entry_set_new ?_⟩)); rw [Around.under_plainId F.plain_set_new _]
  unfold Builtin.«set.__new__» Builtin.Frozenset.newClass; have := sub_set_self; obtain ⟨hp, g, d, tk, os⟩ := s; dsimp only
  wp_walk
  refine wpAny_askSetting (wpAny_pure ?_); dsimp only; simp only [newObj]
  exact wpAny_bind (wpAny_alloc (wpAny_pure (wpAny_pure h)))
theorem call_fed {l : Addr} {items : Array Value} {T U : String} {Is : Heap → Prop} (F0 : Fed P w l items T U Is) (hh : A.handled = none) (here : Is s.heap) (val : Nat → κ)
    (ok : ∀ i v, items[i]? = some v → kk.is (val i) v = true ∧ v.scannable = true) (room : items.size + 1 < scanBound) {Q : Value → Shared → Prop}
    (hQ : ∀ h' tk, Tab kk h' s.heap.objs.size (met val items.size) → (∀ b o, b < s.heap.objs.size → s.heap.get? b = some o → h'.get? b = some o) → Q (.ref s.heap.objs.size) { s with heap := h', toks := tk }) : wpAny (model P w) A (call (.type "set") [.ref l]) Q E s := by
  obtain ⟨c, tl, hmro⟩ := PySem.F.called_set.mro; have made := PySem.F.called_set.made; have sub := PySem.F.called_set.sub; have h1 := PySem.F.called_set.notType; have h2 := PySem.F.called_set.canCreate; have ct := PySem.F.typeCall_set_1 (.ref l)
  refine wpAny_call (codeAny_of_tree ?_); show wpAny _ _ (callAny (.type "set") _) _ _ _
  refine wpAny_pure ⟨Code.quiet_builtin _ (by decide +kernel), codeAny_builtin PySem.F.entry_type_call ?_⟩; rw [Around.under_plain (weight_type_call_type "set" [.ref l] []) rfl]
  repeat (any_goals first | assumption | wp_step)
  refine codeAny_mono (new_bare (.ref l) (E := E) (R := fun x z => x = .ref s.heap.objs.size ∧ z = { s with heap := s.heap.push (bare w) }) ⟨rfl, rfl⟩) fun r z hr => ?_
  cases r with
  | error e => exact hr
  | ok fl =>
    cases fl with
    | ret x =>
      obtain ⟨rfl, rfl⟩ := hr
      have aS : (s.heap.push (bare w)).get? s.heap.objs.size = some (bare w) := Heap.get?_push_size _ rfl
      have hT : Shared.TypeIs { s with heap := s.heap.push (bare w) } (.ref s.heap.objs.size) "set" := ⟨_, aS, rfl⟩
      have li := PySem.F.called_set.init.lookup; have bi := PySem.F.called_set.init.bind (.ref s.heap.objs.size)
      repeat (any_goals first | assumption | wp_step)
      refine codeAny_mono (codeAny_call_builtin (R := wants (fun r z => r = .none ∧ ∃ h' tk, z = { s with heap := h', toks := tk } ∧ Tab kk h' s.heap.objs.size (met val items.size) ∧ ∀ b o, b < s.heap.objs.size → s.heap.get? b = some o → h'.get? b = some o) E)
        PySem.F.called_set.init.plain PySem.F.entry_set_init (check_set_init_1 hT ?_)) fun r2 z2 hr2 => ?_
      · have Is1 : Is (s.heap.push (bare w)) := F0.keep _ _ here fun o e => Heap.get?_push_of_some _ e
        obtain ⟨d, n, sl, at0⟩ := F0.obj _ Is1
        obtain ⟨_, _, _, at1⟩ := F0.obj _ here
        have q1 := F0.ns; have q2 := F0.nf; have q3 := F0.nd
        unfold Builtin.«set.__init__» noKeywords Builtin.Frozenset.updateFrom; generalize hPI : pyIter = PI
        wp_walk
        subst hPI
        refine F0.iter _ _ _ _ Is1 ?_
        refine wpAny_bind (wpAny_runValue ?_); have lS : l < s.heap.objs.size := Heap.lt_size at1
        have hz : (s.heap.push (bare w)).objs.size = s.heap.objs.size + 1 := Heap.size_push ..
        have ne : l ≠ (s.heap.push (bare w)).objs.size := by rw [hz]; exact Nat.ne_of_lt (Nat.lt_succ_of_lt lS)
        have free : s.heap.objs.size ∉ [(s.heap.push (bare w)).objs.size, l] := by
          rw [hz]; intro c
          rcases List.mem_cons.mp c with c | c
          · exact Nat.ne_of_lt (Nat.lt_succ_self _) c
          · exact Nat.ne_of_gt lS (List.mem_singleton.mp c)
        obtain ⟨St, W, st0⟩ := F0.walk A.in1.in1.in1 (s.heap.push (bare w)).objs.size (by simp [hh]) ne
        refine tab_loop (kk := kk) W.toS free val ok room items.size 0 _ (Nat.zero_add _) (st0 _ (F0.keep _ _ Is1 fun o e => Heap.get?_push_of_some _ e) (Heap.get?_push_size _ rfl)) (tab_bare (Heap.get?_push_of_some _ aS)) ?_
        intro z m Tz
        obtain ⟨h', g', d', tk', os'⟩ := z
        obtain rfl : g' = s.gens := m.gens
        obtain rfl : d' = s.drawn := m.drawn
        obtain rfl : os' = s.os := m.os
        show wpAny _ _ _ _ _ _; refine wpAny_pure ?_; show wpAny _ _ (ret Value.none) _ _ _
        refine wpAny_pure ⟨rfl, h', tk', rfl, Tz, fun b o hb e => ?_⟩
        refine m.heap b o ?_ (Heap.get?_push_of_some _ (Heap.get?_push_of_some _ e))
        rw [hz]; intro c
        rcases List.mem_cons.mp c with c | c
        · exact Nat.ne_of_lt hb c
        · exact Nat.ne_of_lt (Nat.lt_succ_of_lt hb) (List.mem_singleton.mp c)
      · cases r2 with
        | error e => exact hr2
        | ok fl2 =>
          cases fl2 with
          | ret r =>
            obtain ⟨rfl, h', tk, rfl, T2, k2⟩ := hr2
            repeat (any_goals first | assumption | wp_step)
            exact hQ _ _ T2 k2
          | _ => exact hr2.elim
    | _ => exact hr.elim
end
end My
set_option Elab.async false
set_option linter.all false
set_option maxRecDepth 100000
set_option maxHeartbeats 3200000
namespace My
open PySem PySem.Spec PyProof.Rows L2
/-! ### a set of texts: len, sorted -/
section
variable {P : Program} {w : World} {A : Around} {E : Value → Shared → Prop} {s : Shared} {a : Addr} {ks : List Str}
theorem texts_of : ∀ {l : List (Int × Value)} {kz : List Str}, Paired (fun (e : Int × Value) k => (PySem.strKind P w).is k e.2 = true) l kz → Paired (fun (v : Value) k => ∃ t, v = .str k t) (l.map (·.2)) kz
  | _, _, .nil => .nil
  | _, _, .cons q r => .cons (Value.isStrOf_shape q) (texts_of r)
theorem strs_of : ∀ {l : List Value} {kz : List Str}, Paired (fun (v : Value) k => ∃ t, v = .str k t) l kz → StrsAre l kz
  | _, _, .nil => .nil
  | _, _, .cons ⟨t, q⟩ r => by rw [q]; exact .cons _ t (strs_of r)
/-- sorted(a set of texts) -/
theorem sorted_tab (T : Tab (PySem.strKind P w) s.heap a ks) (hh : A.handled = none) {Q : Value → Shared → Prop}
    (hQ : ∀ z p (out : Array Value) c ys, (∀ b o, s.heap.get? b = some o → z.heap.get? b = some o) → z.gens = s.gens → z.os = s.os → s.heap.objs.size ≤ p → z.heap.get? p = some (seqObj "list" out c) →
      StrsAre out.toList ys → ys.Perm ks → sortedS ys = true → Q (.ref p) z) : wpAny (model P w) A (call (.builtin "sorted") [.ref a]) Q E s := by
  obtain ⟨o, es, ep, t, ⟨ho, hx, hd⟩, ⟨el, kz, kp, pm⟩, nd, ⟨sz, ft⟩, ri, ld⟩ := T
  refine Calls.call_function_entry kind_sorted plain_sorted entry_sorted (args_sorted1 _) ?_; unfold Builtin.«sorted»
  refine wpAny_bind (m := checkCount "sorted" 1 1 _) (wpAny_pure ?_); refine wpAny_bind (collect_set (A := A.in1) hh ⟨o, ho, hx.1, hd⟩ ft sz ri ld fun z vs k1 hz g1 o1 pv => ?_)
  obtain ⟨kv, pv2, pv3⟩ := paired_perm pv.symm (texts_of kp)
  have hS : StrsAre vs kv := strs_of pv2
  have room : vs.length ≤ sizeLine := by rw [pv.length_eq, List.length_map, Array.length_toList]; exact fits_of_scanBound sz
  refine wpAny_bind (wpAny_newList ?_ room)
  have at1 : (z.heap.push (seqObj "list" vs.toArray 0)).get? z.heap.objs.size = some (seqObj "list" vs.toArray 0) := Heap.get?_push_size _ rfl
  refine wpAny_bind (wpAny_holding (wpAny_call_entry slot_list_sort ⟨_, at1, rfl⟩ entry_list_sort
    (list_sort_treeKAny strKind_oneLt at1 hS.keysOf (fun _ _ _ e => keyKind_strs (by rw [← e]; exact hS)) room fun st' q1 q2 => ⟨_, rfl, ?_⟩) (args_list_sort _)))
  obtain ⟨ys, r1, r2, r3⟩ := sorted_out_str hS q1 q2
  obtain ⟨c, hc⟩ := sortedHeap_at (vs := vs) (out := (arrOf st').map (·.2)) at1
  refine wpAny_pure ⟨_, rfl, hQ _ z.heap.objs.size _ c ys (fun b u e => ?_) g1 o1 hz hc r1 (r2.trans (pv3.trans pm)) r3⟩
  have q := k1 b u e
  have lt := Heap.lt_size q
  show (sortedHeap (z.heap.push (seqObj "list" vs.toArray 0)) z.heap.objs.size vs _).get? b = some u
  rw [sortedHeap_old (Nat.ne_of_lt lt) (by rw [size_push']; exact Nat.lt_succ_of_lt lt)]; exact Heap.get?_push_of_some _ q
end
/-- len(a set) -/
theorem len_tab {P : Program} {w : World} {κ : Type} [DecidableEq κ] {kk : KeyKind P w κ} {A : Around} {E : Value → Shared → Prop} {s : Shared} {a : Addr} {ks : List κ} (T : Tab kk s.heap a ks) {Q : Value → Shared → Prop}
    (hQ : Q (.int (ks.length : Nat) (s.toks + 1)) { s with toks := s.toks + 1 + 1 }) : wpAny (model P w) A (call (.builtin "len") [.ref a]) Q E s := by
  obtain ⟨o, es, ep, t, ⟨ho, hx, hd⟩, ⟨el, kz, kp, pm⟩, nd, ⟨sz, ft⟩, ri, ld⟩ := T
  have e : es.size = ks.length := by rw [← pm.length_eq, ← paired_len kp, Array.length_toList]
  refine call_len_set ho hx hd ft (by have q := fits_of_scanBound sz; rw [sizeLine_eq] at q; omega) ?_
  rw [e]
  exact hQ
end My
set_option Elab.async false
set_option linter.all false
set_option maxRecDepth 100000
set_option maxHeartbeats 3200000
namespace My
open PySem PySem.Spec PyProof.Rows L2
section
variable {X : Cx}
def TabO {κ : Type} [DecidableEq κ] (X : Cx) (kk : PySem.KeyKind X.prog X.w κ) (a : Addr) (ks : List κ) : HO := .ext fun h => Tab kk h a ks
theorem tabO_new {κ : Type} [DecidableEq κ] {kk : PySem.KeyKind X.prog X.w κ} {H : Hp} {h : Heap} {a : Addr} {ks : List κ} (T : Tab kk h a ks) : ObjOk X.prog X.w H h a (TabO X kk a ks) := by
  have ⟨o, _, _, _, ⟨ho, _⟩, _⟩ := T
  exact ⟨T, ⟨o, ho⟩, fun _ _ p k => Tab.at p k⟩
theorem tabO_get {κ : Type} [DecidableEq κ] {kk : PySem.KeyKind X.prog X.w κ} {pins : List (Addr × Obj)} {σ : L2.St} {H : Hp} {s : Shared} {a : Addr} {ks : List κ} (I : Inv X pins σ H s) (e : H a = some (TabO X kk a ks)) : Tab kk s.heap a ks := (I.hok a _ e).1
/-- set(a list or a tuple of texts) -/
def rSetTx (X : Cx) : List V → Hp → VK → Prop := fun vs H Q => ∃ l, ∃ xs : List Str, vs = [V.ref l] ∧ (SqL X.K H l (xs.map V.str) ∨ SqT X.K H l (xs.map V.str)) ∧ xs.length + 1 < scanBound ∧
  ∀ p (ks : List Str), ks.Nodup → (∀ k, k ∈ ks ↔ k ∈ xs) → H p = none → Q (.ref p) (upd H p (TabO X (PySem.strKind X.prog X.w) p ks))
theorem cr_setTx (hc : X.calm = true) : CallR X (.type "set") (rSetTx X) := by
  intro pins s σ H vs us Q I r h; obtain ⟨l, xs, rfl, hs, room, q⟩ := h
  rw [Vals.ref1 r]
  have fin : ∀ (its : List Value), Vals (xs.map V.str) its → ∀ h' tk, Tab (PySem.strKind X.prog X.w) h' s.heap.objs.size (met (fun i => xs.getD i Str.empty) its.toArray.size) →
      (∀ b o, b < s.heap.objs.size → s.heap.get? b = some o → h'.get? b = some o) → EP X pins σ Q (.ref s.heap.objs.size) { s with heap := h', toks := tk } := fun its rv h' tk T k => by
    have e : its.toArray.size = xs.length := by rw [List.size_toArray, ← rv.length, List.length_map]
    rw [e] at T
    refine ⟨.ref _, upd H s.heap.objs.size (TabO X (PySem.strKind X.prog X.w) s.heap.objs.size _), I.laid (t' := tk) (fun b u z => k b u (Heap.lt_size z) z) (Nat.le_refl _) (tabO_new T), rfl, q _ _ (met_nodup _ _) (fun y => ?_) (I.hok.fresh (Nat.le_refl _))⟩
    rw [met_mem, List.mem_iff_getElem]
    constructor
    · rintro ⟨j, lt, z⟩
      exact ⟨j, lt, by rw [← z, List.getD_eq_getElem?_getD, List.getElem?_eq_getElem lt]; rfl⟩
    · rintro ⟨j, lt, z⟩
      exact ⟨j, lt, by rw [← z, List.getD_eq_getElem?_getD, List.getElem?_eq_getElem lt]; rfl⟩
  have ok : ∀ (its : List Value), Vals (xs.map V.str) its → ∀ i v, its.toArray[i]? = some v → (PySem.strKind X.prog X.w).is (xs.getD i Str.empty) v = true ∧ v.scannable = true := fun its rv i v e => by
    obtain ⟨t, rfl⟩ := SS.strs_at (strsAre_of rv) i v (by rw [← e]; simp)
    exact ⟨strKind_is .., rfl⟩
  have len : ∀ (its : List Value), Vals (xs.map V.str) its → its.toArray.size + 1 < scanBound := fun its rv => by rw [List.size_toArray, ← rv.length, List.length_map]; exact room
  rcases hs with hs | hs
  · obtain ⟨its, rv, pl, hz⟩ := I.list hs
    exact call_fed (fed_list ..) (I.ok.hd hc) pl.isList _ (ok its rv) (len its rv) (fin its rv)
  · obtain ⟨its, rv, pl, hz⟩ := I.tuple hs
    exact call_fed (fed_tuple ..) (I.ok.hd hc) pl _ (ok its rv) (len its rv) (fin its rv)
/-- len(a set) -/
def rLenTab {κ : Type} [DecidableEq κ] (X : Cx) (kk : PySem.KeyKind X.prog X.w κ) : List V → Hp → VK → Prop := fun vs H Q => ∃ a ks, vs = [V.ref a] ∧ H a = some (TabO X kk a ks) ∧ Q (.int (ks.length : Nat)) H
theorem cr_lenTab {κ : Type} [DecidableEq κ] {kk : PySem.KeyKind X.prog X.w κ} : CallR X (.builtin "len") (rLenTab X kk) := by
  intro pins s σ H vs us Q I r h; obtain ⟨a, ks, rfl, e, q⟩ := h
  rw [Vals.ref1 r]
  exact len_tab (tabO_get I e) ⟨.int _, H, I.tok _, ⟨_, rfl⟩, q⟩
/-- sorted(a set of texts) -/
def rSortTab (X : Cx) : List V → Hp → VK → Prop := fun vs H Q => ∃ a ks, vs = [V.ref a] ∧ H a = some (TabO X (PySem.strKind X.prog X.w) a ks) ∧
  ∀ ys p, ys.Perm ks → sortedS ys = true → H p = none → Q (.ref p) (upd H p (.lst (ys.map V.str)))
theorem cr_sortTab (hc : X.calm = true) : CallR X (.builtin "sorted") (rSortTab X) := by
  intro pins s σ H vs us Q I r h; obtain ⟨a, ks, rfl, e, q⟩ := h
  rw [Vals.ref1 r]
  have T := tabO_get I e
  have small : ks.length ≤ sizeLine := by
    obtain ⟨o, es, ep, t, _, ⟨_, kz, kp, pm⟩, _, ⟨sz, _⟩, _⟩ := T
    rw [← pm.length_eq, ← paired_len kp, Array.length_toList]
    exact fits_of_scanBound sz
  refine sorted_tab T (I.ok.hd hc) fun z p out c ys k g o hp hg hS pm so => ?_
  have hn : H p = none := I.hok.fresh hp; have J : Inv X pins σ (upd H p (.lst (ys.map V.str))) { s with heap := z.heap, gens := z.gens, drawn := z.drawn, toks := z.toks } :=
    I.call (ch := []) (Un.laid k hp hn) (I.hok.laid k hp ⟨by rw [List.length_map, pm.length_eq]; exact small, out.toList, c, vals_of_strs hS, hg⟩) (by rw [g]; exact I.bare) (fun _ z => nomatch z)
  have e : z = { s with heap := z.heap, gens := z.gens, drawn := z.drawn, toks := z.toks } := by
    obtain ⟨_, _, _, _, _⟩ := z
    obtain ⟨_, _, _, _, _⟩ := s
    cases o
    rfl
  rw [e]
  exact ⟨.ref p, _, J, rfl, q ys p pm so hn⟩
end
end My
set_option Elab.async false
set_option linter.all false
set_option maxRecDepth 100000
set_option maxHeartbeats 400000
namespace My
open PySem PySem.Spec PyProof.Rows L2 Evl
/-! ### texts: comprehensions over their signs -/
section
variable {K : PySem.W.Frag} {σ : L2.St} {H : Hp} {tt : TT} {te : TE}
theorem el_lcS {x : Str} {tl : TE} {j : Nat} {vs : List Nat} (f : Nat → Bool) (g : Nat → V) (h : Ev tl σ H (.str x)) (hz : x.cps.size ≤ 40000) (hw : ∀ y, wipe ((wipe σ vs).set j (some y)) vs = wipe σ vs)
    (ht : ∀ (i c : Nat) H1, Ex H H1 → x.cps[i]? = some c → EvT tt ((wipe σ vs).set j (some (.str ⟨#[c]⟩))) H1 (f i)) (he : ∀ (i c : Nat) H1, Ex H H1 → x.cps[i]? = some c → f i = true → Ev te ((wipe σ vs).set j (some (.str ⟨#[c]⟩))) H1 (g i)) :
    EvL (tLc (iStr tl) (gName j) tt te vs) σ H (given x.cps.size f g) := fun H0 e Q q => h H0 e _ fun H1 e1 => ⟨x, rfl, fun Dl hD => by
  refine ⟨fun i m H' => m = x.cps.size - i ∧ i ≤ x.cps.size ∧ Cw H1 f g Dl i H', ⟨x.cps.size, by simp, Nat.zero_le _, hD, Ex.new hD, upd_same⟩, ?_⟩
  rintro i m H' ⟨rfl, hi, pp⟩
  by_cases hlt : i < x.cps.size
  · refine .inr ⟨hlt, Cw H1 f g Dl (i + 1), fun H2 p' => ⟨x.cps.size - (i + 1), by omega, rfl, hlt, p'⟩, fun v H2 y => ?_⟩
    obtain ⟨rfl, c, hc, rfl⟩ := y
    exact ⟨hw _, cw_turn pp (by omega) (ht i c H1 (e.trans e1) hc) (fun hf => he i c H1 (e.trans e1) hc hf)⟩
  · have e' : i = x.cps.size := by omega
    subst e'
    exact .inl ⟨Nat.le_refl _, q Dl H' (fresh_back e1 pp.1) (e1.trans pp.2.1) pp.2.2⟩⟩
theorem el_lcU {a : Addr} {xs : List V} {tl : TE} {j : Nat} {vs : List Nat} (f : Nat → Bool) (g : Nat → V) (h : Ev tl σ H (.ref a)) (hx : SqT K H a xs) (hz : xs.length ≤ 40000) (hw : ∀ y, wipe ((wipe σ vs).set j (some y)) vs = wipe σ vs)
    (ht : ∀ (i : Nat) (x : V) H1, Ex H H1 → xs[i]? = some x → EvT tt ((wipe σ vs).set j (some x)) H1 (f i)) (he : ∀ (i : Nat) (x : V) H1, Ex H H1 → xs[i]? = some x → f i = true → Ev te ((wipe σ vs).set j (some x)) H1 (g i)) :
    EvL (tLc (iTup K tl) (gName j) tt te vs) σ H (given xs.length f g) := fun H0 e Q q => h H0 e _ fun H1 e1 => ⟨a, rfl, ⟨xs, ex_t (e.trans e1) hx⟩, fun Dl hD =>
  lc_tup (xs := xs) (Cw H1 f g Dl) ⟨hD, Ex.new hD, upd_same⟩ (fun i H' _ p => ex_t ((e.trans e1).trans p.2.1) hx) (fun i x H' hi p => ⟨hw x, cw_turn p (by have := (List.getElem?_eq_some_iff.mp hi).1; omega) (ht i x H1 (e.trans e1) hi) (fun hf => he i x H1 (e.trans e1) hi hf)⟩) (fun H' p => q Dl H' (fresh_back e1 p.1) (e1.trans p.2.1) p.2.2)⟩
theorem dpa_texts : ∀ xs : List Str, DpAll K H (xs.map V.str) (xs.map PyData.str)
  | [] => .nil
  | x :: r => .cons (.str x) (dpa_texts r)
end
theorem eqv_texts : ∀ xs ys : List Str, PyData.eqvAll (xs.map PyData.str) (ys.map PyData.str) = decide (xs = ys)
  | [], [] | [], _ :: _ | _ :: _, [] => by simp [PyData.eqvAll]
  | x :: r, y :: t => by
    rw [List.map_cons, List.map_cons, PyData.eqvAll, eqv_texts r t, PyData.eqv]
    by_cases e : x = y <;> by_cases e2 : r = t <;> simp [e, e2]
theorem lay_texts (xs : List Str) (h : ∀ x ∈ xs, PyData.strOk x = true) {n : Nat} : Lay (.list (xs.map PyData.str)) (n + 1) := .list (.map fun x hx => .str (h x hx))
theorem dp_texts {K : PySem.W.Frag} {H : Hp} {a : Addr} {xs : List Str} (h : SqL K H a (xs.map V.str)) : Dp K H (.ref a) (.list (xs.map PyData.str)) := .lst h (dpa_texts xs)
theorem eqv_list_texts (xs ys : List Str) : PyData.eqv (.list (xs.map PyData.str)) (.list (ys.map PyData.str)) = decide (xs = ys) := by rw [PyData.eqv, eqv_texts]
/-- sorted(set(a tuple of texts)) -/
theorem evG_sortSet {X : Cx} {σ : L2.St} {H : Hp} {ta : TA} {a : Addr} {xs : List Str} (h : EvA ta σ H [.ref a]) (hA : SqT X.K H a (xs.map V.str)) (room : xs.length + 1 < scanBound) :
    EvG (tCB (rSortTab X) (tCons (tCB (rSetTx X) ta) tNil)) σ H (fun v H' => ∃ p ys, v = .ref p ∧ H' p = some (.lst (ys.map V.str)) ∧ ys.Nodup ∧ (∀ k, k ∈ ys ↔ k ∈ xs) ∧ sortedS ys = true) := fun H1 e Q q =>
  h H1 e _ fun H2 e2 => ⟨a, xs, rfl, .inr (ex_t (e.trans e2) hA), room, fun p ks nd mem np =>
    ⟨p, ks, rfl, upd_same, fun ys l pm so nl => q _ _ ((e2.trans (Ex.new np)).trans (Ex.new nl)) ⟨l, ys, rfl, upd_same, pm.nodup_iff.mpr nd, fun k => pm.mem_iff.trans (mem k), so⟩⟩⟩
/-! texts that rise -/
theorem rise_eq {α : Type} {r : α → α → Prop} (ir : ∀ x, ¬ r x x) (tr : ∀ x y z, r x y → r y z → r x z) : ∀ xs ys : List α, xs.Pairwise r → ys.Pairwise r → (∀ k, k ∈ xs ↔ k ∈ ys) → xs = ys
  | [], [], _, _, _ => rfl
  | [], y :: _, _, _, h => nomatch (h y).mpr (.head _)
  | x :: _, [], _, _, h => nomatch (h x).mp (.head _)
  | x :: xs, y :: ys, hx, hy, h => by
    obtain ⟨x1, x2⟩ := List.pairwise_cons.mp hx
    obtain ⟨y1, y2⟩ := List.pairwise_cons.mp hy
    have e : x = y := by
      rcases List.mem_cons.mp ((h x).mp (.head _)) with e | a
      · exact e
      · rcases List.mem_cons.mp ((h y).mpr (.head _)) with e | b
        · exact e.symm
        · exact (ir x (tr _ _ _ (x1 y b) (y1 x a))).elim
    subst e
    refine congrArg (x :: ·) (rise_eq ir tr xs ys x2 y2 fun k => ⟨fun z => ?_, fun z => ?_⟩)
    · rcases List.mem_cons.mp ((h k).mp (.tail _ z)) with rfl | a
      · exact (ir _ (x1 _ z)).elim
      · exact a
    · rcases List.mem_cons.mp ((h k).mpr (.tail _ z)) with rfl | a
      · exact (ir _ (y1 _ z)).elim
      · exact a
theorem lt_ir : ∀ l : List Nat, ltCps l l = false
  | [] => rfl
  | a :: l => by rw [ltCps]; simp [lt_ir l]
theorem lt_tr : ∀ x y z : List Nat, ltCps x y = true → ltCps y z = true → ltCps x z = true
  | [], _, [], _, h => by rename_i y _; cases y <;> simp [ltCps] at h
  | [], _, _ :: _, _, _ => by simp [ltCps]
  | _ :: _, [], _, h, _ => by simp [ltCps] at h
  | _ :: _, _ :: _, [], _, h => by simp [ltCps] at h
  | a :: x, b :: y, c :: z, h1, h2 => by
    simp only [ltCps, Bool.or_eq_true, Bool.and_eq_true, decide_eq_true_eq, beq_iff_eq] at h1 h2 ⊢
    have := lt_tr x y z
    rcases h1 with h1 | ⟨h1, g1⟩ <;> rcases h2 with h2 | ⟨h2, g2⟩
    · exact .inl (by omega)
    · exact .inl (by omega)
    · exact .inl (by omega)
    · exact .inr ⟨by omega, this g1 g2⟩
theorem lt_or : ∀ x y : List Nat, ltCps x y = false → x ≠ y → ltCps y x = true
  | [], [], _, h => absurd rfl h
  | [], _ :: _, h, _ => by simp [ltCps] at h
  | _ :: _, [], _, _ => by simp [ltCps]
  | a :: x, b :: y, h, n => by
    have := lt_or x y
    simp only [ltCps, Bool.or_eq_true, Bool.and_eq_true, decide_eq_true_eq, beq_iff_eq, Bool.or_eq_false_iff, Bool.and_eq_false_imp, decide_eq_false_iff_not] at h ⊢
    rcases Nat.lt_trichotomy a b with c | c | c
    · exact absurd c h.1
    · subst c
      exact .inr ⟨rfl, this (h.2 rfl) fun e => n (by rw [e])⟩
    · exact .inl c
def Rises (xs : List Str) : Prop := xs.Pairwise fun a b => ltCps a.cps.toList b.cps.toList = true
instance (xs : List Str) : Decidable (Rises xs) := by unfold Rises; infer_instance
theorem rises_of : ∀ ys : List Str, ys.Nodup → sortedS ys = true → Rises ys := by
  have key : ∀ (ys : List Str) (p : Str), (p :: ys).Nodup → risingS p ys = true → Rises (p :: ys) := by
    intro ys
    induction ys with
    | nil => exact fun p _ _ => List.pairwise_cons.mpr ⟨fun _ h => (nomatch h), .nil⟩
    | cons y r ih =>
      intro p nd h
      have nd1 := List.nodup_cons.mp nd
      have h2 : ((!ltCps y.cps.toList p.cps.toList) && risingS y r) = true := h
      rw [Bool.and_eq_true, Bool.not_eq_true'] at h2
      have rr := ih y nd1.2 h2.2
      have py : ltCps p.cps.toList y.cps.toList = true := lt_or _ _ h2.1 fun e => nd1.1 (by
        have : y = p := by
          obtain ⟨a⟩ := y
          obtain ⟨b⟩ := p
          exact congrArg _ (Array.toList_inj.mp e)
        rw [this]; exact .head _)
      refine List.pairwise_cons.mpr ⟨fun z hz => ?_, rr⟩
      rcases List.mem_cons.mp hz with rfl | later
      · exact py
      · exact lt_tr _ _ _ py ((List.pairwise_cons.mp rr).1 z later)
  intro ys nd h
  cases ys with
  | nil => exact .nil
  | cons y r => exact key r y nd h
theorem rises_iff {xs ys : List Str} (nd : ys.Nodup) (m : ∀ k, k ∈ ys ↔ k ∈ xs) (so : sortedS ys = true) : decide (xs = ys) = decide (Rises xs) := by
  have r := rises_of ys nd so
  refine decide_eq_decide.mpr ⟨fun e => e ▸ r, fun h => rise_eq (r := fun a b : Str => ltCps a.cps.toList b.cps.toList = true) (fun x c => ?_) (fun x y z => lt_tr _ _ _) xs ys h r fun k => (m k).symm⟩
  have c2 := lt_ir x.cps.toList
  rw [c] at c2
  cases c2
end My
set_option Elab.async false
set_option linter.all false
set_option maxRecDepth 100000
set_option maxHeartbeats 1000000
/-! ### names, numbers and words as texts -/
namespace My
open PySem PySem.Spec L2
/-- the signs of names -/
def signs : Str := Str.ofString "abcdefghijklmnopqrstuvwxyz0123456789"
def isName (x : Str) : Bool := decide (1 ≤ x.length ∧ x.length ≤ 12) && x.cps.toList.all fun c => decide (c ∈ signs.cps.toList)
def digs : Str := Str.ofString "0123456789"
def numSigns (w : Str) (most : Nat) : Bool := decide (1 ≤ w.length ∧ w.length ≤ most) && w.cps.toList.all fun c => decide (c ∈ digs.cps.toList)
def nought (w : Str) : Bool := decide (1 < w.length) && decide (w.cps.toList[0]? = some 48)
def numOf (w : Str) : Int := (NumText.digitsVal w.cps.toList : Nat)
def rdNum (w : Str) (most : Nat) : Option Int := if numSigns w most && !nought w then some (numOf w) else none
def num (n : Int) : Str := Str.ofString (toString n)
theorem digs_iff (c : Nat) : c ∈ digs.cps.toList ↔ 48 ≤ c ∧ c ≤ 57 := by
  have e : digs.cps.toList = [48, 49, 50, 51, 52, 53, 54, 55, 56, 57] := by decide +kernel
  rw [e]
  simp only [List.mem_cons, List.not_mem_nil, or_false]
  omega
theorem allDigs {w : Str} (h : (w.cps.toList.all fun c => decide (c ∈ digs.cps.toList)) = true) : NumText.AllDigits w.cps.toList := by
  intro c hc
  have := of_decide_eq_true (List.all_eq_true.mp h c hc)
  exact (digs_iff c).mp this
theorem numSigns_int {w : Str} {most : Nat} (h : numSigns w most = true) (hm : most ≤ 4300) : intText? w = some (numOf w) := by
  unfold numSigns at h
  rw [Bool.and_eq_true, decide_eq_true_eq] at h
  have ne : w.cps.toList ≠ [] := fun e => by
    have : w.length = w.cps.toList.length := by rw [Array.length_toList]; rfl
    rw [e] at this
    have := h.1.1
    simp_all
  exact intText_digits (allDigs h.2) ne (by omega)
theorem numL_head : ∀ n : Nat, 1 ≤ n → (TL.numL n)[0]? ≠ some 48 := by
  intro n
  induction n using Nat.strongRecOn with
  | ind n ih =>
    intro h
    by_cases h10 : n < 10
    · rw [TL.numL_lt h10]
      simp
      omega
    · rw [TL.numL_step (by omega)]
      have hne := TL.numL_ne (n / 10)
      have hp : 0 < (TL.numL (n / 10)).length := List.length_pos_iff.mpr hne
      rw [List.getElem?_append_left hp]
      exact ih (n / 10) (by omega) (by omega)
theorem num_tl (n : Nat) : (num (n : Int)).cps.toList = TL.numL n := TL.tl_num n
theorem num_len (n : Nat) : (num (n : Int)).length = (TL.numL n).length := by
  rw [← num_tl, Array.length_toList]; rfl
theorem rdNum_num {n k : Nat} (hk : 0 < k) (h : n < 10 ^ k) : rdNum (num (n : Int)) k = some (n : Int) := by
  have l1 : 1 ≤ (TL.numL n).length := List.length_pos_iff.mpr (TL.numL_ne n)
  have l2 := TL.numL_len hk h
  have a : numSigns (num (n : Int)) k = true := by
    unfold numSigns
    rw [Bool.and_eq_true, decide_eq_true_eq, num_len]
    refine ⟨⟨l1, l2⟩, List.all_eq_true.mpr fun c hc => decide_eq_true ((digs_iff c).mpr ?_)⟩
    rw [num_tl] at hc
    exact TL.numL_digits n c hc
  have b : nought (num (n : Int)) = false := by
    unfold nought
    rw [num_len, num_tl]
    by_cases h1 : 1 < (TL.numL n).length
    · have : 1 ≤ n := by
        rcases Nat.lt_or_ge n 10 with h10 | h10
        · rw [TL.numL_lt h10] at h1; simp at h1
        · omega
      rw [decide_eq_false (numL_head n this), Bool.and_false]
    · rw [decide_eq_false h1, Bool.false_and]
  unfold rdNum
  rw [a, b, Bool.not_false, Bool.true_and, if_pos rfl]
  unfold numOf
  rw [num_tl, TL.numL_val]
theorem signs_no32 : (32 : Nat) ∉ signs.cps.toList := by decide +kernel
theorem name_no32 {x : Str} (h : isName x = true) : (32 : Nat) ∉ TL.tl x := fun hc => by
  unfold isName at h
  rw [Bool.and_eq_true] at h
  exact signs_no32 (of_decide_eq_true (List.all_eq_true.mp h.2 32 hc))
theorem num_no32 (n : Nat) : (32 : Nat) ∉ TL.tl (num (n : Int)) := by
  show (32 : Nat) ∉ (num (n : Int)).cps.toList
  rw [num_tl]
  exact TL.numL_free (Or.inl (by decide))
/-- a blank -/
def blank : Str := Str.ofString " "
theorem split_words {ws : List Str} (h : ws ≠ []) (hw : ∀ w ∈ ws, (32 : Nat) ∉ TL.tl w) : Txt.split (Txt.join blank ws) blank = ws :=
  TL.split_join (s := 32) (S := []) (by decide +kernel) (by decide +kernel) h hw
end My
set_option Elab.async false
set_option linter.all false
set_option maxRecDepth 100000
set_option maxHeartbeats 1000000
/-! ### letters: their words, what a row of words is the letter of -/
namespace My
open PySem PySem.Spec PyProof.Rows L2 Evl
/-- a lot: names that rise -/
def isLot (xs : List Str) : Bool := xs.all isName && decide (Rises xs)
def sOrder : Str := Str.ofString "order"
def sFrame : Str := Str.ofString "frame"
def sDo : Str := Str.ofString "do"
def sRun : Str := Str.ofString "run"
def sStop : Str := Str.ofString "stop"
inductive Lt where
  | ord (n : Int) (ws : List Str)
  | frm (t c : Int) (m : Str) (on : List Str)
def isOrd : List Str → Bool
  | [a] => decide (a = sStop)
  | [a, b] => (decide (a = sDo) || decide (a = sRun)) && isName b
  | _ => false
def ltD : Lt → PyData
  | .ord n ws => .tuple [.str sOrder, .int n, .tuple (ws.map .str)]
  | .frm t c m on => .tuple [.str sFrame, .int t, .int c, .str m, .tuple (on.map .str)]
def optD : Option Lt → PyData
  | none => .none
  | some l => ltD l
def rdOl : List Str → Option Lt
  | [] => none
  | w :: r => match rdNum w 18 with
    | none => none
    | some n => if isOrd r then some (.ord n r) else none
def rdFl : List Str → Option Lt
  | t :: c :: m :: on => match rdNum t 18, rdNum c 18 with
    | some t, some c => if isName m && isLot on then some (.frm t c m on) else none
    | _, _ => none
  | _ => none
def rdWs : List Str → Option Lt
  | [] => none
  | w :: r => if w = sOrder then rdOl r else if w = sFrame then rdFl r else none
def wds : Lt → List Str
  | .ord n ws => sOrder :: num n :: ws
  | .frm t c m on => sFrame :: num t :: num c :: m :: on
def LtOk : Lt → Prop
  | .ord n ws => (∃ k : Nat, n = k ∧ k < 10 ^ 18) ∧ isOrd ws = true
  | .frm t c m on => (∃ k : Nat, t = k ∧ k < 10 ^ 18) ∧ (∃ k : Nat, c = k ∧ k < 10 ^ 18) ∧ isName m = true ∧ isLot on = true
def fmt (l : Lt) : Str := Txt.join blank (wds l)
def rd (x : Str) : Option Lt := rdWs (Txt.split x blank)
theorem rd_wds {l : Lt} (h : LtOk l) : rdWs (wds l) = some l := by
  cases l with
  | ord n ws =>
    obtain ⟨⟨k, rfl, hk⟩, ho⟩ := h
    unfold wds rdWs rdOl
    dsimp only
    rw [if_pos rfl, rdNum_num (k := 18) (by decide) hk]
    dsimp only
    rw [ho, if_pos rfl]
  | frm t c m on =>
    obtain ⟨⟨k, rfl, hk⟩, ⟨j, rfl, hj⟩, hm, ho⟩ := h
    unfold wds rdWs rdFl
    dsimp only
    rw [if_neg (by decide +kernel : ¬ sFrame = sOrder), if_pos rfl, rdNum_num (k := 18) (by decide) hk, rdNum_num (k := 18) (by decide) hj]
    dsimp only
    rw [hm, ho]
    rfl
theorem isOrd_no32 : ∀ {ws : List Str}, isOrd ws = true → ∀ w ∈ ws, (32 : Nat) ∉ TL.tl w
  | [a], h, w, hw => by
    have e : a = sStop := of_decide_eq_true h
    rw [List.mem_singleton.mp hw, e]
    decide +kernel
  | [a, b], h, w, hw => by
    unfold isOrd at h
    rw [Bool.and_eq_true, Bool.or_eq_true, decide_eq_true_eq, decide_eq_true_eq] at h
    rcases List.mem_cons.mp hw with rfl | hw
    · rcases h.1 with e | e <;> rw [e] <;> decide +kernel
    · rw [List.mem_singleton.mp hw]
      exact name_no32 h.2
  | [], h, _, _ => by cases h
  | _ :: _ :: _ :: _, h, _, _ => by cases h
theorem wds_no32 {l : Lt} (h : LtOk l) : ∀ w ∈ wds l, (32 : Nat) ∉ TL.tl w := by
  cases l with
  | ord n ws =>
    obtain ⟨⟨k, rfl, hk⟩, ho⟩ := h
    intro w hw
    rcases List.mem_cons.mp hw with rfl | hw
    · decide +kernel
    rcases List.mem_cons.mp hw with rfl | hw
    · exact num_no32 k
    · exact isOrd_no32 ho w hw
  | frm t c m on =>
    obtain ⟨⟨k, rfl, hk⟩, ⟨j, rfl, hj⟩, hm, ho⟩ := h
    unfold isLot at ho
    rw [Bool.and_eq_true] at ho
    intro w hw
    rcases List.mem_cons.mp hw with rfl | hw
    · decide +kernel
    rcases List.mem_cons.mp hw with rfl | hw
    · exact num_no32 k
    rcases List.mem_cons.mp hw with rfl | hw
    · exact num_no32 j
    rcases List.mem_cons.mp hw with rfl | hw
    · exact name_no32 hm
    · exact name_no32 (List.all_eq_true.mp ho.1 w hw)
theorem rd_fmt {l : Lt} (h : LtOk l) : rd (fmt l) = some l := by
  unfold rd fmt
  rw [split_words (by cases l <;> exact List.cons_ne_nil _ _) (wds_no32 h)]
  exact rd_wds h
theorem fmt_inj {l m : Lt} (hl : LtOk l) (hm : LtOk m) (e : fmt l = fmt m) : l = m := by
  have a := rd_fmt hl
  rw [e, rd_fmt hm] at a
  exact (Option.some.inj a).symm
end My
set_option Elab.async false
set_option linter.all false
set_option maxRecDepth 100000
set_option maxHeartbeats 2000000
/-! ### a def whose caller is within no repr: what repr of data tells -/
namespace My
open PySem PySem.Spec PyProof.Rows L2 Evl
section
variable {P : Program} {w : World} {K : PySem.W.Frag} {mg : Str → Option Value} {base : Heap}
structure FnOkG (P : Program) (w : World) (K : PySem.W.Frag) (mg : Str → Option Value) (base : Heap) (k : Nat) (f : Addr) (fd : FuncData) (ps : List Str) (sp : Sp) : Prop where
  len : ∀ vs H Q E, sp vs H Q E → vs.length = ps.length
  run : ∀ (A : Around) (outer : List Env) (s : Shared) (H : Hp) (args : Args) (us : List Value) (vs : List V) (Q : VK) (E : XK), A.guards = some [] → Room k A → Env0 P w K mg base A outer s H → BindsTo s fd args (ps.zip us) → Vals vs us → sp vs H Q E →
    codeAny (model P w) A (Code.call (.ref f) args) (CR CX0 outer P w H s Q E) s
theorem okG {x qual : Str} {st : Stmt} {f : Addr} {fd : FuncData} {N ps : List Str} {k : Nat} {sp : Sp} (F : Fun K x qual st f fd) (S : FnScope N ps (defScope st)) (len : ∀ vs H Q E, sp vs H Q E → vs.length = ps.length)
    (hbody : ∀ (cdv : Value) (A : Around) (outer : List Env) (s : Shared) (H : Hp) (vs : List V) (Q : VK) (E : XK), A.guards = some [] → Room k (A.deeper (envOfC qual (defScope st) s.heap.objs.size f cdv)) → sp vs H Q E →
      ∃ t, PSs (cxOf CX0 P w K mg base N qual (defScope st) f cdv A outer s H E).nox (defBody st) t ∧ t { nx := fun _ H' => Q .non H', rt := Q } (start N vs) H) : FnOkG P w K mg base (k + 1) f fd ps sp := by
  refine ⟨len, fun A outer s H args us vs Q E hg hr e0 hb r hsp => ?_⟩
  obtain ⟨oc, od, kV, doc, pm, an, cdv, ct, osl, rfl, lk, hcd⟩ := F.ex
  have hl := len vs H Q E hsp
  have KX : K.In s.heap := e0.mod.kin.keeps fun b o e => (e0.bs b o e).1
  have lim : s.heap.NoLimit := e0.mod.nolimit.keeps fun b o e => (e0.bs b o e).1
  refine codeAny_call_function hr.depth (KX _ _ lk) rfl S.co S.gen rfl (PySem.W.codeRec_of KX hcd) (hb (model P w) A.in1 _ _ (wpAny_newFunctionEnv_cells S.kind (fun ⟨n, v⟩ hy => ?_) fun env he s1 x => ?_))
  · rcases S.par n (List.of_mem_zip hy).1 with q | q
    · exact Or.inl q
    · exact Or.inr ⟨q, PySem.W.cellsFrom_some _ _ [] (Or.inl q)⟩
  subst he
  refine ⟨lim.keeps x.toInCall.keep, codeAny_func ?_⟩
  obtain ⟨t, ht, hq⟩ := hbody cdv A outer s H vs Q E hg (hr.deeper _) hsp
  have I := inv_start (CX := CX0) (E := E) (qual := qual) (scope := defScope st) (f := f) (cd := cdv) S hr.hd e0 hl r x
  refine wpAny_mono (ht.nox.run [] s1 (start N vs) H _ I hq) (fun fl s' hs => ?_) fun e s' hs => hs
  have fin : ∀ {σ' : L2.St} {H' : Hp} {v : V} {u : Value}, L2.Inv (cxOf CX0 P w K mg base N qual (defScope st) f cdv A outer s H E) [] σ' H' s' → L2.RelV v u → Q v H' → CE outer P w H s Q u s' :=
    fun {σ' H' v u} J rv q => ⟨v, H', J.os, J.bare, J.base, J.hok, rv, q⟩
  cases fl with
  | ret u =>
    obtain ⟨v, σ', H', J, rv, q⟩ := hs
    exact fin J rv q
  | next =>
    obtain ⟨σ', H', J, q⟩ := hs
    exact fin (v := V.non) (u := Value.none) J rfl q
  | brk =>
    obtain ⟨_, _, _, q⟩ := hs
    exact False.elim q
  | cont =>
    obtain ⟨_, _, _, q⟩ := hs
    exact False.elim q
theorem law_callG {mb : Str → Option Value} {k : Nat} {fa a : Addr} {fd : FuncData} {x : Str} {sp : Sp} {s : Shared} {vs : List Value} {ns : List Int} (KX : K.In s.heap) (hns : s.heap.Ns mainGlobals mg) (hb : s.heap.Ns builtinsNs mb)
    (hbb : ∀ y : Str, y ≠ ("__name__" : Str) → mb y = bootBuiltins y) (hlim : s.heap.NoLimit) (hg : s.gens = #[]) (ha : s.heap.get? a = some { cls := .type "list", data := .seq vs.toArray }) (hi : IntsAre vs ns) (hl : ns.length ≤ sizeLine)
    (hr : Room k callerA) (F : ∀ base : Heap, K.In base → base.Ns mainGlobals mg → FnOkG P w K mg base k fa fd [x] sp) (hbind : ∀ (s : Shared) (u : Value), BindsTo s fd ⟨[u], []⟩ [(x, u)])
    (hsp : ∀ H : Hp, Only H → SqL K H a (ns.map V.int) → sp [.ref a] H (fun v _ => v = .bl true) fun _ _ _ => False) :
    codeAny (model P w) callerA (.call (.ref fa) ⟨[.ref a], []⟩) (fun r s' => r = .ok (.ret (.bool true)) ∧ OldK s.heap s'.heap ∧ s'.os = s.os ∧ AllBare s'.gens) s := by
  have rv := vals_ints hi
  have lenV := IntsAre.length hi
  have core : ∀ H : Hp, Only H → SqL K H a (ns.map V.int) → HOk P w H s.heap → (∀ b : Addr, H b ≠ none → b = a) → (H a ≠ none → K.lookup a = none) →
      codeAny (model P w) callerA (.call (.ref fa) ⟨[.ref a], []⟩) (fun r s' => r = .ok (.ret (.bool true)) ∧ OldK s.heap s'.heap ∧ s'.os = s.os ∧ AllBare s'.gens) s := by
    intro H hO hS hok hA hK
    have noA : ∀ {b : Addr} {o : Obj} {es ep}, s.heap.get? b = some o → o.data = .dict es ep → H b = none := by
      intro b o es ep e d
      cases q : H b with
      | none => rfl
      | some u =>
        have hba := hA b (by rw [q]; exact fun z => nomatch z)
        subst hba
        rw [ha] at e
        cases e
        cases d
    have nsK : ∀ {b : Addr} {m : Str → Option Value}, s.heap.Ns b m → (hidT s.heap H).Ns b m := by
      rintro b m ⟨o, es, ep, e, d, r⟩
      exact ⟨o, es, ep, hidT_get e (noA e d), d, r⟩
    have hKb : K.In (hidT s.heap H) := by
      intro b o e
      refine hidT_get (KX b o e) ?_
      cases q : H b with
      | none => rfl
      | some u =>
        have hba := hA b (by rw [q]; exact fun z => nomatch z)
        subst hba
        have := hK (by rw [q]; exact fun z => nomatch z)
        rw [this] at e
        cases e
    have hM : L2.Mod K mg (hidT s.heap H) := ⟨hKb, nsK hns, ⟨mb, nsK hb, hbb⟩, by obtain ⟨mc, h1, h2⟩ := hlim; exact ⟨mc, nsK h1, h2⟩⟩
    have e0 : Env0 P w K mg (hidT s.heap H) callerA [] s H := ⟨rfl, hM, fun b o e => of_hidT e, Nat.le_of_eq (hidT_size s.heap H), trivial, fun b hb => absurd hb List.not_mem_nil, hok, AllBare.of_eq hg⟩
    refine codeAny_mono ((F _ hKb (nsK hns)).run callerA [] s H ⟨[.ref a], []⟩ [.ref a] [.ref a] (fun v _ => v = .bl true) (fun _ _ _ => False) rfl hr e0 (hbind s (.ref a)) (.cons (show L2.RelV (V.ref a) (Value.ref a) from rfl) .nil) (hsp H hO hS)) fun r s' h => ?_
    cases r with
    | error e => exact False.elim h
    | ok fl =>
      cases fl with
      | ret u =>
        obtain ⟨v, H', os, bare, un, hok', r', q⟩ := h
        subst q
        obtain rfl : u = .bool true := r'
        refine ⟨rfl, OldK.of_keep fun b o e => ?_, os, bare⟩
        cases q : H b with
        | none => exact un.keep b o e q List.not_mem_nil List.not_mem_nil
        | some u =>
          rcases hO b with z | ⟨ob, xs, z⟩
          · rw [z] at q; cases q
          · have z2 := un.frzs b ob (.lst xs) z
            obtain ⟨e1, _⟩ := hok b _ z
            obtain ⟨e2, _⟩ := hok' b _ z2
            rw [e] at e1
            cases e1
            exact e2
      | _ => exact False.elim h
  cases hk : K.lookup a with
  | none =>
    refine core (fun b => if b = a then some (.frz { cls := .type "list", data := .seq vs.toArray } (.lst (ns.map V.int))) else none) (fun b => ?_) (Or.inl (Or.inr ⟨_, if_pos rfl⟩)) (fun b u z => ?_) (fun b z => ?_) fun _ => hk
    · by_cases hb : b = a
      · exact Or.inr ⟨_, _, if_pos hb⟩
      · exact Or.inl (if_neg hb)
    · by_cases hb : b = a
      · have z' := (if_pos hb).symm.trans z
        cases z'
        subst hb
        exact ⟨ha, by rw [List.length_map]; exact hl, vs, 0, rv, ha⟩
      · have z' := (if_neg hb).symm.trans z
        cases z'
    · by_cases hb : b = a
      · exact hb
      · exact absurd (if_neg hb) z
  | some o =>
    have e := KX a o hk
    rw [ha] at e
    cases e
    refine core (fun _ => none) (fun _ => Or.inl rfl) (Or.inr ⟨_, vs.toArray, 0, hk, rfl, rfl, rfl, by rw [List.size_toArray, lenV]; exact hl, rv⟩) (fun b u z => nomatch z) (fun b z => absurd rfl z) fun z => absurd rfl z
theorem walk_ofG {l : PySem.W.OpenLaw} {n k : Nat} {q : Program} {loose : List Str} {XP : (Str → Option Value) → Heap → Prop} {YP : World → Heap → Prop} {d : DefRec} {K : Params → PySem.W.Frag} {sp : World → Sp} {x : Str} (hn : l.most = some n) (hn2 : n ≤ sizeLine) (hdf : d.params.defaults = [])
    (hr : Room k callerA) (hY : ∀ w h, YP w h → (K w.params).In h)
    (F : ∀ (w : World) (mg : Str → Option Value) (fa : Addr) (h : Heap), (K w.params).In h → h.Ns mainGlobals mg → mg d.name = some (.ref fa) → ∃ fd : FuncData, (∀ (s : Shared) (u : Value), BindsTo s fd ⟨[u], []⟩ [(x, u)]) ∧
      ∀ base : Heap, (K w.params).In base → base.Ns mainGlobals mg → FnOkG l.prog w (K w.params) mg base k fa fd [x] (sp w))
    (hsp : ∀ (w : World) (H : Hp) (a : Addr) (ns : List Int), ns.length ≤ n → Only H → SqL (K w.params) H a (ns.map V.int) → sp w [.ref a] H (fun v _ => v = .bl true) fun _ _ _ => False) : PySem.W.WalkO q loose XP YP l.row.toRowW d [] fun f vs => call f vs :=
  Att.attach_call hn hdf fun w s₀ s₁ mg mb fa o pm cd doc a vs ns G Y ho hd hcd hmg hobj hints hlen hg => by
    have KX := hY w s₁.heap Y
    obtain ⟨fd, hb, hF⟩ := F w mg fa s₁.heap KX G.T.g hmg
    exact law_callG KX G.T.g G.T.b G.T.builtins G.T.nolimit hg hobj hints (Nat.le_trans hlen hn2) hr hF hb fun H hO hS => hsp w H a ns hlen hO hS
end
/-- repr of data -/
def rReprD (K : PySem.W.Frag) : List V → Hp → VK → Prop := fun vs H Q => ∃ x d, vs = [x] ∧ Dp K H x d ∧ (x = .non ∨ ∃ a, x = .ref a) ∧ d.showable = true ∧ d.hasDict = false ∧ d.depth ≤ 20 ∧ d.shown.length ≤ sizeLine ∧ Q (.str d.shown) H
theorem cr_reprD {X : Cx} (hg : X.A.guards = some []) (hu : X.A.units + 64 < cLine) : CallR X (.builtin "repr") (rReprD X.K) := by
  intro pins s σ H vs us Q I r h
  obtain ⟨x, d, rfl, hd, hx, sh, nd, dp, sz, q⟩ := h
  cases r with
  | cons rx rr =>
    cases rr
    rcases hx with rfl | ⟨a, rfl⟩
    · cases rx
      cases hd
      exact P.repr_of_none ⟨.str _, H, I.tok _, ⟨_, rfl⟩, q⟩
    · cases rx
      obtain ⟨as, hr⟩ := Dp.reads I d _ _ hd rfl
      exact repr_of_reads' hr sh (fun z => by rw [nd] at z; cases z) hg (by omega) (fun _ _ z => z) (fun h' u tk k => ⟨.str _, H, I.kept k, ⟨_, rfl⟩, q⟩) sz
end My
set_option Elab.async false
set_option linter.all false
set_option maxRecDepth 100000
set_option maxHeartbeats 1000000
/-! ### a, *b = a list: the star stands last -/
namespace My
open PySem PySem.Spec PyProof.Rows L2 Evl
theorem paired_drop {α β : Type} {R : α → β → Prop} : ∀ (i : Nat) {xs : List α} {ys : List β}, Paired R xs ys → Paired R (xs.drop i) (ys.drop i)
  | 0, _, _, h => h
  | _ + 1, _, _, .nil => .nil
  | i + 1, _, _, .cons _ h => paired_drop i h
theorem paired_take {α β : Type} {R : α → β → Prop} : ∀ (i : Nat) {xs : List α} {ys : List β}, Paired R xs ys → Paired R (xs.take i) (ys.take i)
  | 0, _, _, _ => .nil
  | _ + 1, _, _, .nil => .nil
  | i + 1, _, _, .cons a h => .cons a (paired_take i h)
theorem paired_app {α β : Type} {R : α → β → Prop} : ∀ {xs : List α} {ys : List β} {xs2 : List α} {ys2 : List β}, Paired R xs ys → Paired R xs2 ys2 → Paired R (xs ++ xs2) (ys ++ ys2)
  | _, _, _, _, .nil, h => h
  | _, _, _, _, .cons a r, h => .cons a (paired_app r h)
theorem un_starL {prog : Program} {w : World} {A : Around} {E : Value → Shared → Prop} {s : Shared} {l : Addr} {items : Array Value} {i : Nat} {Q : List Value → Shared → Prop} (hh : A.handled = none) (hl : s.heap.IsList l items)
    (hi : i ≤ items.size) (hz : items.size ≤ sizeLine) (hQ : ∀ (h' : Heap) (tk : Nat), (∀ b o, s.heap.get? b = some o → h'.get? b = some o) →
      Q (items.toList.take i ++ [.ref h'.objs.size]) { s with heap := h'.push { cls := .type "list", data := .seq (items.toList.drop i).toArray }, toks := tk }) :
    wpAny (model prog w) A (unpackItems (.ref l) (i + 1) (some i)) Q E s := by
  have hlt : l < s.heap.objs.size := by obtain ⟨o, ho, _⟩ := hl; exact Heap.lt_size ho
  have hne : l ≠ s.heap.objs.size := Nat.ne_of_lt hlt
  unfold unpackItems notIterableAtAll
  refine wpAny_bind (wpAny_bind (wpAny_specialOf (Heap.IsList.typeIs hl) slot_list_iter.lookup (wpAny_pure ?_)))
  simp only [Bool.false_eq_true, if_false]
  refine wpAny_bind (wpAny_holding (wpAny_pyIter_list hl ?_))
  refine wpAny_bind (wpAny_holding (W.kun_draw (items := items) hne i 0 _ _ ⟨_, Heap.get?_push_size _ rfl, rfl, rfl⟩ (Heap.IsList.push hl _) (by omega) fun h' hit sb => ?_))
  have hlen : (List.take i (List.drop 0 items.toList)).length = i := by rw [List.drop_zero, List.length_take, Array.length_toList]; omega
  rw [if_neg (by rw [hlen]; omega)]
  have hit2 : h'.IsListIter s.heap.objs.size l i := by rw [Nat.zero_add] at hit; exact hit
  have hl2 : h'.IsList l items := Heap.IsList.extBut (Heap.IsList.push hl _) (Heap.SameBut.extBut sb) hne
  have sz1 : s.heap.objs.size < h'.objs.size := by obtain ⟨o, ho, _⟩ := hit2; exact Heap.lt_size ho
  refine wpAny_bind (wpAny_holding (W.kun_collect (ax := l) (Or.inr (Or.inr (Or.inl rfl))) (Walks.list (by simp [hh]) _ l hne items) (fun j u hu => by obtain ⟨⟨o, ho, hc, _⟩, _⟩ := hu; exact ⟨o, ho, hc⟩) hi ⟨hit2, hl2⟩ sz1 (Nat.lt_trans hlt sz1) (fun h2 tk k2 => ?_) hz))
  have e0 : i + 1 - 1 - i = 0 := by omega
  dsimp only
  rw [e0, if_neg (by omega), Nat.sub_zero, List.take_of_length_le (Nat.le_refl _), List.drop_of_length_le (Nat.le_refl _)]
  refine wpAny_bind (wpAny_newList (wpAny_pure ?_) (by rw [List.length_drop, Array.length_toList]; omega))
  rw [List.drop_zero, List.append_nil]
  refine hQ h2 tk fun b o e => ?_
  have lt := Heap.lt_size e
  have e1 : (s.heap.push ({ cls := .type "list_iterator", data := .fields #[.ref l, .int 0 0] } : Obj)).get? b = some o := Heap.get?_push_of_some _ e
  have hb : b ≠ s.heap.objs.size := Nat.ne_of_lt lt
  exact k2 b o hb ((sb.2 b hb).trans e1)
abbrev unstar (es : List Expr) : List Expr := es.map fun e => match e with | .Starred v _ => v | e => e
def gStar (K : PySem.W.Frag) (i : Nat) (t : TGs) : TG := fun v σ H Q => ∃ a xs, v = .ref a ∧ SqL K H a xs ∧ i ≤ xs.length ∧ ∀ p, H p = none → t (xs.take i ++ [.ref p]) σ (upd H p (.lst (xs.drop i))) Q
theorem pg_star {X : Cx} {pos : Pos} {es : List Expr} {k i : Nat} {t : TGs} (hc : X.calm = true) (h : PGs X (unstar es) t) (he : (assignEach es X.env).map (·.2) = (assignEach (unstar es) X.env).map (·.2) := by rfl)
    (hn : (assignEach es X.env).length = i + 1 := by rfl) (hst : List.findIdx? (fun x => x.1) (assignEach es X.env) = some i := by rfl) : PG X (.Tuple es k pos) (gStar X.K i t) where
  run := fun pins s σ H v u Q I r hw => by
    obtain ⟨a, xs, rfl, hq, hi, hw⟩ := hw
    cases r
    obtain ⟨its, rv, pl, hz⟩ := I.list hq
    have el : xs.length = its.length := rv.length
    rw [assign_Tuple]
    refine wpAny_bind (wpAny_standAt ?_)
    unfold unpack
    rw [hn, hst, he]
    refine wpAny_bind (wpAny_holding (un_starL (I.ok.hd hc) pl.isList (by rw [List.size_toArray, ← el]; exact hi) (by rw [List.size_toArray, ← el]; exact hz) fun h' tk k => ?_))
    have I1 := I.kept (t' := tk) k
    have hn1 : H h'.objs.size = none := I1.hok.fresh (Nat.le_refl _)
    have rv2 : Vals (xs.drop i) (its.drop i) := (paired_drop i rv)
    have rv1 : Vals (xs.take i) (its.take i) := (paired_take i rv)
    have rv3 : Vals (xs.take i ++ [V.ref h'.objs.size]) (its.take i ++ [Value.ref h'.objs.size]) := paired_app rv1 (.cons (show L2.RelV (V.ref h'.objs.size) (Value.ref h'.objs.size) from rfl) .nil)
    exact h.run pins _ σ _ _ _ Q (I1.laid (t' := tk) (a := h'.objs.size) (o := .lst (xs.drop i)) (fun b u e => Heap.get?_push_of_some _ e) (Nat.le_refl _) ⟨by rw [List.length_drop]; omega, its.drop i, 0, rv2, Heap.get?_push_size _ rfl⟩) rv3 (hw _ hn1)
end My
set_option Elab.async false
set_option linter.all false
set_option maxRecDepth 100000
set_option maxHeartbeats 1000000
/-! ### the parts of a text between blanks -/
namespace My
open PySem PySem.Spec PyProof.Rows L2 Evl
theorem spl_mem : ∀ (L acc : List Nat), (∀ p ∈ TL.spl [32] 0 acc L, (∀ c ∈ p, c ∈ acc ∨ c ∈ L) ∧ p.length ≤ acc.length + L.length) ∧ (TL.spl [32] 0 acc L) ≠ [] ∧ (TL.spl [32] 0 acc L).length ≤ L.length + 1 := by
  intro L
  induction L with
  | nil =>
    intro acc
    rw [TL.spl_nil]
    refine ⟨fun p hp => ?_, List.cons_ne_nil _ _, by simp⟩
    rw [List.mem_singleton.mp hp]
    exact ⟨fun c hc => Or.inl hc, by simp⟩
  | cons c r ih =>
    intro acc
    cases hpre : TL.pre [32] (c :: r) with
    | true =>
      rw [TL.spl_hit hpre, show [32].length - 1 = 0 from rfl]
      obtain ⟨h1, h2, h3⟩ := ih []
      refine ⟨fun p hp => ?_, List.cons_ne_nil _ _, by simp only [List.length_cons]; omega⟩
      rcases List.mem_cons.mp hp with rfl | hp
      · exact ⟨fun c hc => Or.inl hc, by omega⟩
      · obtain ⟨a, b⟩ := h1 p hp
        refine ⟨fun d hd => ?_, by simp only [List.length_cons, List.length_nil] at b ⊢; omega⟩
        rcases a d hd with z | z
        · cases z
        · exact Or.inr (.tail _ z)
    | false =>
      rw [TL.spl_miss hpre]
      obtain ⟨h1, h2, h3⟩ := ih (acc ++ [c])
      refine ⟨fun p hp => ?_, h2, by simp only [List.length_cons]; omega⟩
      obtain ⟨a, b⟩ := h1 p hp
      refine ⟨fun d hd => ?_, by simp only [List.length_cons, List.length_append, List.length_nil] at b ⊢; omega⟩
      rcases a d hd with z | z
      · rcases List.mem_append.mp z with z | z
        · exact Or.inl z
        · rw [List.mem_singleton.mp z]; exact Or.inr (.head _)
      · exact Or.inr (.tail _ z)
/-- a text that can be laid, of at most n signs -/
def Gt (n : Nat) (x : Str) : Prop := PyData.strOk x = true ∧ x.length ≤ n
theorem Gt.mono {m n : Nat} {x : Str} (h : Gt m x) (l : m ≤ n) : Gt n x := ⟨h.1, Nat.le_trans h.2 l⟩
theorem strOk_iff (x : Str) : PyData.strOk x = true ↔ ∀ c ∈ TL.tl x, c < 1114112 := by
  unfold PyData.strOk TL.tl
  rw [Array.all_eq_true_iff_forall_mem]
  simp only [decide_eq_true_eq, Array.mem_toList_iff]
theorem split_ok {x : Str} {n : Nat} (h : Gt n x) : Txt.split x blank ≠ [] ∧ (Txt.split x blank).length ≤ n + 1 ∧ ∀ p ∈ Txt.split x blank, Gt n p := by
  have e := TL.split_spl x blank (by decide +kernel) (TL.kind_ok (by decide +kernel))
  rw [show TL.tl blank = [32] by decide +kernel] at e
  obtain ⟨h1, h2, h3⟩ := spl_mem (TL.tl x) []
  rw [← e] at h1 h2 h3
  have hl := TL.len_tl x
  refine ⟨fun z => h2 (by rw [z]; rfl), by rw [List.length_map] at h3; have := h.2; omega, fun p hp => ?_⟩
  obtain ⟨a, b⟩ := h1 _ (List.mem_map_of_mem hp)
  refine ⟨(strOk_iff p).mpr fun c hc => ?_, by rw [TL.len_tl p]; have := h.2; simp only [List.length_nil] at b; omega⟩
  rcases a c hc with z | z
  · cases z
  · exact (strOk_iff x).mp h.1 c z
end My
set_option linter.all false
/-! ### coded words: the mathematics -/
namespace My
/-- what comes by adding without carrying -/
def sx (l : List Nat) : Nat := l.foldl (· ^^^ ·) 0
theorem sx_from : ∀ (l : List Nat) (a : Nat), l.foldl (· ^^^ ·) a = a ^^^ sx l
  | [], a => by show a = a ^^^ 0; rw [Nat.xor_zero]
  | b :: r, a => by
    show r.foldl (· ^^^ ·) (a ^^^ b) = a ^^^ r.foldl (· ^^^ ·) (0 ^^^ b)
    rw [sx_from r, sx_from r, Nat.zero_xor, Nat.xor_assoc]
theorem sx_cons (a : Nat) (l : List Nat) : sx (a :: l) = a ^^^ sx l := by
  show l.foldl (· ^^^ ·) (0 ^^^ a) = _
  rw [Nat.zero_xor, sx_from]
theorem sx_append (l r : List Nat) : sx (l ++ r) = sx l ^^^ sx r := by
  unfold sx
  rw [List.foldl_append, sx_from r]
  rfl
theorem sx_one (a : Nat) : sx [a] = a := by rw [sx_cons]; exact Nat.xor_zero a
/-- places flipped, one after another -/
def flip (r : Nat) (ps : List Nat) : Nat := ps.foldl (fun r p => r ^^^ 2 ^ p) r
theorem flip_append (r : Nat) (a b : List Nat) : flip r (a ++ b) = flip (flip r a) b := by unfold flip; rw [List.foldl_append]
theorem tb_flip1 (r p q : Nat) : (r ^^^ 2 ^ p).testBit q = (r.testBit q ^^ decide (p = q)) := by rw [Nat.testBit_xor, Nat.testBit_two_pow]
/-- bits up to m -/
def bs (m n : Nat) : List Nat := (List.range m).filter fun p => n.testBit p
theorem bs_succ (m n : Nat) : bs (m + 1) n = bs m n ++ (if n.testBit m then [m] else []) := by
  unfold bs
  rw [List.range_succ, List.filter_append]
  by_cases h : n.testBit m = true
  · rw [if_pos h, List.filter_cons, if_pos h]; rfl
  · rw [if_neg h, List.filter_cons, if_neg h]; rfl
theorem bs_congr {m a b : Nat} (h : ∀ q, q < m → a.testBit q = b.testBit q) : bs m a = bs m b := by
  unfold bs
  exact List.filter_congr fun q hq => h q (List.mem_range.mp hq)
def spotN (m n : Nat) : Nat := sx (bs m n)
def parB (m n : Nat) : Bool := decide ((bs m n).length % 2 = 1)
theorem spot_succ (m n : Nat) : spotN (m + 1) n = spotN m n ^^^ (if n.testBit m then m else 0) := by
  unfold spotN
  rw [bs_succ, sx_append]
  split
  · rw [sx_one]
  · rfl
theorem par_succ (m n : Nat) : parB (m + 1) n = (parB m n ^^ n.testBit m) := by
  unfold parB
  rw [bs_succ, List.length_append]
  cases h : n.testBit m with
  | true =>
    rw [if_pos rfl]
    show decide (((bs m n).length + 1) % 2 = 1) = _
    by_cases e : (bs m n).length % 2 = 1
    · rw [decide_eq_true e, decide_eq_false (by omega)]; rfl
    · rw [decide_eq_false e, decide_eq_true (by omega)]; rfl
  | false =>
    rw [if_neg (by decide)]
    show decide (((bs m n).length + 0) % 2 = 1) = _
    rw [Nat.add_zero, Bool.xor_false]
theorem flip_low {m n p : Nat} (h : m ≤ p) : bs m (n ^^^ 2 ^ p) = bs m n := bs_congr fun q hq => by
  rw [tb_flip1, decide_eq_false (by omega), Bool.xor_false]
theorem spot_flip1 {m n p : Nat} (hp : p < m) : spotN m (n ^^^ 2 ^ p) = spotN m n ^^^ p := by
  induction m with
  | zero => omega
  | succ m ih =>
    rw [spot_succ, spot_succ, tb_flip1]
    by_cases e : p = m
    · subst e
      have h : spotN p (n ^^^ 2 ^ p) = spotN p n := by unfold spotN; rw [flip_low (Nat.le_refl _)]
      rw [h, decide_eq_true rfl]
      cases n.testBit p with
      | true =>
        show spotN p n ^^^ 0 = (spotN p n ^^^ p) ^^^ p
        rw [Nat.xor_assoc, Nat.xor_self]
      | false =>
        show spotN p n ^^^ p = (spotN p n ^^^ 0) ^^^ p
        rw [Nat.xor_zero]
    · rw [ih (by omega), decide_eq_false e, Bool.xor_false, Nat.xor_assoc, Nat.xor_assoc, Nat.xor_comm p]
theorem par_flip1 {m n p : Nat} (hp : p < m) : parB m (n ^^^ 2 ^ p) = !parB m n := by
  induction m with
  | zero => omega
  | succ m ih =>
    rw [par_succ, par_succ, tb_flip1]
    by_cases e : p = m
    · subst e
      have h : parB p (n ^^^ 2 ^ p) = parB p n := by unfold parB; rw [flip_low (Nat.le_refl _)]
      rw [h, decide_eq_true rfl]
      cases parB p n <;> cases n.testBit p <;> rfl
    · rw [ih (by omega), decide_eq_false e, Bool.xor_false]
      cases parB m n <;> cases n.testBit m <;> rfl
theorem spot_flip {m : Nat} : ∀ {ps : List Nat} {n : Nat}, (∀ p ∈ ps, p < m) → spotN m (flip n ps) = spotN m n ^^^ sx ps
  | [], n, _ => by show spotN m n = spotN m n ^^^ 0; rw [Nat.xor_zero]
  | p :: r, n, h => by
    show spotN m (flip (n ^^^ 2 ^ p) r) = _
    rw [spot_flip (fun q hq => h q (List.mem_cons_of_mem _ hq)), spot_flip1 (h p List.mem_cons_self), sx_cons, Nat.xor_assoc]
theorem par_flip {m : Nat} : ∀ {ps : List Nat} {n : Nat}, (∀ p ∈ ps, p < m) → parB m (flip n ps) = (parB m n ^^ decide (ps.length % 2 = 1))
  | [], n, _ => by show parB m n = _; simp
  | p :: r, n, h => by
    show parB m (flip (n ^^^ 2 ^ p) r) = _
    rw [par_flip (fun q hq => h q (List.mem_cons_of_mem _ hq)), par_flip1 (h p List.mem_cons_self), List.length_cons]
    by_cases e : r.length % 2 = 1
    · rw [decide_eq_true e, decide_eq_false (by omega)]; cases parB m n <;> rfl
    · rw [decide_eq_false e, decide_eq_true (by omega)]; cases parB m n <;> rfl
theorem bs_zero (m : Nat) : bs m 0 = [] := by
  unfold bs
  rw [List.filter_eq_nil_iff]
  intro q _
  simp
theorem spot_zero (m : Nat) : spotN m 0 = 0 := by unfold spotN; rw [bs_zero]; rfl
theorem par_zero (m : Nat) : parB m 0 = false := by unfold parB; rw [bs_zero]; rfl
/-! sums of powers -/
def rowOf (ps : List Nat) : Nat := (ps.map (2 ^ ·)).sum
theorem xor_mod2 (r s : Nat) : (r ^^^ s) % 2 = (r + s) % 2 := by
  have h : (r ^^^ s).testBit 0 = (r.testBit 0 ^^ s.testBit 0) := Nat.testBit_xor ..
  rw [Nat.testBit_zero, Nat.testBit_zero, Nat.testBit_zero] at h
  by_cases a : r % 2 = 1 <;> by_cases b : s % 2 = 1 <;> by_cases c : (r ^^^ s) % 2 = 1 <;> simp [a, b, c] at h <;> omega
theorem xor_add : ∀ (p r : Nat), r.testBit p = false → r ^^^ 2 ^ p = r + 2 ^ p
  | 0, r, h => by
    have h1 : r % 2 = 0 := by
      rw [Nat.testBit_zero] at h
      have := of_decide_eq_false h
      omega
    have a := Nat.xor_div_two (a := r) (b := 1)
    have b := xor_mod2 r 1
    have c : r / 2 ^^^ 1 / 2 = r / 2 := by
      show r / 2 ^^^ 0 = r / 2
      rw [Nat.xor_zero]
    rw [c] at a
    show r ^^^ 1 = r + 1
    omega
  | p + 1, r, h => by
    rw [Nat.testBit_succ] at h
    have ih := xor_add p (r / 2) h
    have a := Nat.xor_div_two (a := r) (b := 2 ^ (p + 1))
    have b := xor_mod2 r (2 ^ (p + 1))
    have e : 2 ^ (p + 1) / 2 = 2 ^ p := by rw [Nat.pow_succ]; omega
    have e2 : 2 ^ (p + 1) = 2 * 2 ^ p := by rw [Nat.pow_succ]; omega
    rw [e, ih] at a
    omega
theorem flip_sum : ∀ {ps : List Nat} {r : Nat}, ps.Nodup → (∀ p ∈ ps, r.testBit p = false) → flip r ps = r + rowOf ps
  | [], r, _, _ => rfl
  | p :: ps, r, nd, h => by
    have hn := List.nodup_cons.mp nd
    show flip (r ^^^ 2 ^ p) ps = r + (2 ^ p + rowOf ps)
    rw [flip_sum hn.2, xor_add p r (h p List.mem_cons_self), Nat.add_assoc]
    intro q hq
    rw [tb_flip1, h q (List.mem_cons_of_mem _ hq), decide_eq_false (by rintro rfl; exact hn.1 hq)]
    rfl
theorem flip_row {ps : List Nat} (nd : ps.Nodup) : flip 0 ps = rowOf ps := by
  rw [flip_sum nd (fun p _ => by simp), Nat.zero_add]
theorem tb_flip_nd : ∀ {ps : List Nat} {r q : Nat}, ps.Nodup → (flip r ps).testBit q = (r.testBit q ^^ decide (q ∈ ps))
  | [], r, q, _ => by show r.testBit q = _; simp
  | p :: ps, r, q, nd => by
    have hn := List.nodup_cons.mp nd
    show (flip (r ^^^ 2 ^ p) ps).testBit q = _
    rw [tb_flip_nd hn.2, tb_flip1]
    by_cases e : p = q
    · subst e
      rw [decide_eq_true rfl, decide_eq_false hn.1, decide_eq_true List.mem_cons_self]
      cases r.testBit p <;> rfl
    · rw [decide_eq_false e]
      have : (q ∈ p :: ps) ↔ q ∈ ps := by
        rw [List.mem_cons]
        exact ⟨fun h => h.elim (fun z => absurd z.symm e) id, Or.inr⟩
      rw [Bool.xor_false, decide_eq_decide.mpr this]
theorem bs_mem {m n q : Nat} : q ∈ bs m n ↔ q < m ∧ n.testBit q = true := by
  unfold bs
  rw [List.mem_filter, List.mem_range]
theorem bs_nodup (m n : Nat) : (bs m n).Nodup := List.Nodup.sublist List.filter_sublist List.nodup_range
theorem tb_row {ps : List Nat} {q : Nat} (nd : ps.Nodup) : (rowOf ps).testBit q = decide (q ∈ ps) := by
  rw [← flip_row nd, tb_flip_nd nd]
  simp
theorem row_bs {m n : Nat} (h : n < 2 ^ m) : rowOf (bs m n) = n := by
  refine Nat.eq_of_testBit_eq fun q => ?_
  rw [tb_row (bs_nodup m n)]
  by_cases hq : q < m
  · cases e : n.testBit q with
    | true => exact decide_eq_true (bs_mem.mpr ⟨hq, e⟩)
    | false => exact decide_eq_false fun z => by rw [(bs_mem.mp z).2] at e; cases e
  · rw [Nat.testBit_lt_two_pow (Nat.lt_of_lt_of_le h (Nat.pow_le_pow_right (by decide) (by omega)))]
    exact decide_eq_false fun z => hq (bs_mem.mp z).1
theorem row_lt {m : Nat} {ps : List Nat} (nd : ps.Nodup) (h : ∀ p ∈ ps, p < m) : rowOf ps < 2 ^ m := by
  refine Nat.lt_pow_two_of_testBit _ fun q hq => ?_
  rw [tb_row nd]
  exact decide_eq_false fun z => by have := h q z; omega
theorem bs_more {m k n : Nat} (h : n < 2 ^ m) (hk : m ≤ k) : bs k n = bs m n := by
  induction k with
  | zero => have : m = 0 := by omega
            subst this; rfl
  | succ k ih =>
    by_cases e : m = k + 1
    · rw [e]
    · rw [bs_succ, ih (by omega), Nat.testBit_lt_two_pow (Nat.lt_of_lt_of_le h (Nat.pow_le_pow_right (by decide) (by omega)))]
      simp
theorem bs_any {m k n : Nat} (h : n < 2 ^ m) (hk : n < 2 ^ k) : bs k n = bs m n := by
  by_cases e : m ≤ k
  · exact bs_more h e
  · exact (bs_more hk (by omega)).symm
/-- the digits of the sum of powers -/
theorem bs_filter {m : Nat} (f : Nat → Bool) : bs m (rowOf ((List.range m).filter f)) = (List.range m).filter f := by
  unfold bs
  refine List.filter_congr fun q hq => ?_
  rw [tb_row (List.Nodup.sublist List.filter_sublist List.nodup_range)]
  cases e : f q with
  | true => exact decide_eq_true (List.mem_filter.mpr ⟨hq, e⟩)
  | false => exact decide_eq_false fun z => by rw [(List.mem_filter.mp z).2] at e; cases e
theorem xor0 {a b : Nat} (h : a ^^^ b = 0) : a = b := by
  have e : a = (a ^^^ b) ^^^ b := by rw [Nat.xor_assoc, Nat.xor_self, Nat.xor_zero]
  rw [h, Nat.zero_xor] at e
  exact e
end My
set_option Elab.async false
set_option linter.all false
set_option maxRecDepth 100000
set_option maxHeartbeats 400000
/-! ### coded words: places, data places, the word of a value -/
namespace My
open PySem PySem.Spec PyProof.Rows L2 Evl
def rOf (b : Nat) : Nat := if b ≤ 4 then 3 else if b ≤ 11 then 4 else if b ≤ 26 then 5 else 6
def pl (b : Nat) : Nat := b + rOf b + 1
theorem rOf_le (b : Nat) : rOf b ≤ 6 := by unfold rOf; split <;> (try split) <;> (try split) <;> omega
theorem pow_lt {b t : Nat} (h4 : 4 ≤ b) (h32 : b ≤ 32) (ht : t ≤ 6) : ((1 : Int) * 2 ^ ((t : Int)).toNat < (b : Int) + (t : Int) + 1) ↔ t < rOf b := by
  have e : ((t : Int)).toNat = t := Int.toNat_natCast t
  rw [e]
  have h : t = 0 ∨ t = 1 ∨ t = 2 ∨ t = 3 ∨ t = 4 ∨ t = 5 ∨ t = 6 := by omega
  unfold rOf
  rcases h with rfl | rfl | rfl | rfl | rfl | rfl | rfl <;> (split <;> (try split) <;> (try split) <;> simp <;> omega)
def isPw (i : Nat) : Bool := i == 0 || i == 1 || i == 2 || i == 4 || i == 8 || i == 16 || i == 32
def ckN (b : Nat) : List Nat := (List.range (pl b)).filter isPw
def dtN (b : Nat) : List Nat := (List.range (pl b)).filter (fun i => !isPw i)
def iL (l : List Nat) : List Int := l.map fun (n : Nat) => (n : Int)
theorem pl_le {b : Nat} (h32 : b ≤ 32) : pl b ≤ 39 := by
  have := rOf_le b
  unfold pl
  omega
theorem pw_and : ∀ i, i < 40 → (decide (V.int (Builtin.bitAnd ((i : Nat) : Int) ((i : Int) - 1)) = V.int 0)) = isPw i := by decide +kernel
def lcN (b : Nat) : List Nat := 0 :: (List.range (rOf b)).map (2 ^ ·)
theorem lc_ck : ∀ b, b < 33 → 4 ≤ b → lcN b = ckN b := by decide +kernel
theorem ck_mem : ∀ b, b < 33 → 4 ≤ b → ∀ i, i < pl b → (decide ((i : Int) ∈ iL (ckN b))) = isPw i := by decide +kernel
theorem ck_len : ∀ b, b < 33 → 4 ≤ b → b + (ckN b).length = pl b := by decide +kernel
theorem dt_by (b : Nat) (h4 : 4 ≤ b) (h32 : b ≤ 32) : given (pl b) (fun i => !decide ((i : Int) ∈ iL (ckN b))) (fun i => V.int (i : Int)) = (iL (dtN b)).map V.int := by
  rw [given_eq (f' := fun i => !isPw i) (g' := fun i => V.int (i : Int)) (fun i hi => by rw [ck_mem b (by omega) h4 i hi]) (fun _ _ _ => rfl), given_ints]
  rfl

/-! ### data places by their numbers -/
def dt (b i : Nat) : Nat := (dtN b).getD i 0
theorem dt_len : ∀ b, b < 33 → 4 ≤ b → (dtN b).length = b := by decide +kernel
theorem dt_nodup (b : Nat) : (dtN b).Nodup := List.Nodup.sublist List.filter_sublist List.nodup_range
theorem ck_nodup (b : Nat) : (ckN b).Nodup := List.Nodup.sublist List.filter_sublist List.nodup_range
theorem dt_at {b i : Nat} (h4 : 4 ≤ b) (h32 : b ≤ 32) (h : i < b) : (dtN b)[i]? = some (dt b i) := by
  have hl := dt_len b (by omega) h4
  unfold dt
  rw [List.getD_eq_getElem?_getD, List.getElem?_eq_getElem (by omega)]
  rfl
theorem dt_mem {b i : Nat} (h4 : 4 ≤ b) (h32 : b ≤ 32) (h : i < b) : dt b i < pl b ∧ isPw (dt b i) = false := by
  have hm := List.mem_of_getElem? (dt_at h4 h32 h)
  unfold dtN at hm
  have hm := List.mem_filter.mp hm
  exact ⟨List.mem_range.mp hm.1, by have := hm.2; simpa using this⟩
theorem dt_inj {b i j : Nat} (h4 : 4 ≤ b) (h32 : b ≤ 32) (hi : i < b) (hj : j < b) (e : dt b i = dt b j) : i = j :=
  nd_ix (dt_nodup b) (dt_at h4 h32 hi) (by rw [e]; exact dt_at h4 h32 hj)
def onesN (b v : Nat) : List Nat := (bs b v).map (dt b)
theorem map_nodup {α β : Type} {f : α → β} : ∀ {l : List α}, l.Nodup → (∀ a ∈ l, ∀ c ∈ l, f a = f c → a = c) → (l.map f).Nodup
  | [], _, _ => List.nodup_nil
  | a :: r, nd, h => by
    have hn := List.nodup_cons.mp nd
    refine List.nodup_cons.mpr ⟨fun z => ?_, map_nodup hn.2 fun x hx y hy => h x (List.mem_cons_of_mem _ hx) y (List.mem_cons_of_mem _ hy)⟩
    obtain ⟨c, hc, e⟩ := List.mem_map.mp z
    have := h c (List.mem_cons_of_mem _ hc) a List.mem_cons_self e
    subst this
    exact hn.1 hc
theorem ones_nodup {b k v : Nat} (h4 : 4 ≤ b) (h32 : b ≤ 32) (hk : k ≤ b) : ((bs k v).map (dt b)).Nodup :=
  map_nodup (bs_nodup k v) fun x hx y hy e => dt_inj h4 h32 (by have := (bs_mem.mp hx).1; omega) (by have := (bs_mem.mp hy).1; omega) e
theorem ones_lt {b k v : Nat} (h4 : 4 ≤ b) (h32 : b ≤ 32) (hk : k ≤ b) : ∀ p ∈ (bs k v).map (dt b), p < pl b ∧ isPw p = false := fun p hp => by
  obtain ⟨i, hi, rfl⟩ := List.mem_map.mp hp
  exact dt_mem h4 h32 (by have := (bs_mem.mp hi).1; omega)
def cod0 (b v : Nat) : Nat := flip 0 (onesN b v)
def cksN (b s : Nat) : List Nat := (ckN b).filter fun p => (s &&& p) != 0
def cod1 (b v : Nat) : Nat := flip (cod0 b v) (cksN b (spotN (pl b) (cod0 b v)))
def cod (b v : Nat) : Nat := flip (cod1 b v) (if parB (pl b) (cod1 b v) then [0] else [])
theorem cks_lt (b s : Nat) : ∀ p ∈ cksN b s, p < pl b ∧ isPw p = true := fun p hp => by
  unfold cksN ckN at hp
  have h := List.mem_filter.mp (List.mem_filter.mp hp).1
  exact ⟨List.mem_range.mp h.1, h.2⟩
theorem cks_nodup (b s : Nat) : (cksN b s).Nodup := List.Nodup.sublist List.filter_sublist (ck_nodup b)
theorem cks_pos (b s : Nat) : 0 ∉ cksN b s := fun h => by
  unfold cksN at h
  have h := (List.mem_filter.mp h).2
  simp at h
/-- the check places of a spot add up to it -/
theorem cks_sx : ∀ r, r < 7 → 3 ≤ r → ∀ s, s < 2 ^ r → sx ((0 :: (List.range r).map (2 ^ ·)).filter fun p => (s &&& p) != 0) = s := by decide +kernel
theorem pl_pow {b : Nat} (h4 : 4 ≤ b) (h32 : b ≤ 32) : pl b ≤ 2 ^ rOf b := by
  have h : ∀ b, b < 33 → 4 ≤ b → pl b ≤ 2 ^ rOf b := by decide +kernel
  exact h b (by omega) h4
theorem sx_lt {r : Nat} : ∀ {l : List Nat}, (∀ p ∈ l, p < 2 ^ r) → sx l < 2 ^ r
  | [], _ => Nat.two_pow_pos r
  | a :: l, h => by
    rw [sx_cons]
    exact Nat.xor_lt_two_pow (h a List.mem_cons_self) (sx_lt fun p hp => h p (List.mem_cons_of_mem _ hp))
theorem spot_lt {b n : Nat} (h4 : 4 ≤ b) (h32 : b ≤ 32) : spotN (pl b) n < 2 ^ rOf b := sx_lt fun p hp => Nat.lt_of_lt_of_le (bs_mem.mp hp).1 (pl_pow h4 h32)
theorem cks_spot {b s : Nat} (h4 : 4 ≤ b) (h32 : b ≤ 32) (hs : s < 2 ^ rOf b) : sx (cksN b s) = s := by
  unfold cksN
  rw [← lc_ck b (by omega) h4]
  have h3 : 3 ≤ rOf b := by unfold rOf; split <;> (try split) <;> (try split) <;> omega
  exact cks_sx (rOf b) (by have := rOf_le b; omega) h3 s hs
theorem flip_lt {m : Nat} : ∀ {ps : List Nat} {n : Nat}, n < 2 ^ m → (∀ p ∈ ps, p < m) → flip n ps < 2 ^ m
  | [], _, h, _ => h
  | p :: r, n, h, hp => flip_lt (ps := r) (Nat.xor_lt_two_pow h (Nat.pow_lt_pow_right (by decide) (hp p List.mem_cons_self))) fun q hq => hp q (List.mem_cons_of_mem _ hq)
theorem pl_pos {b : Nat} : 0 < pl b := by unfold pl; omega
theorem or_xor {r p : Nat} (h : r.testBit p = false) : r ||| 2 ^ p = r ^^^ 2 ^ p := by
  refine Nat.eq_of_testBit_eq fun q => ?_
  rw [Nat.testBit_or, Nat.testBit_xor, Nat.testBit_two_pow]
  by_cases e : p = q
  · subst e
    rw [h, decide_eq_true rfl]
    rfl
  · rw [decide_eq_false e]
    cases r.testBit q <;> rfl
section
variable {b v : Nat} (h4 : 4 ≤ b) (h32 : b ≤ 32)
include h4 h32
theorem cod0_lt : cod0 b v < 2 ^ pl b := flip_lt (Nat.two_pow_pos _) fun p hp => (ones_lt h4 h32 (Nat.le_refl _) p hp).1
theorem cod1_lt : cod1 b v < 2 ^ pl b := flip_lt (cod0_lt h4 h32) fun p hp => (cks_lt _ _ p hp).1
theorem cod_lt : cod b v < 2 ^ pl b := flip_lt (cod1_lt h4 h32) fun p hp => by
  split at hp
  · rw [List.mem_singleton.mp hp]; exact pl_pos
  · cases hp
theorem cod1_spot : spotN (pl b) (cod1 b v) = 0 := by
  unfold cod1
  rw [spot_flip fun p hp => (cks_lt _ _ p hp).1, cks_spot h4 h32 (spot_lt h4 h32), Nat.xor_self]
theorem cod_spot : spotN (pl b) (cod b v) = 0 := by
  unfold cod
  rw [spot_flip, cod1_spot h4 h32]
  · split <;> rfl
  · intro p hp
    split at hp
    · rw [List.mem_singleton.mp hp]; exact pl_pos
    · cases hp
theorem cod_par : parB (pl b) (cod b v) = false := by
  unfold cod
  rw [par_flip]
  · cases parB (pl b) (cod1 b v) <;> rfl
  · intro p hp
    split at hp
    · rw [List.mem_singleton.mp hp]; exact pl_pos
    · cases hp
theorem cod1_bit0 : (cod1 b v).testBit 0 = false := by
  unfold cod1 cod0
  rw [tb_flip_nd (cks_nodup _ _), tb_flip_nd (show (onesN b v).Nodup from ones_nodup h4 h32 (Nat.le_refl _)), decide_eq_false (cks_pos _ _), decide_eq_false]
  · simp
  · intro z
    have := (ones_lt h4 h32 (Nat.le_refl _) 0 z).2
    cases this
/-- the word's end: the parity into the place 0 -/
theorem cod_end : cod1 b v ||| ((bs 40 (cod1 b v)).length &&& 1) = cod b v := by
  have hl : bs 40 (cod1 b v) = bs (pl b) (cod1 b v) := bs_more (cod1_lt h4 h32) (by have := pl_le h32; omega)
  rw [hl, Nat.and_one_is_mod]
  unfold cod parB
  rcases Nat.mod_two_eq_zero_or_one (bs (pl b) (cod1 b v)).length with h | h
  · rw [h]
    show cod1 b v ||| 0 = cod1 b v
    exact Nat.or_zero _
  · rw [h]
    show cod1 b v ||| 2 ^ 0 = cod1 b v ^^^ 2 ^ 0
    exact or_xor (cod1_bit0 h4 h32)
/-- the data places of the word -/
theorem cod_data {i : Nat} (hi : i < b) : (cod b v).testBit (dt b i) = v.testBit i := by
  have hd := dt_mem h4 h32 hi
  have hn : (if parB (pl b) (cod1 b v) then [0] else []).Nodup := by split <;> simp
  unfold cod
  rw [tb_flip_nd hn]
  unfold cod1 cod0
  rw [tb_flip_nd (cks_nodup _ _), tb_flip_nd (show (onesN b v).Nodup from ones_nodup h4 h32 (Nat.le_refl _))]
  have a1 : dt b i ∉ (if parB (pl b) (cod1 b v) then [0] else []) := by
    intro z
    split at z
    · rw [List.mem_singleton.mp z] at hd; exact Bool.noConfusion hd.2
    · cases z
  have a2 : dt b i ∉ cksN b (spotN (pl b) (flip 0 (onesN b v))) := fun z => by rw [(cks_lt _ _ _ z).2] at hd; exact Bool.noConfusion hd.2
  unfold cod1 cod0 at a1
  rw [decide_eq_false a1, decide_eq_false a2]
  have a3 : (dt b i ∈ onesN b v) ↔ v.testBit i = true := by
    constructor
    · intro z
      obtain ⟨j, hj, e⟩ := List.mem_map.mp z
      have hj := bs_mem.mp hj
      have := dt_inj h4 h32 hj.1 hi e
      subst this
      exact hj.2
    · exact fun z => List.mem_map.mpr ⟨i, bs_mem.mpr ⟨hi, z⟩, rfl⟩

  cases e : v.testBit i with
  | true => rw [decide_eq_true (a3.mpr e)]; simp
  | false => rw [decide_eq_false (fun z => by rw [a3.mp z] at e; cases e)]; simp
end
def valN (b n : Nat) : Nat := rowOf ((List.range b).filter fun i => n.testBit (dt b i))
theorem val_cod {b v : Nat} (h4 : 4 ≤ b) (h32 : b ≤ 32) (hv : v < 2 ^ b) : valN b (cod b v) = v := by
  unfold valN
  rw [List.filter_congr (q := fun i => v.testBit i) fun i hi => cod_data h4 h32 (List.mem_range.mp hi)]
  exact row_bs hv
/-! ### promises -/
def spPlaces : Sp := fun vs H Q _ => ∃ b : Nat, vs = [.int (b : Int)] ∧ 4 ≤ b ∧ b ≤ 32 ∧ ∀ H', Ex H H' → Q (.int ((pl b : Nat) : Int)) H'
theorem SpPlaces {H : Hp} {b : Nat} (h4 : 4 ≤ b) (h32 : b ≤ 32) : SpV spPlaces ([.int (b : Int)] ++ []) H (.int ((pl b : Nat) : Int)) := fun H1 e Q q E => ⟨b, rfl, h4, h32, q⟩
def spList (f : Nat → List Nat) : Sp := fun vs H Q _ => ∃ b : Nat, vs = [.int (b : Int)] ∧ 4 ≤ b ∧ b ≤ 32 ∧ ∀ p H', H p = none → Ex H H' → H' p = some (.lst ((iL (f b)).map V.int)) → Q (.ref p) H'
theorem SpList {f : Nat → List Nat} {H : Hp} {b : Nat} (h4 : 4 ≤ b) (h32 : b ≤ 32) : SpL (spList f) ([.int (b : Int)] ++ []) H ((iL (f b)).map V.int) := fun H1 e Q q E => ⟨b, rfl, h4, h32, q⟩

def spDiff : Sp := fun vs H Q _ => ∃ a c : Nat, vs = [.int (a : Int), .int (c : Int)] ∧ a < 2 ^ 40 ∧ c < 2 ^ 40 ∧ ∀ p H', H p = none → Ex H H' → H' p = some (.lst ((iL (bs 40 (a ^^^ c))).map V.int)) → Q (.ref p) H'
theorem SpDiff {H : Hp} {a c : Nat} (ha : a < 2 ^ 40) (hc : c < 2 ^ 40) : SpL spDiff ([.int (a : Int), .int (c : Int)] ++ []) H ((iL (bs 40 (a ^^^ c))).map V.int) := fun H1 e Q q E => ⟨a, c, rfl, ha, hc, q⟩
def spOnes : Sp := fun vs H Q _ => ∃ n : Nat, vs = [.int (n : Int)] ∧ n < 2 ^ 40 ∧ ∀ H', Ex H H' → Q (.int (((bs 40 n).length : Nat) : Int)) H'
theorem SpOnes {H : Hp} {n : Nat} (hn : n < 2 ^ 40) : SpV spOnes ([.int (n : Int)] ++ []) H (.int (((bs 40 n).length : Nat) : Int)) := fun H1 e Q q E => ⟨n, rfl, hn, q⟩
def spSpot : Sp := fun vs H Q _ => ∃ b n : Nat, vs = [.int (b : Int), .int (n : Int)] ∧ 4 ≤ b ∧ b ≤ 32 ∧ n < 2 ^ 40 ∧ ∀ H', Ex H H' → Q (.int ((spotN (pl b) n : Nat) : Int)) H'
theorem SpSpot {H : Hp} {b n : Nat} (h4 : 4 ≤ b) (h32 : b ≤ 32) (hn : n < 2 ^ 40) : SpV spSpot ([.int (b : Int), .int (n : Int)] ++ []) H (.int ((spotN (pl b) n : Nat) : Int)) := fun H1 e Q q E => ⟨b, n, rfl, h4, h32, hn, q⟩
def spFlip (K : PySem.W.Frag) : Sp := fun vs H Q _ => ∃ (n : Nat) (a : Addr) (ps : List Nat), vs = [.int (n : Int), .ref a] ∧ SqL K H a ((iL ps).map V.int) ∧ (∀ p ∈ ps, p < 64) ∧ ∀ H', Ex H H' → Q (.int ((flip n ps : Nat) : Int)) H'
theorem SpFlip {K : PySem.W.Frag} {H : Hp} {n : Nat} {a : Addr} {ps : List Nat} (h : SqL K H a ((iL ps).map V.int)) (hp : ∀ p ∈ ps, p < 64) : SpV (spFlip K) ([.int (n : Int), .ref a] ++ []) H (.int ((flip n ps : Nat) : Int)) := fun H1 e Q q E => ⟨n, a, ps, rfl, ex_l e h, hp, q⟩
def spCod : Sp := fun vs H Q _ => ∃ b v : Nat, vs = [.int (b : Int), .int (v : Int)] ∧ 4 ≤ b ∧ b ≤ 32 ∧ v < 2 ^ b ∧ ∀ H', Ex H H' → Q (.int ((cod b v : Nat) : Int)) H'
theorem SpCod {H : Hp} {b v : Nat} (h4 : 4 ≤ b) (h32 : b ≤ 32) (hn : v < 2 ^ b) : SpV spCod ([.int (b : Int), .int (v : Int)] ++ []) H (.int ((cod b v : Nat) : Int)) := fun H1 e Q q E => ⟨b, v, rfl, h4, h32, hn, q⟩
def spVal : Sp := fun vs H Q _ => ∃ b n : Nat, vs = [.int (b : Int), .int (n : Int)] ∧ 4 ≤ b ∧ b ≤ 32 ∧ ∀ H', Ex H H' → Q (.int ((valN b n : Nat) : Int)) H'
theorem SpVal {H : Hp} {b n : Nat} (h4 : 4 ≤ b) (h32 : b ≤ 32) : SpV spVal ([.int (b : Int), .int (n : Int)] ++ []) H (.int ((valN b n : Nat) : Int)) := fun H1 e Q q E => ⟨b, n, rfl, h4, h32, q⟩
/-- the state of a row -/
def stV (b n : Nat) : List V := if parB (pl b) n then (if spotN (pl b) n < pl b then [.str "one", .int ((spotN (pl b) n : Nat) : Int)] else [.str "more", .non]) else (if spotN (pl b) n = 0 then [.str "clean", .non] else [.str "more", .non])
def spState : Sp := fun vs H Q _ => ∃ b n : Nat, vs = [.int (b : Int), .int (n : Int)] ∧ 4 ≤ b ∧ b ≤ 32 ∧ n < 2 ^ pl b ∧ ∀ p H', H p = none → Ex H H' → H' p = some (.tup (stV b n)) → Q (.ref p) H'
def SpU (sp : Sp) (vs : List V) (H : Hp) (xs : List V) : Prop := ∀ H1, Ex H H1 → ∀ Q : VK, (∀ p H2, H1 p = none → Ex H1 H2 → H2 p = some (.tup xs) → Q (.ref p) H2) → ∀ E : XK, sp vs H1 Q E
theorem eu_call {σ : L2.St} {H : Hp} {sp : Sp} {dvs vs xs : List V} {E : XK} {ta : TA} (h : EvA ta σ H vs) (hs : SpU sp (vs ++ dvs) H xs) : EvU (tCall sp dvs E ta) σ H xs := fun H1 e Q q =>
  h H1 e _ fun H2 e2 => hs H2 (e.trans e2) Q (fun p H3 hp e3 h3 => q p H3 (fresh_back e2 hp) (e2.trans e3) h3) E
theorem SpState {H : Hp} {b n : Nat} (h4 : 4 ≤ b) (h32 : b ≤ 32) (hn : n < 2 ^ pl b) : SpU spState ([.int (b : Int), .int (n : Int)] ++ []) H (stV b n) := fun H1 e Q q E => ⟨b, n, rfl, h4, h32, hn, q⟩
theorem eu_ite {σ : L2.St} {H : Hp} {t : TT} {ta tb : TE} {b : Bool} {xs ys : List V} (h : EvT t σ H b) (h1 : EvU ta σ H xs) (h2 : EvU tb σ H ys) : EvU (tIf t ta tb) σ H (if b then xs else ys) := fun H1 e Q q => h H1 e _ fun H2 e2 => by
  cases b with
  | true => exact iteT (h1 H2 (e.trans e2) Q fun p H3 np e3 hp => q p H3 (fresh_back e2 np) (e2.trans e3) hp)
  | false => exact iteF (h2 H2 (e.trans e2) Q fun p H3 np e3 hp => q p H3 (fresh_back e2 np) (e2.trans e3) hp)
theorem eu_is {σ : L2.St} {H : Hp} {te : TE} {xs ys : List V} (h : EvU te σ H xs) (e : xs = ys) : EvU te σ H ys := by
  rw [← e]
  exact h
/-- a call whose second argument is a list made on the spot -/
theorem ev_callL2 {σ : L2.St} {H : Hp} {sp : Sp} {dvs ys : List V} {E : XK} {ta tb : TE} {x z : V} (ha : Ev ta σ H x) (hb : EvL tb σ H ys) (hs : ∀ p H1, Ex H H1 → H1 p = some (.lst ys) → SpV sp ([x, .ref p] ++ dvs) H1 z) : Ev (tCall sp dvs E (tCons ta (tCons tb tNil))) σ H z := fun H1 e Q q =>
  ha H1 e _ fun H2 e2 => hb H2 (e.trans e2) _ fun p H3 np e3 hp => hs p H3 ((e.trans e2).trans e3) hp H3 (Ex.refl _) Q (fun H4 e4 => q H4 ((e2.trans e3).trans e4)) E
theorem ev_callL1 {σ : L2.St} {H : Hp} {sp : Sp} {dvs ys : List V} {E : XK} {tb : TE} {z : V} (hb : EvL tb σ H ys) (hs : ∀ p H1, Ex H H1 → H1 p = some (.lst ys) → SpV sp ([.ref p] ++ dvs) H1 z) : Ev (tCall sp dvs E (tCons tb tNil)) σ H z := fun H1 e Q q =>
  hb H1 e _ fun p H3 np e3 hp => hs p H3 (e.trans e3) hp H3 (Ex.refl _) Q (fun H4 e4 => q H4 (e3.trans e4)) E
theorem iL_at {l : List Nat} {i : Nat} {x : V} (h : ((iL l).map V.int)[i]? = some x) : ∃ n, l[i]? = some n ∧ x = .int (n : Int) := by
  obtain ⟨k, hk, rfl⟩ := int_at h
  unfold iL at hk
  rw [List.getElem?_map] at hk
  cases e : l[i]? with
  | none => rw [e] at hk; cases hk
  | some n => rw [e] at hk; exact ⟨n, rfl, by rw [← Option.some.inj hk]⟩
theorem at_iL {l : List Nat} {i n : Nat} (h : l[i]? = some n) : ((iL l).map V.int)[i]? = some (.int (n : Int)) := by
  unfold iL
  rw [List.getElem?_map, List.getElem?_map, h]
  rfl
theorem iL_len (l : List Nat) : ((iL l).map V.int).length = l.length := by unfold iL; rw [List.length_map, List.length_map]
theorem iL_app (l r : List Nat) : (iL (l ++ r)).map V.int = (iL l).map V.int ++ (iL r).map V.int := by unfold iL; rw [List.map_append, List.map_append]
theorem given_iL (n : Nat) (f : Nat → Bool) : given n f (fun i => V.int ((i : Nat) : Int)) = (iL ((List.range n).filter f)).map V.int := given_ints n f _
theorem mem_iL {l : List Nat} {n : Nat} : ((n : Int) ∈ iL l) ↔ n ∈ l := by
  unfold iL
  rw [List.mem_map]
  constructor
  · rintro ⟨m, hm, e⟩
    have : m = n := by omega
    exact this ▸ hm
  · exact fun h => ⟨n, h, rfl⟩
theorem sum_iL : ∀ l : List Nat, (iL l).sum = ((l.sum : Nat) : Int)
  | [] => rfl
  | n :: r => by
    show ((n : Int) :: iL r).sum = _
    rw [List.sum_cons, sum_iL r, List.sum_cons]
    omega
/-- [e for place in list if t], the list's items known as numbers -/
theorem el_lcL' {K : PySem.W.Frag} {σ : L2.St} {H : Hp} {tl te : TE} {tt : TT} {j : Nat} {vs : List Nat} {l : List Nat} (f : Nat → Bool) (g : Nat → Nat) (h : EvL tl σ H ((iL l).map V.int)) (hz : l.length ≤ 40000) (hw : ∀ x, wipe ((wipe σ vs).set j (some x)) vs = wipe σ vs)
    (ht : ∀ (m : Nat), m ∈ l → ∀ H1, Ex H H1 → EvT tt ((wipe σ vs).set j (some (.int (m : Int)))) H1 (f m)) (he : ∀ (m : Nat), m ∈ l → ∀ H1, Ex H H1 → f m = true → Ev te ((wipe σ vs).set j (some (.int (m : Int)))) H1 (.int ((g m : Nat) : Int))) :
    EvL (tLc (iList K tl) (gName j) tt te vs) σ H ((iL ((l.filter f).map g)).map V.int) := by
  have key : ∀ l : List Nat, given l.length (fun i => f (l.getD i 0)) (fun i => V.int ((g (l.getD i 0) : Nat) : Int)) = (iL ((l.filter f).map g)).map V.int := by
    intro l
    unfold given
    have h1 : ((List.range l.length).filter (fun i => f (l.getD i 0))).map (fun i => l.getD i 0) = l.filter f := by
      have h2 : (List.range l.length).map (fun i => l.getD i 0) = l := by
        refine List.ext_getElem (by simp) fun i h1 h2 => ?_
        simp [List.getD_eq_getElem?_getD, List.getElem?_eq_getElem h2]
      have h3 : l.filter f = ((List.range l.length).map (fun i => l.getD i 0)).filter f := by rw [h2]
      rw [h3, List.filter_map]
      rfl
    rw [← h1]
    unfold iL
    rw [List.map_map, List.map_map, List.map_map]
    rfl
  have hd : ∀ {i : Nat} {m : Nat}, l[i]? = some m → l.getD i 0 = m := fun {i m} e => by rw [List.getD_eq_getElem?_getD, e]; rfl
  rw [← key l]
  have r := el_lcNL (K := K) (tl := tl) (j := j) (vs := vs) (t := tt) (te := te) (fun i => f (l.getD i 0)) (fun i => V.int ((g (l.getD i 0) : Nat) : Int)) h (by rw [iL_len]; exact hz) hw (fun i x H1 e1 hi => by
    obtain ⟨m, hm, rfl⟩ := iL_at hi
    rw [hd hm]
    exact ht m (List.mem_of_getElem? hm) H1 e1) (fun i x H1 e1 hi hf => by
    obtain ⟨m, hm, rfl⟩ := iL_at hi
    rw [hd hm] at hf ⊢
    exact he m (List.mem_of_getElem? hm) H1 e1 hf)
  rw [iL_len] at r
  exact r
/-- .. over a list that stands somewhere -/
theorem el_lcA' {K : PySem.W.Frag} {σ : L2.St} {H : Hp} {tl te : TE} {tt : TT} {j : Nat} {vs : List Nat} {l : List Nat} {a : Addr} (f : Nat → Bool) (g : Nat → Nat) (h : Ev tl σ H (.ref a)) (hx : SqL K H a ((iL l).map V.int)) (hz : l.length ≤ 40000) (hw : ∀ x, wipe ((wipe σ vs).set j (some x)) vs = wipe σ vs)
    (ht : ∀ (m : Nat), m ∈ l → ∀ H1, Ex H H1 → EvT tt ((wipe σ vs).set j (some (.int (m : Int)))) H1 (f m)) (he : ∀ (m : Nat), m ∈ l → ∀ H1, Ex H H1 → f m = true → Ev te ((wipe σ vs).set j (some (.int (m : Int)))) H1 (.int ((g m : Nat) : Int))) :
    EvL (tLc (iList K tl) (gName j) tt te vs) σ H ((iL ((l.filter f).map g)).map V.int) := by
  have key : ∀ l : List Nat, given l.length (fun i => f (l.getD i 0)) (fun i => V.int ((g (l.getD i 0) : Nat) : Int)) = (iL ((l.filter f).map g)).map V.int := by
    intro l
    unfold given
    have h1 : ((List.range l.length).filter (fun i => f (l.getD i 0))).map (fun i => l.getD i 0) = l.filter f := by
      have h2 : (List.range l.length).map (fun i => l.getD i 0) = l := by
        refine List.ext_getElem (by simp) fun i h1 h2 => ?_
        simp [List.getD_eq_getElem?_getD, List.getElem?_eq_getElem h2]
      have h3 : l.filter f = ((List.range l.length).map (fun i => l.getD i 0)).filter f := by rw [h2]
      rw [h3, List.filter_map]
      rfl
    rw [← h1]
    unfold iL
    rw [List.map_map, List.map_map, List.map_map]
    rfl
  have hd : ∀ {i : Nat} {m : Nat}, l[i]? = some m → l.getD i 0 = m := fun {i m} e => by rw [List.getD_eq_getElem?_getD, e]; rfl
  rw [← key l]
  have r := el_lcL (K := K) (tl := tl) (j := j) (vs := vs) (t := tt) (te := te) (fun i => f (l.getD i 0)) (fun i => V.int ((g (l.getD i 0) : Nat) : Int)) h hx (by rw [iL_len]; exact hz) hw (fun i x H1 e1 hi => by
    obtain ⟨m, hm, rfl⟩ := iL_at hi
    rw [hd hm]
    exact ht m (List.mem_of_getElem? hm) H1 e1) (fun i x H1 e1 hi hf => by
    obtain ⟨m, hm, rfl⟩ := iL_at hi
    rw [hd hm] at hf ⊢
    exact he m (List.mem_of_getElem? hm) H1 e1 hf)
  rw [iL_len] at r
  exact r
/-! ### what the law's own defs tell -/
def spDigits : Sp := fun vs H Q _ => ∃ n : Nat, vs = [.int (n : Int)] ∧ n < 2 ^ 64 ∧ ∀ p H', H p = none → Ex H H' → H' p = some (.lst ((iL (bs 64 n)).map V.int)) → Q (.ref p) H'
theorem SpDigits {H : Hp} {n : Nat} (hn : n < 2 ^ 64) : SpL spDigits ([.int (n : Int)] ++ []) H ((iL (bs 64 n)).map V.int) := fun H1 e Q q E => ⟨n, rfl, hn, q⟩
def spRowOf (K : PySem.W.Frag) : Sp := fun vs H Q _ => ∃ (a : Addr) (ps : List Nat), vs = [.ref a] ∧ SqL K H a ((iL ps).map V.int) ∧ (∀ p ∈ ps, p ≤ 40) ∧ ps.length ≤ 1000 ∧ ∀ H', Ex H H' → Q (.int ((rowOf ps : Nat) : Int)) H'
theorem SpRowOf {K : PySem.W.Frag} {H : Hp} {a : Addr} {ps : List Nat} (h : SqL K H a ((iL ps).map V.int)) (hp : ∀ p ∈ ps, p ≤ 40) (hl : ps.length ≤ 1000) : SpV (spRowOf K) ([.ref a] ++ []) H (.int ((rowOf ps : Nat) : Int)) := fun H1 e Q q E => ⟨a, ps, rfl, ex_l e h, hp, hl, q⟩
def spLspot : Sp := fun vs H Q _ => ∃ n : Nat, vs = [.int (n : Int)] ∧ n < 2 ^ 64 ∧ ∀ H', Ex H H' → Q (.int ((spotN 64 n : Nat) : Int)) H'
theorem SpLspot {H : Hp} {n : Nat} (hn : n < 2 ^ 64) : SpV spLspot ([.int (n : Int)] ++ []) H (.int ((spotN 64 n : Nat) : Int)) := fun H1 e Q q E => ⟨n, rfl, hn, q⟩
def spLvalue (K : PySem.W.Frag) : Sp := fun vs H Q _ => ∃ (a : Addr) (ns : List Int) (i b : Nat), vs = [.ref a, .int (i : Int), .int (b : Int)] ∧ SqL K H a (ns.map V.int) ∧ (∀ n ∈ ns, 0 ≤ n ∧ n < 1009) ∧ i + 3 < ns.length ∧ 4 ≤ b ∧ b ≤ 32 ∧ ∀ (v : Nat) H', v < 2 ^ b → Ex H H' → Q (.int (v : Int)) H'
/-- the digits of a sum without carrying -/
theorem tb_sx (k : Nat) : ∀ l : List Nat, (sx l).testBit k = decide ((l.filter fun p => p.testBit k).length % 2 = 1)
  | [] => by show (0 : Nat).testBit k = _; simp
  | a :: r => by
    rw [sx_cons, Nat.testBit_xor, tb_sx k r, List.filter_cons]
    cases e : a.testBit k with
    | true =>
      rw [if_pos rfl, List.length_cons]
      by_cases h : (r.filter fun p => p.testBit k).length % 2 = 1
      · rw [decide_eq_true h, decide_eq_false (by omega)]; rfl
      · rw [decide_eq_false h, decide_eq_true (by omega)]; rfl
    | false =>
      rw [if_neg (by decide)]
      simp
theorem spot64 {m n : Nat} (h : n < 2 ^ m) (hm : m ≤ 64) : spotN 64 n = spotN m n := by unfold spotN; rw [bs_more h hm]
theorem row_ext {b : Nat} (l : List Nat) : rowOf l = (l.map (2 ^ ·)).sum := rfl
/-- the two ways to the check places that are turned -/
theorem cks_eq {b s : Nat} (h4 : 4 ≤ b) (h32 : b ≤ 32) (hs : s < 64) : (ckN b).filter (fun c => decide (0 < c) && decide (s / c % 2 = 1)) = cksN b s := by
  have h : ∀ c, c < 40 → isPw c = true → ∀ s, s < 64 → (decide (0 < c) && decide (s / c % 2 = 1)) = ((s &&& c) != 0) := by decide +kernel
  unfold cksN
  refine List.filter_congr fun c hc => ?_
  have hc := List.mem_filter.mp hc
  have := pl_le h32
  exact h c (by have := List.mem_range.mp hc.1; omega) hc.2 s hs
/-- the word, as the law makes it -/
theorem cod_law {b v : Nat} (h4 : 4 ≤ b) (h32 : b ≤ 32) :
    rowOf ((onesN b v ++ cksN b (spotN (pl b) (cod0 b v))) ++ (if (onesN b v ++ cksN b (spotN (pl b) (cod0 b v))).length % 2 = 1 then [0] else [])) = cod b v := by
  have dis : ∀ x ∈ onesN b v, x ∉ cksN b (spotN (pl b) (cod0 b v)) := fun x hx hy => by
    have a := (ones_lt h4 h32 (Nat.le_refl _) x hx).2
    rw [(cks_lt _ _ x hy).2] at a
    cases a
  have nd : (onesN b v ++ cksN b (spotN (pl b) (cod0 b v))).Nodup := List.nodup_append.mpr ⟨ones_nodup h4 h32 (Nat.le_refl _), cks_nodup _ _, fun a ha c hc e => dis a ha (e ▸ hc)⟩
  have n0 : 0 ∉ onesN b v ++ cksN b (spotN (pl b) (cod0 b v)) := fun z => by
    rcases List.mem_append.mp z with z | z
    · have := (ones_lt h4 h32 (Nat.le_refl _) 0 z).2; cases this
    · exact cks_pos _ _ z
  have lt : ∀ p ∈ onesN b v ++ cksN b (spotN (pl b) (cod0 b v)), p < pl b := fun p hp => by
    rcases List.mem_append.mp hp with z | z
    · exact (ones_lt h4 h32 (Nat.le_refl _) p z).1
    · exact (cks_lt _ _ p z).1
  have f1 : flip 0 (onesN b v ++ cksN b (spotN (pl b) (cod0 b v))) = cod1 b v := by rw [flip_append]; rfl
  have par : parB (pl b) (cod1 b v) = decide ((onesN b v ++ cksN b (spotN (pl b) (cod0 b v))).length % 2 = 1) := by
    rw [← f1, par_flip lt, par_zero, Bool.false_xor]
  rw [← flip_row]
  · rw [flip_append, f1]
    unfold cod
    rw [par]
    by_cases h : (onesN b v ++ cksN b (spotN (pl b) (cod0 b v))).length % 2 = 1
    · rw [if_pos h, if_pos (decide_eq_true h)]
    · rw [if_neg h, if_neg (by rw [decide_eq_false h]; decide)]
  · split
    · exact List.nodup_append.mpr ⟨nd, by simp, fun a ha c hc e => by rw [List.mem_singleton.mp hc] at e; exact n0 (e ▸ ha)⟩
    · rw [List.append_nil]; exact nd
/-- xs + [..], xs a list that stands somewhere -/
theorem el_catA {σ : L2.St} {H : Hp} {ta tb : TE} {p : Addr} {xs ys : List V} (ha : Ev ta σ H (.ref p)) (hp : H p = some (.lst xs)) (hb : EvL tb σ H ys) (hz : xs.length + ys.length ≤ 100000) : EvL (tOp rCat ta tb) σ H (xs ++ ys) := fun H1 e Q q =>
  ha H1 e _ fun H2 e2 => hb H2 (e.trans e2) _ fun p' H3 np' e3 hp' => ⟨p, p', xs, ys, rfl, rfl, ((e.trans e2).trans e3) _ _ hp, hp', sz_of hz, fun l nl => q l _ (fresh_back (e2.trans e3) nl) ((e2.trans e3).trans (Ex.new nl)) upd_same⟩
theorem bs_len (m n : Nat) : (bs m n).length ≤ m := by
  have := List.length_filter_le (fun p => n.testBit p) (List.range m)
  rw [List.length_range] at this
  exact this
theorem ck_le (b : Nat) : (ckN b).length ≤ pl b := by
  have := List.length_filter_le isPw (List.range (pl b))
  rw [List.length_range] at this
  exact this
theorem cks_len (b s : Nat) : (cksN b s).length ≤ pl b := Nat.le_trans (List.length_filter_le _ _) (ck_le b)
def spLcod : Sp := spCod
/-! ### flips of words -/
theorem flip_xor : ∀ (l : List Nat) (n : Nat), flip n l = n ^^^ flip 0 l
  | [], n => by show n = n ^^^ 0; rw [Nat.xor_zero]
  | p :: r, n => by
    show flip (n ^^^ 2 ^ p) r = n ^^^ flip (0 ^^^ 2 ^ p) r
    rw [flip_xor r (n ^^^ 2 ^ p), flip_xor r (0 ^^^ 2 ^ p), Nat.zero_xor, Nat.xor_assoc]
theorem xor_flip (n : Nat) (l : List Nat) : n ^^^ flip n l = flip 0 l := by rw [flip_xor, ← Nat.xor_assoc, Nat.xor_self, Nat.zero_xor]
theorem flip_bs {n x m : Nat} (h : x < 2 ^ m) : flip n (bs m x) = n ^^^ x := by rw [flip_xor, flip_row (bs_nodup m x), row_bs h]
theorem bs_flip {m : Nat} {l : List Nat} (nd : l.Nodup) : bs m (flip 0 l) = (List.range m).filter fun q => decide (q ∈ l) := by
  unfold bs
  refine List.filter_congr fun q _ => ?_
  rw [tb_flip_nd nd]
  simp
theorem bs_flip1 : ∀ p, p < 40 → bs 40 (flip 0 [p]) = [p] := by decide +kernel
theorem bs_sorted (m n : Nat) : (iL (bs m n)).Pairwise (· ≤ ·) := by
  unfold iL bs
  rw [List.pairwise_map]
  have h : (List.range m).Pairwise (fun (a b : Nat) => (a : Int) ≤ (b : Int)) := List.Pairwise.imp (fun {a b} (h : a < b) => by omega) List.pairwise_lt_range
  exact h.filter _
theorem bs_perm {p q : Nat} (h : p ≠ q) (hp : p < 40) (hq : q < 40) : (bs 40 (flip 0 [p, q])).Perm [p, q] := by
  have nd : [p, q].Nodup := by simp [h]
  rw [bs_flip nd]
  refine (List.perm_ext_iff_of_nodup (List.Nodup.sublist List.filter_sublist List.nodup_range) nd).mpr fun a => ?_
  rw [List.mem_filter, List.mem_range, decide_eq_true_eq]
  constructor
  · exact fun z => z.2
  · intro z
    refine ⟨?_, z⟩
    rcases List.mem_cons.mp z with rfl | z
    · exact hp
    · rw [List.mem_singleton.mp z]; exact hq
/-- sorted([p, q]) -/
theorem ev_sort2 {K : PySem.W.Frag} {σ : L2.St} {H : Hp} {ta : TE} {p q : Nat} (ha : EvL ta σ H [.int (p : Int), .int (q : Int)]) (h : p ≠ q) (hp : p < 40) (hq : q < 40) : EvL (tCB (rSorted K) (tCons ta tNil)) σ H ((iL (bs 40 (flip 0 [p, q]))).map V.int) := fun H1 e Q k =>
  ha H1 e _ fun l H2 nl e2 hl => ⟨l, [(p : Int), (q : Int)], rfl, sq_of hl, (by show 2 < 64; decide), fun ns' s pm so ns => by
    have e3 : ns' = iL (bs 40 (flip 0 [p, q])) := PySem.W.ksm_same (pm.trans ((bs_perm h hp hq).symm.map (fun n : Nat => (n : Int)))) so (bs_sorted _ _)
    subst e3
    exact k s _ (fresh_back e2 ns) (e2.trans (Ex.new ns)) upd_same⟩
def menV (b n : Nat) : V := if parB (pl b) n then (if spotN (pl b) n < pl b then .int ((flip n [spotN (pl b) n] : Nat) : Int) else .non) else (if spotN (pl b) n = 0 then .int (n : Int) else .non)
theorem stV_cases (b n : Nat) : (stV b n = [.str "one", .int ((spotN (pl b) n : Nat) : Int)] ∧ menV b n = .int ((flip n [spotN (pl b) n] : Nat) : Int) ∧ spotN (pl b) n < pl b) ∨ (stV b n = [.str "more", .non] ∧ menV b n = .non) ∨ (stV b n = [.str "clean", .non] ∧ menV b n = .int (n : Int)) := by
  unfold stV menV
  split
  · split
    · exact Or.inl ⟨rfl, rfl, by assumption⟩
    · exact Or.inr (Or.inl ⟨rfl, rfl⟩)
  · split
    · exact Or.inr (Or.inr ⟨rfl, rfl⟩)
    · exact Or.inr (Or.inl ⟨rfl, rfl⟩)
def spMended : Sp := fun vs H Q _ => ∃ b n : Nat, vs = [.int (b : Int), .int (n : Int)] ∧ 4 ≤ b ∧ b ≤ 32 ∧ n < 2 ^ pl b ∧ ∀ H', Ex H H' → Q (menV b n) H'
theorem SpMended {H : Hp} {b n : Nat} (h4 : 4 ≤ b) (h32 : b ≤ 32) (hn : n < 2 ^ pl b) : SpV spMended ([.int (b : Int), .int (n : Int)] ++ []) H (menV b n) := fun H1 e Q q E => ⟨b, n, rfl, h4, h32, hn, q⟩
theorem rv_isN {H : Hp} {x : V} : RV (fun x y H Q => y = .non ∧ Q (.bl (decide (x = .non))) H) x .non H (.bl (decide (x = .non))) := fun H1 _ _ q => ⟨rfl, q H1 (Ex.refl H1)⟩
theorem rv_notN {H : Hp} {x : V} : RV (fun x y H Q => y = .non ∧ Q (.bl (!decide (x = .non))) H) x .non H (.bl (!decide (x = .non))) := fun H1 _ _ q => ⟨rfl, q H1 (Ex.refl H1)⟩
theorem two_out (f s : Nat) (h : f ≠ s) : ∀ m, ((List.range m).filter fun i => !decide (i = f ∨ i = s)).length + (if f < m then 1 else 0) + (if s < m then 1 else 0) = m
  | 0 => rfl
  | m + 1 => by
    have ih := two_out f s h m
    rw [List.range_succ, List.filter_append, List.length_append, List.filter_cons]
    by_cases a : m = f <;> by_cases c : m = s
    · omega
    · subst a
      rw [decide_eq_true (Or.inl rfl), if_neg (by decide)]
      simp only [List.filter_nil, List.length_nil]
      split at ih <;> split at ih <;> split <;> split <;> omega
    · subst c
      rw [decide_eq_true (Or.inr rfl), if_neg (by decide)]
      simp only [List.filter_nil, List.length_nil]
      split at ih <;> split at ih <;> split <;> split <;> omega
    · rw [decide_eq_false (by omega), if_pos (by decide)]
      simp only [List.filter_nil, List.length_cons, List.length_nil]
      split at ih <;> split at ih <;> split <;> split <;> omega
/-- four flips, three of them at different places, give another row -/
theorem flip4_ne {n f s t u : Nat} (h1 : f ≠ s) (h2 : f ≠ t) (h3 : s ≠ t) : flip n [f, s, t, u] ≠ n := fun e => by
  have b1 : (flip n [f, s, t, u]).testBit f = n.testBit f := by rw [e]
  have b2 : (flip n [f, s, t, u]).testBit s = n.testBit s := by rw [e]
  have r : ∀ q, (flip n [f, s, t, u]).testBit q = ((((n.testBit q ^^ decide (f = q)) ^^ decide (s = q)) ^^ decide (t = q)) ^^ decide (u = q)) := fun q => by
    show ((((n ^^^ 2 ^ f) ^^^ 2 ^ s) ^^^ 2 ^ t) ^^^ 2 ^ u).testBit q = _
    rw [tb_flip1, tb_flip1, tb_flip1, tb_flip1]
  rw [r] at b1 b2
  rw [decide_eq_true rfl, decide_eq_false h1.symm, decide_eq_false h2.symm] at b1
  rw [decide_eq_false h1, decide_eq_true rfl, decide_eq_false h3.symm] at b2
  have u1 : u = f := by
    by_cases c : u = f
    · exact c
    · rw [decide_eq_false c] at b1
      cases n.testBit f <;> simp at b1
  have u2 : u = s := by
    by_cases c : u = s
    · exact c
    · rw [decide_eq_false c] at b2
      cases n.testBit s <;> simp at b2
  exact h1 (u1.symm.trans u2)
theorem flip6 (n f s t : Nat) : flip n [f, s, f, t, t, t] = flip n [s, t] := by
  refine Nat.eq_of_testBit_eq fun q => ?_
  show ((((((n ^^^ 2 ^ f) ^^^ 2 ^ s) ^^^ 2 ^ f) ^^^ 2 ^ t) ^^^ 2 ^ t) ^^^ 2 ^ t).testBit q = ((n ^^^ 2 ^ s) ^^^ 2 ^ t).testBit q
  simp only [tb_flip1]
  cases n.testBit q <;> cases decide (f = q) <;> cases decide (s = q) <;> cases decide (t = q) <;> rfl
/-! ### comparisons that find the same -/
theorem et_stNe {K : PySem.W.Frag} {σ : L2.St} {H : Hp} {t1 t2 : TE} {s : Str} {y : V} {d : PyData} (h1 : EvU t1 σ H [.str s, y]) (h2 : EvU t2 σ H [.str s, y]) (hd : ∀ H, Dp K H y d) (ly : Lay d 3) (hs : PyData.strOk s = true) : EvT (tTest (tOp (rNeD K) t1 t2)) σ H false :=
  et_test (ev_opUU h1 h2 fun p p' H1 hp hp' _ => rv_neS (d := .tuple [.str s, d]) (.tup (st_of hp) (.cons (.str _) (.cons (hd _) .nil))) (.tup (st_of hp') (.cons (.str _) (.cons (hd _) .nil))) (Lay.tuple (n := 3) (.cons (.str hs) (.cons ly .nil))).sh)
theorem et_lsNe {K : PySem.W.Frag} {σ : L2.St} {H : Hp} {t1 t2 : TE} {l : List Int} (h1 : EvL t1 σ H (l.map V.int)) (h2 : EvL t2 σ H (l.map V.int)) : EvT (tTest (tOp (rNeD K) t1 t2)) σ H false :=
  et_test (ev_opLL h1 h2 fun p p' H1 hp hp' _ => rv_neS (dp_ints (sq_of hp)) (dp_ints (sq_of hp')) (lay_ints l (n := 3)).sh)
theorem et_lsNeA {K : PySem.W.Frag} {σ : L2.St} {H : Hp} {t1 t2 : TE} {l : List Int} {p q : Addr} (h1 : Ev t1 σ H (.ref p)) (hp : SqL K H p (l.map V.int)) (h2 : Ev t2 σ H (.ref q)) (hq : SqL K H q (l.map V.int)) : EvT (tTest (tOp (rNeD K) t1 t2)) σ H false :=
  et_test (ev_op h1 h2 (rv_neS (dp_ints hp) (dp_ints hq) (lay_ints l (n := 3)).sh))
theorem et_eq {σ : L2.St} {H : Hp} {t1 t2 : TE} {x y : V} (h1 : Ev t1 σ H x) (h2 : Ev t2 σ H y) (hs : scal x y = true) : EvT (tTest (tOp rEq t1 t2)) σ H (decide (x = y)) := et_test (ev_op h1 h2 (rv_eq hs))
theorem et_ne {σ : L2.St} {H : Hp} {t1 t2 : TE} {x y : V} (h1 : Ev t1 σ H x) (h2 : Ev t2 σ H y) (hs : scal x y = true) : EvT (tTest (tOp rNe t1 t2)) σ H (!decide (x = y)) := et_test (ev_op h1 h2 (rv_ne hs))
/-- != of two that are the same -/
theorem et_neS {σ : L2.St} {H : Hp} {t1 t2 : TE} {x y : V} (h1 : Ev t1 σ H x) (h2 : Ev t2 σ H y) (hs : scal x y = true) (e : x = y) : EvT (tTest (tOp rNe t1 t2)) σ H false := et_is (et_ne h1 h2 hs) (by rw [decide_eq_true e]; rfl)
/-- a or b, both false -/
theorem et_or0 {σ : L2.St} {H : Hp} {t u : TT} (h1 : EvT t σ H false) (h2 : EvT u σ H false) : EvT (tOr t u) σ H false := et_or (a := false) (b := false) h1 fun _ => h2
theorem lst1 {σ : L2.St} {H : Hp} {ta : TE} {x : V} (h : Ev ta σ H x) : EvL (tLst (tCons ta tNil)) σ H [x] := el_lst (ea_cons h ea_nil) (by show 1 ≤ 100000; decide)
theorem lst2 {σ : L2.St} {H : Hp} {ta tb : TE} {x y : V} (h : Ev ta σ H x) (h2 : Ev tb σ H y) : EvL (tLst (tCons ta (tCons tb tNil))) σ H [x, y] := el_lst (ea_cons h (ea_cons h2 ea_nil)) (by show 2 ≤ 100000; decide)
theorem lst3 {σ : L2.St} {H : Hp} {ta tb tc : TE} {x y z : V} (h : Ev ta σ H x) (h2 : Ev tb σ H y) (h3 : Ev tc σ H z) : EvL (tLst (tCons ta (tCons tb (tCons tc tNil)))) σ H [x, y, z] := el_lst (ea_cons h (ea_cons h2 (ea_cons h3 ea_nil))) (by show 3 ≤ 100000; decide)
theorem tup2 {σ : L2.St} {H : Hp} {ta tb : TE} {x y : V} (h : Ev ta σ H x) (h2 : Ev tb σ H y) : EvU (tTup (tCons ta (tCons tb tNil))) σ H [x, y] := eu_tup (ea_cons h (ea_cons h2 ea_nil)) (by show 2 ≤ 100000; decide)
/-- t[i], the tuple made on the spot -/
theorem ev_opU0 {K : PySem.W.Frag} {σ : L2.St} {H : Hp} {ta tb : TE} {xs : List V} {i : Int} {v : V} (ha : EvU ta σ H xs) (hb : Ev tb σ H (.int i)) (hx : atI xs i = some v) : Ev (tOp (rIxT K) ta tb) σ H v := fun H1 e Q q =>
  ha H1 e _ fun p H2 _ e2 hp => hb H2 (e.trans e2) _ fun H3 e3 => ⟨p, xs, i, v, rfl, rfl, st_of (e3 _ _ hp), hx, q H3 (e2.trans e3)⟩
/-! ### words far apart -/
theorem spot_xor {m a c : Nat} (hc : c < 2 ^ m) : spotN m (a ^^^ c) = spotN m a ^^^ spotN m c := by
  have e : a ^^^ c = flip a (bs m c) := (flip_bs hc).symm
  rw [e, spot_flip fun p hp => (bs_mem.mp hp).1]
  rfl
theorem par_xor {m a c : Nat} (hc : c < 2 ^ m) : parB m (a ^^^ c) = (parB m a ^^ parB m c) := by
  have e : a ^^^ c = flip a (bs m c) := (flip_bs hc).symm
  rw [e, par_flip fun p hp => (bs_mem.mp hp).1]
  rfl
theorem far {b u v : Nat} (h4 : 4 ≤ b) (h32 : b ≤ 32) (hu : u < 2 ^ b) (hv : v < 2 ^ b) (h : u ≠ v) : 4 ≤ (bs 40 (cod b u ^^^ cod b v)).length := by
  have hpl := pl_le h32
  have cu := cod_lt (v := u) h4 h32
  have cv := cod_lt (v := v) h4 h32
  have hx : cod b u ^^^ cod b v < 2 ^ pl b := Nat.xor_lt_two_pow cu cv
  have hs : spotN (pl b) (cod b u ^^^ cod b v) = 0 := by rw [spot_xor cv, cod_spot h4 h32, cod_spot h4 h32]; rfl
  have hp : parB (pl b) (cod b u ^^^ cod b v) = false := by rw [par_xor cv, cod_par h4 h32, cod_par h4 h32]; rfl
  rw [bs_more hx (by omega)]
  have hne : bs (pl b) (cod b u ^^^ cod b v) ≠ [] := fun z => by
    have e := row_bs hx
    rw [z] at e
    have e2 := xor0 e.symm
    have e3 := val_cod h4 h32 hu
    rw [e2, val_cod h4 h32 hv] at e3
    exact h e3.symm
  have nd := bs_nodup (pl b) (cod b u ^^^ cod b v)
  unfold spotN at hs
  unfold parB at hp
  have hp := of_decide_eq_false hp
  revert hne nd hs hp
  generalize bs (pl b) (cod b u ^^^ cod b v) = l
  intro hs hne nd hp
  match l, hs, hp, hne, nd with
  | [], _, _, hne, _ => exact absurd rfl hne
  | [a], _, hp, _, _ => exact absurd (show [a].length % 2 = 1 from rfl) hp
  | [a, c], hs, _, _, nd =>
    rw [sx_cons, sx_one] at hs
    have := xor0 hs
    subst this
    exact absurd nd (by simp)
  | [a, c, d], _, hp, _, _ => exact absurd (show [a, c, d].length % 2 = 1 by simp) hp
  | a :: c :: d :: e :: r, _, _, _, _ => simp
/-- [e for i, x in enumerate(xs) if t], xs a list that stands somewhere -/
theorem el_lcEA {K : PySem.W.Frag} {σ : L2.St} {H : Hp} {tl te : TE} {tt : TT} {q : Addr} {xs : List V} {j1 j2 : Nat} {vs : List Nat} (f : Nat → Bool) (g : Nat → V) (h : Ev tl σ H (.ref q)) (hq : SqL K H q xs) (hz : xs.length ≤ 40000) (hw : ∀ x y, wipe (((wipe σ vs).set j1 (some x)).set j2 (some y)) vs = wipe σ vs)
    (ht : ∀ (i : Nat) (x : V) H1, Ex H H1 → xs[i]? = some x → EvT tt (((wipe σ vs).set j1 (some (.int (i : Int)))).set j2 (some x)) H1 (f i)) (he : ∀ (i : Nat) (x : V) H1, Ex H H1 → xs[i]? = some x → f i = true → Ev te (((wipe σ vs).set j1 (some (.int (i : Int)))).set j2 (some x)) H1 (g i)) :
    EvL (tLc (iEnum K (tCons tl tNil)) (gTup K 2 (gCons (gName j1) (gCons (gName j2) gNil))) tt te vs) σ H (given xs.length f g) := fun H0 e Q k => h H0 e _ fun H1 e1 => ⟨q, xs, rfl, ex_l (e.trans e1) hq, fun Dl hD => by
  refine ⟨fun i m H' => m = xs.length - i ∧ i ≤ xs.length ∧ Cw H1 f g Dl i H', ⟨xs.length, by simp, Nat.zero_le _, hD, Ex.new hD, upd_same⟩, ?_⟩
  rintro i m H' ⟨rfl, hi, pp⟩
  have qx : SqL K H' q xs := ex_l ((e.trans e1).trans pp.2.1) hq
  by_cases hlt : i < xs.length
  · refine .inr ⟨⟨xs, xs[i], qx, by simp [hlt]⟩, Cw H1 f g Dl (i + 1), fun H2 p' => ⟨xs.length - (i + 1), by omega, rfl, hlt, p'⟩, fun v H2 y => ?_⟩
    obtain ⟨T, x, rfl, nT, rfl, hxx⟩ := y
    have hix := hxx xs qx
    have hDT : Dl ≠ T := ne_of_none pp.2.2 nT
    have pp2 : Cw H1 f g Dl i (upd H' T (.tup [.int ((i : Nat) : Int), x])) := ⟨pp.1, pp.2.1.trans (Ex.new nT), by rw [upd_ne hDT]; exact pp.2.2⟩
    exact ⟨T, _, rfl, st_of upd_same, rfl, _, _, rfl, _, _, rfl, rfl, hw _ _, cw_turn pp2 (by omega) (ht i x H1 (e.trans e1) hix) (fun hf => he i x H1 (e.trans e1) hix hf)⟩
  · have e' : i = xs.length := by omega
    subst e'
    exact .inl ⟨⟨xs, qx, Nat.le_refl _⟩, k Dl H' (fresh_back e1 pp.1) (e1.trans pp.2.1) pp.2.2⟩⟩
/-- [..] + ys, ys a list that stands somewhere -/
theorem el_catB {σ : L2.St} {H : Hp} {ta tb : TE} {p : Addr} {xs ys : List V} (ha : EvL ta σ H xs) (hb : Ev tb σ H (.ref p)) (hp : H p = some (.lst ys)) (hz : xs.length + ys.length ≤ 100000) : EvL (tOp rCat ta tb) σ H (xs ++ ys) := fun H1 e Q q =>
  ha H1 e _ fun p' H2 np' e2 hp' => hb H2 (e.trans e2) _ fun H3 e3 => ⟨p', p, xs, ys, rfl, rfl, e3 _ _ hp', ((e.trans e2).trans e3) _ _ hp, sz_of hz, fun l nl => q l _ (fresh_back (e2.trans e3) nl) ((e2.trans e3).trans (Ex.new nl)) upd_same⟩
/-- all but two objects are kept -/
def Kp (a b : Addr) (H H' : Hp) : Prop := ∀ c o, c ≠ a → c ≠ b → H c = some o → H' c = some o
theorem Kp.refl (a b : Addr) (H : Hp) : Kp a b H H := fun _ _ _ _ h => h
theorem Kp.ex {a b : Addr} {H H1 H2 : Hp} (k : Kp a b H H1) (e : Ex H1 H2) : Kp a b H H2 := fun c o h1 h2 h => e _ _ (k c o h1 h2 h)
theorem Kp.ua {a b : Addr} {H H1 : Hp} {o : HO} (k : Kp a b H H1) : Kp a b H (upd H1 a o) := fun c u h1 h2 h => by rw [upd_ne h1]; exact k c u h1 h2 h
theorem Kp.ub {a b : Addr} {H H1 : Hp} {o : HO} (k : Kp a b H H1) : Kp a b H (upd H1 b o) := fun c u h1 h2 h => by rw [upd_ne h2]; exact k c u h1 h2 h
def spCount : Sp := fun vs H Q _ => ∃ b : Nat, vs = [.int (b : Int)] ∧ 4 ≤ b ∧ b ≤ 32 ∧ ∀ p H', H p = none → Ex H H' → H' p = some (.tup [.int ((2 ^ b : Nat) : Int), .int (((2 ^ b : Nat) : Int) * ((pl b : Nat) : Int)), .int (((2 ^ pl b : Nat) : Int) - ((2 ^ b : Nat) : Int) - ((2 ^ b : Nat) : Int) * ((pl b : Nat) : Int))]) → Q (.ref p) H'
theorem SpCount {H : Hp} {b : Nat} (h4 : 4 ≤ b) (h32 : b ≤ 32) : SpU spCount ([.int (b : Int)] ++ []) H [.int ((2 ^ b : Nat) : Int), .int (((2 ^ b : Nat) : Int) * ((pl b : Nat) : Int)), .int (((2 ^ pl b : Nat) : Int) - ((2 ^ b : Nat) : Int) - ((2 ^ b : Nat) : Int) * ((pl b : Nat) : Int))] := fun H1 e Q q E => ⟨b, rfl, h4, h32, q⟩
def kd (n : Nat) : Nat := if parB 8 n then (if spotN 8 n < 8 then 1 else 2) else (if spotN 8 n = 0 then 0 else 2)
def kds (i j : Nat) : Nat := ((List.range i).filter fun n => decide (kd n = j)).length
theorem kds_succ (i j : Nat) : kds (i + 1) j = kds i j + (if kd i = j then 1 else 0) := by
  unfold kds
  rw [List.range_succ, List.filter_append, List.length_append, List.filter_cons]
  by_cases h : kd i = j
  · rw [if_pos (decide_eq_true h), if_pos h]; rfl
  · rw [if_neg (by rw [decide_eq_false h]; decide), if_neg h]; rfl
theorem kds_all : kds 256 0 = 16 ∧ kds 256 1 = 128 ∧ kds 256 2 = 112 := by decide +kernel
theorem stV_kd (n : Nat) : ∃ y, stV 4 n = [(if kd n = 0 then .str "clean" else if kd n = 1 then .str "one" else .str "more"), y] := by
  have h8 : pl 4 = 8 := by decide
  unfold stV kd
  rw [h8]
  split <;> split <;> exact ⟨_, rfl⟩
theorem kd_lt (n : Nat) : kd n = 0 ∨ kd n = 1 ∨ kd n = 2 := by
  unfold kd
  split <;> split <;> omega
theorem cmul_nat {n : Nat} {j : Int} (h : n < 2 ^ 64) : CMul (n : Int) j := Or.inl ⟨by omega, by omega⟩
theorem p64 {b : Nat} (h : b ≤ 40) : 2 ^ b < 2 ^ 64 := Nat.pow_lt_pow_right (by decide) (by omega)
/-! ### lists whose items have a property -/
def EaA (ta : TA) (σ : L2.St) (H : Hp) (k : Nat) (P : V → Hp → Prop) : Prop := ∀ H1, Ex H H1 → ∀ Q : List V → Hp → Prop, (∀ vs H2, Ex H1 H2 → vs.length = k → (∀ x ∈ vs, P x H2) → Q vs H2) → ta σ H1 Q
theorem eaA_nil {σ : L2.St} {H : Hp} {P : V → Hp → Prop} : EaA tNil σ H 0 P := fun H1 _ _ q => q [] H1 (Ex.refl H1) rfl fun _ z => nomatch z
theorem eaA_cons {σ : L2.St} {H : Hp} {ta : TE} {tr : TA} {k : Nat} {P : V → Hp → Prop} (m : ∀ v H1 H2, Ex H1 H2 → P v H1 → P v H2) (h : EvG ta σ H P) (hr : EaA tr σ H k P) : EaA (tCons ta tr) σ H (k + 1) P := fun H1 e _ q =>
  h H1 e _ fun v H2 e2 pv => hr H2 (e.trans e2) _ fun vs H3 e3 hl pr => q _ H3 (e2.trans e3) (by rw [List.length_cons, hl]) fun x hx => by
    rcases List.mem_cons.mp hx with rfl | hx
    · exact m _ _ _ e3 pv
    · exact pr x hx
theorem evG_lstA {σ : L2.St} {H : Hp} {ta : TA} {k : Nat} {P : V → Hp → Prop} (m : ∀ v H1 H2, Ex H1 H2 → P v H1 → P v H2) (h : EaA ta σ H k P) (hk : k ≤ 100000) : EvG (tLst ta) σ H (fun v H' => ∃ p xs, v = .ref p ∧ H' p = some (.lst xs) ∧ H p = none ∧ xs.length = k ∧ ∀ x ∈ xs, P x H') := fun H1 e Q q =>
  h H1 e _ fun vs H2 e2 hl pv => ⟨sz_of (by omega), fun p np => q _ _ (e2.trans (Ex.new np)) ⟨p, vs, rfl, upd_same, fresh_back (e.trans e2) np, hl, fun x hx => m _ _ _ (Ex.new np) (pv x hx)⟩⟩
theorem s_forG {K : PySem.W.Frag} {σ : L2.St} {H : Hp} {tl : TE} {g : TG} {tu : TS} {D : Ends} {R : Addr → List V → Hp → Prop} (h : EvG tl σ H (fun v H1 => ∃ p xs, v = .ref p ∧ H1 p = some (.lst xs) ∧ R p xs H1)) (Pv : Addr → List V → Nat → L2.St → Hp → Prop) (h0 : ∀ p xs H1, Ex H H1 → H1 p = some (.lst xs) → R p xs H1 → Pv p xs 0 σ H1)
    (hl : ∀ p xs i σ' H', i ≤ xs.length → Pv p xs i σ' H' → SqL K H' p xs) (hs : ∀ p xs i x σ' H', xs[i]? = some x → Pv p xs i σ' H' → g x σ' H' fun σ2 H2 => tu { D with nx := Pv p xs (i + 1), ct := Pv p xs (i + 1), bk := D.nx } σ2 H2)
    (hd : ∀ p xs σ' H', Pv p xs xs.length σ' H' → D.nx σ' H') : tFor (iList K tl) g tu D σ H :=
  h H (Ex.refl H) _ fun v H1 e ⟨p, xs, ev, hp, r⟩ => ⟨p, ev, ⟨xs, sq_of hp⟩, for_list (Pv p xs) (h0 p xs H1 e hp r) (hl p xs) (hs p xs) (hd p xs)⟩
theorem q_unp2 {K : PySem.W.Frag} {σ : L2.St} {H : Hp} {te : TE} {tz : TS} {D : Ends} {i j : Nat} {x y : V} (h : EvU te σ H [x, y]) (k : ∀ H1, Ex H H1 → tz D ((σ.set i (some x)).set j (some y)) H1) : tSeq (tAsg te (gTup K 2 (gCons (gName i) (gCons (gName j) gNil)))) tz D σ H :=
  h H (Ex.refl H) _ fun p H1 _ e hp => ⟨p, _, rfl, st_of hp, rfl, _, _, rfl, _, _, rfl, rfl, k H1 e⟩
/-- [..].index(y) -/
theorem ev_idx {K : PySem.W.Frag} {σ : L2.St} {H : Hp} {ta tb : TE} {ys : List V} {y z : V} {j : Nat} (ha : EvL ta σ H ys) (hb : Ev tb σ H y) (fy : flatV y = true) (fa : ys.all flatV = true) (hz : ys[j]? = some z) (he : eqV z y = true) (hn : ∀ (m : Nat) (z' : V), m < j → ys[m]? = some z' → eqV z' y = false) :
    Ev (tBM K "list" (rIndex K) ta (tCons tb tNil)) σ H (.int (j : Int)) := fun H1 e Q q =>
  ha H1 e _ fun p H2 _ e2 hp => ⟨Or.inl ⟨rfl, _, sq_of hp⟩, hb H2 (e.trans e2) _ fun H3 e3 => ⟨p, ys, y, j, z, rfl, rfl, sq_of (e3 _ _ hp), fy, fa, hz, he, hn, q H3 (e2.trans e3)⟩⟩
theorem eu_tupA {K : PySem.W.Frag} {σ : L2.St} {H : Hp} {ta : TE} {p : Addr} {xs : List V} (ha : Ev ta σ H (.ref p)) (h : SqL K H p xs) : EvU (tCB (rTupS K) (tCons ta tNil)) σ H xs := fun H1 e Q q =>
  ha H1 e _ fun H2 e2 => ⟨p, xs, rfl, Or.inl ⟨ex_l (e.trans e2) h, fun l nl => q l _ (fresh_back e2 nl) (e2.trans (Ex.new nl)) upd_same⟩⟩
/-! ### values known as data -/
section
variable {K : PySem.W.Frag} {σ : L2.St} {H : Hp} {ta tb te : TE} {r : R2}
def EvD (K : PySem.W.Frag) (te : TE) (σ : L2.St) (H : Hp) (d : PyData) : Prop := EvG te σ H (fun v H' => Dp K H' v d)
theorem Ev.d {v : V} {d : PyData} (h : Ev te σ H v) (hd : ∀ H, Dp K H v d) : EvD K te σ H d := fun H1 e Q q => h H1 e Q fun H2 e2 => q v H2 e2 (hd H2)
theorem Ev.dAt {v : V} {d : PyData} (h : Ev te σ H v) (hd : Dp K H v d) : EvD K te σ H d := fun H1 e Q q => h H1 e Q fun H2 e2 => q v H2 e2 (dp_ex (e.trans e2) hd)
theorem EvU.d {xs : List V} {ds : List PyData} (h : EvU te σ H xs) (hd : ∀ H, DpAll K H xs ds) : EvD K te σ H (.tuple ds) := fun H1 e Q q => h H1 e Q fun p H2 _ e2 hp => q _ H2 e2 (.tup (st_of hp) (hd H2))
theorem evG_tup2 {P1 P2 : V → Hp → Prop} (h1 : EvG ta σ H P1) (m1 : ∀ v H1 H2, Ex H1 H2 → P1 v H1 → P1 v H2) (h2 : EvG tb σ H P2) (m2 : ∀ v H1 H2, Ex H1 H2 → P2 v H1 → P2 v H2) :
    EvG (tTup (tCons ta (tCons tb tNil))) σ H (fun v H' => ∃ p a c, v = .ref p ∧ H p = none ∧ H' p = some (.tup [a, c]) ∧ P1 a H' ∧ P2 c H') := fun H1 e Q q =>
  h1 H1 e _ fun a H2 e2 p1 => h2 H2 (e.trans e2) _ fun c H3 e3 p2 => ⟨(by decide : 2 ≤ sizeLine), fun p np =>
    q _ _ ((e2.trans e3).trans (Ex.new np)) ⟨p, a, c, rfl, fresh_back ((e.trans e2).trans e3) np, upd_same, m1 _ _ _ (e3.trans (Ex.new np)) p1, m2 _ _ _ (Ex.new np) p2⟩⟩
theorem evD_tup2 {d1 d2 : PyData} (h1 : EvD K ta σ H d1) (h2 : EvD K tb σ H d2) : EvD K (tTup (tCons ta (tCons tb tNil))) σ H (.tuple [d1, d2]) :=
  (evG_tup2 h1 (fun _ _ _ e h => dp_ex e h) h2 (fun _ _ _ e h => dp_ex e h)).imp fun v H1 _ ⟨p, a, c, ev, _, hp, d1, d2⟩ => by
    subst ev
    exact .tup (st_of hp) (.cons d1 (.cons d2 .nil))
theorem et_neD {d : PyData} (h1 : EvD K ta σ H d) (h2 : EvD K tb σ H d) (sh : SeqAt.shaped d = true) : EvT (tTest (tOp (rNeD K) ta tb)) σ H false :=
  et_test (opG h1 (fun _ _ _ e h => dp_ex e h) h2 fun a c H1 _ da dc => rv_neS da dc sh)
theorem evG_op {P1 P2 P : V → Hp → Prop} (h1 : EvG ta σ H P1) (m1 : ∀ v H1 H2, Ex H1 H2 → P1 v H1 → P1 v H2) (h2 : EvG tb σ H P2) (hr : ∀ a c H1, Ex H H1 → P1 a H1 → P2 c H1 → ∀ Q : VK, (∀ v H2, Ex H1 H2 → P v H2 → Q v H2) → r a c H1 Q) : EvG (tOp r ta tb) σ H P := fun H1 e Q q =>
  h1 H1 e _ fun a H2 e2 p1 => h2 H2 (e.trans e2) _ fun c H3 e3 p2 => hr a c H3 ((e.trans e2).trans e3) (m1 _ _ _ e3 p1) p2 Q fun v H4 e4 p => q v H4 ((e2.trans e3).trans e4) p
theorem el_rep1 {x : V} {c : Bool} (ha : EvL ta σ H [x]) (hb : Ev tb σ H (.int (if c then 1 else 0))) : EvL (tOp rRep ta tb) σ H (if c then [x] else []) := fun H1 e Q q =>
  ha H1 e _ fun p H2 np e2 hp => hb H2 (e.trans e2) _ fun H3 e3 => ⟨p, _, [x], rfl, rfl, e3 _ _ hp, by split <;> decide, by split <;> decide, by split <;> first | (show 1 ≤ sizeLine; decide) | (show 0 ≤ sizeLine; decide), fun l nl => by
    refine q l _ (fresh_back (e2.trans e3) nl) ((e2.trans e3).trans (Ex.new nl)) ?_
    rw [upd_same]
    cases c <;> rfl⟩
theorem ev_lenSet {ns : List Int} {p : Addr} (ha : Ev ta σ H (.ref p)) (h : SqL K H p (ns.map V.int)) (nd : ns.Nodup) (hl : ns.length ≤ 4000) : Ev (RZ.tLenSetI K ta) σ H (.int ((ns.length : Nat) : Int)) := fun H1 e Q q =>
  ha H1 e _ fun H2 e2 => ⟨p, ns, rfl, ex_l (e.trans e2) h, nd, hl, q H2 e2⟩
end
/-! ### all rows and all words -/
def wordsN (b : Nat) : List Nat := (List.range (2 ^ b)).map (cod b)
theorem pw_bit : ∀ p, p < 40 → isPw p = true → ∀ k, k < 6 → p.testBit k = true → p = 2 ^ k := by decide +kernel
theorem pw_form : ∀ p, p < 40 → isPw p = true → p = 0 ∨ ∃ k, k < 6 ∧ p = 2 ^ k := by decide +kernel
theorem len1 {α : Type} {q : α} : ∀ {l : List α}, l.Nodup → q ∈ l → (∀ p ∈ l, p = q) → l.length = 1
  | [], _, h, _ => nomatch h
  | [a], _, _, _ => rfl
  | a :: c :: r, nd, _, h => by
    have h1 := h a List.mem_cons_self
    have h2 := h c (List.mem_cons_of_mem _ List.mem_cons_self)
    rw [h1, h2] at nd
    exact absurd List.mem_cons_self (List.nodup_cons.mp nd).1
theorem no_pow {l : List Nat} (nd : l.Nodup) (hp : ∀ p ∈ l, p < 40 ∧ isPw p = true) (hs : sx l = 0) : ∀ p ∈ l, p = 0 := fun p h => by
  rcases pw_form p (hp p h).1 (hp p h).2 with h0 | ⟨k, hk, e⟩
  · exact h0
  · have t := tb_sx k l
    rw [hs] at t
    have e1 : (l.filter fun p => p.testBit k).length = 1 := by
      refine len1 (q := p) (List.Nodup.sublist List.filter_sublist nd) (List.mem_filter.mpr ⟨h, by rw [e, Nat.testBit_two_pow]; simp⟩) fun z hz => ?_
      have hz := List.mem_filter.mp hz
      rw [e]
      exact pw_bit z (hp z hz.1).1 (hp z hz.1).2 k hk hz.2
    rw [e1] at t
    simp at t
theorem is_word {b n : Nat} (h4 : 4 ≤ b) (h32 : b ≤ 32) (hn : n < 2 ^ pl b) : n ∈ wordsN b ↔ (spotN (pl b) n = 0 ∧ parB (pl b) n = false) := by
  have hpl := pl_le h32
  constructor
  · intro h
    obtain ⟨v, _, rfl⟩ := List.mem_map.mp h
    exact ⟨cod_spot h4 h32, cod_par h4 h32⟩
  · rintro ⟨hs, hp⟩
    have hv : valN b n < 2 ^ b := row_lt (List.Nodup.sublist List.filter_sublist List.nodup_range) fun p hp => List.mem_range.mp (List.mem_filter.mp hp).1
    refine List.mem_map.mpr ⟨valN b n, List.mem_range.mpr hv, ?_⟩
    have cl := cod_lt (v := valN b n) h4 h32
    have hx : n ^^^ cod b (valN b n) < 2 ^ pl b := Nat.xor_lt_two_pow hn cl
    have sx0 : sx (bs (pl b) (n ^^^ cod b (valN b n))) = 0 := by
      show spotN _ _ = 0
      rw [spot_xor cl, hs, cod_spot h4 h32]; rfl
    have px : parB (pl b) (n ^^^ cod b (valN b n)) = false := by rw [par_xor cl, hp, cod_par h4 h32]; rfl
    have pw : ∀ p ∈ bs (pl b) (n ^^^ cod b (valN b n)), p < 40 ∧ isPw p = true := fun p hp => by
      have hm := bs_mem.mp hp
      refine ⟨by omega, ?_⟩
      cases e : isPw p with
      | true => rfl
      | false =>
        have hd : p ∈ dtN b := List.mem_filter.mpr ⟨List.mem_range.mpr hm.1, by rw [e]; rfl⟩
        obtain ⟨i, hi, ei⟩ := List.getElem_of_mem hd
        have hib : i < b := by have := dt_len b (by omega) h4; omega
        have ed : dt b i = p := by
          have := dt_at h4 h32 hib
          rw [List.getElem?_eq_getElem hi, ei] at this
          exact (Option.some.inj this).symm
        have t := hm.2
        rw [← ed, Nat.testBit_xor, cod_data h4 h32 hib] at t
        unfold valN at t
        rw [tb_row (List.Nodup.sublist List.filter_sublist List.nodup_range)] at t
        have iff : (i ∈ (List.range b).filter fun i => n.testBit (dt b i)) ↔ n.testBit (dt b i) = true := by
          rw [List.mem_filter, List.mem_range]
          exact ⟨fun z => z.2, fun z => ⟨hib, z⟩⟩
        cases c : n.testBit (dt b i) with
        | true => rw [c, decide_eq_true (iff.mpr c)] at t; cases t
        | false => rw [c, decide_eq_false (fun z => by rw [iff.mp z] at c; cases c)] at t; cases t
    have all0 := no_pow (bs_nodup _ _) pw sx0
    have nil : bs (pl b) (n ^^^ cod b (valN b n)) = [] := by
      have nd := bs_nodup (pl b) (n ^^^ cod b (valN b n))
      unfold parB at px
      have px := of_decide_eq_false px
      cases h : bs (pl b) (n ^^^ cod b (valN b n)) with
      | nil => rfl
      | cons a r =>
        rw [h] at nd px all0
        have := len1 (q := 0) nd (by rw [← all0 a List.mem_cons_self]; exact List.mem_cons_self) all0
        rw [this] at px
        exact absurd rfl px
    have e := row_bs hx
    rw [nil] at e
    exact (xor0 e.symm).symm
/-- what is due of a row -/
def dueD (b n : Nat) : PyData := if parB (pl b) n then (if spotN (pl b) n < pl b then .tuple [.tuple [.str "one", .int ((spotN (pl b) n : Nat) : Int)], .int ((flip n [spotN (pl b) n] : Nat) : Int)] else .tuple [.tuple [.str "more", .none], .none])
  else (if spotN (pl b) n = 0 then .tuple [.tuple [.str "clean", .none], .int (n : Int)] else .tuple [.tuple [.str "more", .none], .none])
def stD (b n : Nat) : PyData := if parB (pl b) n then (if spotN (pl b) n < pl b then .tuple [.str "one", .int ((spotN (pl b) n : Nat) : Int)] else .tuple [.str "more", .none]) else (if spotN (pl b) n = 0 then .tuple [.str "clean", .none] else .tuple [.str "more", .none])
def meD (b n : Nat) : PyData := if parB (pl b) n then (if spotN (pl b) n < pl b then .int ((flip n [spotN (pl b) n] : Nat) : Int) else .none) else (if spotN (pl b) n = 0 then .int (n : Int) else .none)
theorem due_eq (b n : Nat) : dueD b n = .tuple [stD b n, meD b n] := by
  unfold dueD stD meD
  split <;> split <;> rfl
theorem due_sh (b n : Nat) : SeqAt.shaped (dueD b n) = true := by
  have s1 : PyData.strOk ("one" : Str) = true := by decide +kernel
  have s2 : PyData.strOk ("more" : Str) = true := by decide +kernel
  have s3 : PyData.strOk ("clean" : Str) = true := by decide +kernel
  unfold dueD
  split <;> split
  · exact (Lay.tuple (n := 4) (.cons (.tuple (n := 3) (.cons (.str s1) (.cons (.int _) .nil))) (.cons (.int _) .nil))).sh
  · exact (Lay.tuple (n := 4) (.cons (.tuple (n := 3) (.cons (.str s2) (.cons .none .nil))) (.cons .none .nil))).sh
  · exact (Lay.tuple (n := 4) (.cons (.tuple (n := 3) (.cons (.str s3) (.cons .none .nil))) (.cons (.int _) .nil))).sh
  · exact (Lay.tuple (n := 4) (.cons (.tuple (n := 3) (.cons (.str s2) (.cons .none .nil))) (.cons .none .nil))).sh
theorem st_dp {K : PySem.W.Frag} (b n : Nat) : ∃ ds, stD b n = .tuple ds ∧ ∀ H, DpAll K H (stV b n) ds := by
  unfold stD stV
  split <;> split
  · exact ⟨_, rfl, fun H => .cons (.str _) (.cons (.int _) .nil)⟩
  · exact ⟨_, rfl, fun H => .cons (.str _) (.cons .non .nil)⟩
  · exact ⟨_, rfl, fun H => .cons (.str _) (.cons .non .nil)⟩
  · exact ⟨_, rfl, fun H => .cons (.str _) (.cons .non .nil)⟩
theorem me_dp {K : PySem.W.Frag} (b n : Nat) (H : Hp) : Dp K H (menV b n) (meD b n) := by
  unfold meD menV
  split <;> split
  · exact .int _
  · exact .non
  · exact .int _
  · exact .non
/-- a place turned in a list of places -/
def togg (l : List Nat) (p : Nat) : List Nat := l.filter (fun m => !decide (m = p)) ++ (if p ∉ l then [p] else [])
theorem togg_nodup {l : List Nat} {p : Nat} (nd : l.Nodup) : (togg l p).Nodup := by
  unfold togg
  refine List.nodup_append.mpr ⟨List.Nodup.sublist List.filter_sublist nd, by split <;> simp, fun a ha c hc e => ?_⟩
  split at hc
  · rename_i h
    rw [List.mem_singleton.mp hc] at e
    exact h (e ▸ (List.mem_filter.mp ha).1)
  · cases hc
theorem togg_mem {l : List Nat} {p q : Nat} : q ∈ togg l p ↔ ((q ∈ l ∧ q ≠ p) ∨ (q = p ∧ p ∉ l)) := by
  unfold togg
  rw [List.mem_append, List.mem_filter]
  by_cases h : p ∈ l
  · rw [if_neg (fun z => z h)]
    constructor
    · rintro (⟨a, c⟩ | z)
      · exact Or.inl ⟨a, fun e => by rw [decide_eq_true e] at c; cases c⟩
      · cases z
    · rintro (⟨a, c⟩ | ⟨_, z⟩)
      · exact Or.inl ⟨a, by rw [decide_eq_false c]; rfl⟩
      · exact absurd h z
  · rw [if_pos h]
    constructor
    · rintro (⟨a, c⟩ | z)
      · exact Or.inl ⟨a, fun e => by rw [decide_eq_true e] at c; cases c⟩
      · exact Or.inr ⟨List.mem_singleton.mp z, h⟩
    · rintro (⟨a, c⟩ | ⟨e, _⟩)
      · exact Or.inl ⟨a, by rw [decide_eq_false c]; rfl⟩
      · rw [e]; exact Or.inr (List.mem_singleton.mpr rfl)
theorem togg_row {l : List Nat} {p : Nat} (nd : l.Nodup) : rowOf (togg l p) = rowOf l ^^^ 2 ^ p := by
  refine Nat.eq_of_testBit_eq fun q => ?_
  rw [tb_row (togg_nodup nd), tb_flip1, tb_row nd]
  by_cases h : q ∈ l <;> by_cases e : p = q
  · subst e
    rw [decide_eq_true h, decide_eq_true rfl, decide_eq_false]
    · rfl
    · intro z
      rcases togg_mem.mp z with z | z
      · exact z.2 rfl
      · exact z.2 h
  · rw [decide_eq_true h, decide_eq_false e, decide_eq_true (togg_mem.mpr (Or.inl ⟨h, fun z => e z.symm⟩))]
    rfl
  · subst e
    rw [decide_eq_false h, decide_eq_true rfl, decide_eq_true (togg_mem.mpr (Or.inr ⟨rfl, h⟩))]
    rfl
  · rw [decide_eq_false h, decide_eq_false e, decide_eq_false]
    · rfl
    · intro z
      rcases togg_mem.mp z with z | z
      · exact h z.1
      · exact e z.1.symm
theorem togg_len {l : List Nat} {p : Nat} : (togg l p).length ≤ l.length + 1 := by
  unfold togg
  rw [List.length_append]
  have := List.length_filter_le (fun m => !decide (m = p)) l
  split
  · show _ + 1 ≤ _; omega
  · show _ + 0 ≤ _; omega
theorem togg_iL (l : List Nat) (p : Nat) : (iL (l.filter (fun m => !decide (V.int (m : Int) = V.int (p : Int))))).map V.int ++ (if (!decide ((p : Int) ∈ iL l)) = true then [V.int (p : Int)] else []) = (iL (togg l p)).map V.int := by
  unfold togg
  rw [iL_app]
  congr 1
  · congr 2
    refine List.filter_congr fun m _ => ?_
    congr 1
    refine decide_eq_decide.mpr ⟨fun z => ?_, fun z => by rw [z]⟩
    injection z with z
    omega
  · by_cases h : p ∈ l
    · rw [decide_eq_true (mem_iL.mpr h), if_neg (by decide), if_neg (fun z => z h)]; rfl
    · rw [decide_eq_false (fun z => h (mem_iL.mp z)), if_pos (by decide), if_pos h]; rfl
def spLstate (K : PySem.W.Frag) : Sp := fun vs H Q _ => ∃ (wa : Addr) (b n : Nat), vs = [.ref wa, .int ((pl b : Nat) : Int), .int (n : Int)] ∧ 4 ≤ b ∧ b ≤ 7 ∧ n < 2 ^ pl b ∧ SqL K H wa ((iL (wordsN b)).map V.int) ∧ ∀ x H', Dp K H' x (dueD b n) → Ex H H' → Q x H'
theorem s_appG {K : PySem.W.Frag} {σ : L2.St} {H : Hp} {ta te : TE} {D : Ends} {l : Addr} {xs : List V} {P : V → Hp → Prop} (hl : H l = some (.lst xs)) (ha : Ev ta σ H (.ref l)) (h : EvG te σ H P) (hz : xs.length < 100000) (k : ∀ v H1, Ex H H1 → P v H1 → D.nx σ (upd H1 l (.lst (xs ++ [v])))) :
    tDrop (tBM K "list" rAppend ta (tCons te tNil)) D σ H := ha H (Ex.refl H) _ fun H1 e1 =>
  ⟨Or.inl ⟨rfl, xs, sq_of (e1 l _ hl)⟩, h H1 e1 _ fun v H2 e2 pv => ⟨l, xs, v, rfl, rfl, e2 l _ (e1 l _ hl), sz_lt hz, k v H2 (e1.trans e2) pv⟩⟩
end My
set_option Elab.async false
set_option linter.all false
set_option maxRecDepth 100000
set_option maxHeartbeats 1000000
/-! ### values of which a property is known: calls, choices; lists with a star -/
namespace My
open PySem PySem.Spec PyProof.Rows L2 Evl
section
variable {K : PySem.W.Frag} {σ : L2.St} {H : Hp} {ta tb te : TE} {t u : TT} {D : Ends} {tz tu : TS} {P : V → Hp → Prop}
def SpG (sp : Sp) (vs : List V) (H : Hp) (P : V → Hp → Prop) : Prop := ∀ H1, Ex H H1 → ∀ Q : VK, (∀ v H2, Ex H1 H2 → P v H2 → Q v H2) → ∀ E : XK, sp vs H1 Q E
theorem evG_call {sp : Sp} {dvs vs : List V} {E : XK} {tA : TA} (h : EvA tA σ H vs) (hs : SpG sp (vs ++ dvs) H P) : EvG (tCall sp dvs E tA) σ H P := fun H1 e Q q =>
  h H1 e _ fun H2 e2 => hs H2 (e.trans e2) Q (fun v H3 e3 p => q v H3 (e2.trans e3) p) E
theorem evG_callL {sp : Sp} {dvs xs : List V} {E : XK} (h : EvL te σ H xs) (hs : ∀ p H1, H1 p = some (.lst xs) → Ex H H1 → SpG sp ([.ref p] ++ dvs) H1 P) : EvG (tCall sp dvs E (tCons te tNil)) σ H P := fun H1 e Q q =>
  h H1 e _ fun p H2 _ e2 hp => hs p H2 hp (e.trans e2) H2 (Ex.refl _) Q (fun v H3 e3 p => q v H3 (e2.trans e3) p) E
theorem evG_if {b : Bool} (h : EvT t σ H b) (h1 : b = true → EvG ta σ H P) (h2 : b = false → EvG tb σ H P) : EvG (tIf t ta tb) σ H P := fun H1 e Q q => h H1 e _ fun H2 e2 => by
  cases b with
  | true => exact iteT (h1 rfl H2 (e.trans e2) Q fun v H3 e3 p => q v H3 (e2.trans e3) p)
  | false => exact iteF (h2 rfl H2 (e.trans e2) Q fun v H3 e3 p => q v H3 (e2.trans e3) p)
theorem EvU.gi {xs : List V} (h : EvU te σ H xs) (i : ∀ p H1, Ex H H1 → H1 p = some (.tup xs) → P (.ref p) H1) : EvG te σ H P := fun H1 e Q q => h H1 e Q fun p H2 _ e2 hp => q _ H2 e2 (i p H2 (e.trans e2) hp)
theorem EvL.gi {xs : List V} (h : EvL te σ H xs) (i : ∀ p H1, Ex H H1 → H1 p = some (.lst xs) → P (.ref p) H1) : EvG te σ H P := fun H1 e Q q => h H1 e Q fun p H2 _ e2 hp => q _ H2 e2 (i p H2 (e.trans e2) hp)
theorem Ev.gi {v : V} (h : Ev te σ H v) (i : ∀ H1, Ex H H1 → P v H1) : EvG te σ H P := fun H1 e Q q => h H1 e Q fun H2 e2 => q _ H2 e2 (i H2 (e.trans e2))
/-- tuple(a list) -/
theorem eu_tupleL {p : Addr} {xs : List V} (ha : Ev ta σ H (.ref p)) (h : SqL K H p xs) : EvU (tCB (rTupS K) (tCons ta tNil)) σ H xs := fun H1 e Q q =>
  ha H1 e _ fun H2 e2 => ⟨p, xs, rfl, Or.inl ⟨ex_l (e.trans e2) h, fun l nl => q l _ (fresh_back e2 nl) (e2.trans (Ex.new nl)) upd_same⟩⟩
theorem eu_tupleN {xs : List V} (h : EvL ta σ H xs) : EvU (tCB (rTupS K) (tCons ta tNil)) σ H xs := fun H1 e Q q =>
  h H1 e _ fun p H2 _ e2 hp => ⟨p, xs, rfl, Or.inl ⟨sq_of hp, fun l nl => q l _ (fresh_back e2 nl) (e2.trans (Ex.new nl)) upd_same⟩⟩
/-- list(a tuple) -/
theorem el_listU {p : Addr} {xs : List V} (ha : Ev ta σ H (.ref p)) (h : SqT K H p xs) : EvL (tCB (rListS K) (tCons ta tNil)) σ H xs := fun H1 e Q q =>
  ha H1 e _ fun H2 e2 => ⟨p, xs, rfl, Or.inr (ex_t (e.trans e2) h), fun l nl => q l _ (fresh_back e2 nl) (e2.trans (Ex.new nl)) upd_same⟩
/-- word, *words = .. -/
theorem q_star {i j : Nat} {x : V} {xs : List V} (h : EvL te σ H (x :: xs)) (k : ∀ p H1, Ex H H1 → H1 p = some (.lst xs) → tz D ((σ.set i (some x)).set j (some (.ref p))) H1) : tSeq (tAsg te (gStar K 1 (gCons (gName i) (gCons (gName j) gNil)))) tz D σ H :=
  h H (Ex.refl H) _ fun p0 H1 np e h1 => ⟨p0, _, rfl, sq_of h1, by simp, fun p nn => ⟨_, _, rfl, _, _, rfl, rfl, k p _ (e.trans (Ex.new nn)) upd_same⟩⟩
/-- a, b = a list -/
theorem q_unl2 {i j : Nat} {x y : V} (h : EvL te σ H [x, y]) (k : ∀ H1, Ex H H1 → tz D ((σ.set i (some x)).set j (some y)) H1) : tSeq (tAsg te (gUnl K 2 (gCons (gName i) (gCons (gName j) gNil)))) tz D σ H :=
  h H (Ex.refl H) _ fun p H1 np e h1 => ⟨p, _, rfl, sq_of h1, rfl, _, _, rfl, _, _, rfl, rfl, k H1 e⟩
/-- names from a tuple -/
theorem q_unt3 {a : Addr} {i j l : Nat} {x y z : V} (h : Ev te σ H (.ref a)) (hs : SqT K H a [x, y, z]) (k : ∀ H1, Ex H H1 → tz D (((σ.set i (some x)).set j (some y)).set l (some z)) H1) : tSeq (tAsg te (gTup K 3 (gCons (gName i) (gCons (gName j) (gCons (gName l) gNil))))) tz D σ H :=
  h H (Ex.refl H) _ fun H1 e => ⟨a, _, rfl, ex_t e hs, rfl, _, _, rfl, _, _, rfl, _, _, rfl, rfl, k H1 e⟩
theorem q_unt5 {a : Addr} {i j l m n : Nat} {x y z v w : V} (h : Ev te σ H (.ref a)) (hs : SqT K H a [x, y, z, v, w]) (k : ∀ H1, Ex H H1 → tz D (((((σ.set i (some x)).set j (some y)).set l (some z)).set m (some v)).set n (some w)) H1) :
    tSeq (tAsg te (gTup K 5 (gCons (gName i) (gCons (gName j) (gCons (gName l) (gCons (gName m) (gCons (gName n) gNil))))))) tz D σ H :=
  h H (Ex.refl H) _ fun H1 e => ⟨a, _, rfl, ex_t e hs, rfl, _, _, rfl, _, _, rfl, _, _, rfl, _, _, rfl, _, _, rfl, rfl, k H1 e⟩
theorem ea_star {p : Addr} {xs ys : List V} {tA : TA} (h : Ev te σ H (.ref p)) (hs : SqT K H p xs ∨ SqL K H p xs) (h2 : EvA tA σ H ys) : EvA (StX.tStar K te tA) σ H (xs ++ ys) := fun H1 e Q q =>
  h H1 e _ fun H2 e2 => ⟨p, xs, rfl, hs.imp (ex_t (e.trans e2)) (ex_l (e.trans e2)), h2 H2 (e.trans e2) _ fun H3 e3 => q H3 (e2.trans e3)⟩
/-- text.split(" ") -/
theorem el_split {x : Str} {r : V → List V → Hp → VK → Prop} (hr : ∀ H1 Q, (∀ p, H1 p = none → Q (.ref p) (upd H1 p (.lst ((Txt.split x blank).map V.str)))) → r (.str x) [.str blank] H1 Q) (h : Ev ta σ H (.str x)) (h2 : Ev tb σ H (.str blank)) : EvL (tBM K "str" r ta (tCons tb tNil)) σ H ((Txt.split x blank).map V.str) := fun H1 e Q q =>
  h H1 e _ fun H2 e2 => ⟨rfl, h2 H2 (e.trans e2) _ fun H3 e3 => hr H3 _ fun p np => q p _ (fresh_back (e2.trans e3) np) ((e2.trans e3).trans (Ex.new np)) upd_same⟩
/-- " ".join(a list) -/
theorem ev_joinN {b : Str} {ys : List Str} {r : V → List V → Hp → VK → Prop} (hr : ∀ p H1 Q, H1 p = some (.lst (ys.map V.str)) → Q (.str (Txt.join b ys)) H1 → r (.str b) [.ref p] H1 Q) (h : Ev ta σ H (.str b)) (h2 : EvL tb σ H (ys.map V.str)) : Ev (tBM K "str" r ta (tCons tb tNil)) σ H (.str (Txt.join b ys)) := fun H1 e Q q =>
  h H1 e _ fun H2 e2 => ⟨rfl, h2 H2 (e.trans e2) _ fun p H3 _ e3 hp => hr p H3 _ hp (q H3 (e2.trans e3))⟩
theorem ev_joinL {b : Str} {p : Addr} {ys : List Str} {r : V → List V → Hp → VK → Prop} (hr : ∀ H1 Q, Ex H H1 → Q (.str (Txt.join b ys)) H1 → r (.str b) [.ref p] H1 Q) (h : Ev ta σ H (.str b)) (h2 : Ev tb σ H (.ref p)) : Ev (tBM K "str" r ta (tCons tb tNil)) σ H (.str (Txt.join b ys)) := fun H1 e Q q =>
  h H1 e _ fun H2 e2 => ⟨rfl, h2 H2 (e.trans e2) _ fun H3 e3 => hr H3 _ ((e.trans e2).trans e3) (q H3 (e2.trans e3))⟩
end
theorem Dp.tup_inv {K : PySem.W.Frag} {H : Hp} {v : V} {ds : List PyData} (h : Dp K H v (.tuple ds)) : ∃ a xs, v = .ref a ∧ SqT K H a xs ∧ DpAll K H xs ds := by
  cases h with
  | tup hs hd => exact ⟨_, _, rfl, hs, hd⟩
theorem Dp.str_inv {K : PySem.W.Frag} {H : Hp} {v : V} {x : Str} (h : Dp K H v (.str x)) : v = .str x := by cases h; rfl
theorem Dp.int_inv {K : PySem.W.Frag} {H : Hp} {v : V} {x : Int} (h : Dp K H v (.int x)) : v = .int x := by cases h; rfl
theorem DpAll.cons_inv {K : PySem.W.Frag} {H : Hp} {vs : List V} {d : PyData} {ds : List PyData} (h : DpAll K H vs (d :: ds)) : ∃ v r, vs = v :: r ∧ Dp K H v d ∧ DpAll K H r ds := by
  cases h with
  | cons a b => exact ⟨_, _, rfl, a, b⟩
theorem DpAll.nil_inv {K : PySem.W.Frag} {H : Hp} {vs : List V} (h : DpAll K H vs []) : vs = [] := by cases h; rfl
theorem DpAll.texts_inv {K : PySem.W.Frag} {H : Hp} : ∀ {vs : List V} {xs : List Str}, DpAll K H vs (xs.map .str) → vs = xs.map V.str
  | _, [], h => DpAll.nil_inv h
  | _, x :: xs, h => by
    obtain ⟨v, r, rfl, a, b⟩ := DpAll.cons_inv h
    rw [Dp.str_inv a, DpAll.texts_inv b]
    rfl
end My
set_option Elab.async false
set_option linter.all false
set_option maxRecDepth 100000
set_option maxHeartbeats 1000000
/-! ### drawn names; texts repeated, cut; lots by their neighbours -/
namespace My
open PySem PySem.Spec PyProof.Rows L2 Evl
def rMulS : R2 := fun x y H Q => ∃ (a : Str) (n : Int), x = .str a ∧ y = .int n ∧ MulOk a n ∧ Q (.str (Txt.mul a n)) H
theorem op_mulS {X : Cx} : OpR X (binaryOp .Mult) rMulS := by
  intro pins s σ H x y u v Q I rx ry h
  obtain ⟨a, n, rfl, rfl, ok, q⟩ := h
  obtain ⟨t, rfl⟩ := rx
  obtain ⟨t2, rfl⟩ := ry
  exact SB.mul ok fun t' k => ⟨.str _, H, I.tok _, ⟨_, rfl⟩, q⟩
theorem tl_cut_to (x : Str) (k : Nat) : TL.tl (cutS x none (some (k : Int))) = (TL.tl x).take k := by
  show TL.tl ⟨_⟩ = _
  rw [TL.tl_mk, HT.sIx_none, HT.sIx_nat, List.drop_zero, Nat.sub_zero]
  show List.take (min k x.length) (TL.tl x) = _
  rw [TL.len_tl]
  by_cases h : k ≤ (TL.tl x).length
  · rw [Nat.min_eq_left h]
  · rw [Nat.min_eq_right (by omega), List.take_of_length_le (Nat.le_refl _), List.take_of_length_le (by omega)]
theorem tl_cut_from (x : Str) (k : Nat) : TL.tl (cutS x (some (k : Int)) none) = (TL.tl x).drop k := by
  show TL.tl ⟨_⟩ = _
  rw [TL.tl_mk, HT.sIx_none, HT.sIx_nat]
  show List.take (x.length - min k x.length) (List.drop (min k x.length) (TL.tl x)) = _
  rw [TL.len_tl]
  by_cases h : k ≤ (TL.tl x).length
  · rw [Nat.min_eq_left h, List.take_of_length_le (by rw [List.length_drop]; omega)]
  · rw [Nat.min_eq_right (by omega), List.drop_of_length_le (Nat.le_refl _), List.drop_of_length_le (by omega), List.take_nil]
/-! the drawn names -/
def sgL : List Nat := signs.cps.toList
def al (i : Nat) : Nat := sgL.getD (i % 36) 0
theorem sgL_len : sgL.length = 36 := by decide +kernel
theorem sgL_nodup : sgL.Nodup := by decide +kernel
theorem al_mem (i : Nat) : al i ∈ sgL := by
  unfold al
  have h : i % 36 < sgL.length := by rw [sgL_len]; exact Nat.mod_lt _ (by decide)
  rw [List.getD_eq_getElem?_getD, List.getElem?_eq_getElem h]
  exact List.getElem_mem h
theorem al_inj {i j : Nat} (h : al i = al j) : i % 36 = j % 36 := by
  unfold al at h
  have h1 : i % 36 < sgL.length := by rw [sgL_len]; exact Nat.mod_lt _ (by decide)
  have h2 : j % 36 < sgL.length := by rw [sgL_len]; exact Nat.mod_lt _ (by decide)
  rw [List.getD_eq_getElem?_getD, List.getElem?_eq_getElem h1, List.getD_eq_getElem?_getD, List.getElem?_eq_getElem h2] at h
  have pw := List.pairwise_iff_getElem.mp sgL_nodup
  rcases Nat.lt_trichotomy (i % 36) (j % 36) with lt | e | gt
  · exact absurd h (pw _ _ h1 h2 lt)
  · exact e
  · exact absurd h.symm (pw _ _ h2 h1 gt)
def baseL (n : Nat) : List Nat := (List.range (n % 12)).map fun k => al (n + 7 * k * k)
def ownL (n k : Nat) : List Nat := if (n / 144 + k) % 3 = 0 then (baseL n).drop 1 else baseL n
def spN (n k : Nat) : Nat := min (n / 12 % ((baseL n).length + 1)) (ownL n k).length
def nmL (n k : Nat) : List Nat := (ownL n k).take (spN n k) ++ [al (n / 11 + 5 * k)] ++ (ownL n k).drop (spN n k)
def nm (n k : Nat) : Str := ⟨(nmL n k).toArray⟩
theorem baseL_len (n : Nat) : (baseL n).length ≤ 11 := by
  unfold baseL
  rw [List.length_map, List.length_range]
  have := Nat.mod_lt n (show 12 > 0 by decide)
  omega
theorem baseL_mem (n : Nat) : ∀ c ∈ baseL n, c ∈ sgL := by
  intro c hc
  unfold baseL at hc
  obtain ⟨k, _, rfl⟩ := List.mem_map.mp hc
  exact al_mem _
theorem ownL_mem (n k : Nat) : ∀ c ∈ ownL n k, c ∈ sgL := by
  intro c hc
  unfold ownL at hc
  split at hc
  · exact baseL_mem n c (List.mem_of_mem_drop hc)
  · exact baseL_mem n c hc
theorem ownL_len (n k : Nat) : (ownL n k).length ≤ 11 := by
  have := baseL_len n
  unfold ownL
  split
  · rw [List.length_drop]; omega
  · exact this
theorem nmL_len (n k : Nat) : (nmL n k).length = (ownL n k).length + 1 := by
  unfold nmL
  rw [List.length_append, List.length_append, List.length_take, List.length_drop, List.length_singleton]
  have : spN n k ≤ (ownL n k).length := Nat.min_le_right _ _
  omega
theorem nmL_mem (n k : Nat) : ∀ c ∈ nmL n k, c ∈ sgL := by
  intro c hc
  unfold nmL at hc
  rcases List.mem_append.mp hc with hc | hc
  · rcases List.mem_append.mp hc with hc | hc
    · exact ownL_mem n k c (List.mem_of_mem_take hc)
    · rw [List.mem_singleton.mp hc]; exact al_mem _
  · exact ownL_mem n k c (List.mem_of_mem_drop hc)
theorem tl_nm (n k : Nat) : TL.tl (nm n k) = nmL n k := TL.tl_mk _
theorem nm_len (n k : Nat) : (nm n k).length = (ownL n k).length + 1 := by rw [TL.len_tl, tl_nm, nmL_len]
theorem nm_name (n k : Nat) : isName (nm n k) = true := by
  unfold isName
  rw [Bool.and_eq_true, decide_eq_true_eq]
  have := nm_len n k
  have := ownL_len n k
  refine ⟨by omega, List.all_eq_true.mpr fun c hc => decide_eq_true ?_⟩
  have e : c ∈ TL.tl (nm n k) := hc
  rw [tl_nm] at e
  exact nmL_mem n k c e
theorem isName_gt {x : Str} (h : isName x = true) : Gt 12 x := by
  unfold isName at h
  rw [Bool.and_eq_true, decide_eq_true_eq] at h
  refine ⟨(strOk_iff x).mpr fun c hc => ?_, h.1.2⟩
  have := of_decide_eq_true (List.all_eq_true.mp h.2 c hc)
  have all : ∀ c ∈ sgL, c < 1114112 := by decide +kernel
  exact all c this
theorem nm_inj {n k j : Nat} (hk : k < 9) (hj : j < 9) (h : nm n k = nm n j) : k = j := by
  have e : nmL n k = nmL n j := by rw [← tl_nm, ← tl_nm, h]
  have el : (ownL n k).length = (ownL n j).length := by
    have := congrArg List.length e
    rw [nmL_len, nmL_len] at this
    omega
  have eo : ownL n k = ownL n j := by
    unfold ownL at el ⊢
    by_cases h1 : (n / 144 + k) % 3 = 0 <;> by_cases h2 : (n / 144 + j) % 3 = 0
    · rw [if_pos h1, if_pos h2]
    · rw [if_pos h1, if_neg h2, List.length_drop] at el
      rw [if_pos h1, if_neg h2]
      have : baseL n = [] := List.length_eq_zero_iff.mp (by omega)
      rw [this]; rfl
    · rw [if_neg h1, if_pos h2, List.length_drop] at el
      rw [if_neg h1, if_pos h2]
      have : baseL n = [] := List.length_eq_zero_iff.mp (by omega)
      rw [this]; rfl
    · rw [if_neg h1, if_neg h2]
  have es : spN n k = spN n j := by unfold spN; rw [eo]
  unfold nmL at e
  rw [eo, es, List.append_assoc, List.append_assoc] at e
  have e2 := List.append_cancel_left e
  have e3 : al (n / 11 + 5 * k) = al (n / 11 + 5 * j) := by
    simpa using e2
  have := al_inj e3
  omega
theorem nms_nodup (n m : Nat) (hm : m ≤ 9) : ((List.range m).map (nm n)).Nodup := by
  refine List.pairwise_map.mpr (List.Pairwise.imp_of_mem (fun {i j} hi hj (hij : i ≠ j) e => ?_) List.nodup_range)
  have := List.mem_range.mp hi
  have := List.mem_range.mp hj
  exact hij (nm_inj (by omega) (by omega) e)
/-! lots by their neighbours -/
theorem chain_rises : ∀ {x : Str} {xs : List Str}, (∀ i a b, (x :: xs)[i]? = some a → (x :: xs)[i + 1]? = some b → ltCps a.cps.toList b.cps.toList = true) → Rises (x :: xs)
  | x, [], _ => List.pairwise_cons.mpr ⟨fun _ h => (nomatch h), .nil⟩
  | x, y :: r, h => by
    have rr : Rises (y :: r) := chain_rises fun i a b h1 h2 => h (i + 1) a b h1 h2
    have xy := h 0 x y rfl rfl
    refine List.pairwise_cons.mpr ⟨fun z hz => ?_, rr⟩
    rcases List.mem_cons.mp hz with rfl | later
    · exact xy
    · exact lt_tr _ _ _ xy ((List.pairwise_cons.mp rr).1 z later)
theorem rises_chain {xs : List Str} (h : Rises xs) {i : Nat} {a b : Str} (h1 : xs[i]? = some a) (h2 : xs[i + 1]? = some b) : ltCps a.cps.toList b.cps.toList = true := by
  obtain ⟨hi, rfl⟩ := List.getElem?_eq_some_iff.mp h1
  obtain ⟨hj, rfl⟩ := List.getElem?_eq_some_iff.mp h2
  exact List.pairwise_iff_getElem.mp h i (i + 1) hi hj (by omega)
theorem lt_iff : ∀ x y : List Nat, ltCps x y = true ↔ x < y
  | [], [] => by simp [ltCps]
  | [], _ :: _ => by simp [ltCps]
  | _ :: _, [] => by simp [ltCps]
  | a :: x, b :: y => by
    rw [ltCps]
    simp only [Bool.or_eq_true, Bool.and_eq_true, decide_eq_true_eq, beq_iff_eq]
    rw [List.cons_lt_cons_iff, lt_iff x y]
end My
namespace My
open PySem PySem.Spec PyProof.Rows L2 Evl
theorem el_lcR2 {σ : L2.St} {H : Hp} {te : TE} {t : TT} {tA : TA} {j : Nat} {vs : List Nat} {lo hi : Int} (f : Nat → Bool) (v : Nat → V) (h : EvA tA σ H [.int lo, .int hi]) (hb : -100000 ≤ lo ∧ lo ≤ 100000 ∧ -100000 ≤ hi ∧ hi ≤ 100000) (hz : (hi - lo).toNat ≤ 40000) (hw : ∀ x, wipe ((wipe σ vs).set j (some x)) vs = wipe σ vs)
    (ht : ∀ (i : Nat) (H1 : Hp), Ex H H1 → i < (hi - lo).toNat → EvT t ((wipe σ vs).set j (some (.int (lo + (i : Int))))) H1 (f i)) (he : ∀ (i : Nat) (H1 : Hp), Ex H H1 → i < (hi - lo).toNat → f i = true → Ev te ((wipe σ vs).set j (some (.int (lo + (i : Int))))) H1 (v i)) :
    EvL (tLc (iRng2 tA) (gName j) t te vs) σ H (given (hi - lo).toNat f v) := fun H0 e Q q => h H0 e _ fun H1 e1 => ⟨lo, hi, rfl, by omega, fun Dl hD =>
  lc_range (Cw H1 f v Dl) ⟨hD, Ex.new hD, upd_same⟩ (fun i H' hi p => ⟨hw _, cw_turn p (by omega) (ht i H1 (e.trans e1) hi) fun hf => he i H1 (e.trans e1) hi hf⟩) fun H' p => q Dl H' (fresh_back e1 p.1) (e1.trans p.2.1) p.2.2⟩
theorem ev_anyL {K : PySem.W.Frag} {σ : L2.St} {H : Hp} {bs : List Bool} {ta : TE} (ha : EvL ta σ H (bs.map V.bl)) : Ev (tCB (rAny K) (tCons ta tNil)) σ H (.bl (bs.any id)) := fun H1 e Q q =>
  ha H1 e _ fun p H2 _ e2 hp => ⟨p, bs, rfl, sq_of hp, q H2 e2⟩
theorem rdNum_some {x : Str} {k : Nat} {n : Int} (h : rdNum x k = some n) : numSigns x k = true ∧ nought x = false ∧ n = numOf x := by
  unfold rdNum at h
  split at h
  · rename_i hc
    rw [Bool.and_eq_true, Bool.not_eq_true'] at hc
    exact ⟨hc.1, hc.2, (Option.some.inj h).symm⟩
  · cases h
theorem numSigns_len {x : Str} {k : Nat} (h : numSigns x k = true) : 1 ≤ x.length ∧ x.length ≤ k := by
  unfold numSigns at h
  rw [Bool.and_eq_true, decide_eq_true_eq] at h
  exact h.1
/-- no neighbours of a row of texts stand the wrong way round -/
def upset (on : List Str) (i : Nat) : Bool := !decide ((on.getD i Str.empty).cps.toList < (on.getD (i + 1) Str.empty).cps.toList)
theorem upset_rises (on : List Str) : ((List.range (on.length - 1)).map (upset on)).any id = !decide (Rises on) := by
  rw [List.any_map]
  have at_ : ∀ {i : Nat}, (hi : i < on.length) → on.getD i Str.empty = on[i] := fun hi => by rw [List.getD_eq_getElem?_getD, List.getElem?_eq_getElem hi]; rfl
  by_cases h : Rises on
  · rw [decide_eq_true h]
    refine List.any_eq_false.mpr fun i hi => ?_
    have hi := List.mem_range.mp hi
    have r := rises_chain h (i := i) (List.getElem?_eq_getElem (show i < on.length by omega)) (List.getElem?_eq_getElem (show i + 1 < on.length by omega))
    show ¬ (upset on i = true)
    unfold upset
    rw [at_ (show i < on.length by omega), at_ (show i + 1 < on.length by omega), decide_eq_true ((lt_iff _ _).mp r)]
    decide
  · rw [decide_eq_false h]
    show _ = true
    rw [← Bool.not_eq_false]
    intro hf
    refine h ?_
    have hf := List.any_eq_false.mp hf
    match on, hf with
    | [], _ => exact .nil
    | x :: xs, hf =>
      refine chain_rises fun i a b h1 h2 => ?_
      obtain ⟨hi, rfl⟩ := List.getElem?_eq_some_iff.mp h1
      obtain ⟨hj, rfl⟩ := List.getElem?_eq_some_iff.mp h2
      have := hf i (List.mem_range.mpr (by omega))
      have : ¬ (upset (x :: xs) i = true) := this
      unfold upset at this
      rw [List.getD_eq_getElem?_getD, List.getElem?_eq_getElem hi, List.getD_eq_getElem?_getD, List.getElem?_eq_getElem hj] at this
      refine (lt_iff _ _).mpr ?_
      simpa using this
end My
/-! ### data made of data -/
namespace My
open PySem PySem.Spec PyProof.Rows L2 Evl
section
variable {K : PySem.W.Frag} {σ : L2.St} {H : Hp} {ta tb te : TE} {tA : TA}
def EaD (K : PySem.W.Frag) (tA : TA) (σ : L2.St) (H : Hp) (ds : List PyData) : Prop := ∀ H1, Ex H H1 → ∀ Q : List V → Hp → Prop, (∀ vs H2, Ex H1 H2 → DpAll K H2 vs ds → Q vs H2) → tA σ H1 Q
theorem eaD_nil : EaD K tNil σ H [] := fun H1 _ _ q => q [] H1 (Ex.refl H1) .nil
theorem eaD_cons {d : PyData} {ds : List PyData} (h : EvG te σ H (fun v H' => Dp K H' v d)) (hr : EaD K tA σ H ds) : EaD K (tCons te tA) σ H (d :: ds) := fun H1 e Q q =>
  h H1 e _ fun v H2 e2 hv => hr H2 (e.trans e2) _ fun vs H3 e3 hvs => q _ H3 (e2.trans e3) (.cons (dp_ex e3 hv) hvs)
theorem dpa_len {vs : List V} {ds : List PyData} (h : DpAll K H vs ds) : vs.length = ds.length := by
  induction ds generalizing vs with
  | nil => rw [DpAll.nil_inv h]; rfl
  | cons d ds ih =>
    obtain ⟨v, r, rfl, _, b⟩ := DpAll.cons_inv h
    rw [List.length_cons, List.length_cons, ih b]
theorem evD_tup {ds : List PyData} (h : EaD K tA σ H ds) (hl : ds.length ≤ 100000) : EvG (tTup tA) σ H (fun v H' => Dp K H' v (.tuple ds)) := fun H1 e Q q =>
  h H1 e _ fun vs H2 e2 hvs => ⟨sz_of (by rw [dpa_len hvs]; exact hl), fun p np => q _ _ (e2.trans (Ex.new np)) (.tup (st_of upd_same) (dpa_ex (Ex.new np) hvs))⟩
theorem evD_str {x : Str} (h : Ev te σ H (.str x)) : EvG te σ H (fun v H' => Dp K H' v (.str x)) := Ev.gi h fun _ _ => .str x
theorem evD_int {i : Int} (h : Ev te σ H (.int i)) : EvG te σ H (fun v H' => Dp K H' v (.int i)) := Ev.gi h fun _ _ => .int i
theorem evD_non (h : Ev te σ H .non) : EvG te σ H (fun v H' => Dp K H' v .none) := Ev.gi h fun _ _ => .non
theorem evD_is {d d' : PyData} (h : EvG te σ H (fun v H' => Dp K H' v d)) (e : d = d') : EvG te σ H (fun v H' => Dp K H' v d') := e ▸ h
theorem evD_texts {xs : List Str} (h : EvU te σ H (xs.map V.str)) : EvG te σ H (fun v H' => Dp K H' v (.tuple (xs.map .str))) := EvU.gi h fun _ _ _ hp => .tup (st_of hp) (dpa_texts xs)
theorem ev_opLLe {r : R2} {z : V} {xs ys : List V} (ha : EvL ta σ H xs) (hb : EvL tb σ H ys) (hr : ∀ (p q : Addr) (H1 : Hp), H1 p = some (.lst xs) → H1 q = some (.lst ys) → Ex H H1 → RV r (.ref p) (.ref q) H1 z) : Ev (tOp r ta tb) σ H z := ev_opLL ha hb hr
end
end My
/-! ### lists whose items change -/
namespace My
open PySem PySem.Spec PyProof.Rows L2 Evl
section
variable {K : PySem.W.Frag} {σ : L2.St} {H : Hp} {ta tb tc te : TE} {D : Ends} {l : Addr} {xs : List V}
theorem seqIx {k n : Nat} (h : k < n) : seqIndex? (k : Int) n = some k := by
  unfold seqIndex?
  have h0 : ¬ ((k : Int) < 0) := by omega
  dsimp only
  rw [if_neg h0, if_pos (by rw [Bool.and_eq_true, decide_eq_true_eq, decide_eq_true_eq]; omega), Int.toNat_natCast]
theorem s_popAt {k : Nat} (hl : H l = some (.lst xs)) (ha : Ev ta σ H (.ref l)) (hb : Ev tb σ H (.int (k : Int))) (hk : k < xs.length) (hz : xs.length ≤ 100000) (kk : ∀ H1, Ex H H1 → D.nx σ (upd H1 l (.lst (xs.eraseIdx k)))) :
    tDrop (tBM K "list" rPopAt ta (tCons tb tNil)) D σ H := ha H (Ex.refl H) _ fun H1 e1 =>
  ⟨Or.inl ⟨rfl, xs, sq_of (e1 l _ hl)⟩, hb H1 e1 _ fun H2 e2 => ⟨l, xs, k, k, xs[k], rfl, rfl, e2 l _ (e1 l _ hl), by omega, by omega, seqIx hk, List.getElem?_eq_getElem hk, kk H2 (e1.trans e2)⟩⟩
theorem s_insert {r : V → List V → Hp → VK → Prop} {k : Nat} {y : V} (hl : H l = some (.lst xs)) (ha : Ev ta σ H (.ref l)) (hb : Ev tb σ H (.int (k : Int))) (hc : Ev tc σ H y)
    (hr : ∀ H1 Q, Ex H H1 → Q .non (upd H1 l (.lst (xs.take k ++ [y] ++ xs.drop k))) → r (.ref l) [.int (k : Int), y] H1 Q) (kk : ∀ H1, Ex H H1 → D.nx σ (upd H1 l (.lst (xs.take k ++ [y] ++ xs.drop k)))) :
    tDrop (tBM K "list" r ta (tCons tb (tCons tc tNil))) D σ H := ha H (Ex.refl H) _ fun H1 e1 =>
  ⟨Or.inl ⟨rfl, xs, sq_of (e1 l _ hl)⟩, hb H1 e1 _ fun H2 e2 => hc H2 (e1.trans e2) _ fun H3 e3 => hr H3 _ ((e1.trans e2).trans e3) (kk H3 ((e1.trans e2).trans e3))⟩
theorem s_swapL {i j : Nat} {y1 y2 : V} (h : EvU te σ H [y1, y2]) (hl : H l = some (.lst xs)) (ha : ∀ H', Ev ta σ H' (.ref l)) (hb : ∀ H', Ev tb σ H' (.int (i : Int))) (hc : ∀ H', Ev tc σ H' (.int (j : Int))) (hi : i < xs.length) (hj : j < xs.length)
    (kk : ∀ H1 H2, Ex H H1 → Ex (upd H1 l (.lst (xs.set i y1))) H2 → D.nx σ (upd H2 l (.lst ((xs.set i y1).set j y2)))) :
    tAsg te (gTup K 2 (gCons (gSub ta tb rSetL) (gCons (gSub ta tc rSetL) gNil))) D σ H := h H (Ex.refl H) _ fun p H1 _ e1 hp =>
  ⟨p, _, rfl, st_of hp, rfl, _, _, rfl, ha H1 H1 (Ex.refl _) _ fun H2 e2 => hb H2 H2 (Ex.refl _) _ fun H3 e3 => ⟨l, xs, _, i, rfl, rfl, (e2.trans e3) _ _ (e1 _ _ hl), ixN_nat hi,
    ⟨_, _, rfl, ha _ _ (Ex.refl _) _ fun H4 e4 => hc H4 H4 (Ex.refl _) _ fun H5 e5 => ⟨l, xs.set i y1, _, j, rfl, rfl, (e4.trans e5) _ _ upd_same, ixN_nat (by rw [List.length_set]; exact hj),
      ⟨rfl, kk H3 H5 (e1.trans (e2.trans e3)) (e4.trans e5)⟩⟩⟩⟩⟩
end
end My
set_option Elab.async false
set_option linter.all false
set_option maxRecDepth 100000
set_option maxHeartbeats 1000000
/-! ### letters that were read: what they are shown as is short -/
namespace My
open PySem PySem.Spec PyProof.Rows L2 Evl
theorem digits_lt : ∀ (l : List Nat) (a : Nat), NumText.AllDigits l → l.foldl (fun acc c => acc * 10 + (c - 48)) a + 1 ≤ (a + 1) * 10 ^ l.length
  | [], a, _ => by simp
  | c :: r, a, h => by
    have hc := h c (.head _)
    have ih := digits_lt r (a * 10 + (c - 48)) fun d hd => h d (.tail _ hd)
    rw [List.foldl_cons]
    refine Nat.le_trans ih ?_
    rw [List.length_cons, Nat.pow_succ, ← Nat.mul_assoc, Nat.mul_right_comm]
    exact Nat.mul_le_mul_right _ (by omega)
theorem rdNum_lt {x : Str} {n : Int} (h : rdNum x 18 = some n) : ∃ k : Nat, n = k ∧ k < 10 ^ 18 := by
  obtain ⟨h1, _, rfl⟩ := rdNum_some h
  have hl := numSigns_len h1
  unfold numSigns at h1
  rw [Bool.and_eq_true] at h1
  have hd := allDigs h1.2
  refine ⟨NumText.digitsVal x.cps.toList, rfl, ?_⟩
  have := digits_lt x.cps.toList 0 hd
  have e : NumText.digitsVal x.cps.toList = x.cps.toList.foldl (fun acc c => acc * 10 + (c - 48)) 0 := rfl
  have l2 : x.cps.toList.length = x.length := by rw [Array.length_toList]; rfl
  have p : 10 ^ x.cps.toList.length ≤ 10 ^ 18 := Nat.pow_le_pow_right (by decide) (by omega)
  rw [e]
  omega
def LtB (n : Nat) : Lt → Prop
  | .ord _ _ => True
  | .frm _ _ _ on => on.length ≤ n
theorem rdWs_ok {ws : List Str} {l : Lt} (h : rdWs ws = some l) : LtOk l ∧ LtB ws.length l := by
  match ws, h with
  | [], h => cases h
  | w :: r, h =>
    unfold rdWs at h
    dsimp only at h
    split at h
    · match r, h with
      | [], h => cases h
      | b :: o, h =>
        cases e : rdNum b 18 with
        | none => rw [rdOl_none e] at h; cases h
        | some n =>
          rw [rdOl_some e] at h
          split at h
          · rename_i ho
            cases h
            exact ⟨⟨rdNum_lt e, ho⟩, trivial⟩
          · cases h
    · split at h
      · match r, h with
        | [], h => cases h
        | [_], h => cases h
        | [_, _], h => cases h
        | t :: c :: m :: on, h =>
          unfold rdFl at h
          cases e1 : rdNum t 18 with
          | none => simp [e1] at h
          | some n1 =>
            cases e2 : rdNum c 18 with
            | none => simp [e1, e2] at h
            | some n2 =>
              simp only [e1, e2] at h
              split at h
              · rename_i ho
                rw [Bool.and_eq_true] at ho
                cases h
                exact ⟨⟨rdNum_lt e1, rdNum_lt e2, ho.1, ho.2⟩, by show on.length ≤ _; simp only [List.length_cons]; omega⟩
              · cases h
      · cases h
where
  rdOl_some {x : Str} {r : List Str} {n : Int} (hn : rdNum x 18 = some n) : rdOl (x :: r) = if isOrd r then some (.ord n r) else none := by
    unfold rdOl
    simp only [hn]
  rdOl_none {x : Str} {r : List Str} (hn : rdNum x 18 = none) : rdOl (x :: r) = none := by
    unfold rdOl
    simp only [hn]
theorem shown_num {k : Nat} (h : k < 10 ^ 18) : (PyData.int (k : Int)).shown.length ≤ 18 := by
  rw [PyData.shown_int]
  show (num (k : Int)).length ≤ 18
  rw [num_len]
  exact TL.numL_len (by decide) h
theorem log64 {n : Nat} (h : n < 10 ^ 18) : n.log2 < 64 := by
  rcases Nat.eq_zero_or_pos n with rfl | h0
  · decide
  · exact (Nat.log2_lt (by omega)).mpr (by omega)
structure Short (d : PyData) (k : Nat) : Prop where
  sh : d.showable = true
  nd : d.hasDict = false
  ls : PyData.leavesShort 18 d = true
  wt : d.weight ≤ k
structure ShortA (ds : List PyData) (k : Nat) : Prop where
  sh : PyData.showableAll ds = true
  nd : PyData.hasDictAll ds = false
  ls : PyData.leavesShortAll 18 ds = true
  wt : PyData.weightAll ds ≤ k
theorem Short.str {x : Str} {n : Nat} (h : Gt n x) : Short (.str x) n := ⟨by simp [PyData.showable], by simp [PyData.hasDict], by
  simp only [PyData.leavesShort]
  refine List.all_eq_true.mpr fun c hc => decide_eq_true ?_
  have := (strOk_iff x).mp h.1 c hc
  omega, by simp only [PyData.weight]; exact h.2⟩
theorem Short.int {k : Nat} (h : k < 10 ^ 18) : Short (.int (k : Int)) 64 := ⟨by simp only [PyData.showable]; exact decide_eq_true (by rw [Int.natAbs_natCast]; have := log64 h; omega), by simp [PyData.hasDict], by simp only [PyData.leavesShort]; exact decide_eq_true (shown_num h), by
  simp only [PyData.weight]
  split
  · omega
  · rw [Int.natAbs_natCast]; have := log64 h; omega⟩
theorem ShortA.nil : ShortA [] 0 := ⟨by simp [PyData.showableAll], by simp [PyData.hasDictAll], by simp [PyData.leavesShortAll], by simp [PyData.weightAll]⟩
theorem ShortA.cons {d : PyData} {ds : List PyData} {k m : Nat} (h : Short d k) (hs : ShortA ds m) : ShortA (d :: ds) (k + 1 + m) := ⟨by simp [PyData.showableAll, h.sh, hs.sh], by simp [PyData.hasDictAll, h.nd, hs.nd], by simp [PyData.leavesShortAll, h.ls, hs.ls], by
  simp only [PyData.weightAll]
  have := h.wt
  have := hs.wt
  omega⟩
theorem Short.tup {ds : List PyData} {k : Nat} (h : ShortA ds k) : Short (.tuple ds) k := ⟨by simp only [PyData.showable]; exact h.sh, by simp only [PyData.hasDict]; exact h.nd, by simp only [PyData.leavesShort]; exact h.ls, by simp only [PyData.weight]; exact h.wt⟩
theorem Short.mono {d : PyData} {k m : Nat} (h : Short d k) (l : k ≤ m) : Short d m := ⟨h.sh, h.nd, h.ls, Nat.le_trans h.wt l⟩
theorem ShortA.texts {n : Nat} : ∀ {xs : List Str}, (∀ x ∈ xs, Gt n x) → ShortA (xs.map .str) (xs.length * (n + 1))
  | [], _ => by simpa using ShortA.nil
  | x :: r, h => by
    have a := ShortA.cons (Short.str (h x (.head _))) (ShortA.texts fun y hy => h y (.tail _ hy))
    rw [List.length_cons, Nat.add_mul, Nat.one_mul, Nat.add_comm (r.length * (n + 1))]
    exact a
theorem ord_gt {ws : List Str} (h : isOrd ws = true) : ws.length ≤ 2 ∧ ∀ x ∈ ws, Gt 12 x := by
  match ws, h with
  | [a], h =>
    have e : a = sStop := of_decide_eq_true h
    refine ⟨by simp, fun x hx => ?_⟩
    rw [List.mem_singleton.mp hx, e]
    exact ⟨by decide +kernel, by decide +kernel⟩
  | [a, b], h =>
    unfold isOrd at h
    rw [Bool.and_eq_true, Bool.or_eq_true, decide_eq_true_eq, decide_eq_true_eq] at h
    refine ⟨by simp, fun x hx => ?_⟩
    rcases List.mem_cons.mp hx with rfl | hx
    · rcases h.1 with e | e <;> rw [e] <;> exact ⟨by decide +kernel, by decide +kernel⟩
    · rw [List.mem_singleton.mp hx]; exact isName_gt h.2
theorem lt_short {l : Lt} {n : Nat} (h : LtOk l) (b : LtB n l) : Short (ltD l) (200 + n * 13) := by
  cases l with
  | ord k ws =>
    obtain ⟨⟨k, rfl, hk⟩, ho⟩ := h
    obtain ⟨h1, h2⟩ := ord_gt ho
    refine (Short.tup (.cons (.str (n := 5) ⟨by decide +kernel, by decide +kernel⟩) (.cons (.int hk) (.cons (.tup (ShortA.texts h2)) .nil)))).mono ?_
    have : ws.length * (12 + 1) ≤ 2 * 13 := Nat.mul_le_mul_right 13 h1
    omega
  | frm t c m on =>
    obtain ⟨⟨k, rfl, hk⟩, ⟨j, rfl, hj⟩, hm, ho⟩ := h
    unfold isLot at ho
    rw [Bool.and_eq_true] at ho
    have b : on.length ≤ n := b
    refine (Short.tup (.cons (.str (n := 5) ⟨by decide +kernel, by decide +kernel⟩) (.cons (.int hk) (.cons (.int hj) (.cons (.str (isName_gt hm)) (.cons (.tup (ShortA.texts fun x hx => isName_gt (List.all_eq_true.mp ho.1 x hx))) .nil)))))).mono ?_
    have : on.length * (12 + 1) ≤ n * 13 := Nat.mul_le_mul_right 13 b
    omega
theorem depthTexts : ∀ xs : List Str, PyData.depthAll (xs.map .str) = 0
  | [] => by simp [PyData.depthAll]
  | x :: r => by simp [PyData.depthAll, PyData.depth, depthTexts r]
theorem lt_depth (l : Lt) : (ltD l).depth ≤ 2 := by
  cases l with
  | ord n ws => simp [ltD, PyData.depth, PyData.depthAll, depthTexts]
  | frm t c m on => simp [ltD, PyData.depth, PyData.depthAll, depthTexts]
theorem Short.fits {d : PyData} {k : Nat} (h : Short d k) (hk : k ≤ 800000) : d.shown.length ≤ sizeLine := by
  have := PyData.shown_le 18 (by decide) d h.ls
  have := h.wt
  have : (18 + 2) * d.weight ≤ 20 * 800000 := Nat.mul_le_mul_left 20 (by omega)
  rw [sizeLine_eq]
  omega
section
variable {K : PySem.W.Frag} {σ : L2.St} {H : Hp} {ta te : TE}
/-- repr(what read_letter tells) -/
theorem ev_reprG {x : Str} (h : EvG te σ H (fun v H' => Dp K H' v (optD (rd x)))) (hx : Gt 3900 x) : Ev (tCB (rReprD K) (tCons te tNil)) σ H (.str (optD (rd x)).shown) := fun H1 e Q q =>
  h H1 e _ fun v H2 e2 hv => by
    cases e3 : rd x with
    | none =>
      rw [e3] at hv q
      cases (show Dp K H2 v .none from hv)
      exact ⟨.non, .none, rfl, .non, Or.inl rfl, by simp [PyData.showable], by simp [PyData.hasDict], by simp [PyData.depth], by decide +kernel, q H2 e2⟩
    | some l =>
      rw [e3] at hv q
      have hv : Dp K H2 v (ltD l) := hv
      obtain ⟨_, hn, _⟩ := split_ok hx
      obtain ⟨ok, b⟩ := rdWs_ok (show rdWs (Txt.split x blank) = some l from e3)
      have sh := lt_short ok b
      have fits := sh.fits (by omega)
      have dp := lt_depth l
      refine ⟨v, ltD l, rfl, hv, Or.inr ?_, sh.sh, sh.nd, by omega, fits, q H2 e2⟩
      cases l with
      | ord n ws => obtain ⟨a, _, rfl, _⟩ := Dp.tup_inv hv; exact ⟨a, rfl⟩
      | frm t c m on => obtain ⟨a, _, rfl, _⟩ := Dp.tup_inv hv; exact ⟨a, rfl⟩
end
/-! ### data without lists, where a list changes -/
mutual
def noL : PyData → Bool
  | .list _ => false
  | .tuple ds => noLs ds
  | _ => true
def noLs : List PyData → Bool
  | [] => true
  | d :: ds => noL d && noLs ds
end
section
variable {K : PySem.W.Frag} {H : Hp} {l : Addr} {ls : List V} {o : HO}
theorem sqt_mut (hl : H l = some (.lst ls)) {a : Addr} {xs : List V} (h : SqT K H a xs) : SqT K (upd H l o) a xs := by
  rcases h with (h | ⟨o', h⟩) | h
  · exact Or.inl (Or.inl (by rw [upd_ne (fun e => by subst e; rw [hl] at h; cases h)]; exact h))
  · exact Or.inl (Or.inr ⟨o', by rw [upd_ne (fun e => by subst e; rw [hl] at h; cases h)]; exact h⟩)
  · exact Or.inr h
mutual
theorem dp_mut (hl : H l = some (.lst ls)) : ∀ {v : V} {d : PyData}, noL d = true → Dp K H v d → Dp K (upd H l o) v d
  | _, _, _, .non => .non
  | _, _, _, .bl b => .bl b
  | _, _, _, .int i => .int i
  | _, _, _, .str x => .str x
  | _, _, h, .lst _ _ => by simp [noL] at h
  | _, _, h, .tup hs ha => .tup (sqt_mut hl hs) (dpa_mut hl (by simpa [noL] using h) ha)
theorem dpa_mut (hl : H l = some (.lst ls)) : ∀ {vs : List V} {ds : List PyData}, noLs ds = true → DpAll K H vs ds → DpAll K (upd H l o) vs ds
  | _, _, _, .nil => .nil
  | _, _, h, .cons a b => .cons (dp_mut hl (by simp [noLs] at h; exact h.1) a) (dpa_mut hl (by simp [noLs] at h; exact h.2) b)
end
end
theorem noTexts : ∀ xs : List Str, noLs (xs.map .str) = true
  | [] => by simp [noLs]
  | x :: r => by simp [noLs, noL, noTexts r]
theorem lt_noL (l : Lt) : noL (ltD l) = true := by
  cases l with
  | ord n ws => simp [ltD, noL, noLs, noTexts]
  | frm t c m on => simp [ltD, noL, noLs, noTexts]
/-! ### lists of data; a join of two ways; words joined -/
section
variable {K : PySem.W.Frag} {σ : L2.St} {H : Hp} {ta tb te : TE} {tA : TA} {D : Ends}
theorem evL_data {ds : List PyData} (h : EaD K tA σ H ds) (hl : ds.length ≤ 100000) : EvG (tLst tA) σ H (fun v H' => ∃ p vs, v = .ref p ∧ H p = none ∧ H' p = some (.lst vs) ∧ DpAll K H' vs ds) := fun H1 e Q q =>
  h H1 e _ fun vs H2 e2 hvs => ⟨sz_of (by rw [dpa_len hvs]; exact hl), fun p np => q _ _ (e2.trans (Ex.new np)) ⟨p, vs, rfl, fresh_back (e.trans e2) np, upd_same, dpa_ex (Ex.new np) hvs⟩⟩
theorem evG_catD {a : Addr} {vs : List V} {ds : List PyData} (ha : Ev ta σ H (.ref a)) (hv : H a = some (.lst vs)) (hb : EvG tb σ H (fun v H' => ∃ p ws, v = .ref p ∧ H' p = some (.lst ws) ∧ DpAll K H' ws ds)) (hz : vs.length + ds.length ≤ 100000) :
    EvG (tOp rCat ta tb) σ H (fun v H' => ∃ p ws, v = .ref p ∧ H p = none ∧ H' p = some (.lst (vs ++ ws)) ∧ DpAll K H' ws ds) := fun H1 e Q q =>
  ha H1 e _ fun H2 e2 => hb H2 (e.trans e2) _ fun v H3 e3 ⟨p', ws, hv', hp', hw⟩ => by
    subst hv'
    exact ⟨a, p', vs, ws, rfl, rfl, e3 _ _ (e2 _ _ (e _ _ hv)), hp', sz_of (by rw [dpa_len hw]; exact hz), fun l nl => q _ _ ((e2.trans e3).trans (Ex.new nl)) ⟨l, ws, rfl, fresh_back ((e.trans e2).trans e3) nl, upd_same, dpa_ex (Ex.new nl) hw⟩⟩
theorem q_join {t u : TS} {Pm : L2.St → Hp → Prop} (tail : ∀ σ' H', Pm σ' H' → u D σ' H') (h : ∀ N : L2.St → Hp → Prop, (∀ σ' H', Pm σ' H' → N σ' H') → t { D with nx := N } σ H) : tSeq t u D σ H := h _ tail
theorem evP_sortedS {xs : List Str} (h : EvL ta σ H (xs.map V.str)) (hz : xs.length < 64) : EvG (tCB (rSortedS K) (tCons ta tNil)) σ H (fun v H' => ∃ p ys, v = .ref p ∧ H p = none ∧ H' p = some (.lst (ys.map V.str)) ∧ ys.Perm xs ∧ sortedS ys = true) := fun H1 e Q q =>
  h H1 e _ fun a H2 _ e2 ha => ⟨a, xs, rfl, sq_of ha, hz, fun ys p pm so np => q _ _ (e2.trans (Ex.new np)) ⟨p, ys, rfl, fresh_back (e.trans e2) np, upd_same, pm, so⟩⟩
end
theorem joinL_gt {g : Nat} : ∀ {ps : List (List Nat)}, (∀ p ∈ ps, p.length ≤ g ∧ ∀ c ∈ p, c < 1114112) → (TL.joinL [32] ps).length ≤ ps.length * (g + 1) ∧ ∀ c ∈ TL.joinL [32] ps, c < 1114112
  | [], _ => by rw [TL.joinL.eq_1]; exact ⟨by simp, fun _ h => nomatch h⟩
  | [p], h => by
    rw [TL.joinL.eq_2]
    obtain ⟨a, b⟩ := h p (.head _)
    exact ⟨by simp; omega, b⟩
  | p :: q :: r, h => by
    rw [TL.joinL.eq_3]
    obtain ⟨a, b⟩ := h p (.head _)
    obtain ⟨c, d⟩ := joinL_gt (ps := q :: r) fun x hx => h x (.tail _ hx)
    refine ⟨?_, fun x hx => ?_⟩
    · rw [List.length_append, List.length_append, List.length_cons (as := q :: r), Nat.add_mul, Nat.one_mul, List.length_singleton]
      omega
    · rcases List.mem_append.mp hx with hx | hx
      · exact b x hx
      · rcases List.mem_append.mp hx with hx | hx
        · rw [List.mem_singleton.mp hx]; decide
        · exact d x hx
theorem join_gt {g : Nat} {ws : List Str} (h : ∀ x ∈ ws, Gt g x) : Gt (ws.length * (g + 1)) (Txt.join blank ws) := by
  have e : TL.tl (Txt.join blank ws) = TL.joinL [32] (ws.map TL.tl) := by
    rw [TL.join_eq, TL.tl_join, show TL.tl blank = [32] by decide +kernel]
  obtain ⟨a, b⟩ := joinL_gt (g := g) (ps := ws.map TL.tl) fun p hp => by
    obtain ⟨x, hx, rfl⟩ := List.mem_map.mp hp
    exact ⟨by rw [← TL.len_tl]; exact (h x hx).2, (strOk_iff x).mp (h x hx).1⟩
  rw [← e] at a b
  exact ⟨(strOk_iff _).mpr b, by rw [TL.len_tl]; rw [List.length_map] at a; exact a⟩
end My
namespace My
open PySem PySem.Spec PyProof.Rows L2 Evl
theorem s_asgP {σ : L2.St} {H : Hp} {te : TE} {D : Ends} {i : Nat} {P : List V → Prop} (h : EvP te σ H P) (k : ∀ xs p H1, P xs → H p = none → Ex H H1 → H1 p = some (.lst xs) → D.nx (σ.set i (some (.ref p))) H1) : tAsg te (gName i) D σ H :=
  h H (Ex.refl H) _ fun xs p H1 hP hp e h1 => k xs p H1 hP hp e h1
theorem num_gt {k : Nat} (h : k < 10 ^ 18) : Gt 18 (num (k : Int)) := ⟨(strOk_iff _).mpr fun c hc => by
  have e : TL.tl (num (k : Int)) = TL.numL k := num_tl k
  rw [e] at hc
  have := TL.numL_digits k c hc
  omega, by rw [num_len]; exact TL.numL_len (by decide) h⟩
theorem wds_gt {l : Lt} (h : LtOk l) : ∀ x ∈ wds l, Gt 18 x := by
  cases l with
  | ord n ws =>
    obtain ⟨⟨k, rfl, hk⟩, ho⟩ := h
    intro x hx
    rcases List.mem_cons.mp hx with rfl | hx
    · exact ⟨by decide +kernel, by decide +kernel⟩
    rcases List.mem_cons.mp hx with rfl | hx
    · exact num_gt hk
    · exact ((ord_gt ho).2 x hx).mono (by decide)
  | frm t c m on =>
    obtain ⟨⟨k, rfl, hk⟩, ⟨j, rfl, hj⟩, hm, ho⟩ := h
    unfold isLot at ho
    rw [Bool.and_eq_true] at ho
    intro x hx
    rcases List.mem_cons.mp hx with rfl | hx
    · exact ⟨by decide +kernel, by decide +kernel⟩
    rcases List.mem_cons.mp hx with rfl | hx
    · exact num_gt hk
    rcases List.mem_cons.mp hx with rfl | hx
    · exact num_gt hj
    rcases List.mem_cons.mp hx with rfl | hx
    · exact (isName_gt hm).mono (by decide)
    · exact (isName_gt (List.all_eq_true.mp ho.1 x hx)).mono (by decide)
theorem wds_three {l : Lt} (h : LtOk l) : 1 ≤ (wds l).length := by cases l <;> simp [wds]
theorem take_rises {xs : List Str} (h : Rises xs) (k : Nat) : Rises (xs.take k) := List.Pairwise.sublist (List.take_sublist k xs) h
end My
set_option Elab.async false
set_option linter.all false
set_option maxRecDepth 100000
set_option maxHeartbeats 2000000
/-! ### sets of nested keys: tuples of texts, numbers, None and such tuples -/
namespace My
open PySem PySem.Spec PyProof.Rows L2
section
variable {P : Program} {w : World}
/-- asked about its classes, v says: none of a class statement -/
def NoCls (P : Program) (w : World) (n : Nat) (z : Shared) (v : Value) : Prop := ∀ (A : Around) (E : Value → Shared → Prop) (Q : Bool → Shared → Prop), Q false z → wpAny (model P w) A (ofAClassStatement n v) Q E z
/-- asked whether it is hashed by value, v says yes or no -/
def ByAny (P : Program) (w : World) (n : Nat) (z : Shared) (v : Value) : Prop := ∀ (A : Around) (E : Value → Shared → Prop) (Q : Bool → Shared → Prop), (∀ b, Q b z) → wpAny (model P w) A (hashByValue n v) Q E z
theorem NoCls.tup {n : Nat} {z : Shared} {a : Addr} {o : Obj} {vs : Array Value} {m : Nat} (ho : z.heap.get? a = some o) (hc : o.cls = .type "tuple") (hd : o.data = .seq vs m) (hv : ∀ v ∈ vs.toList, NoCls P w n z v) : NoCls P w (n + 1) z (.ref a) := fun A E Q q => by
  have hT : z.TypeIs (.ref a) "tuple" := ⟨o, ho, hc⟩
  unfold ofAClassStatement
  refine wpAny_bind (wpAny_typeOf hT ?_)
  dsimp only
  rw [show (("tuple" : String) == "tuple") = true by decide]
  simp only [if_true, Bool.not_true, Bool.false_eq_true, if_false]
  try refine wpAny_bind (wpAny_pure ?_)
  try simp only [Bool.not_true, Bool.false_eq_true, if_false]
  show wpAny _ _ (seqItems? (.ref a) >>= _) _ _ z
  refine wpAny_bind (wpAny_seqItems ho hd ?_)
  dsimp only
  refine wpAny_bind ?_
  show wpAny _ _ (forIn vs _ _) _ _ z
  rw [← Array.forIn_toList]
  refine wpAny_forIn_list _ (fun left r y => r.1 = none ∧ y = z ∧ ∀ v ∈ left, NoCls P w n z v) _ ?step ?last _ _ ⟨rfl, rfl, hv⟩
  case step =>
    rintro v left r y ⟨_, rfl, all⟩
    refine wpAny_bind (all v List.mem_cons_self _ _ _ ?_)
    simp only [Bool.false_eq_true, if_false]
    exact wpAny_pure ⟨rfl, rfl, fun u hu => all u (List.mem_cons_of_mem _ hu)⟩
  case last =>
    rintro ⟨r1, r2⟩ y ⟨hr, rfl, _⟩
    simp only at hr
    subst hr
    exact wpAny_pure q
theorem ByAny.tup {n : Nat} {z : Shared} {a : Addr} {o : Obj} {vs : Array Value} {m : Nat} (ho : z.heap.get? a = some o) (hc : o.cls = .type "tuple") (hd : o.data = .seq vs m) (hv : ∀ v ∈ vs.toList, ByAny P w n z v) : ByAny P w (n + 1) z (.ref a) := fun A E Q q => by
  have hT : z.TypeIs (.ref a) "tuple" := ⟨o, ho, hc⟩
  unfold hashByValue
  refine wpAny_bind (wpAny_specialOf hT F.slot_tuple_hash.lookup ?_)
  show wpAny _ _ (seqItems? (.ref a) >>= _) _ _ z
  refine wpAny_bind (wpAny_seqItems ho hd ?_)
  refine wpAny_bind ?_
  show wpAny _ _ (forIn vs _ _) _ _ z
  rw [← Array.forIn_toList]
  refine wpAny_forIn_list _ (fun left r y => y = z ∧ ∀ v ∈ left, ByAny P w n z v) _ ?step ?last _ _ ⟨rfl, hv⟩
  case step =>
    rintro v left r y ⟨rfl, all⟩
    refine wpAny_bind (all v List.mem_cons_self _ _ _ fun b => ?_)
    cases b
    · simp only [Bool.not_false, if_true]
      exact wpAny_pure (wpAny_pure (q false))
    · simp only [Bool.not_true, Bool.false_eq_true, if_false]
      exact wpAny_pure ⟨rfl, fun u hu => all u (List.mem_cons_of_mem _ hu)⟩
  case last =>
    rintro ⟨r1, r2⟩ y ⟨rfl, _⟩
    cases r1 with
    | none => exact wpAny_pure (q true)
    | some b => exact wpAny_pure (q b)
mutual
theorem cls_key : ∀ (k : NestedKey) (v : Value) (n : Nat) (z : Shared), NestedIs z.heap k v → k.depth ≤ n → NoCls P w n z v ∧ ByAny P w n z v
  | .none, _, n, z, x, _ => by
    cases x
    exact ⟨fun A E Q q => by cases n <;> exact wpAny_pure q, fun A E Q q => by cases n <;> exact wpAny_pure (q _)⟩
  | .num i, _, n, z, x, _ => by
    cases x <;> exact ⟨fun A E Q q => by cases n <;> exact wpAny_pure q, fun A E Q q => by cases n <;> exact wpAny_pure (q _)⟩
  | .text y, _, n, z, x, _ => by
    cases x
    exact ⟨fun A E Q q => by cases n <;> exact wpAny_pure q, fun A E Q q => by cases n <;> exact wpAny_pure (q _)⟩
  | .tup ks, _, n, z, x, hn => by
    cases x with
    | tup hg hc hd hk =>
      simp only [NestedKey.depth] at hn
      cases n with
      | zero => omega
      | succ n => exact ⟨.tup hg hc hd fun v hv => (cls_keys ks _ n z hk (by omega) v hv).1, .tup hg hc hd fun v hv => (cls_keys ks _ n z hk (by omega) v hv).2⟩
theorem cls_keys : ∀ (ks : List NestedKey) (vs : List Value) (n : Nat) (z : Shared), NestedAll z.heap ks vs → NestedKey.depthAll ks ≤ n → ∀ v ∈ vs, NoCls P w n z v ∧ ByAny P w n z v
  | [], _, _, _, x, _, v, hv => by cases x; cases hv
  | k :: ks, _, n, z, x, hn, v, hv => by
    cases x with
    | cons x1 x2 =>
      simp only [NestedKey.depthAll] at hn
      rcases List.mem_cons.mp hv with e | hv
      · rw [e]; exact cls_key k _ n z x1 (by omega)
      · exact cls_keys ks _ n z x2 (by omega) v hv
end
/-- the nested key at an address -/
def IsN (h : Heap) (k : NestedKey) (b : Addr) : Prop := NestedIs h k (.ref b) ∧ k.depth ≤ 8
theorem IsN.old {h h' : Heap} {k : NestedKey} {b : Addr} (x : IsN h k b) (keep : ∀ c o vs n, h.get? c = some o → o.data = .seq vs n → h'.get? c = some o) : IsN h' k b := ⟨NestedIs.at keep k _ x.1, x.2⟩
variable {A : Around} {E : Value → Shared → Prop} {s : Shared}
/-- a search among such keys shows nothing -/
theorem seen_key {k : NestedKey} {b : Addr} {Q : Bool → Shared → Prop} (x : IsN s.heap k b) {ys : List Value} (hy : ∀ y ∈ ys, ∃ k' c, y = Value.ref c ∧ IsN s.heap k' c) (q : Q false s) : wpAny (model P w) A (searchCouldBeSeen (.ref b) ys) Q E s := by
  unfold searchCouldBeSeen
  refine wpAny_bind ?_
  refine wpAny_forIn_list _ (fun left r y => r.1 = none ∧ y = s ∧ ∀ v ∈ left, ∃ k' c, v = Value.ref c ∧ IsN s.heap k' c) _ ?step ?last _ _ ⟨rfl, rfl, hy⟩
  case step =>
    rintro v left r y ⟨_, rfl, all⟩
    obtain ⟨k', c, rfl, xc⟩ := all v List.mem_cons_self
    have rest := fun u (hu : u ∈ left) => all u (List.mem_cons_of_mem _ hu)
    dsimp only
    by_cases hv : (b == c || (carriedByValue (.ref b) && carriedByValue (.ref c))) = true
    · exact wp_if_pos hv (wpAny_pure ⟨rfl, rfl, rest⟩)
    · refine wp_if_neg hv ?_
      refine wpAny_bind (quiet_key k _ 8 _ x.1 x.2 _ _ _ ?_)
      simp only [Bool.not_true, Bool.false_eq_true, if_false]
      refine wpAny_bind (quiet_key k' _ 8 _ xc.1 xc.2 _ _ _ ?_)
      simp only [Bool.not_true, Bool.false_eq_true, if_false]
      refine wpAny_bind ((cls_key k _ 8 _ x.1 x.2).1 _ _ _ ?_)
      simp only [Bool.false_eq_true, if_false]
      refine wpAny_bind ((cls_key k' _ 8 _ xc.1 xc.2).1 _ _ _ ?_)
      simp only [Bool.false_eq_true, if_false]
      exact wpAny_pure ⟨rfl, rfl, rest⟩
  case last =>
    rintro ⟨r1, r2⟩ y ⟨hr, rfl, _⟩
    simp only at hr
    subst hr
    exact wpAny_pure q
end
end My
set_option Elab.async false
set_option linter.all false
set_option maxRecDepth 100000
set_option maxHeartbeats 2000000
namespace My
open PySem PySem.Spec PyProof.Rows L2
/-! ### the way of a hash through a table -/
/-- the first step of the way of h -/
abbrev beg (m : Nat) (h : Int) : SetTable.Probe := runAt m (SetTable.bits h % (m + 1)) (SetTable.bits h)
theorem beg_dummy (m : Nat) : ∀ (c : Nat) (p : SetTable.Probe), p.dummy = none → (nth m p c).dummy = none
  | 0, _, e => e
  | c + 1, p, e => beg_dummy m c (adv m p) (by unfold adv; split <;> exact e)
/-- what stands first on the way from its c-th step on -/
theorem look {t : SetTable} {hs : List Int} (T : TabOk t hs) (f : Nat → Int) (h : Int) {K c : Nat} (lt : K < 10 * SetTable.turns t.mask) (free : way t.mask h K ∉ t.place.toList) (held : ∀ d, d < K → way t.mask h d ∈ t.place.toList) (le : c ≤ K) :
    (t.probe f h (nth t.mask (beg t.mask h) c) = some (.empty (way t.mask h K) none) ∧ ∀ d i, c ≤ d → d < K → t.place.toList[i]? = some (way t.mask h d) → f i ≠ h) ∨
    ∃ d i, c ≤ d ∧ d < K ∧ t.place.toList[i]? = some (way t.mask h d) ∧ f i = h ∧ (∀ d' i', c ≤ d' → d' < d → t.place.toList[i']? = some (way t.mask h d') → f i' ≠ h) ∧
      t.probe f h (nth t.mask (beg t.mask h) c) = some (.candidate (way t.mask h d) i (nth t.mask (beg t.mask h) (d + 1))) := by
  have at_ : ∀ q, nth t.mask (nth t.mask (beg t.mask h) c) q = nth t.mask (beg t.mask h) (c + q) := fun q => (nth_add t.mask c _ q).symm
  have wy : ∀ q, (nth t.mask (nth t.mask (beg t.mask h) c) q).j = way t.mask h (c + q) := fun q => congrArg SetTable.Probe.j (at_ q)
  have kc : c + (K - c) = K := by omega
  rcases go_spec t T.ris T.dm f h (10 * SetTable.turns t.mask) (K - c) _ (beg_dummy t.mask c _ rfl) (by omega) (fun q hq => by rw [wy]; exact held _ (by omega)) (by rw [wy, kc]; exact free) with ⟨q, i, hq, hi, hf, no, e⟩ | ⟨no, e⟩
  · refine .inr ⟨c + q, i, by omega, by omega, by rw [← wy]; exact hi, hf, fun d' i' g1 g2 hp => no (d' - c) i' (by omega) (by rw [wy, show c + (d' - c) = d' by omega]; exact hp), ?_⟩
    rw [← wy, show c + q + 1 = c + (q + 1) by omega, ← at_]
    exact e
  · refine .inl ⟨?_, fun d i g1 g2 hp => no (d - c) i (by omega) (by rw [wy, show c + (d - c) = d by omega]; exact hp)⟩
    have w0 := wy (K - c)
    rw [kc] at w0
    rw [← w0]
    exact e
/-! ### the table of keys -/
def rowsN (w : World) (L : List (Addr × NestedKey)) : List (Int × Value) := L.map fun p => (p.2.hash w, Value.ref p.1)
abbrev hsN (w : World) (L : List (Addr × NestedKey)) : List Int := L.map fun p => p.2.hash w
/-- at a stands a set whose entries are the keys of L at their addresses -/
structure TabN (w : World) (h : Heap) (a : Addr) (L : List (Addr × NestedKey)) (es : Array (Int × Value)) (ep : Nat) (t : SetTable) : Prop where
  ob : ∃ o, h.get? a = some o ∧ o.ExactSet ∧ o.data = .set es ep t
  rows : es.toList = rowsN w L
  tab : TabOk t (hsN w L)
  nd : (L.map (·.2)).Nodup
  led : w.params.followText "set-order" = true ∨ t.led = true
  room : L.length * 5 < t.mask * 3
  few : L.length < 64
def KeysN (h : Heap) (L : List (Addr × NestedKey)) : Prop := ∀ p ∈ L, IsN h p.2 p.1
theorem rowsN_len {w : World} {es : Array (Int × Value)} {L : List (Addr × NestedKey)} (e : es.toList = rowsN w L) : es.size = L.length := by
  rw [← Array.length_toList, e, rowsN, List.length_map]
theorem rowsN_at {w : World} {es : Array (Int × Value)} {L : List (Addr × NestedKey)} (e : es.toList = rowsN w L) {i : Nat} {p : Addr × NestedKey} (hp : L[i]? = some p) : es[i]? = some (p.2.hash w, Value.ref p.1) := by
  rw [← Array.getElem?_toList, e, rowsN, List.getElem?_map, hp]; rfl
section
variable {P : Program} {w : World} {A : Around} {E : Value → Shared → Prop} {s : Shared} {a : Addr} {L : List (Addr × NestedKey)} {es : Array (Int × Value)} {ep : Nat} {t : SetTable}
theorem TabN.fits {h : Heap} (R : TabN w h a L es ep t) : t.fits es.size = true := by
  have z := R.tab.sz
  have l := rowsN_len R.rows
  have r := R.room
  rw [List.length_map] at z
  unfold SetTable.fits SetTable.fill
  rw [R.tab.dm, z, l]
  simp
  omega
theorem TabN.goes {h : Heap} (R : TabN w h a L es ep t) : ¬ t.gaveWay = true := by
  unfold SetTable.gaveWay
  rw [mask_odd R.tab.mok]
  decide
/-- THE SEARCH, from the c-th step of the way on -/
theorem seek (R : TabN w s.heap a L es ep t) (ks : KeysN s.heap L) {x : Addr} {k : NestedKey} (hx : IsN s.heap k x) (hu : A.units + 8 < cLine) {K : Nat} (lt : K < 10 * SetTable.turns t.mask)
    (free : way t.mask (k.hash w) K ∉ t.place.toList) (held : ∀ d, d < K → way t.mask (k.hash w) d ∈ t.place.toList) {Q : SetFound → Shared → Prop}
    (here : k ∈ L.map (·.2) → Q (.there none) s) (gone : k ∉ L.map (·.2) → Q (.free (way t.mask (k.hash w) K) false) s) :
    ∀ (f c : Nat) (st : Option SetTable.Probe), st.getD (t.probeStart (k.hash w)) = nth t.mask (beg t.mask (k.hash w)) c → c ≤ K → K - c < f →
      (∀ (i : Nat) p, L[i]? = some p → p.2 = k → ∃ d, c ≤ d ∧ d < K ∧ t.place.toList[i]? = some (way t.mask (k.hash w) d)) →
      wpAny (model P w) A (setSearchFrom a (.ref x) (k.hash w) true f st) Q E s := by
  intro f
  induction f with
  | zero => intro c st _ _ h _; exact absurd h (Nat.not_lt_zero _)
  | succ f ih =>
    intro c st hst le hf ahead
    obtain ⟨o, ho, hex, hd⟩ := R.ob
    have hash : ∀ {i : Nat} {p}, L[i]? = some p → (fun i => (es[i]?.map (·.1)).getD 0) i = p.2.hash w := fun {i p} hp => by
      show (es[i]?.map (·.1)).getD 0 = _
      rw [rowsN_at R.rows hp]; rfl
    rw [setSearchFrom_succ]
    refine wpAny_bind (wpAny_setState_of ho hd R.fits ?_)
    dsimp only
    refine wp_if_neg R.goes ?_
    try refine wpAny_bind (wpAny_pure ?_)
    rw [hst]
    rcases look R.tab (fun i => (es[i]?.map (·.1)).getD 0) (k.hash w) lt free held le with ⟨e, no⟩ | ⟨d, i, g1, g2, hi, he, no, e⟩
    · rw [e]
      dsimp only
      refine wpAny_pure (gone fun hm => ?_)
      obtain ⟨p, hp, ek⟩ := List.mem_map.mp hm
      obtain ⟨i, hi⟩ := List.mem_iff_getElem?.mp hp
      obtain ⟨d, g1, g2, hpl⟩ := ahead i p hi ek
      exact no d i g1 g2 hpl ((hash hi).trans (by rw [ek]))
    · rw [e]
      dsimp only
      have hil : i < L.length := by
        have h1 := (List.getElem?_eq_some_iff.mp hi).1
        have h2 := R.tab.sz
        rw [List.length_map] at h2
        rw [Array.length_toList] at h1
        omega
      obtain ⟨p, hp⟩ : ∃ p, L[i]? = some p := ⟨_, List.getElem?_eq_getElem hil⟩
      have hm := List.mem_of_getElem? hp
      have xp := ks p hm
      have sl : t.slot (way t.mask (k.hash w) d) = .live i := slot_live R.tab.ris hi
      have rest : wpAny (model P w) A (searchRest a (.ref x) (k.hash w) true f es t (way t.mask (k.hash w) d) i (nth t.mask (beg t.mask (k.hash w)) (d + 1))) Q E s := by
        unfold searchRest
        rw [rowsN_at R.rows hp]
        dsimp only
        refine wpAny_bind (wpAny_holding ((nestedKind P w).eqBool (x := p.2) (y := k) hu xp hx ?_))
        refine wpAny_bind (wpAny_setState_of ho hd R.fits ?_)
        dsimp only
        by_cases ek : p.2 = k
        · exact wp_if_pos (by simp [ek]) (wpAny_pure (here (List.mem_map.mpr ⟨p, hm, ek⟩)))
        · refine wp_if_neg (by simp [ek]) ?_
          try refine wpAny_bind (wpAny_pure ?_)
          rw [sameMem]
          dsimp only
          simp only [if_true, sl, rowsN_at R.rows hp]
          refine wpAny_bind (wpAny_isSame_ref_self (wpAny_bind (wpAny_pure ?_)))
          simp only [if_true]
          refine wp_if_neg (by simp [ek]) ?_
          refine ih (d + 1) _ rfl (by omega) (by omega) fun i' p' hi' ek' => ?_
          obtain ⟨d', h1, h2, hpl⟩ := ahead i' p' hi' ek'
          refine ⟨d', ?_, h2, hpl⟩
          rcases Nat.lt_trichotomy d' d with z | z | z
          · exact absurd ((hash hi').trans (by rw [ek'])) (no d' i' h1 z hpl)
          · subst z
            have s2 := slot_live R.tab.ris hpl
            rw [sl] at s2
            injection s2 with s2
            rw [← s2, hp] at hi'
            exact absurd (by rw [Option.some.inj hi']; exact ek') ek
          · exact z
      by_cases hl : t.led = true
      · refine wp_if_neg (by simp [hl]) ?_
        try refine wpAny_bind (wpAny_pure ?_)
        exact rest
      · refine wp_if_pos (by simp [hl]) ?_
        refine wpAny_bind (seen_key hx (fun y hy => ?_) ?_)
        · obtain ⟨z, hz, ez⟩ := List.mem_map.mp hy
          have z1 : z ∈ es ∧ z.1 = k.hash w := by simpa using hz
          have z2 : z ∈ es.toList := by simpa using z1.1
          rw [R.rows] at z2
          obtain ⟨p2, hp2, e2⟩ := List.mem_map.mp z2
          exact ⟨p2.2, p2.1, by rw [← ez, ← e2], ks p2 hp2⟩
        · refine wp_if_neg (by decide) ?_
          try refine wpAny_bind (wpAny_pure ?_)
          exact rest
/-- the search as adding asks for it -/
theorem seek_at (R : TabN w s.heap a L es ep t) (ks : KeysN s.heap L) {x : Addr} {k : NestedKey} (hx : IsN s.heap k x) (hu : A.units + 8 < cLine) {Q : SetFound → Shared → Prop} (here : k ∈ L.map (·.2) → Q (.there none) s)
    (gone : ∀ K, k ∉ L.map (·.2) → way t.mask (k.hash w) K ∉ t.place.toList → (∀ d, d < K → way t.mask (k.hash w) d ∈ t.place.toList) → Q (.free (way t.mask (k.hash w) K) false) s) :
    wpAny (model P w) A (setSearch a (.ref x) (k.hash w) true) Q E s := by
  have r := R.room
  obtain ⟨K, lt, free, held⟩ := R.tab.first (by rw [List.length_map]; omega) (k.hash w)
  have small : K < 100000 := by
    unfold SetTable.turns at lt
    rcases R.tab.mok with e | e | e <;> rw [e] at lt <;> omega
  refine seek R ks hx hu lt free held here (fun h => gone K h free held) 100000 0 none rfl (Nat.zero_le _) (by omega) fun i p hi ek => ?_
  have hil : i < t.place.toList.length := by
    have h1 := (List.getElem?_eq_some_iff.mp hi).1
    have h2 := R.tab.sz
    rw [List.length_map] at h2
    rw [Array.length_toList]
    omega
  obtain ⟨d, g, e⟩ := R.tab.before free (show (hsN w L)[i]? = some (k.hash w) by rw [List.getElem?_map, hi, ← ek]; rfl) (List.getElem?_eq_getElem hil)
  exact ⟨d, Nat.zero_le _, g, by rw [List.getElem?_eq_getElem hil, e]⟩
end
end My
set_option Elab.async false
set_option linter.all false
set_option maxRecDepth 100000
set_option maxHeartbeats 2000000
namespace My
open PySem PySem.Spec PyProof.Rows L2
/-! ### a key put in, the table laid anew -/
theorem all_at {α : Type} : ∀ L : List α, (List.range L.length).filterMap (fun i => L[i]?) = L
  | [] => rfl
  | x :: r => by
    rw [List.length_cons, List.range_succ_eq_map, List.filterMap_cons_some (f := fun i => (x :: r)[i]?) (b := x) rfl, List.filterMap_map]
    exact congrArg (x :: ·) (all_at r)
theorem rows_in_order {w : World} {L : List (Addr × NestedKey)} {es : Array (Int × Value)} {ord : Array Nat} (e : es.toList = rowsN w L) (pm : ord.toList.Perm (List.range L.length)) :
    ∃ L2 : List (Addr × NestedKey), (ord.filterMap (es[·]?)).toList = rowsN w L2 ∧ L2.Perm L ∧ hsN w L2 = ord.toList.map fun i => (es.map (·.1)).getD i 0 := by
  refine ⟨ord.toList.filterMap fun i => L[i]?, ?_, ?_, ?_⟩
  · rw [Array.toList_filterMap, rowsN, List.map_filterMap]
    congr 1
    funext i
    rw [← Array.getElem?_toList, e, rowsN, List.getElem?_map]
  · have h := pm.filterMap fun i => L[i]?
    rw [all_at] at h
    exact h
  · have all : ∀ i ∈ ord.toList, i < L.length := fun i hi => List.mem_range.mp (pm.mem_iff.mp hi)
    generalize ord.toList = l at all
    induction l with
    | nil => rfl
    | cons i l ih =>
      have hi := all i List.mem_cons_self
      have g : (es.map (·.1)).getD i 0 = (L[i]).2.hash w := by
        have g2 : (es.map (·.1))[i]? = some ((L[i]).2.hash w) := by rw [Array.getElem?_map, rowsN_at e (List.getElem?_eq_getElem hi)]; rfl
        simp [Array.getD_eq_getD_getElem?, g2]
      rw [List.filterMap_cons_some (List.getElem?_eq_getElem hi), List.map_cons, g]
      show _ :: hsN w _ = _
      rw [ih fun j hj => all j (List.mem_cons_of_mem _ hj)]
theorem unplain {t : SetTable} {hs : List Int} (T : TabOk t hs) : TabOk { t with plain := false } hs := ⟨T.ris, T.dm, T.sz, T.mok, T.bd, T.reach⟩
theorem IsN.same {h h' : Heap} {k : NestedKey} {a b : Addr} {o : Obj} {es : Array (Int × Value)} {ep : Nat} {t : SetTable} (x : IsN h k b) (ho : h.get? a = some o) (hd : o.data = .set es ep t) (sb : Heap.SameBut a h h') : IsN h' k b :=
  x.old fun c u vs n g1 g2 => (sb.2 c fun e => by
    subst e
    rw [ho] at g1
    obtain rfl := Option.some.inj g1
    rw [hd] at g2
    exact nomatch g2).trans g1
section
variable {P : Program} {w : World} {A : Around} {E : Value → Shared → Prop} {s : Shared} {a : Addr} {L : List (Addr × NestedKey)} {es : Array (Int × Value)} {ep : Nat} {t : SetTable}
/-- what is known of a table before it is laid anew: it may be fuller than a table should be -/
structure FullN (w : World) (h : Heap) (a : Addr) (L : List (Addr × NestedKey)) (es : Array (Int × Value)) (ep : Nat) (t : SetTable) : Prop where
  ob : ∃ o, h.get? a = some o ∧ o.ExactSet ∧ o.data = .set es ep t
  rows : es.toList = rowsN w L
  tab : TabOk t (hsN w L)
  nd : (L.map (·.2)).Nodup
  led : w.params.followText "set-order" = true ∨ t.led = true
  few : L.length < 64
  fit : L.length ≤ t.mask
theorem anew {h1 : Heap} (R : FullN w h1 a L es ep t) {wanted M : Nat} (hw : SetTable.sizeAbove wanted - 1 = M) (hM : MaskOk M) (h128 : SetTable.sizeAbove wanted ≤ 128) (room : L.length * 5 < M * 3) {Q : Unit → Shared → Prop}
    (hQ : ∀ h' L' es' ep' t', Heap.SameBut a h1 h' → TabN w h' a L' es' ep' t' → L'.Perm L → Q () { s with heap := h' }) : wpAny (model P w) A (setRelay a wanted) Q E { s with heap := h1 } := by
  obtain ⟨o, ho, hex, hd⟩ := R.ob
  have len := rowsN_len R.rows
  have ft : t.fits es.size = true := by
    have z := R.tab.sz
    have f := R.fit
    rw [List.length_map] at z
    unfold SetTable.fits SetTable.fill
    rw [R.tab.dm, z, len]
    simp
    omega
  have few := R.few
  obtain ⟨t2, ord, e, pm, T, em, el, _, _⟩ := relaid_ok t (hs := es.map (·.1)) (wanted := wanted) hw hM (by rw [Array.size_map, len]; omega)
  rw [Array.size_map, len] at pm
  obtain ⟨L2, r1, r2, r3⟩ := rows_in_order R.rows pm
  rw [← r3] at T
  have len2 : (ord.filterMap (es[·]?)).size = es.size := by rw [rowsN_len r1, r2.length_eq, len]
  rw [setRelay_eq]
  refine wpAny_bind (wpAny_setState_of (s := { s with heap := h1 }) ho hd ft ?_)
  dsimp only
  refine wp_if_neg (by rw [sizeLine_eq]; omega) ?_
  try refine wpAny_bind (wpAny_pure ?_)
  rw [e]
  dsimp only
  refine wpAny_bind ?_
  refine wp_if_neg (by rw [len2]; simp) ?_
  try refine wpAny_bind (wpAny_pure ?_)
  refine wpAny_pure ?_
  dsimp only
  refine wpAny_storeSet_of (s := { s with heap := h1 }) ho hd ?_ (by rw [len2, len, sizeLine_eq]; omega)
  have sb : Heap.SameBut a h1 (h1.update a (Obj.putSet (ord.filterMap (es[·]?)) t2)) := Heap.SameBut.update ..
  exact hQ _ L2 _ (ep + 1) t2 sb ⟨⟨_, _root_.L2.store_at ho hd, ⟨hex.1, hex.2.1, hex.2.2⟩, rfl⟩, r1, T, (r2.map (·.2)).nodup_iff.mpr R.nd, by rw [el]; exact R.led, by rw [r2.length_eq, em]; exact room, by rw [r2.length_eq]; exact few⟩ r2
/-- ADDING -/
theorem put_key (R : TabN w s.heap a L es ep t) (ks : KeysN s.heap L) {x : Addr} {k : NestedKey} (hx : IsN s.heap k x) (hu : A.units + 8 < cLine) (few : L.length + 1 < 64) {Q : Bool → Shared → Prop}
    (hQ : ∀ b h' L' es' ep' t', Heap.SameBut a s.heap h' → TabN w h' a L' es' ep' t' → (k ∈ L.map (·.2) → L' = L) → (k ∉ L.map (·.2) → L'.Perm ((x, k) :: L)) → Q b { s with heap := h' }) :
    wpAny (model P w) A (setAddHashed a (.ref x) (k.hash w)) Q E s := by
  obtain ⟨o, ho, hex, hd⟩ := R.ob
  have len := rowsN_len R.rows
  have room := R.room
  unfold setAddHashed
  refine wpAny_holding ?_
  rw [show (100000 : Nat) = 99999 + 1 from rfl, setAddHashedIn_succ]
  refine wpAny_bind (wpAny_setState_of ho hd R.fits ?_)
  dsimp only
  refine wp_if_neg (by simp [byScan, Value.scannable]) ?_
  try refine wpAny_bind (wpAny_pure ?_)
  refine wpAny_bind (seek_at R ks hx hu (fun hm => ?_) fun K hm free held => ?_)
  · dsimp only
    exact wpAny_pure (hQ false s.heap L es ep t (Heap.SameBut.refl a s.heap) R (fun _ => rfl) fun z => absurd hm z)
  dsimp only
  refine wpAny_bind (wpAny_setState_of ho hd R.fits ?_)
  dsimp only
  obtain ⟨q1, q2, q3, q4, q5, _, _, _, q9⟩ := R.tab.put free held
  generalize hj : way t.mask (k.hash w) K = j at q1 q2 q3 q4 q5 q9 ⊢
  generalize hp : t.put j = pt at q1 q3 q4 q5 q9 ⊢
  obtain ⟨t1, p⟩ := pt
  dsimp only at q1 q3 q4 q5 q9 ⊢
  subst q1
  have rows1 : (SetTable.insertAt es (SetTable.below t.place j) (k.hash w, Value.ref x)).toList = rowsN w (L.take (SetTable.below t.place j) ++ (x, k) :: L.drop (SetTable.below t.place j)) := by
    rw [SetTable.toList_insertAt, R.rows]
    unfold rowsN
    rw [List.map_append, List.map_cons, List.map_take, List.map_drop]
  have hs1 : hsN w (L.take (SetTable.below t.place j) ++ (x, k) :: L.drop (SetTable.below t.place j)) = (hsN w L).take (SetTable.below t.place j) ++ k.hash w :: (hsN w L).drop (SetTable.below t.place j) := by
    rw [hsN, List.map_append, List.map_cons, List.map_take, List.map_drop]
  rw [← hs1] at q3
  have pm := put_perm L (SetTable.below t.place j) (x, k)
  generalize SetTable.insertAt es (SetTable.below t.place j) (k.hash w, Value.ref x) = es1 at rows1 ⊢
  generalize L.take (SetTable.below t.place j) ++ (x, k) :: L.drop (SetTable.below t.place j) = L1 at pm q3 rows1
  have len1 : L1.length = L.length + 1 := pm.length_eq
  have nd1 : (L1.map (·.2)).Nodup := (pm.map (·.2)).nodup_iff.mpr (List.nodup_cons.mpr ⟨hm, R.nd⟩)
  have e1 : es1.size = L.length + 1 := by rw [rowsN_len rows1, len1]
  have ld1 : w.params.followText "set-order" = true ∨ t1.led = true := by rw [q5]; exact R.led
  -- whatever is said of its being hashed by value
  have fin : ∀ t2 : SetTable, TabOk t2 (hsN w L1) → t2.mask = t.mask → t2.led = t1.led → t2.fill = L.length + 1 →
      wpAny (model P w) A (storeSet a es1 t2 >>= fun _ => if (!false && t2.tooFull) = true then (do setRelay a (SetTable.grown (es.size + 1)); pure true) else pure true) Q E s := fun t2 T2 m2 l2 f2 => by
    refine wpAny_bind (wpAny_storeSet_of ho hd ?_ (by rw [e1, sizeLine_eq]; omega))
    have sb : Heap.SameBut a s.heap (s.heap.update a (Obj.putSet es1 t2)) := Heap.SameBut.update ..
    have ho1 := _root_.L2.store_at (es' := es1) (t' := t2) ho hd
    generalize s.heap.update a (Obj.putSet es1 t2) = h1 at sb ho1 ⊢
    have full : t2.tooFull = decide ((L.length + 1) * 5 ≥ t.mask * 3) := by
      unfold SetTable.tooFull
      rw [f2, m2]
    rw [full]
    by_cases hf : (L.length + 1) * 5 ≥ t.mask * 3
    · refine wp_if_pos (by simp [hf]) ?_
      refine wpAny_bind ?_
      have two : (t.mask = 7 ∧ L.length = 4) ∨ (t.mask = 31 ∧ L.length = 18) := by
        rcases R.tab.mok with e | e | e <;> rw [e] at hf room <;> omega
      have FN : FullN w h1 a L1 es1 (ep + 1) t2 := ⟨⟨_, ho1, ⟨hex.1, hex.2.1, hex.2.2⟩, rfl⟩, rows1, T2, nd1, by rw [l2]; exact ld1, by rw [len1]; exact few, by rw [len1, m2]; rcases two with ⟨e, e'⟩ | ⟨e, e'⟩ <;> omega⟩
      have go : ∀ M, SetTable.sizeAbove (SetTable.grown (es.size + 1)) - 1 = M → MaskOk M → SetTable.sizeAbove (SetTable.grown (es.size + 1)) ≤ 128 → (L.length + 1) * 5 < M * 3 → wpAny (model P w) A (setRelay a (SetTable.grown (es.size + 1))) (fun _ y => wpAny (model P w) A (pure true) Q E y) E { s with heap := h1 } := fun M g1 g2 g3 g4 =>
        anew FN g1 g2 g3 (by rw [len1]; exact g4) fun h2 L2 es2 ep2 t3 sb2 R2 pm2 => wpAny_pure (hQ true h2 L2 es2 ep2 t3 (sb.trans sb2) R2 (fun z => absurd z hm) fun _ => pm2.trans pm)
      rw [len] at go ⊢
      rcases two with ⟨_, e⟩ | ⟨_, e⟩
      · exact go 31 (by rw [e, size_20]) (.inr (.inl rfl)) (by rw [e, size_20]; decide) (by omega)
      · exact go 127 (by rw [e, size_76]) (.inr (.inr rfl)) (by rw [e, size_76]; decide) (by omega)
    · refine wp_if_neg (by simp [hf]) ?_
      exact wpAny_pure (hQ true h1 L1 es1 (ep + 1) t2 sb ⟨⟨_, ho1, ⟨hex.1, hex.2.1, hex.2.2⟩, rfl⟩, rows1, T2, nd1, by rw [l2]; exact ld1, by rw [len1, m2]; omega, by rw [len1]; exact few⟩ (fun z => absurd z hm) fun _ => pm)
  have both : ∀ b : Bool, wpAny (model P w) A (storeSet a es1 (if b = true then t1 else { t1 with plain := false }) >>= fun _ => if (!false && (if b = true then t1 else { t1 with plain := false }).tooFull) = true then (do setRelay a (SetTable.grown (es.size + 1)); pure true) else pure true) Q E s := fun b => by
    cases b
    · exact fin _ (unplain q3) q4 rfl (by rw [← List.length_map (as := L) (f := fun p => p.2.hash w)]; exact q9)
    · exact fin _ q3 q4 rfl (by rw [← List.length_map (as := L) (f := fun p => p.2.hash w)]; exact q9)
  by_cases pl : t1.plain = true
  · first
      | (refine wpAny_bind ?_; refine wp_if_pos pl ?_; refine (cls_key k _ 8 _ hx.1 hx.2).2 _ _ _ fun b => ?_; exact both b)
      | (refine wp_if_pos pl ?_; refine wpAny_bind ((cls_key k _ 8 _ hx.1 hx.2).2 _ _ _ fun b => ?_); exact both b)
  · first
      | (refine wpAny_bind ?_; refine wp_if_neg pl ?_; refine wpAny_pure ?_; exact both true)
      | (refine wp_if_neg pl ?_; refine wpAny_bind (wpAny_pure ?_); exact both true)
end
end My
set_option Elab.async false
set_option linter.all false
set_option maxRecDepth 100000
set_option maxHeartbeats 3200000
namespace My
open PySem PySem.Spec PyProof.Rows L2
/-! ### set(a list, a tuple) of nested keys -/
/-- what the set has after the first i -/
structure GotN (ks : List (Addr × NestedKey)) (i : Nat) (L : List (Addr × NestedKey)) : Prop where
  old : ∀ p ∈ L, p ∈ ks
  sub : ∀ p ∈ L, ∃ j, j < i ∧ ks[j]? = some p
  all : ∀ j p, j < i → ks[j]? = some p → p.2 ∈ L.map (·.2)
  len : L.length ≤ i
theorem GotN.same {ks L : List (Addr × NestedKey)} {i : Nat} {x : Addr × NestedKey} (g : GotN ks i L) (e : ks[i]? = some x) (hm : x.2 ∈ L.map (·.2)) : GotN ks (i + 1) L := by
  refine ⟨g.old, fun p hp => ?_, fun j p hj ep => ?_, Nat.le_succ_of_le g.len⟩
  · obtain ⟨j, lt, q⟩ := g.sub p hp
    exact ⟨j, Nat.lt_succ_of_lt lt, q⟩
  · rcases Nat.lt_or_ge j i with h | h
    · exact g.all j p h ep
    · obtain rfl : j = i := by omega
      rw [e] at ep
      obtain rfl := Option.some.inj ep
      exact hm
theorem GotN.more {ks L L' : List (Addr × NestedKey)} {i : Nat} {x : Addr × NestedKey} (g : GotN ks i L) (e : ks[i]? = some x) (pm : L'.Perm (x :: L)) : GotN ks (i + 1) L' := by
  refine ⟨fun p hp => ?_, fun p hp => ?_, fun j p hj ep => (pm.map (·.2)).mem_iff.mpr ?_, by rw [pm.length_eq]; exact Nat.succ_le_succ g.len⟩
  · rcases List.mem_cons.mp (pm.mem_iff.mp hp) with rfl | h
    · exact List.mem_of_getElem? e
    · exact g.old p h
  · rcases List.mem_cons.mp (pm.mem_iff.mp hp) with rfl | h
    · exact ⟨i, Nat.lt_succ_self i, e⟩
    · obtain ⟨j, lt, q⟩ := g.sub p h
      exact ⟨j, Nat.lt_succ_of_lt lt, q⟩
  · rcases Nat.lt_or_ge j i with h | h
    · exact List.mem_cons_of_mem _ (g.all j p h ep)
    · obtain rfl : j = i := by omega
      rw [e] at ep
      obtain rfl := Option.some.inj ep
      exact List.mem_cons_self
def Keeps (h h' : Heap) : Prop := ∀ b o, h.get? b = some o → h'.get? b = some o
theorem KeysN.keeps {h h' : Heap} {L : List (Addr × NestedKey)} (x : KeysN h L) (k : Keeps h h') : KeysN h' L := fun p hp => (x p hp).old fun c o _ _ e _ => k c o e
section
variable {P : Program} {w : World}
theorem TabN.at {h h' : Heap} {a : Addr} {L : List (Addr × NestedKey)} {es : Array (Int × Value)} {ep : Nat} {t : SetTable} (R : TabN w h a L es ep t) (k : ∀ o, h.get? a = some o → h'.get? a = some o) : TabN w h' a L es ep t := by
  obtain ⟨o, ho, r⟩ := R.ob
  exact ⟨⟨o, k o ho, r⟩, R.rows, R.tab, R.nd, R.led, R.room, R.few⟩
theorem tabn_bare {h : Heap} {a : Addr} (e : h.get? a = some (bare w)) : TabN w h a [] #[] 0 (.fresh 0 0 (!w.params.followText "set-order")) where
  ob := ⟨_, e, ⟨rfl, rfl, rfl⟩, rfl⟩
  rows := rfl
  tab := ⟨.nil, rfl, rfl, .inl rfl, fun _ hx => (nomatch hx), fun _ _ _ hi => (by simp at hi)⟩
  nd := .nil
  led := by show _ ∨ (!w.params.followText "set-order") = true; cases w.params.followText "set-order" <;> simp
  room := by show 0 * 5 < 7 * 3; decide
  few := by show 0 < 64; decide
variable {A : Around} {R : Result → Shared → Prop} {it S : Addr} {fp wr : List Addr} {G : Array GenState → Array GenState → Prop} {n : Nat} {V : Nat → Value → Prop} {St : Nat → Shared → Prop}
theorem tabn_loop (W : WalksS P w A.in1 it fp wr G n V St) (free : S ∉ fp) (ks : List (Addr × NestedKey)) (hn : n = ks.length) (few : ks.length < 64) (ok : ∀ i v, V i v → ∃ p, ks[i]? = some p ∧ v = .ref p.1)
    (h0 : Heap) (here : KeysN h0 ks) (nS : h0.get? S = none) (nw : ∀ b ∈ wr, h0.get? b = none) (hu : A.in1.units + 8 < cLine) :
    ∀ (left i : Nat) (s : Shared), i + left = n → St i s → Keeps h0 s.heap → (∃ L es ep t, TabN w s.heap S L es ep t ∧ GotN ks i L) →
      (∀ z L es ep t, Moved (S :: wr) G s z → TabN w z.heap S L es ep t → GotN ks n L → Keeps h0 z.heap → R (.ok (.ret .none)) z) → codeAny (model P w) A (.builtin "set.update.loop" ⟨[.ref S, .ref it], []⟩) R s := by
  have out : S ∉ wr := fun h => free (W.sub _ h)
  have more : ∀ b ∈ wr, b ∈ S :: wr := fun _ h => .tail _ h
  have stay : ∀ {y z : Shared}, Moved wr G y z → Keeps h0 y.heap → Keeps h0 z.heap := fun m k b o e => m.heap b o (fun hb => by rw [nw b hb] at e; cases e) (k b o e)
  intro left
  induction left with
  | zero =>
    intro i s e st kp ⟨L, es, ep, t, T, g⟩ hR
    obtain rfl : i = n := e
    refine codeAny_builtin PyProof.Rows.F.entry_set_update_loop ?_; rw [Around.under_plainId PyProof.Rows.F.plain_set_update_loop _]
    show wpAny _ A.in1 (pyNext (.ref it) >>= _) _ _ s; refine wpAny_bind (W.done s _ _ st fun z m => ?_)
    exact wpAny_pure (hR z L es ep t (m.mono more) (T.at fun o h => m.heap S o out h) g (stay m kp))
  | succ left ih =>
    intro i s e st kp ⟨L, es, ep, t, T, g⟩ hR
    have lt : i < n := by omega
    refine codeAny_builtin PyProof.Rows.F.entry_set_update_loop ?_; rw [Around.under_plainId PyProof.Rows.F.plain_set_update_loop _]
    show wpAny _ A.in1 (pyNext (.ref it) >>= _) _ _ s; refine wpAny_bind (W.item i s _ _ lt st fun v z hv st2 m => ?_)
    obtain ⟨p, hp, rfl⟩ := ok i v hv
    have kz := stay m kp
    have T2 : TabN w z.heap S L es ep t := T.at fun o h => m.heap S o out h
    have keys : KeysN z.heap L := fun q hq => here.keeps kz q (g.old q hq)
    have hx : IsN z.heap p.2 p.1 := here.keeps kz p (List.mem_of_getElem? hp)
    show wpAny _ A.in1 (holding [Value.ref p.1] (setAdd S (.ref p.1)) >>= _) _ _ z
    refine wpAny_bind (wpAny_holding ?_); unfold setAdd; refine wpAny_holding (wpAny_bind ((nestedKind P w).pyHash (k := p.2) hu hx ?_))
    refine put_key (s := { z with toks := z.toks + p.2.draws }) T2 keys hx hu (by have := g.len; omega) fun b h2 L2 es2 ep2 t2 sb T3 c1 c2 => ?_
    have g2 : GotN ks (i + 1) L2 := by
      by_cases c : p.2 ∈ L.map (·.2)
      · rw [c1 c]; exact g.same hp c
      · exact g.more hp (c2 c)
    have k2 : Keeps h0 h2 := fun b o e => (sb.2 b fun c => by rw [c, nS] at e; cases e).trans (kz b o e)
    refine wpAny_pure ⟨plainId_quiet PyProof.Rows.F.plain_set_update_loop _, ih (i + 1) _ (by omega) (W.frame _ z _ _ st2 (Nat.le_add_right _ _) fun b hb o q => ?_) k2 ⟨L2, es2, ep2, t2, T3, g2⟩ fun y Ly ey py ty my Ty gy ky => ?_⟩
    · exact (sb.2 b fun c : b = S => free (c ▸ hb)).trans q
    · refine hR y Ly ey py ty (Moved.trans W.gtrans ((m.mono more).then_heap (Nat.le_add_right _ _) fun b o hb q => ?_) my) Ty gy ky
      exact (sb.2 b fun c : b = S => hb (c ▸ .head _)).trans q
variable {E : Value → Shared → Prop} {s : Shared}
theorem call_keys {l : Addr} {items : Array Value} {T U : String} {Is : Heap → Prop} (F0 : Fed P w l items T U Is) (hh : A.handled = none) (now : Is s.heap) (ks : List (Addr × NestedKey)) (hit : items.toList = ks.map fun p => Value.ref p.1)
    (here : KeysN s.heap ks) (few : ks.length < 64) (hu : A.units + 16 < cLine) {Q : Value → Shared → Prop}
    (hQ : ∀ h' tk L es ep t, TabN w h' s.heap.objs.size L es ep t → GotN ks ks.length L → Keeps s.heap h' → Q (.ref s.heap.objs.size) { s with heap := h', toks := tk }) : wpAny (model P w) A (call (.type "set") [.ref l]) Q E s := by
  have isz : items.size = ks.length := by rw [← Array.length_toList, hit, List.length_map]
  obtain ⟨c, tl, hmro⟩ := PySem.F.called_set.mro; have made := PySem.F.called_set.made; have sub := PySem.F.called_set.sub; have h1 := PySem.F.called_set.notType; have h2 := PySem.F.called_set.canCreate; have ct := PySem.F.typeCall_set_1 (.ref l)
  refine wpAny_call (codeAny_of_tree ?_); show wpAny _ _ (callAny (.type "set") _) _ _ _
  refine wpAny_pure ⟨Code.quiet_builtin _ (by decide +kernel), codeAny_builtin PySem.F.entry_type_call ?_⟩; rw [Around.under_plain (weight_type_call_type "set" [.ref l] []) rfl]
  repeat (any_goals first | assumption | wp_step)
  refine codeAny_mono (new_bare (.ref l) (E := E) (R := fun x z => x = .ref s.heap.objs.size ∧ z = { s with heap := s.heap.push (bare w) }) ⟨rfl, rfl⟩) fun r z hr => ?_
  cases r with
  | error e => exact hr
  | ok fl =>
    cases fl with
    | ret x =>
      obtain ⟨rfl, rfl⟩ := hr
      have aS : (s.heap.push (bare w)).get? s.heap.objs.size = some (bare w) := Heap.get?_push_size _ rfl
      have hT : Shared.TypeIs { s with heap := s.heap.push (bare w) } (.ref s.heap.objs.size) "set" := ⟨_, aS, rfl⟩
      have li := PySem.F.called_set.init.lookup; have bi := PySem.F.called_set.init.bind (.ref s.heap.objs.size)
      repeat (any_goals first | assumption | wp_step)
      refine codeAny_mono (codeAny_call_builtin (R := wants (fun r z => r = .none ∧ ∃ h' tk L es ep t, z = { s with heap := h', toks := tk } ∧ TabN w h' s.heap.objs.size L es ep t ∧ GotN ks ks.length L ∧ Keeps s.heap h') E)
        PySem.F.called_set.init.plain PySem.F.entry_set_init (check_set_init_1 hT ?_)) fun r2 z2 hr2 => ?_
      · have Is1 : Is (s.heap.push (bare w)) := F0.keep _ _ now fun o e => Heap.get?_push_of_some _ e
        obtain ⟨d, n, sl, at0⟩ := F0.obj _ Is1
        obtain ⟨_, _, _, at1⟩ := F0.obj _ now
        have q1 := F0.ns; have q2 := F0.nf; have q3 := F0.nd
        unfold Builtin.«set.__init__» noKeywords Builtin.Frozenset.updateFrom; generalize hPI : pyIter = PI
        wp_walk
        subst hPI
        refine F0.iter _ _ _ _ Is1 ?_
        refine wpAny_bind (wpAny_runValue ?_); have lS : l < s.heap.objs.size := Heap.lt_size at1
        have hz : (s.heap.push (bare w)).objs.size = s.heap.objs.size + 1 := Heap.size_push ..
        have ne : l ≠ (s.heap.push (bare w)).objs.size := by rw [hz]; exact Nat.ne_of_lt (Nat.lt_succ_of_lt lS)
        have free : s.heap.objs.size ∉ [(s.heap.push (bare w)).objs.size, l] := by
          rw [hz]; intro c
          rcases List.mem_cons.mp c with c | c
          · exact Nat.ne_of_lt (Nat.lt_succ_self _) c
          · exact Nat.ne_of_gt lS (List.mem_singleton.mp c)
        have no : ∀ b, s.heap.objs.size ≤ b → s.heap.get? b = none := fun b hb => by
          cases q : s.heap.get? b with
          | none => rfl
          | some o => exact absurd (Nat.lt_of_lt_of_le (Heap.lt_size q) hb) (Nat.lt_irrefl _)
        have ok : ∀ (i : Nat) (v : Value), items[i]? = some v → ∃ p, ks[i]? = some p ∧ v = .ref p.1 := fun i v hv => by
          rw [← Array.getElem?_toList, hit, List.getElem?_map] at hv
          cases q : ks[i]? with
          | none => rw [q] at hv; cases hv
          | some p => rw [q] at hv; exact ⟨p, rfl, (Option.some.inj hv).symm⟩
        obtain ⟨St, W, st0⟩ := F0.walk A.in1.in1.in1 (s.heap.push (bare w)).objs.size (by simp [hh]) ne
        refine tabn_loop W.toS free ks isz few ok s.heap here (no _ (Nat.le_refl _)) (fun b hb => no b (by rw [List.mem_singleton.mp hb, hz]; exact Nat.le_succ _)) (by simp only [Around.in1_units]; omega) items.size 0 _ (Nat.zero_add _)
          (st0 _ (F0.keep _ _ Is1 fun o e => Heap.get?_push_of_some _ e) (Heap.get?_push_size _ rfl)) (fun b o e => Heap.get?_push_of_some _ (Heap.get?_push_of_some _ e)) ⟨[], _, _, _, tabn_bare (Heap.get?_push_of_some _ aS), ⟨fun _ h => (nomatch h), fun _ h => (nomatch h), fun j p h => absurd h (Nat.not_lt_zero _), Nat.le_refl _⟩⟩ ?_
        intro z L es ep t m Tz g kz
        obtain ⟨h', g', d', tk', os'⟩ := z
        obtain rfl : g' = s.gens := m.gens
        obtain rfl : d' = s.drawn := m.drawn
        obtain rfl : os' = s.os := m.os
        show wpAny _ _ _ _ _ _; refine wpAny_pure ?_; show wpAny _ _ (ret Value.none) _ _ _
        rw [isz] at g
        exact wpAny_pure ⟨rfl, h', tk', L, es, ep, t, rfl, Tz, g, kz⟩
      · cases r2 with
        | error e => exact hr2
        | ok fl2 =>
          cases fl2 with
          | ret r =>
            obtain ⟨rfl, h', tk, L, es, ep, t, rfl, T2, g2, k2⟩ := hr2
            repeat (any_goals first | assumption | wp_step)
            exact hQ _ _ _ _ _ _ T2 g2 k2
          | _ => exact hr2.elim
    | _ => exact hr.elim
end
end My
set_option Elab.async false
set_option linter.all false
set_option maxRecDepth 100000
set_option maxHeartbeats 1000000
/-! ### an error class over an error class over ValueError, whose own __init__ says super().__init__(f"..") and stores one field -/
namespace My
open PySem PySem.Spec PyProof.Rows L2 Evl NdefX ClX PySem.W
/-- what an f-string writes without more -/
def FmtOk (y : V) : Prop := (∃ z : Str, y = .str z ∧ z.length ≤ 1000) ∨ ∃ i : Int, y = .int i ∧ i.natAbs.log2 < 1920
def spSup (C : Addr) (fld : Str) : Sp := fun vs H Q _ => ∃ (a : Addr) (y : V), vs = [.ref a, y] ∧ H a = some (exo a C none) ∧ FmtOk y ∧ ∀ dx, H dx = none → dx ≠ a → Q .non (upd (upd H dx (exd dx [(fld, y)])) a (exo a C (some dx)))
/-- what the written part says of the class C and of its __init__ at f -/
structure SupC (P : Program) (K : PySem.W.Frag) (C f cda cc : Addr) (fld : Str) (F : NF) (doc pm ct : Value) (kV : Value) : Prop where
  T : OexC K C
  lk : ∃ oc od osl, K.lookup f = some ⟨oc, od, .func (ksFn F.name F.qual F.params F.body F.scope .none kV doc pm none (.ref cda) ct cc), osl⟩
  hcd : codeIn K (.ref cda) F.qual = true
  code : ∃ ccl cdd vs ccs file tf, K.lookup cda = some ⟨ccl, cdd, .fields vs, ccs⟩ ∧ vs[2]? = some (.str file tf) ∧ ((P.main.file : Str) == file) = true
  cell : ∃ cl cld csl, K.lookup cc = some ⟨cl, cld, .cell (some (.ref C)), csl⟩
  hsub : mroIn K C (.ref C) = some true
  hsup : ks_superIn K C C "__init__" = some (some (.builtin "ValueError.__init__"))
  hB : subIn K (.ref C) (.type "ValueError") = some true
  ho : nsIn K cStatics "thirdparty.any" = some none
  hno : findIn K (.ref C) fld = some none
/-- the f-string is of a kind that leaves the heap as it is -/
def FmtE (N : List Str) (sc : Scope) (e1 : Expr) : Prop := ∀ X : Cx, X.N = N → X.env.scope = sc → ∃ te, PE X e1 te ∧ ∀ (σ : L2.St) (H : Hp) (y : V) (Q : VK), σ[1]? = some (some y) → FmtOk y → (∀ v, Q v H) → te σ H Q
theorem fn_sup {P : Program} {w : World} {K : PySem.W.Frag} {mg : Str → Option Value} {base : Heap} {C f cda cc : Addr} {fld pn : Str} {F : NF} {doc pm ct kV : Value}
    (Z : SupC P K C f cda cc fld F doc pm ct kV) (hFc : F.c = cda) (hFcl : F.cl = [(("__class__" : Str), cc)])
    {p0 p1 p2 p3 p4 p5 p6 p7 p8 p9 : Pos} {e1 : Expr} (hbd : F.body = [.Expr (.Call (.Attribute (.Call (.Name "super" p0) [] [] p1) "__init__" p2) [e1] [] p3) p4, .Assign [.Attribute (.Name "self" p5) fld p6] (.Name pn p7) p8])
    {ar : Arg} (hp : (F.params.posonlyargs ++ F.params.args).head? = some ar) (har : ar.arg = "self")
    (S : NScope ["self", pn, "__class__"] ["self", pn] ["__class__"] F.scope) (hks : F.scope.names.lookup ("super" : Str) = some .globalImplicit)
    (htop : (P.main.scope.names.lookup ("super" : Str)).isSome = false) (hm : mg "super" = none) (hpn : (pn == ("__debug__" : Str)) = false) (hpn2 : (pn == ("__classdict__" : Str)) = false) (hfe : FmtE ["self", pn, "__class__"] F.scope e1) (hst : ∀ env, starEach [e1] env = (false, eval e1 env) :: starEach [] env) {pl : Env → Sem Bool}
    (hev : ∀ env, eval (.Call (.Attribute (.Call (.Name "super" p0) [] [] p1) "__init__" p2) [e1] [] p3) env = (do
      let ov ← attributeBase (.Call (.Name "super" p0) [] [] p1) "__init__" env (eval (.Call (.Name "super" p0) [] [] p1) env)
      standAt p2.atName
      let (f, first) ← holding [ov] (getMethod ov "__init__" (pl env))
      callWith p3 f first (backTo p3 (starEach [e1] env)) []))
    (hsw : ∀ env, swapsWith (.Call (.Attribute (.Call (.Name "super" p0) [] [] p1) "__init__" p2) [e1] [] p3) none p4.line env = pure false) (hsw2 : ∀ env, swapsWith (.Name pn p7) (some (.Attribute (.Name "self" p5) fld p6)) p8.line env = pure false) :
    FnOk P w K mg base CX0 1 f (ksFn F.name F.qual F.params F.body F.scope .none kV doc pm none (.ref cda) ct cc) ["self", pn] (spSup C fld) := by
  refine ⟨fun vs H Q E h => by obtain ⟨a, y, rfl, _⟩ := h; rfl, fun A outer s H args us vs Q E hr e0 hb r hsp => ?_⟩
  obtain ⟨a, y, rfl, ha, hy, q⟩ := hsp
  have KX : K.In s.heap := e0.mod.kin.keeps fun b o e => (e0.bs b o e).1
  have lim : s.heap.NoLimit := e0.mod.nolimit.keeps fun b o e => (e0.bs b o e).1
  obtain ⟨oc, od, osl, lk⟩ := Z.lk
  refine ks_codeAny_call_defAt (fd := ksFn F.name F.qual F.params F.body F.scope .none kV doc pm none (.ref cda) ct cc) (body := F.body) (binds := [("self" : Str), pn].zip us) hr.depth (KX _ _ lk) rfl lim (codeRec_of KX Z.hcd) rfl hb S.nocell (fun ⟨n, v⟩ hy => S.par n (List.of_mem_zip hy).1) (fun h₁ hns kp => ?_) S.co S.gen S.kind
  have hcl : CellsAt F.cl ["__class__"] [none] s.heap H := by
    obtain ⟨cl, cld, csl, hc⟩ := Z.cell
    have hcc := (e0.bs cc _ (e0.mod.kin _ _ hc))
    refine ⟨rfl, fun y' c e => ?_, fun x' y' c e1 e2 => ?_, fun i y' e => ?_⟩
    · rw [hFcl] at e
      have : c = cc := by
        unfold List.lookup at e
        split at e
        · exact (Option.some.inj e).symm
        · cases e
      subst this
      exact ⟨hcc.2, _, _, hcc.1, rfl⟩
    · rw [hFcl] at e1 e2
      unfold List.lookup at e1 e2
      split at e1
      · rename_i z1
        split at e2
        · rename_i z2
          rw [beq_iff_eq.mp z1, beq_iff_eq.mp z2]
        · cases e2
      · cases e1
    · match i, e with
      | 0, e =>
        have e := Option.some.inj e
        subst e
        exact ⟨cc, by rw [hFcl]; rfl, fun v z => nomatch z⟩
  have hl : [V.ref a, y].length = [("self" : Str), pn].length := rfl
  have I := inv_startN (CX := CX0) (E := E) (F := F) (f := f) (N := ["self", pn, "__class__"]) (tk := s.toks + ([("self" : Str), pn].zip us).length) S hr.hd e0 hl r hcl hns kp
  have henv : callEnv (ksFn F.name F.qual F.params F.body F.scope .none kV doc pm none (.ref cda) ct cc) s.heap.objs.size f = envF F f s.heap.objs.size := by
    unfold envF
    rw [hFc, hFcl]
    rfl
  rw [henv]
  clear henv
  have hkc : (envF F f s.heap.objs.size).kindOf "__class__" = some .free := S.frk "__class__" (by simp)
  have hka : (envF F f s.heap.objs.size).kindOf "self" = some .local := S.par "self" (by simp)
  have hcel : (envF F f s.heap.objs.size).cells.lookup ("__class__" : Str) = some cc := by
    show F.cl.lookup _ = _
    rw [hFcl]
    rfl
  obtain ⟨ccl, cdd, vs, ccs, file, tf, hco, hvs, hfile⟩ := Z.code
  obtain ⟨cl, cld, csl, hcc⟩ := Z.cell
  obtain ⟨nm, qn, N', bs, bm, sn, sub, ab, col, dd, k0, k1, k2, k3, k5, hC, hbm⟩ := Z.T.cls
  have hD : clsIn K C = some { name := nm, bases := bs, mro := .ref C :: bm, ns := N', qualname := qn, hasDict := true, slotNames := sn, subclasses := sub, abstract := ab, collection := col, hasDel := false } := by unfold clsIn; rw [hC] <;> rfl
  have hdat : ∀ t1 : Addr, ∀ c, ({ cls := .ref C, dict := none, data := .fields #[.ref t1, .none, .none, .none, .bool false, .none] } : Obj).data ≠ .cls c := fun t1 c z => nomatch z
  have eB : execs F.body (envF F f s.heap.objs.size) = execs [.Expr (.Call (.Attribute (.Call (.Name "super" p0) [] [] p1) "__init__" p2) [e1] [] p3) p4, .Assign [.Attribute (.Name "self" p5) fld p6] (.Name pn p7) p8] (envF F f s.heap.objs.size) := by rw [hbd]
  rw [eB]
  refine ks_wpAt_execs_cons (ks_wpAt_Expr_any (ks_wpAt_MethodCall ?_ (hev _)) I.quiet (hsw _))
  refine ks_wpAt_super_base (f := f) (cc := cda) (vs := vs) (file := file) (tf := tf) hks hkc rfl rfl (I.kIn _ _ lk) rfl hp (by show Value.ref F.c = _; rw [hFc]) (I.kIn _ _ hco) rfl hvs hfile htop ?_
  obtain ⟨mb, hb1, hb2⟩ := I.mod.blt
  refine ks_loadName_global S.kind hks (Calls.loadGlobal_builtin (I.mod.glob.keeps I.bk) hm (hb1.keeps I.bk) ((hb2 _ (by decide)).trans (by decide +kernel)) ⟨rfl, ?_⟩)
  refine wpAny_loadName_free S.kind hkc hcel ⟨_, I.kIn _ _ hcc, rfl⟩ ?_
  obtain ⟨mL, hnL, hlL⟩ := id I.loc
  obtain ⟨u, ru, lku⟩ := hlL 0 "self" (.ref a) rfl rfl (Or.inl hka)
  obtain rfl : u = .ref a := ru
  rw [har]
  refine wpAny_loadName_local S.kind hka hnL (by
    rcases lku with ⟨_, z⟩ | ⟨z, _⟩
    · exact z
    · rcases z with z | z
      · exact absurd ((show F.scope.names.lookup ("self" : Str) = some .local from hka).symm.trans z) (by decide)
      · exact absurd ((show F.scope.names.lookup ("self" : Str) = some .local from hka).symm.trans z) (by decide)) ?_
  refine ks_wpAny_isType_cls (I.kIn _ _ hC) rfl ⟨rfl, ?_⟩
  obtain ⟨t1, hx⟩ := exo_at I.hok ha
  refine ks_wpAny_call_super (I.kIn _ _ hC) rfl hx rfl (hdat t1) (looks_mroIn I.kIn Z.hsub) (fun h' hso kk => ?_)
  have I2 := I.kept (t' := s.toks + ([("self" : Str), pn].zip us).length) kk
  have hmro : Looks (model P w) h' (mroOf (.ref C)) (.ref C :: bm) := fun A Q E s k q => wpAny_bind ((looks_clsIn I2.kIn hD) A _ E s k (wpAny_pure q))
  have hsup := Z.hsup
  unfold ks_superIn at hsup
  rw [hD] at hsup
  have J : InstAt h' a ({ cls := .ref C, dict := none, data := .fields #[.ref t1, .none, .none, .none, .bool false, .none] } : Obj) C none := ⟨kk _ _ hx, rfl, rfl, trivial⟩
  have hI : Looks (model P w) h' (isInstance (.ref a) (.type "ValueError")) true := J.type.andThen (looks_subIn I2.kIn Z.hB)
  refine kxs_getMethod kxs_ValueError hso (looks_opaque I2.kIn Z.ho) hmro rfl I2.kIn hsup hI (ks_ne I2.kIn J hD) (by decide) ?_
  have I3 := pin_new (o := kxs_mw "ValueError.__init__" a) (a := h'.objs.size) (t' := s.toks + ([("self" : Str), pn].zip us).length + 1) I2 (fun b o e => Heap.get?_push_of_some _ e) (Nat.le_refl _) (Heap.get?_push_at rfl rfl) (fun v z => nomatch z)
  have ha' : h'.objs.size ≠ a := fun z => by
    have := pin_un I3
    rw [z, ha] at this
    cases this
  show wpAny _ _ (callWith p3 (.ref h'.objs.size) [] (backTo p3 (starEach [e1] (envF F f s.heap.objs.size))) []) _ _ _
  rw [hst]
  refine kxs_callWith (i := "ValueError.__init__") (x := a) rfl (Calls.evalArgs_plain ?_)
  obtain ⟨te, hte, hread⟩ := hfe (ncx CX0 P w K mg base ["self", pn, "__class__"] F f A outer s H E) rfl rfl
  have hrun := (pa_cons hte pa_nil (hst _)).run p3 _ _ _ _ (fun vs H1 => H1 = H ∧ vs.length ≤ 1000) I3 (hread _ _ y _ rfl hy fun v => ⟨rfl, by show 1 ≤ 1000; decide⟩)
  rw [show (ncx CX0 P w K mg base ["self", pn, "__class__"] F f A outer s H E).env = envF F f s.heap.objs.size from rfl, hst] at hrun
  refine thn hrun fun us1 s1 hh => ?_
  obtain ⟨vs1, H1, I4, r4, rfl, hlen⟩ := hh
  refine ⟨pin_at I4, ?_⟩
  have hus : us1.length ≤ sizeLine := by
    rw [← Paired.length r4, sizeLine_eq]
    omega
  obtain ⟨t2, hx4⟩ := exo_at I4.hok ha
  have hu4 := pin_at I4
  obtain ⟨hh4, g4, d4, tk4, os4⟩ := s1
  show wpAny _ _ (call (.ref h'.objs.size) us1) _ _ _
  refine wpAny_call (codeAny_of_tree ?_)
  show wpAny _ _ (callAny (.ref h'.objs.size) ⟨us1, []⟩) _ _ _
  simp only [callAny]
  refine wpAny_bind (wpAny_load hu4 ?_)
  simp only [kxs_mw, show (Value.type "method-wrapper" == Value.type "method" || Value.type "method-wrapper" == Value.type "builtin_function_or_method" || Value.type "method-wrapper" == Value.type "method-wrapper") = true by decide, if_true]
  refine KFB.if_so (by decide) ?_
  refine wpAny_bind (check_bound_init PySem.F.excBase_ValueError.toExcCallFacts (I4.kIn _ _ hC) hx4 rfl ?_)
  refine wpAny_bind (wpAny_pure (wpAny_pure ?_))
  refine ⟨plainId_quiet PySem.F.excBase_ValueError.init.plain _, codeAny_builtin PySem.F.excBase_ValueError.initEntry ?_⟩
  refine exc_init_tree (cls := .ref C) (t0 := t2) (dv := none) (c2 := .none) (c3 := .none) (b4 := .bool false) hx4 hus fun h5 k5 hx5 _ => ?_
  have I5 := I4.write (t' := tk4) (x := a) (e := a) (o := exo a C none) (by rw [ha]; exact True.intro) (.inl rfl) k5 ⟨_, hx5⟩ (exo_ok hx5)
  have eu : upd H1 a (exo a C none) = H1 := by
    funext b
    by_cases hb : b = a
    · rw [hb, upd_same, ha]
    · rw [upd_ne hb]
  rw [eu] at I5
  have I6 := unpin I5
  show PySem.wpAt _ _ _ (execs _ _) _ _ _
  refine PySem.wpAt_of_wpAny ?_
  have hkp : F.scope.names.lookup pn = some .local := S.par pn (by simp)
  have hstm : PS (ncx CX0 P w K mg base ["self", pn, "__class__"] F f A outer s H1 E) (.Assign [.Attribute (.Name "self" p5) fld p6] (.Name pn p7) p8) (tOst K fld (tVar 0) (tVar 1)) :=
    ps_ost (pv 0 rfl (Or.inl hka)) (pv 1 rfl (Or.inl hkp) hpn hpn2) (hsw2 _)
  have hps := (pss_one hstm).run [] _ _ H1 { nx := fun _ H' => Q .non H', rt := Q, bk := fun _ _ => False, ct := fun _ _ => False } I6 ⟨y, rfl, .ref a, rfl, a, C, rfl, Z.T, Z.hno, Or.inl ⟨ha, q⟩⟩
  refine wpAny_mono hps (fun fl s' hs => ?_) fun e s' hs => hs
  have fin : ∀ {σ' : L2.St} {H' : Hp} {v : V} {u : Value}, L2.Inv (ncx CX0 P w K mg base ["self", pn, "__class__"] F f A outer s H1 E) [] σ' H' s' → L2.RelV v u → Q v H' → CE outer P w H1 s Q u s' :=
    fun {σ' H' v u} J rv q => ⟨v, H', J.os, J.bare, J.base, J.hok, rv, q⟩
  cases fl with
  | ret u =>
    obtain ⟨v, σ', H', J, rv, q⟩ := hs
    exact fin J rv q
  | next =>
    obtain ⟨σ', H', J, q⟩ := hs
    exact fin (v := V.non) (u := Value.none) J rfl q
  | brk =>
    obtain ⟨_, _, _, q⟩ := hs
    exact False.elim q
  | cont =>
    obtain ⟨_, _, _, q⟩ := hs
    exact False.elim q
end My
set_option Elab.async false
set_option linter.all false
set_option maxRecDepth 100000
set_option maxHeartbeats 1000000
/-! ### methods, methods that may raise, errors with a field: raised, caught, asked -/
namespace My
open PySem PySem.Spec PyProof.Rows L2 Evl
section
variable {P : Program} {w : World} {K : PySem.W.Frag} {mg : Str → Option Value} {base : Heap}
/-- a method (or an __init__) of the class C that keeps a promise -/
structure Mdf (P : Program) (w : World) (K : PySem.W.Frag) (mg : Str → Option Value) (base : Heap) (CX : CXT) (k : Nat) (C : Addr) (m : Str) (ps : List Str) (sp : Sp) : Prop where
  ex : ∃ (f : Addr) (fd : FuncData), FnOk P w K mg base CX k f fd ps sp ∧ Meth K C m f ∧ Binds K fd ps []
/-- a method as the text has it -/
def AtM (K : PySem.W.Frag) (C : Addr) (m qual : Str) (st : Stmt) : Prop := ∃ f fd, Fun K m qual st f fd ∧ Meth K C m f
theorem mdf_ok {C : Addr} {m qual : Str} {st : Stmt} {N ps : List Str} {k : Nat} {sp : Sp} (A : AtM K C m qual st) (S : FnScope N ps (defScope st))
    (hb : ∀ (kV doc pm : Value) (an : Option Addr) (cdv ct : Value) (us : List Value), us.length = ps.length → bindArgs (PySem.W.fnOf m qual (defArgs st) (defBody st) (defScope st) .none kV doc pm an cdv ct) ⟨us, []⟩ = pure (ps.zip us))
    (len : ∀ vs H Q E, sp vs H Q E → vs.length = ps.length)
    (hbody : ∀ (f : Addr) (cdv : Value) (A : Around) (outer : List Env) (s : Shared) (H : Hp) (vs : List V) (Q : VK) (E : XK), Room k (A.deeper (envOfC qual (defScope st) s.heap.objs.size f cdv)) → sp vs H Q E →
      ∃ t, PSs (cxOf CX0 P w K mg base N qual (defScope st) f cdv A outer s H E).nox (defBody st) t ∧ t { nx := fun _ H' => Q .non H', rt := Q } (start N vs) H) : Mdf P w K mg base CX0 (k + 1) C m ps sp := by
  obtain ⟨f, fd, F, hm⟩ := A
  exact ⟨f, fd, F.ok S len (hbody f), hm, F.binds hb⟩
theorem mdf_okX {C : Addr} {m qual : Str} {st : Stmt} {N ps : List Str} {k : Nat} {sp : Sp} (A : AtM K C m qual st) (S : FnScope N ps (defScope st))
    (hb : ∀ (kV doc pm : Value) (an : Option Addr) (cdv ct : Value) (us : List Value), us.length = ps.length → bindArgs (PySem.W.fnOf m qual (defArgs st) (defBody st) (defScope st) .none kV doc pm an cdv ct) ⟨us, []⟩ = pure (ps.zip us))
    (len : ∀ vs H Q E, sp vs H Q E → vs.length = ps.length)
    (hbody : ∀ (f : Addr) (cdv : Value) (A : Around) (outer : List Env) (s : Shared) (H : Hp) (vs : List V) (Q : VK) (E : XK), Room k (A.deeper (envOfC qual (defScope st) s.heap.objs.size f cdv)) → sp vs H Q E →
      ∃ t, PSs (cxOf (L2.CX P w) P w K mg base N qual (defScope st) f cdv A outer s H E) (defBody st) t ∧ t { nx := fun _ H' => Q .non H', rt := Q } (start N vs) H) : Mdf P w K mg base (L2.CX P w) (k + 1) C m ps sp := by
  obtain ⟨f, fd, F, hm⟩ := A
  exact ⟨f, fd, F.okX S len (hbody f), hm, F.binds hb⟩
theorem Mdf.mono {CX : CXT} {C : Addr} {m : Str} {ps : List Str} {j k : Nat} {sp : Sp} (D : Mdf P w K mg base CX j C m ps sp) (h : j ≤ k) : Mdf P w K mg base CX k C m ps sp := by
  obtain ⟨f, fd, F, r⟩ := D.ex
  exact ⟨f, fd, F.mono h, r⟩
/-- a def that never lets an error out where its promise wishes none -/
theorem fnok_never {k : Nat} {f : Addr} {fd : FuncData} {ps : List Str} {sp : Sp} (F : FnOk P w K mg base (L2.CX P w) k f fd ps sp) : FnOk P w K mg base CX0 k f fd ps (fun vs H Q _ => sp vs H Q fun _ _ _ => False) :=
  ⟨fun vs H Q E h => F.len vs H Q _ h, fun A outer s H args us vs Q E hr he hb hv hs => codeAny_mono (F.run A outer s H args us vs Q _ hr he hb hv hs) fun r s' hq => by
    cases r with
    | ok fl => cases fl <;> exact hq
    | error e =>
      have hq : L2.CX P w outer H s (fun _ _ _ => False) e s' := hq
      obtain ⟨_, _, _, _, _, _, _, _, _, _, _, _, _, _, _, z⟩ := hq⟩
theorem Mdf.never {k : Nat} {C : Addr} {m : Str} {ps : List Str} {sp : Sp} (D : Mdf P w K mg base (L2.CX P w) k C m ps sp) : Mdf P w K mg base CX0 k C m ps (fun vs H Q _ => sp vs H Q fun _ _ _ => False) := by
  obtain ⟨f, fd, F, r⟩ := D.ex
  exact ⟨f, fd, fnok_never F, r⟩
end
section
variable {X : Cx} {k : Nat} {C : Addr} {m x : Str} {ps : List Str} {sp : Sp} {e o : Expr} {es : List Expr} {p pos apos : Pos} {ta : TE} {t : TA}
theorem pe_m {pl : Sem Bool} (D : Mdf X.prog X.w X.K X.mg X.base CX0 k C m ps sp) (c : Cls X.K C) (hr : Room k X.A) (he : PE X o ta) (ha : PA X (e :: es) t)
    (hst : starEach (e :: es) X.env = (false, eval e X.env) :: starEach es X.env := by rfl) (hpl : (backTo pos (starEach es X.env)).any (·.1) = false := by rfl)
    (ht : eval (.Call (.Attribute o m apos) (e :: es) [] pos) X.env = (do
      let ov ← eval o X.env; standAt apos.atName
      let (f, first) ← holding [ov] (getMethod ov m pl)
      callWith pos f first (backTo pos (starEach (e :: es) X.env)) (backToKw pos (keywordEach [] X.env))) := by rfl) : PE X (.Call (.Attribute o m apos) (e :: es) [] pos) (tMeth C m sp [] E0 ta t) := by
  obtain ⟨f, fd, F, hm, hb⟩ := D.ex
  exact pe_meth he c hm F hr hb .nil pass0 ha hst hpl ht
theorem pe_m0 {pl : Sem Bool} (D : Mdf X.prog X.w X.K X.mg X.base CX0 k C m ps sp) (c : Cls X.K C) (hr : Room k X.A) (he : PE X o ta)
    (ht : eval (.Call (.Attribute o m apos) [] [] pos) X.env = (do
      let ov ← eval o X.env; standAt apos.atName
      let (f, first) ← holding [ov] (getMethod ov m pl)
      callWith pos f first (backTo pos (starEach [] X.env)) (backToKw pos (keywordEach [] X.env))) := by rfl) : PE X (.Call (.Attribute o m apos) [] [] pos) (tMeth C m sp [] E0 ta tNil) := by
  obtain ⟨f, fd, F, hm, hb⟩ := D.ex
  exact pe_meth0 he c hm F hr hb .nil pass0 ht
/-- o.m(e, ..), what is raised is wished for at the caller's slots -/
def tMethA (C : Addr) (m : Str) (sp : Sp) (E : L2.St → XK) (ta : TE) (t : TA) : TE := fun σ H Q => ta σ H fun x H1 => ∃ a dx fs, x = .ref a ∧ H1 a = some (.ins C dx fs) ∧ fs.lookup m = none ∧ t σ H1 fun vs H2 => sp (x :: vs) H2 Q (E σ)
theorem pe_mA {W : WX} {pl : Sem Bool} (D : Mdf X.prog X.w X.K X.mg X.base (L2.CX X.prog X.w) k C m ps sp) (c : Cls X.K C) (hr : Room k X.A) (tk : Takes X W) (he : PE X o ta) (ha : PA X (e :: es) t)
    (hst : starEach (e :: es) X.env = (false, eval e X.env) :: starEach es X.env := by rfl) (hpl : (backTo pos (starEach es X.env)).any (·.1) = false := by rfl)
    (ht : eval (.Call (.Attribute o m apos) (e :: es) [] pos) X.env = (do
      let ov ← eval o X.env; standAt apos.atName
      let (f, first) ← holding [ov] (getMethod ov m pl)
      callWith pos f first (backTo pos (starEach (e :: es) X.env)) (backToKw pos (keywordEach [] X.env))) := by rfl) : PE X (.Call (.Attribute o m apos) (e :: es) [] pos) (tMethA C m sp (WE W) ta t) := by
  obtain ⟨f, fd, F, hm, hb⟩ := D.ex
  refine ⟨fun pins s σ H Q I h => PySem.W.methodCall_KW (pl := pl) (thn (he.run pins s σ H _ I h) fun u s1 hh => ?_) ht⟩
  obtain ⟨x, H1, I1, rx, a, dx, fs, ex, ea, l, q⟩ := hh
  subst ex
  obtain rfl : u = Value.ref a := rx
  refine getmeth_ok I1 ea c hm l (PySem.W.callWith_K (first := [.ref a]) (h₀ := X.base) I.ok.mod.kin hm.kp (thn (ha.run pos pins s1 σ H1 _ I1 q) fun us s2 hh => ?_) hst hpl)
  obtain ⟨vs, H2, I2, r, q2⟩ := hh
  exact ⟨I2.kIn, run_fnS (us := .ref a :: us) (vs := .ref a :: vs) F hr hb (passAt tk σ) I2 (.cons rfl r) q2⟩
/-- C(e, ..) by the promise of its __init__ -/
theorem pe_mk (D : Mdf X.prog X.w X.K X.mg X.base CX0 k C "__init__" ps sp) (mk : PySem.W.makesIn X.K C = true) (kc : PySem.W.keepIn X.K (.ref C) = true) (hm : X.mg x = some (.ref C)) (hr : Room (k + 1) X.A) (ha : PA X (e :: es) t) (hg : Gl X x := by rfl)
    (hdb : (x == ("__debug__" : Str)) = false := by decide) (he : starEach (e :: es) X.env = (false, eval e X.env) :: starEach es X.env := by rfl) (hpl : (backTo pos (starEach es X.env)).any (·.1) = false := by rfl) :
    PE X (.Call (.Name x p) (e :: es) [] pos) (tMake C sp [] E0 t) := by
  obtain ⟨f, fd, F, hmt, hb⟩ := D.ex
  exact pe_make ⟨mk, hmt.at_, hmt.fn, kc⟩ F hr hg hm hb .nil pass0 ha hdb he hpl
end
/-! ### an error with one field is made -/
section
variable {K : PySem.W.Frag} {σ : L2.St} {H : Hp} {te : TE}
theorem mk_sup {C : Addr} {fld : Str} {y : V} {XQ : XK} (h : Ev te σ H y) (hy : FmtOk y) (k : ∀ d H', H d = none → Ex H H' → H' d = some (.xd [(fld, y)]) → XQ (.ref C) (some d) H') : tMkO C (spSup C fld) [] (tCons te tNil) σ H XQ :=
  h H (Ex.refl H) _ fun H1 e1 => ⟨by show 1 ≤ 1000; decide, fun a na => ⟨a, y, rfl, upd_same, hy, fun dx nx nex => by
    have nd1 : H1 dx = none := by rw [upd_ne nex] at nx; exact nx
    refine ⟨rfl, dx, [(fld, y)], upd_same, by rw [upd_ne nex, upd_same], nd1, ?_⟩
    have eq : upd (del (upd (upd (upd H1 a (exo a C none)) dx (exd dx [(fld, y)])) a (exo a C (some dx))) a) dx (.xd [(fld, y)]) = upd H1 dx (.xd [(fld, y)]) := by
      funext b
      by_cases hb : b = dx
      · rw [hb, upd_same, upd_same]
      · rw [upd_ne hb, upd_ne hb]
        by_cases hba : b = a
        · rw [hba, del_same, na]
        · rw [del_ne hba, upd_ne hba, upd_ne hb, upd_ne hba]
    rw [eq]
    exact k dx _ (fresh_back e1 nd1) (e1.trans (Ex.new nd1)) upd_same⟩⟩
end
end My
set_option Elab.async false
set_option linter.all false
set_option maxRecDepth 100000
set_option maxHeartbeats 4000000
/-! ### isinstance of a caught error that has a dict -/
namespace My
open PySem PySem.Spec PySem.Calls PyProof.Rows PySem.W
section
variable {prog : Program} {w : World} {A : Around} {E : Value → Shared → Prop} {s : Shared} {K : Frag} {x D : Addr} {ox : Obj} {od : Option Obj}
theorem fo_data {C : Addr} {name : Str} {a g : Value} (hc : (clsIn K C).isSome = true) (ha : findIn K (.ref C) name = some (some a)) (hg : specialIn K a "__get__" = some (some g)) (ht : takesIn K a = some true) :
    findObj K C od name = some (.bind g a) := by
  obtain ⟨cd, hc⟩ := Option.isSome_iff_exists.mp hc
  unfold findObj
  rw [hc, Option.bind_some, ha, Option.bind_some]
  simp [hg, ht]
/-- error.__class__ -/
theorem cls_of_err {Q : Option Value → Shared → Prop} (C : L2.ExcC K D) (X : K.In s.heap) (I : InstAt s.heap x ox D od) (h : Q (some (.ref D)) { s with toks := s.toks + 1 }) :
    wpAny (model prog w) A (getAttr? (.ref x) "__class__") Q E s := by
  have hf : findObj K D od "__class__" = some (.bind (.builtin "getset_descriptor.__get__") (.builtin "object.__class__")) :=
    fo_data (by obtain ⟨cd, hc, _⟩ := any_some C.hd; rw [hc]; rfl) C.ha C.hn C.ht
  obtain ⟨hp, g, d, t, os⟩ := s
  have T0 := I.type (M := model prog w)
  have T1 := looks_findIn (M := model prog w) X C.hg
  have T2 := looks_findIn (M := model prog w) X C.hk
  have T3 := looks_find (M := model prog w) X I hf
  have sub : Looks (model prog w) hp (isInstance (.ref x) (.type "BaseException")) true := T0.andThen (looks_subIn X C.hs)
  have n2 : (Value.builtin "BaseException.__getattribute__" == Value.builtin "object.__getattribute__") = false := by decide +kernel
  have n1 : (onTheHeap (Value.ref D) && Value.builtin "BaseException.__getattribute__" == Value.builtin "object.__getattribute__") = false := by rw [n2]; rfl
  have n0 : (false && onTheHeap (Value.builtin "BaseException.__getattribute__")) = false := rfl
  unfold getAttr? getAttrBy? getAttrBy
  refine wpAny_bind (wpAny_mkText (wpAny_bind (wpAny_attempt (wpAny_holding (wpAny_bind (T0.at (wpAny_bind (T1.at ?_))))))))
  show wpAny _ _ (if (onTheHeap (Value.ref D) && Value.builtin "BaseException.__getattribute__" ==
    Value.builtin "object.__getattribute__") = true then _ else _) _ _ _
  rw [n1, if_neg Bool.false_ne_true]
  unfold getAttrByItsOwn hookBefore
  refine wpAny_bind ?_
  rw [if_pos (show onTheHeap (Value.ref D) = true from rfl)]
  refine T2.at (wpAny_bind (wpAny_attempt (wpAny_holding ?_)))
  unfold callGetattribute
  rw [n0, if_neg Bool.false_ne_true]
  unfold boundAndCalled
  rw [PySem.F.excAttr_ValueError.ga.bind (.ref x)]
  refine wpAny_bind (wpAny_pure (?_ : wpAny _ _ (call (.builtin "BaseException.__getattribute__") [.ref x, .str "__class__" t]) _ _ _))
  refine wpAny_call (codeAny_call_builtin PySem.F.excAttr_ValueError.ga.plain PySem.F.entry_bexc_ga
    (@check_slot (model prog w) _ _ ⟨hp, g, d, t + 1, os⟩ "BaseException.__getattribute__" "BaseException" "__getattribute__" (.ref x) [.str "__class__" t] [] _ (by decide +kernel) (by decide +kernel) sub (PySem.F.args_bexc_ga (.ref x) (.str "__class__" t)) ?_))
  unfold Builtin.«object.__getattribute__»
  refine wpAny_bind (wpAny_of_eq (a := ((Value.ref x : Value), [Value.str "__class__" t])) (by first | rfl | (simp only [slotArgs]; rfl)) (wpAny_bind (wpAny_pure (wpAny_bind (T0.at (wpAny_bind (T3.at ?_)))))))
  show wpAny _ _ (holding [Value.builtin "object.__class__"] (call (.builtin "getset_descriptor.__get__")
    [.builtin "object.__class__", .ref x, .ref D]) >>= ret) _ _ _
  refine wpAny_bind (wpAny_holding (wpAny_call (class_get (s := ⟨hp, g, d, t + 1, os⟩) (ox := ox) (od := od) X I C.hm (wpAny_pure ?_))))
  show wpAny _ _ (handedOut (.ref D)) _ _ _
  rw [handedOut_of (v := .ref D) rfl]
  first
    | exact wpAny_pure (wpAny_pure h) | exact wpAny_pure h
    | exact wpAny_pure (wpAny_bind (wpAny_pure (wpAny_pure h)))
theorem kit_err (C : L2.ExcC K D) : KitX K (.ref x) (.ref D) (fun h => ∃ od, InstAt h x ox D od) where
  ty := fun _ _ _ ⟨_, I⟩ => I.type
  it := fun _ _ X _ => by
    obtain ⟨cdD, hcD, _⟩ := any_some C.hd
    unfold clsIn at hcD
    split at hcD
    · rename_i c' d' cd' sl' ho
      intro A' Q' E' s' k q
      unfold isType loadHead
      exact wpAny_bind (wpAny_loadPart (k _ _ (X _ _ ho)) (wpAny_pure q))
    · cases hcD
  ne := fun h tp dd its n sl X htp => by
    obtain ⟨cdD, hcD, _⟩ := any_some C.hd
    refine Bool.eq_false_iff.mpr fun q => ?_
    have e : D = tp := Value.ref.inj (beq_iff_eq.mp q)
    subst e
    unfold clsIn at hcD
    split at hcD
    · rename_i c' d' cd' sl' ho
      have z := (X _ _ ho).symm.trans htp
      cases z
    · cases hcD
  ca := fun X ⟨_, I⟩ k => cls_of_err C X I k
end
open L2 Evl
/-- isinstance(e, C), both own classes of errors, the answer of the text -/
def rIsX (K : PySem.W.Frag) (D a : Addr) (cls : Value) : List V → Hp → VK → Prop := fun xs H Q => ∃ (c : Addr) (b : Bool), xs = [.ref a, .ref c] ∧ cls = .ref D ∧ PySem.W.kitOne K (.ref D) (.ref c) = some b ∧ Q (.bl b) H
theorem call_isX {X : Cx} {a D : Addr} {oe : Obj} {pn : List (Addr × Obj)} {cls : Value} {d : Option Addr} (C : ExcC X.K D) (hz : Zc cls d oe) (hf : ∃ vs, oe.data = .fields vs) (hd : ∀ dd, d = some dd → True) :
    CallR (X.suite a ((a, oe) :: pn)) (.builtin "isinstance") (fun xs H Q => (∀ dd, d = some dd → ∃ fs, H dd = some (.xd fs)) ∧ rIsX X.K D a cls xs H Q) := by
  intro pins s σ H xs us Q I r ⟨hdd, h⟩
  obtain ⟨c, b, rfl, rfl, e, q⟩ := h
  cases r with
  | cons rx rr =>
    cases rr with
    | cons rt rr =>
      cases rr
      cases rx
      cases rt
      obtain ⟨hget, _⟩ := I.pin (a, oe) (List.mem_append.mpr (.inl List.mem_cons_self))
      obtain ⟨vs, hv⟩ := hf
      have J : ∃ od, PySem.W.InstAt s.heap a oe D od := by
        obtain ⟨oc, od, oda, osl⟩ := oe
        obtain ⟨h1, h2⟩ := hz
        dsimp only at h1 h2 hv
        subst h1 h2 hv
        cases od with
        | none => exact ⟨none, hget, rfl, rfl, trivial⟩
        | some dd =>
          obtain ⟨fs, hfs⟩ := hdd dd rfl
          obtain ⟨mA, hns, _⟩ := (show ObjOk X.prog X.w H s.heap dd (.xd fs) from I.hok dd _ hfs)
          obtain ⟨o, ho, _⟩ := lookIn_ns hns
          exact ⟨some o, hget, rfl, rfl, ho⟩
      exact PySem.W.kia_one (kit_err C) I.kIn J e (fun z => nomatch z) fun tk => ⟨.bl b, H, I.kept (t' := tk) fun _ _ z => z, rfl, q⟩
end My
set_option Elab.async false
set_option linter.all false
set_option maxRecDepth 100000
set_option maxHeartbeats 1000000
/-! ### an f-string of three parts: what it writes is short -/
namespace My
open PySem PySem.Spec PyProof.Rows L2 Evl
theorem fmt_of {pn c1 c2 : Str} {k1 k2 : _} {q1 q2 q3 q4 q5 : Pos} {sc : Scope} (hpn : sc.names.lookup pn = some .local) (h1 : (pn == ("__debug__" : Str)) = false) (h2 : (pn == ("__classdict__" : Str)) = false) (l1 : c1.length ≤ 1000) (l2 : c2.length ≤ 1000) :
    FmtE ["self", pn, "__class__"] sc (.JoinedStr [.Constant (.str c1) k1 q1, .FormattedValue (.Name pn q2) (-1) none q3, .Constant (.str c2) k2 q4] q5) := fun X hN hs => by
  refine ⟨_, pe_joined (.cons pe_str (.cons (pe_fmt (pv 1 (by rw [hN]; rfl) (Or.inl (by rw [hs]; exact hpn)) h1 h2)) (.cons pe_str .nil))), fun σ H y Q hσ hy q => ?_⟩
  have fin : ∀ z : Str, z.length ≤ 3000 → (Str.empty ++ c1 ++ z).length ≤ sizeLine ∧ (Str.empty ++ c1 ++ z ++ c2).length ≤ sizeLine := fun z hz => by
    have e0 : (Str.empty : Str).length = 0 := rfl
    have e1 := Str.length_append Str.empty c1
    have e2 := Str.length_append (Str.empty ++ c1) z
    have e3 := Str.length_append (Str.empty ++ c1 ++ z) c2
    rw [sizeLine_eq]
    omega
  have f0 : (Str.empty ++ c1).length ≤ sizeLine := by
    have e1 := Str.length_append Str.empty c1
    have e0 : (Str.empty : Str).length = 0 := rfl
    rw [sizeLine_eq]
    omega
  refine ⟨c1, rfl, f0, y, hσ, ?_⟩
  rcases hy with ⟨z, rfl, hz⟩ | ⟨i, rfl, hi⟩
  · exact Or.inl ⟨z, rfl, by rw [sizeLine_eq]; omega, z, rfl, (fin z (by omega)).1, c2, rfl, (fin z (by omega)).2, q _⟩
  · have hl : (toString i : Str).length ≤ 3000 := by
      have e := int_text_length_le (k := 1920) (by decide) hi
      rw [show (toString i : Str) = Str.ofString (toString i) from rfl, PySem.ofString_length]
      omega
    exact Or.inr ⟨i, rfl, hi, _, rfl, (fin _ hl).1, c2, rfl, (fin _ hl).2, q _⟩
end My
set_option Elab.async false
set_option linter.all false
set_option maxRecDepth 100000
set_option maxHeartbeats 400000
/-! ### a memory: an object with a list of rows -/
namespace My
open PySem PySem.Spec PyProof.Rows L2 Evl
section
variable {K : PySem.W.Frag} {σ : L2.St} {H : Hp} {ta tb te : TE} {tz : TS} {D : Ends}
theorem ev_fld {f : Str} {a C dx : Addr} {fs : List (Str × V)} {v : V} (h : Ev ta σ H (.ref a)) (ha : H a = some (.ins C dx fs)) (c : Cls K C) (n : NoAttr K C f) (l : fs.lookup f = some v) : Ev (tFld K ta f) σ H v := fun H1 e Q q =>
  h H1 e _ fun H2 e2 => ⟨a, C, dx, fs, v, rfl, (e.trans e2) _ _ ha, c, n, l, q H2 e2⟩
theorem el_repN {x : V} {n : Nat} (ha : EvL ta σ H [x]) (hb : Ev tb σ H (.int (n : Int))) (hn : n ≤ 100000) : EvL (tOp rRep ta tb) σ H (List.replicate n x) := fun H1 e Q q =>
  ha H1 e _ fun p H2 np e2 hp => hb H2 (e.trans e2) _ fun H3 e3 => ⟨p, _, [x], rfl, rfl, e3 _ _ hp, by omega, by omega, by rw [Int.toNat_natCast]; exact sz_of (by show 1 * n ≤ _; omega), fun l nl => by
    refine q l _ (fresh_back (e2.trans e3) nl) ((e2.trans e3).trans (Ex.new nl)) ?_
    rw [upd_same, Int.toNat_natCast]
    have : ∀ n : Nat, (List.replicate n [x]).flatten = List.replicate n x := fun n => by
      induction n with
      | zero => rfl
      | succ n ih => rw [List.replicate_succ, List.flatten_cons, ih]; rfl
    rw [this]⟩
/-- a value that comes with a heap that may be changed -/
def EvM (te : TE) (σ : L2.St) (H : Hp) (P : V → Hp → Prop) : Prop := ∀ Q : VK, (∀ v H', P v H' → Q v H') → te σ H Q
theorem q_dropM {P : V → Hp → Prop} (h : EvM te σ H P) (k : ∀ v H', P v H' → tz D σ H') : tSeq (tDrop te) tz D σ H := h _ k
theorem s_dropM {P : V → Hp → Prop} (h : EvM te σ H P) (k : ∀ v H', P v H' → D.nx σ H') : tDrop te D σ H := h _ k
theorem q_asgM {i : Nat} {P : V → Hp → Prop} (h : EvM te σ H P) (k : ∀ v H', P v H' → tz D (σ.set i (some v)) H') : tSeq (tAsg te (gName i)) tz D σ H := h _ k
end
/-- all that stands elsewhere than at R stands as before -/
def Kp1 (R : Addr) (H H' : Hp) : Prop := ∀ o u, o ≠ R → H o = some u → H' o = some u
theorem Kp1.ex {R : Addr} {H H1 H2 : Hp} (k : Kp1 R H H1) (e : Ex H1 H2) : Kp1 R H H2 := fun o u h1 h => e _ _ (k o u h1 h)
theorem Kp1.of {R : Addr} {H H' : Hp} (e : Ex H H') : Kp1 R H H' := fun o u _ h => e _ _ h
theorem Kp1.u {R : Addr} {H H1 : Hp} {o : HO} (k : Kp1 R H H1) : Kp1 R H (upd H1 R o) := fun a u h1 h => by rw [upd_ne h1]; exact k a u h1 h
theorem Kp1.trans {R : Addr} {H H1 H2 : Hp} (k : Kp1 R H H1) (k2 : Kp1 R H1 H2) : Kp1 R H H2 := fun a u h1 h => k2 a u h1 (k a u h1 h)
theorem Ex.kp1 {R : Addr} {H H1 H2 : Hp} (e : Ex H H1) (k : Kp1 R H1 H2) : Kp1 R H H2 := fun a u h1 h => k a u h1 (e _ _ h)
/-- the fields, in the order of their stores -/
def mflds (R : Addr) (c b : Nat) : List (Str × V) := [("cells", .int (c : Int)), ("bits", .int (b : Int)), ("_rows", .ref R)]
theorem s_cb : ¬ ("cells" : Str) = "bits" := by decide +kernel
theorem s_cr : ¬ ("cells" : Str) = "_rows" := by decide +kernel
theorem s_br : ¬ ("bits" : Str) = "_rows" := by decide +kernel
theorem mf_cells (R : Addr) (c b : Nat) : (mflds R c b).lookup ("cells" : Str) = some (.int (c : Int)) := by
  unfold mflds
  rw [List.lookup_cons, show (("cells" : Str) == "cells") = true by decide +kernel]
theorem mf_bits (R : Addr) (c b : Nat) : (mflds R c b).lookup ("bits" : Str) = some (.int (b : Int)) := by
  unfold mflds
  rw [List.lookup_cons, show (("bits" : Str) == "cells") = false by decide +kernel, List.lookup_cons, show (("bits" : Str) == "bits") = true by decide +kernel]
theorem mf_rows (R : Addr) (c b : Nat) : (mflds R c b).lookup ("_rows" : Str) = some (.ref R) := by
  unfold mflds
  rw [List.lookup_cons, show (("_rows" : Str) == "cells") = false by decide +kernel, List.lookup_cons, show (("_rows" : Str) == "bits") = false by decide +kernel, List.lookup_cons, show (("_rows" : Str) == "_rows") = true by decide +kernel]
theorem mf_no {m : Str} (R : Addr) (c b : Nat) (h1 : (m == ("cells" : Str)) = false) (h2 : (m == ("bits" : Str)) = false) (h3 : (m == ("_rows" : Str)) = false) : (mflds R c b).lookup m = none := by
  unfold mflds
  rw [List.lookup_cons, h1, List.lookup_cons, h2, List.lookup_cons, h3]
  rfl
theorem mf_put (R : Addr) (c b : Nat) : putF "_rows" (.ref R) (putF "bits" (.int (b : Int)) (putF "cells" (.int (c : Int)) [])) = mflds R c b := by
  have e1 : putF "bits" (.int (b : Int)) (putF "cells" (.int (c : Int)) []) = [(("cells" : Str), V.int (c : Int)), ("bits", .int (b : Int))] := by
    show (if ("cells" : Str) = "bits" then [(("cells" : Str), V.int (b : Int))] else (("cells" : Str), V.int (c : Int)) :: putF "bits" (.int (b : Int)) []) = _
    rw [if_neg s_cb]
    rfl
  rw [e1]
  show (if ("cells" : Str) = "_rows" then _ else (("cells" : Str), V.int (c : Int)) :: (if ("bits" : Str) = "_rows" then _ else (("bits" : Str), V.int (b : Int)) :: putF "_rows" (.ref R) [])) = _
  rw [if_neg s_cr, if_neg s_br]
  rfl
theorem mf_put2 (R R2 : Addr) (c b : Nat) : putF "_rows" (.ref R2) (mflds R c b) = mflds R2 c b := by
  show (if ("cells" : Str) = "_rows" then _ else (("cells" : Str), V.int (c : Int)) :: (if ("bits" : Str) = "_rows" then _ else (("bits" : Str), V.int (b : Int)) :: (if ("_rows" : Str) = "_rows" then _ else _))) = _
  rw [if_neg s_cr, if_neg s_br, if_pos rfl]
  rfl
/-- at M a memory with the rows at R -/
structure MemAt (C : Addr) (H : Hp) (M R : Addr) (c b : Nat) (rows : List Nat) : Prop where
  ob : ∃ dx, H M = some (.ins C dx (mflds R c b))
  rw_ : H R = some (.lst ((iL rows).map V.int))
  len : rows.length = c
theorem MemAt.ne {C : Addr} {H : Hp} {M R : Addr} {c b : Nat} {rows : List Nat} (m : MemAt C H M R c b rows) : M ≠ R := fun z => by
  obtain ⟨dx, h⟩ := m.ob
  rw [z, m.rw_] at h
  cases h
theorem MemAt.ex {C : Addr} {H H' : Hp} {M R : Addr} {c b : Nat} {rows : List Nat} (m : MemAt C H M R c b rows) (e : Ex H H') : MemAt C H' M R c b rows := ⟨m.ob.imp fun dx h => e _ _ h, e _ _ m.rw_, m.len⟩
theorem MemAt.put {C : Addr} {H H' : Hp} {M R : Addr} {c b : Nat} {rows rows' : List Nat} (m : MemAt C H M R c b rows) (k : Kp1 R H H') (h : H' R = some (.lst ((iL rows').map V.int))) (hl : rows'.length = rows.length) : MemAt C H' M R c b rows' :=
  ⟨m.ob.imp fun dx h => k _ _ m.ne h, h, hl.trans m.len⟩
theorem MemAt.at_ {C : Addr} {H : Hp} {M R : Addr} {c b i : Nat} {rows : List Nat} (m : MemAt C H M R c b rows) (hi : i < c) : ((iL rows).map V.int)[i]? = some (.int ((rows.getD i 0 : Nat) : Int)) := by
  refine at_iL ?_
  rw [List.getElem?_eq_getElem (by rw [m.len]; exact hi), List.getD_eq_getElem?_getD, List.getElem?_eq_getElem (by rw [m.len]; exact hi)]
  rfl
/-- what the rows are -/
def RowsOk (b : Nat) (rows : List Nat) : Prop := ∀ r ∈ rows, r < 2 ^ pl b
theorem RowsOk.at_ {b i : Nat} {rows : List Nat} (h : RowsOk b rows) : rows.getD i 0 < 2 ^ pl b := by
  rw [List.getD_eq_getElem?_getD]
  cases e : rows[i]? with
  | none => exact Nat.two_pow_pos _
  | some r => exact h r (List.mem_of_getElem? e)
theorem RowsOk.set {b i r : Nat} {rows : List Nat} (h : RowsOk b rows) (hr : r < 2 ^ pl b) : RowsOk b (rows.set i r) := fun z hz => by
  rcases List.mem_or_eq_of_mem_set hz with hz | rfl
  · exact h z hz
  · exact hr
theorem iL_set (rows : List Nat) (i r : Nat) : ((iL rows).map V.int).set i (.int (r : Int)) = (iL (rows.set i r)).map V.int := by
  unfold iL
  rw [← List.map_set, ← List.map_set]
/-- the word that a row is or is one flip away from -/
def menO (b n : Nat) : Option Nat := if parB (pl b) n then (if spotN (pl b) n < pl b then some (flip n [spotN (pl b) n]) else none) else (if spotN (pl b) n = 0 then some n else none)
def oV : Option Nat → V
  | some n => .int (n : Int)
  | none => .non
theorem menV_o (b n : Nat) : menV b n = oV (menO b n) := by
  unfold menV menO
  split
  · split <;> rfl
  · split <;> rfl
theorem menO_lt {b n w : Nat} (hn : n < 2 ^ pl b) (h : menO b n = some w) : w < 2 ^ pl b := by
  unfold menO at h
  split at h
  · split at h
    · rename_i h2
      cases h
      exact flip_lt hn fun p hp => by rw [List.mem_singleton.mp hp]; exact h2
    · cases h
  · split at h
    · cases h; exact hn
    · cases h
/-- the state of a row, told by a text -/
def stO (b n : Nat) : Str := if parB (pl b) n then (if spotN (pl b) n < pl b then "one" else "more") else (if spotN (pl b) n = 0 then "clean" else "more")
def stP (b n : Nat) : V := if parB (pl b) n then (if spotN (pl b) n < pl b then .int ((spotN (pl b) n : Nat) : Int) else .non) else .non
theorem stV_o (b n : Nat) : stV b n = [.str (stO b n), stP b n] := by
  unfold stV stO stP
  split
  · split <;> rfl
  · split <;> rfl
theorem st_men (b n : Nat) : (stO b n = "clean" ∧ menO b n = some n ∧ parB (pl b) n = false ∧ spotN (pl b) n = 0) ∨ (stO b n = "one" ∧ menO b n = some (flip n [spotN (pl b) n]) ∧ flip n [spotN (pl b) n] ≠ n ∧ spotN (pl b) n < pl b ∧ parB (pl b) n = true) ∨ (stO b n = "more" ∧ menO b n = none) := by
  unfold stO menO
  by_cases h : parB (pl b) n
  · rw [if_pos h, if_pos h]
    by_cases h2 : spotN (pl b) n < pl b
    · rw [if_pos h2, if_pos h2]
      refine Or.inr (Or.inl ⟨rfl, rfl, fun z => ?_, h2, h⟩)
      have := par_flip1 (m := pl b) (n := n) h2
      have z' : n ^^^ 2 ^ spotN (pl b) n = n := z
      rw [z'] at this
      cases hh : parB (pl b) n <;> rw [hh] at this <;> cases this
    · rw [if_neg h2, if_neg h2]
      exact Or.inr (Or.inr ⟨rfl, rfl⟩)
  · have h' : parB (pl b) n = false := by simpa using h
    rw [if_neg h, if_neg h]
    by_cases h2 : spotN (pl b) n = 0
    · rw [if_pos h2, if_pos h2]
      exact Or.inl ⟨rfl, rfl, h', h2⟩
    · rw [if_neg h2, if_neg h2]
      exact Or.inr (Or.inr ⟨rfl, rfl⟩)
theorem st_ne1 : ¬ ("clean" : Str) = "one" := by decide +kernel
theorem st_ne2 : ¬ ("more" : Str) = "one" := by decide +kernel
theorem st_ne3 : ¬ ("one" : Str) = "more" := by decide +kernel
theorem st_ne4 : ¬ ("clean" : Str) = "more" := by decide +kernel
theorem cod_zero {b : Nat} (h4 : 4 ≤ b) (h32 : b ≤ 32) : cod b 0 = 0 := by
  have h0 : onesN b 0 = [] := by unfold onesN; rw [bs_zero]; rfl
  have h1 : cod0 b 0 = 0 := by unfold cod0; rw [h0]; rfl
  have h2 : cksN b 0 = [] := by
    unfold cksN
    exact List.filter_eq_nil_iff.mpr fun p _ => by rw [Nat.zero_and]; decide
  have h3 : cod1 b 0 = 0 := by unfold cod1; rw [h1, spot_zero, h2]; rfl
  unfold cod
  rw [h3, par_zero]
  rfl
/-! promises of the methods; CE the class of the error -/
def spMInit (C : Addr) : Sp := fun vs H Q _ => ∃ (M dx : Addr) (c b : Nat), vs = [.ref M, .int (c : Int), .int (b : Int)] ∧ H M = some (.ins C dx []) ∧ c ≤ 512 ∧ 4 ≤ b ∧ b ≤ 32 ∧
  ∀ R H', H R = none → Kp1 M H H' → H' M = some (.ins C dx (mflds R c b)) → H' R = some (.lst ((iL (List.replicate c 0)).map V.int)) → Q .non H'
def spMWrite (C : Addr) : Sp := fun vs H Q _ => ∃ (M R : Addr) (c b i v : Nat) (rows : List Nat), vs = [.ref M, .int (i : Int), .int (v : Int)] ∧ MemAt C H M R c b rows ∧ i < c ∧ 4 ≤ b ∧ b ≤ 32 ∧ v < 2 ^ b ∧
  ∀ H', Kp1 R H H' → H' R = some (.lst ((iL (rows.set i (cod b v))).map V.int)) → Q .non H'
def spMFlip (C : Addr) : Sp := fun vs H Q _ => ∃ (M R : Addr) (c b i p : Nat) (rows : List Nat), vs = [.ref M, .int (i : Int), .int (p : Int)] ∧ MemAt C H M R c b rows ∧ i < c ∧ p < 64 ∧
  ∀ H', Kp1 R H H' → H' R = some (.lst ((iL (rows.set i (flip (rows.getD i 0) [p]))).map V.int)) → Q .non H'
def spMRow (C : Addr) : Sp := fun vs H Q _ => ∃ (M R : Addr) (c b i : Nat) (rows : List Nat), vs = [.ref M, .int (i : Int)] ∧ MemAt C H M R c b rows ∧ i < c ∧ ∀ H', Ex H H' → Q (.int ((rows.getD i 0 : Nat) : Int)) H'
def spMState (C : Addr) : Sp := fun vs H Q _ => ∃ (M R : Addr) (c b i : Nat) (rows : List Nat), vs = [.ref M, .int (i : Int)] ∧ MemAt C H M R c b rows ∧ i < c ∧ 4 ≤ b ∧ b ≤ 32 ∧ RowsOk b rows ∧
  ∀ p H', H p = none → Ex H H' → H' p = some (.tup (stV b (rows.getD i 0))) → Q (.ref p) H'
def spMWord (C CE : Addr) : Sp := fun vs H Q E => ∃ (M R : Addr) (c b i : Nat) (rows : List Nat), vs = [.ref M, .int (i : Int)] ∧ MemAt C H M R c b rows ∧ i < c ∧ c ≤ 512 ∧ 4 ≤ b ∧ b ≤ 32 ∧ RowsOk b rows ∧
  (∀ w H', menO b (rows.getD i 0) = some w → Ex H H' → Q (.int (w : Int)) H') ∧ (menO b (rows.getD i 0) = none → ∀ d H', H d = none → Ex H H' → H' d = some (.xd [("place", .int (i : Int))]) → E (.ref CE) (some d) H')
def spMRead (C CE : Addr) : Sp := fun vs H Q E => ∃ (M R : Addr) (c b i : Nat) (rows : List Nat), vs = [.ref M, .int (i : Int)] ∧ MemAt C H M R c b rows ∧ i < c ∧ c ≤ 512 ∧ 4 ≤ b ∧ b ≤ 32 ∧ RowsOk b rows ∧
  (∀ w H', menO b (rows.getD i 0) = some w → Ex H H' → Q (.int ((valN b w : Nat) : Int)) H') ∧ (menO b (rows.getD i 0) = none → ∀ d H', H d = none → Ex H H' → H' d = some (.xd [("place", .int (i : Int))]) → E (.ref CE) (some d) H')
def spMScrub (C CE : Addr) : Sp := fun vs H Q E => ∃ (M R : Addr) (c b i : Nat) (rows : List Nat), vs = [.ref M, .int (i : Int)] ∧ MemAt C H M R c b rows ∧ i < c ∧ c ≤ 512 ∧ 4 ≤ b ∧ b ≤ 32 ∧ RowsOk b rows ∧
  (∀ w H', menO b (rows.getD i 0) = some w → Kp1 R H H' → H' R = some (.lst ((iL (rows.set i w)).map V.int)) → Q (.bl (!decide (w = rows.getD i 0))) H') ∧
  (menO b (rows.getD i 0) = none → ∀ d H', H d = none → Ex H H' → H' d = some (.xd [("place", .int (i : Int))]) → E (.ref CE) (some d) H')
/-- all cells scrubbed, up to k -/
def scrubbed (b : Nat) (rows : List Nat) (k : Nat) : List Nat := (List.range rows.length).map fun i => if i < k then (menO b (rows.getD i 0)).getD (rows.getD i 0) else rows.getD i 0
def cellsOf (b : Nat) (rows : List Nat) (k : Nat) (t : Str) : List Nat := (List.range k).filter fun i => decide (stO b (rows.getD i 0) = t)
def spMAll (C : Addr) : Sp := fun vs H Q _ => ∃ (M R : Addr) (c b : Nat) (rows : List Nat), vs = [.ref M] ∧ MemAt C H M R c b rows ∧ c ≤ 512 ∧ 4 ≤ b ∧ b ≤ 32 ∧ RowsOk b rows ∧
  ∀ (t p q : Addr) H', Kp1 R H H' → H' R = some (.lst ((iL (scrubbed b rows c)).map V.int)) → H t = none → H p = none → H q = none → H' t = some (.tup [.ref p, .ref q]) → H' p = some (.lst ((iL (cellsOf b rows c "one")).map V.int)) → H' q = some (.lst ((iL (cellsOf b rows c "more")).map V.int)) → p ≠ q → Q (.ref t) H'
def spMTwin (C : Addr) : Sp := fun vs H Q _ => ∃ (M R : Addr) (c b : Nat) (rows : List Nat), vs = [.ref M] ∧ MemAt C H M R c b rows ∧ c ≤ 512 ∧ 4 ≤ b ∧ b ≤ 32 ∧
  ∀ (M2 R2 : Addr) H', H M2 = none → H R2 = none → Ex H H' → MemAt C H' M2 R2 c b rows → Q (.ref M2) H'
/-- the class as the text has it -/
structure MemC (K : PySem.W.Frag) (C : Addr) : Prop where
  cl : Cls K C
  n1 : NoAttr K C "cells"
  n2 : NoAttr K C "bits"
  n3 : NoAttr K C "_rows"
section
variable {K : PySem.W.Frag} {σ : L2.St} {H : Hp} {ta : TE} {C M R : Addr} {c b : Nat} {rows : List Nat}
theorem ev_mcells (T : MemC K C) (h : Ev ta σ H (.ref M)) (m : MemAt C H M R c b rows) : Ev (tFld K ta "cells") σ H (.int (c : Int)) := by
  obtain ⟨dx, ho⟩ := m.ob
  exact ev_fld h ho T.cl T.n1 (mf_cells R c b)
theorem ev_mbits (T : MemC K C) (h : Ev ta σ H (.ref M)) (m : MemAt C H M R c b rows) : Ev (tFld K ta "bits") σ H (.int (b : Int)) := by
  obtain ⟨dx, ho⟩ := m.ob
  exact ev_fld h ho T.cl T.n2 (mf_bits R c b)
theorem ev_mrows (T : MemC K C) (h : Ev ta σ H (.ref M)) (m : MemAt C H M R c b rows) : Ev (tFld K ta "_rows") σ H (.ref R) := by
  obtain ⟨dx, ho⟩ := m.ob
  exact ev_fld h ho T.cl T.n3 (mf_rows R c b)
end
/-- an error class with one field, as the text has it -/
structure ErrC (P : Program) (w : World) (K : PySem.W.Frag) (mg : Str → Option Value) (base : Heap) (x : Str) (C : Addr) (fld pn : Str) : Prop where
  T : OexC K C
  init : ∃ (f : Addr) (fd : FuncData), FnOk P w K mg base CX0 1 f fd ["self", pn] (spSup C fld) ∧ PySem.W.findIn K (.ref C) "__init__" = some (some (.ref f)) ∧ PySem.W.typeIn K (.ref f) = some (.type "function") ∧ Binds K fd ["self", pn] []
  g : mg x = some (.ref C)
  xf : XfC K C
  no : PySem.W.findIn K (.ref C) fld = some none
  te : PySem.W.exmOne K (.ref C) (.ref C) = some true
  is_ : ExcC K C
theorem ps_raiseE {X : Cx} {W : WX} {x : Str} {C : Addr} {fld pn : Str} {e : Expr} {te : TE} {p p1 pos : Pos} (Z : ErrC X.prog X.w X.K X.mg X.base x C fld pn) (hr : Room 2 X.A) (tk : Takes X W) (he : PE X e te) (hc : X.calm = true := by rfl) (hg : Gl X x := by rfl)
    (hst : starEach [e] X.env = (false, eval e X.env) :: starEach [] X.env := by rfl) (hdb : (x == ("__debug__" : Str)) = false := by decide) (hpl : (backTo p1 (starEach [] X.env)).any (·.1) = false := by rfl) :
    PS X (.Raise (some (.Call (.Name x p) [e] [] p1)) none pos) (fun _ σ H => tMkO C (spSup C fld) [] (tCons te tNil) σ H fun cls d H' => W cls d σ H') := by
  obtain ⟨f, fd, F, h1, h2, hb⟩ := Z.init
  exact ps_raise hc tk (pmk_oex Z.T h1 h2 F hr hb .nil (fun _ _ _ _ _ _ _ h => h.elim) hg Z.g (pa_cons he pa_nil hst) hdb hst hpl)
section
variable {K : PySem.W.Frag} {σ : L2.St} {H : Hp} {ta : TE} {t : TA} {C a dx : Addr} {m : Str} {fs : List (Str × V)} {sp : Sp} {vs xs : List V} {z : V}
theorem ev_meth (h : Ev ta σ H (.ref a)) (ho : H a = some (.ins C dx fs)) (hl : fs.lookup m = none) (hv : EvA t σ H vs) (hs : SpV sp (.ref a :: (vs ++ [])) H z) : Ev (tMeth C m sp [] E0 ta t) σ H z := fun H1 e Q q =>
  h H1 e _ fun H2 e2 => ⟨a, dx, fs, rfl, (e.trans e2) _ _ ho, hl, hv H2 (e.trans e2) _ fun H3 e3 => hs H3 ((e.trans e2).trans e3) Q (fun H4 e4 => q H4 ((e2.trans e3).trans e4)) E0⟩
theorem eu_meth (h : Ev ta σ H (.ref a)) (ho : H a = some (.ins C dx fs)) (hl : fs.lookup m = none) (hv : EvA t σ H vs) (hs : SpU sp (.ref a :: (vs ++ [])) H xs) : EvU (tMeth C m sp [] E0 ta t) σ H xs := fun H1 e Q q =>
  h H1 e _ fun H2 e2 => ⟨a, dx, fs, rfl, (e.trans e2) _ _ ho, hl, hv H2 (e.trans e2) _ fun H3 e3 => hs H3 ((e.trans e2).trans e3) Q (fun p H4 np e4 hp => q p H4 (fresh_back (e2.trans e3) np) ((e2.trans e3).trans e4) hp) E0⟩
/-- a method that may change what stands -/
theorem em_meth {P : V → Hp → Prop} (h : Ev ta σ H (.ref a)) (ho : H a = some (.ins C dx fs)) (hl : fs.lookup m = none) (hv : EvA t σ H vs) (hs : ∀ H1, Ex H H1 → ∀ Q : VK, (∀ v H', P v H' → Q v H') → sp (.ref a :: (vs ++ [])) H1 Q E0) : EvM (tMeth C m sp [] E0 ta t) σ H P := fun Q q =>
  h H (Ex.refl H) _ fun H2 e2 => ⟨a, dx, fs, rfl, e2 _ _ ho, hl, hv H2 e2 _ fun H3 e3 => hs H3 (e2.trans e3) Q q⟩
theorem em_call {P : V → Hp → Prop} (hv : EvA t σ H vs) (hs : ∀ H1, Ex H H1 → ∀ Q : VK, (∀ v H', P v H' → Q v H') → sp (vs ++ []) H1 Q E0) : EvM (tCall sp [] E0 t) σ H P := fun Q q => hv H (Ex.refl H) _ fun H2 e2 => hs H2 e2 Q q
/-- a new memory -/
theorem em_make {C : Addr} {c b : Nat} (hv : EvA t σ H [.int (c : Int), .int (b : Int)]) (hc : c ≤ 512) (h4 : 4 ≤ b) (h32 : b ≤ 32) : EvM (tMake C (spMInit C) [] E0 t) σ H (fun v H' => ∃ M R : Addr, v = .ref M ∧ H M = none ∧ H R = none ∧ Ex H H' ∧ MemAt C H' M R c b (List.replicate c 0)) := fun Q q =>
  hv H (Ex.refl H) _ fun H1 e1 x dx nx ndx nex => ⟨x, dx, c, b, rfl, upd_same, hc, h4, h32, fun R H' nR kp hx hR => ⟨rfl, q _ H' ⟨x, R, rfl, fresh_back e1 nx, by
    by_cases z : R = x
    · subst z; rw [upd_same] at nR; cases nR
    · rw [upd_ne z] at nR
      by_cases z2 : R = dx
      · subst z2; rw [upd_same] at nR; cases nR
      · rw [upd_ne z2] at nR; exact fresh_back e1 nR, fun o u h => by
    have h1 := e1 _ _ h
    refine kp o u (ne_of_none h1 nx) ?_
    rw [upd_ne (ne_of_none h1 nx), upd_ne (ne_of_none h1 ndx)]
    exact h1, ⟨dx, hx⟩, hR, List.length_replicate⟩⟩⟩
end
theorem scrubbed_len (b : Nat) (rows : List Nat) (k : Nat) : (scrubbed b rows k).length = rows.length := by unfold scrubbed; rw [List.length_map, List.length_range]
theorem scrubbed_at {b k i : Nat} {rows : List Nat} (h : i < rows.length) : (scrubbed b rows k).getD i 0 = if i < k then (menO b (rows.getD i 0)).getD (rows.getD i 0) else rows.getD i 0 := by
  unfold scrubbed
  rw [List.getD_eq_getElem?_getD, List.getElem?_map, List.getElem?_range h]
  rfl
theorem ext_getD {l r : List Nat} (h : l.length = r.length) (k : ∀ i, i < l.length → l.getD i 0 = r.getD i 0) : l = r := by
  refine List.ext_getElem h fun i h1 h2 => ?_
  have := k i h1
  rw [List.getD_eq_getElem?_getD, List.getD_eq_getElem?_getD, List.getElem?_eq_getElem h1, List.getElem?_eq_getElem h2] at this
  exact this
theorem set_getD {l : List Nat} {i j r : Nat} (h : i < l.length) : (l.set i r).getD j 0 = if i = j then r else l.getD j 0 := by
  by_cases e : i = j
  · subst e
    rw [if_pos rfl, List.getD_eq_getElem?_getD, List.getElem?_set_self h]
    rfl
  · rw [if_neg e, List.getD_eq_getElem?_getD, List.getD_eq_getElem?_getD, List.getElem?_set_ne e]
theorem scrubbed_zero (b : Nat) (rows : List Nat) : scrubbed b rows 0 = rows := ext_getD (scrubbed_len b rows 0) fun i h => by
  rw [scrubbed_len] at h
  rw [scrubbed_at h, if_neg (Nat.not_lt_zero i)]
theorem scrubbed_succ {b k : Nat} {rows : List Nat} (h : k < rows.length) : scrubbed b rows (k + 1) = (scrubbed b rows k).set k ((menO b (rows.getD k 0)).getD (rows.getD k 0)) := by
  refine ext_getD (by rw [List.length_set, scrubbed_len, scrubbed_len]) fun i hi => ?_
  rw [scrubbed_len] at hi
  rw [set_getD (by rw [scrubbed_len]; exact h), scrubbed_at hi, scrubbed_at hi]
  by_cases e : k = i
  · subst e
    rw [if_pos (Nat.lt_succ_self k), if_pos rfl]
  · rw [if_neg e]
    by_cases c : i < k
    · rw [if_pos c, if_pos (by omega)]
    · rw [if_neg c, if_neg (by omega)]
theorem scrubbed_same {b k : Nat} {rows : List Nat} (h : k < rows.length) (hm : (menO b (rows.getD k 0)).getD (rows.getD k 0) = rows.getD k 0) : scrubbed b rows (k + 1) = scrubbed b rows k := by
  rw [scrubbed_succ h, hm]
  refine ext_getD (by rw [List.length_set]) fun i hi => ?_
  rw [set_getD (by rw [scrubbed_len]; exact h)]
  split
  · rename_i e
    subst e
    rw [scrubbed_at h, if_neg (Nat.lt_irrefl _)]
  · rfl
theorem scrubbed_ok {b k : Nat} {rows : List Nat} (h : RowsOk b rows) : RowsOk b (scrubbed b rows k) := fun r hr => by
  unfold scrubbed at hr
  obtain ⟨i, hi, rfl⟩ := List.mem_map.mp hr
  have hi := List.mem_range.mp hi
  split
  · cases e : menO b (rows.getD i 0) with
    | none => exact h.at_
    | some w => exact menO_lt h.at_ e
  · exact h.at_
theorem cellsOf_succ (b : Nat) (rows : List Nat) (k : Nat) (t : Str) : cellsOf b rows (k + 1) t = cellsOf b rows k t ++ (if stO b (rows.getD k 0) = t then [k] else []) := by
  unfold cellsOf
  rw [List.range_succ, List.filter_append]
  congr 1
  by_cases h : stO b (rows.getD k 0) = t
  · rw [if_pos h, List.filter_cons, if_pos (decide_eq_true h)]; rfl
  · rw [if_neg h, List.filter_cons, if_neg (by rw [decide_eq_false h]; decide)]; rfl
theorem cellsOf_len (b : Nat) (rows : List Nat) (k : Nat) (t : Str) : (cellsOf b rows k t).length ≤ k := by
  have := List.length_filter_le (fun i => decide (stO b (rows.getD i 0) = t)) (List.range k)
  rw [List.length_range] at this
  exact this
theorem log_small {i : Nat} (h : i < 2 ^ 1000) : i.log2 < 1920 := by
  by_cases h0 : i = 0
  · subst h0; decide
  · exact Nat.lt_of_lt_of_le ((Nat.log2_lt h0).mpr h) (by decide)
theorem p512 {i : Nat} (h : i < 512) : ((i : Nat) : Int).natAbs.log2 < 1920 := by
  rw [Int.natAbs_natCast]
  exact log_small (Nat.lt_of_lt_of_le h (by have : 512 ≤ 2 ^ 1000 := by decide +kernel
                                            exact this))
theorem putF_len2 (b c : Nat) : (putF "bits" (.int (b : Int)) (putF "cells" (.int (c : Int)) [])).length ≤ 2 := by
  show (if ("cells" : Str) = "bits" then [(("cells" : Str), V.int (b : Int))] else (("cells" : Str), V.int (c : Int)) :: putF "bits" (.int (b : Int)) []).length ≤ 2
  rw [if_neg s_cb]
  exact Nat.le_refl 2
end My
set_option Elab.async false
set_option linter.all false
set_option maxRecDepth 100000
set_option maxHeartbeats 2000000
/-! ### errors as values: made, asked for their class, their fields read -/
namespace My
open PySem PySem.Spec PyProof.Rows L2 Evl
/-- an error of the class cls whose dict is d -/
def ErO (cls : Value) (d : Option Addr) (a : Addr) : HO := .ext fun h => ∃ oe vs, h.get? a = some oe ∧ Zc cls d oe ∧ oe.data = .fields vs
theorem erO_ok {P : Program} {w : World} {H : Hp} {h : Heap} {a : Addr} {cls : Value} {d : Option Addr} {oe : Obj} {vs : Array Value} (e : h.get? a = some oe) (z : Zc cls d oe) (f : oe.data = .fields vs) : ObjOk P w H h a (ErO cls d a) :=
  ⟨⟨oe, vs, e, z, f⟩, ⟨oe, e⟩, fun h1 h2 ⟨o1, v1, e1, z1, f1⟩ k => ⟨o1, v1, k _ e1, z1, f1⟩⟩
def tMkV (t : L2.St → Hp → XK → Prop) : TE := fun σ H Q => t σ H fun cls d H' => ∀ a, H' a = none → Q (.ref a) (upd H' a (ErO cls d a))
theorem pe_of_mk {X : Cx} {e : Expr} {t : L2.St → Hp → XK → Prop} (h : PMk X e t) : PE X e (tMkV t) where
  run := fun pins s σ H Q I ht => by
    refine wpAny_mono (h pins s σ H _ I ht) (fun u s' hm => ?_) fun _ _ z => z
    obtain ⟨a, oe, vs, sI, H', cls, d, rfl, J, k, na, ea, z, f, _, nH, os, ba, _, q⟩ := hm
    have J1 := J.laidN (t' := s'.toks) (h' := s'.heap) (o := ErO cls d a) k na nH (erO_ok ea z f)
    have J2 := J1.call (h' := s'.heap) (g' := s'.gens) (t' := s'.toks) (d' := s'.drawn) (ch := []) Un.refl J1.hok ba (fun _ z => nomatch z)
    have e : s' = { heap := s'.heap, gens := s'.gens, drawn := s'.drawn, toks := s'.toks, os := sI.os } := by
      obtain ⟨_, _, _, _, _⟩ := s'
      cases os
      rfl
    rw [e]
    exact ⟨.ref a, _, J2, rfl, q a nH⟩
/-- a field of an error that is a value -/
def tEvF (K : PySem.W.Frag) (n : Str) (te : TE) : TE := fun σ H Q => te σ H fun x H1 => ∃ (a C d : Addr) (fs : List (Str × V)) (y : V), x = .ref a ∧ H1 a = some (ErO (.ref C) (some d) a) ∧ XfC K C ∧ PySem.W.findIn K (.ref C) n = some none ∧ H1 d = some (.xd fs) ∧ fs.lookup n = some y ∧ Q y H1
theorem erO_inst {X : Cx} {pins : List (Addr × Obj)} {σ : L2.St} {H : Hp} {s : Shared} {a C : Addr} {d : Option Addr} (I : L2.Inv X pins σ H s) (h : H a = some (ErO (.ref C) d a)) (hd : ∀ dd, d = some dd → ∃ fs, H dd = some (.xd fs)) :
    ∃ oe od, PySem.W.InstAt s.heap a oe C od ∧ oe.dict = d ∧ (∃ vs, oe.data = .fields vs) ∧ (∀ dd, d = some dd → ∃ o, od = some o ∧ s.heap.get? dd = some o) := by
  obtain ⟨⟨oe, vs, e, ⟨z1, z2⟩, f⟩, _⟩ := I.hok a _ h
  obtain ⟨oc, odx, oda, osl⟩ := oe
  dsimp only at z1 z2 f
  subst z1 z2 f
  cases odx with
  | none => exact ⟨_, none, ⟨e, rfl, rfl, trivial⟩, rfl, ⟨_, rfl⟩, fun _ z => nomatch z⟩
  | some dd =>
    obtain ⟨fs, hfs⟩ := hd dd rfl
    obtain ⟨mA, hns, _⟩ := (show ObjOk X.prog X.w H s.heap dd (.xd fs) from I.hok dd _ hfs)
    obtain ⟨o, ho, _⟩ := lookIn_ns hns
    exact ⟨_, some o, ⟨e, rfl, rfl, ho⟩, rfl, ⟨_, rfl⟩, fun d' h' => ⟨o, rfl, by cases h'; exact ho⟩⟩
theorem pe_evF {X : Cx} {e : Expr} {te : TE} {pos : Pos} {n : Str} (he : PE X e te) (hb : attributeBase e n X.env (eval e X.env) = eval e X.env := by rfl) : PE X (.Attribute e n pos) (tEvF X.K n te) where
  run := fun pins s σ H Q I h => by
    refine attr_of hb (thn (he.run pins s σ H _ I h) fun u s1 hh => ?_)
    obtain ⟨x, H1, I1, rx, a, C, d, fs, y, rfl, ha, T, hno, hd, hl, q⟩ := hh
    obtain rfl : u = .ref a := rx
    obtain ⟨⟨oe, vs, e1, ⟨z1, z2⟩, f⟩, _⟩ := I1.hok a _ ha
    obtain ⟨oc, odx, oda, osl⟩ := oe
    dsimp only at z1 z2 f
    subst z1 z2 f
    obtain ⟨mA, hns, hrel⟩ := (show ObjOk X.prog X.w H1 s1.heap d (.xd fs) from I1.hok d _ hd)
    obtain ⟨o, ho, hlook⟩ := lookIn_ns hns
    have hr := hrel n
    rw [hl] at hr
    obtain ⟨v, hv, rv⟩ := RelO.some_of hr
    exact HandSPX.exc_get (od := some o) I1.kIn ⟨e1, rfl, rfl, ho⟩ T.ga T.gg T.exC (PySem.W.findObj_own T.hdC hno rfl (by rw [hlook, hv])) (handed_of rv) ⟨y, H1, I1.tok _, rv, q⟩
/-- an error that is a value: its class and its dict, if it has one -/
def IsErr (H : Hp) (a D : Addr) : Prop := ∃ d, H a = some (ErO (.ref D) d a) ∧ ∀ dd, d = some dd → ∃ fs, H dd = some (.xd fs)
/-- isinstance(an error that is a value, a class) -/
def rIsV (K : PySem.W.Frag) : List V → Hp → VK → Prop := fun xs H Q => ∃ (a D : Addr) (y : V) (cls : Value) (b : Bool), xs = [.ref a, y] ∧ IsErr H a D ∧ ExcC K D ∧ ((∃ c, y = .ref c ∧ cls = .ref c) ∨ ∃ T, y = .ty T ∧ cls = .type T) ∧ PySem.W.kitOne K (.ref D) cls = some b ∧ Q (.bl b) H
theorem call_isV {X : Cx} : CallR X (.builtin "isinstance") (rIsV X.K) := by
  intro pins s σ H xs us Q I r h
  obtain ⟨a, D, y, cls, b, rfl, ⟨d, ha, hd⟩, C, hy, e, q⟩ := h
  cases r with
  | cons rx rr =>
    cases rr with
    | cons rt rr =>
      cases rr
      cases rx
      obtain ⟨oe, od, J, _⟩ := erO_inst I ha hd
      have fin : ∀ u, u = cls → wpAny (model X.prog X.w) X.A (call (.builtin "isinstance") [.ref a, u]) (EP X pins σ Q) X.xe s := fun u hu => by
        subst hu
        exact PySem.W.kia_one (kit_err C) I.kIn ⟨od, J⟩ e (fun z => by rcases hy with ⟨c, rfl, rfl⟩ | ⟨T, rfl, rfl⟩ <;> cases z) fun tk => ⟨.bl b, H, I.kept (t' := tk) fun _ _ z => z, rfl, q⟩
      rcases hy with ⟨c, rfl, rfl⟩ | ⟨T, rfl, rfl⟩
      · cases rt
        exact fin _ rfl
      · cases rt
        exact fin _ rfl
end My
/-! ### making them; lists of them -/
namespace My
open PySem PySem.Spec PyProof.Rows L2 Evl
/-- an error class without more, as the text has it -/
structure PlainC (K : PySem.W.Frag) (mg : Str → Option Value) (x : Str) (C : Addr) : Prop where
  ex : PySem.W.excIn K C [.type "ValueError", .type "Exception", .type "BaseException", .type "object"] "ValueError.__new__" = true
  g : mg x = some (.ref C)
  kp : PySem.W.keepIn K (.ref C) = true
  sB : PySem.W.subIn K (.ref C) (.type "BaseException") = some true
  ty : PySem.W.typeIn K (.ref C) = some (.type "type")
  is_ : ExcC K C
theorem pe_plain {X : Cx} {x : Str} {C : Addr} {e : Expr} {es : List Expr} {t : TA} {p pos : Pos} (Z : PlainC X.K X.mg x C) (ha : PA X (e :: es) t) (hg : Gl X x := by rfl) (hdb : (x == ("__debug__" : Str)) = false := by decide)
    (he : starEach (e :: es) X.env = (false, eval e X.env) :: starEach es X.env := by rfl) (hpl : (backTo pos (starEach es X.env)).any (·.1) = false := by rfl) :
    PE X (.Call (.Name x p) (e :: es) [] pos) (tMkV (fun σ H Q => t σ H fun vs H1 => vs.length ≤ sizeLine ∧ Q (.ref C) none H1)) :=
  pe_of_mk (pmk_ownA PySem.F.excBase_ValueError Z.ex Z.g Z.kp (raises_own Z.sB Z.ty) hg ha hdb he hpl)
theorem pe_errV {X : Cx} {x : Str} {C : Addr} {fld pn : Str} {e : Expr} {te : TE} {p p1 : Pos} (Z : ErrC X.prog X.w X.K X.mg X.base x C fld pn) (hr : Room 2 X.A) (he : PE X e te) (hg : Gl X x := by rfl)
    (hst : starEach [e] X.env = (false, eval e X.env) :: starEach [] X.env := by rfl) (hdb : (x == ("__debug__" : Str)) = false := by decide) (hpl : (backTo p1 (starEach [] X.env)).any (·.1) = false := by rfl) :
    PE X (.Call (.Name x p) [e] [] p1) (tMkV (fun σ H XQ => tMkO C (spSup C fld) [] (tCons te tNil) σ H XQ)) := by
  obtain ⟨f, fd, F, h1, h2, hb⟩ := Z.init
  exact pe_of_mk (pmk_oex Z.T h1 h2 F hr hb .nil (fun _ _ _ _ _ _ _ h => h.elim) hg Z.g (pa_cons he pa_nil hst) hdb hst hpl)
section
variable {K : PySem.W.Frag} {σ : L2.St} {H : Hp} {te ta tb : TE} {tA : TA} {P : V → Hp → Prop}
/-- a value that is an error of the class C, with the field of this value -/
def FldErr (C : Addr) (fld : Str) (y : V) : V → Hp → Prop := fun v H => ∃ a d : Addr, v = .ref a ∧ H a = some (ErO (.ref C) (some d) a) ∧ H d = some (.xd [(fld, y)])
def AnErr (C : Addr) : V → Hp → Prop := fun v H => ∃ a : Addr, v = .ref a ∧ IsErr H a C
theorem FldErr.m {C : Addr} {fld : Str} {y : V} (v : V) (H1 H2 : Hp) (e : Ex H1 H2) (h : FldErr C fld y v H1) : FldErr C fld y v H2 := by
  obtain ⟨a, d, rfl, h1, h2⟩ := h
  exact ⟨a, d, rfl, e _ _ h1, e _ _ h2⟩
theorem AnErr.m {C : Addr} (v : V) (H1 H2 : Hp) (e : Ex H1 H2) (h : AnErr C v H1) : AnErr C v H2 := by
  obtain ⟨a, rfl, d, h1, h2⟩ := h
  exact ⟨a, rfl, d, e _ _ h1, fun dd hd => (h2 dd hd).imp fun fs h => e _ _ h⟩
theorem FldErr.an {C : Addr} {fld : Str} {y : V} {v : V} {H : Hp} (h : FldErr C fld y v H) : AnErr C v H := by
  obtain ⟨a, d, rfl, h1, h2⟩ := h
  exact ⟨a, rfl, some d, h1, fun dd hd => by cases hd; exact ⟨_, h2⟩⟩
theorem evG_plain {C : Addr} {v : V} (h : Ev te σ H v) : EvG (tMkV (fun σ H Q => tCons te tNil σ H fun vs H1 => vs.length ≤ sizeLine ∧ Q (.ref C) none H1)) σ H (AnErr C) := fun H1 e Q q => by
  unfold tMkV
  exact (ea_cons h ea_nil) H1 e _ fun H2 e2 => ⟨sz_of (by show 1 ≤ 100000; decide), fun a na => q _ _ (e2.trans (Ex.new na)) ⟨a, rfl, none, upd_same, fun _ z => nomatch z⟩⟩
theorem evG_fld {C : Addr} {fld : Str} {y : V} (h : Ev te σ H y) (hy : FmtOk y) : EvG (tMkV (fun σ H XQ => tMkO C (spSup C fld) [] (tCons te tNil) σ H XQ)) σ H (FldErr C fld y) := fun H1 e Q q => by
  unfold tMkV
  exact mk_sup (Ev.mono e h) hy fun d H' nd e2 hd a na => by
    have hne : d ≠ a := fun z => by rw [z, na] at hd; cases hd
    exact q _ _ (e2.trans (Ex.new na)) ⟨a, d, rfl, upd_same, by rw [upd_ne hne]; exact hd⟩
/-- arguments each of which has its own property -/
inductive AllP (H : Hp) : List V → List (V → Hp → Prop) → Prop
  | nil : AllP H [] []
  | cons {v : V} {vs : List V} {P : V → Hp → Prop} {Ps : List (V → Hp → Prop)} : P v H → AllP H vs Ps → AllP H (v :: vs) (P :: Ps)
def Mono (P : V → Hp → Prop) : Prop := ∀ v H1 H2, Ex H1 H2 → P v H1 → P v H2
theorem AllP.ex {H H' : Hp} {vs : List V} {Ps : List (V → Hp → Prop)} (e : Ex H H') (m : ∀ P ∈ Ps, Mono P) (h : AllP H vs Ps) : AllP H' vs Ps := by
  induction h with
  | nil => exact .nil
  | cons p _ ih => exact .cons (m _ (.head _) _ _ _ e p) (ih fun P hP => m P (.tail _ hP))
theorem AllP.len {H : Hp} {vs : List V} {Ps : List (V → Hp → Prop)} (h : AllP H vs Ps) : vs.length = Ps.length := by
  induction h with
  | nil => rfl
  | cons _ _ ih => rw [List.length_cons, List.length_cons, ih]
theorem AllP.app {H : Hp} {vs ws : List V} {Ps Qs : List (V → Hp → Prop)} (h : AllP H vs Ps) (h2 : AllP H ws Qs) : AllP H (vs ++ ws) (Ps ++ Qs) := by
  induction h with
  | nil => exact h2
  | cons p _ ih => exact .cons p ih
theorem AllP.at {H : Hp} {vs : List V} {Ps : List (V → Hp → Prop)} (h : AllP H vs Ps) {i : Nat} {v : V} (hv : vs[i]? = some v) : ∃ P, Ps[i]? = some P ∧ P v H := by
  induction h generalizing i with
  | nil => cases hv
  | cons p _ ih =>
    cases i with
    | zero => cases hv; exact ⟨_, rfl, p⟩
    | succ i => exact ih hv
def EaP (tA : TA) (σ : L2.St) (H : Hp) (Ps : List (V → Hp → Prop)) : Prop := ∀ H1, Ex H H1 → ∀ Q : List V → Hp → Prop, (∀ vs H2, Ex H1 H2 → AllP H2 vs Ps → Q vs H2) → tA σ H1 Q
theorem eaP_nil : EaP tNil σ H [] := fun H1 _ _ q => q [] H1 (Ex.refl H1) .nil
theorem eaP_cons {Ps : List (V → Hp → Prop)} (m : Mono P) (h : EvG te σ H P) (hr : EaP tA σ H Ps) : EaP (tCons te tA) σ H (P :: Ps) := fun H1 e Q q =>
  h H1 e _ fun v H2 e2 hv => hr H2 (e.trans e2) _ fun vs H3 e3 hvs => q _ H3 (e2.trans e3) (.cons (m _ _ _ e3 hv) hvs)
theorem evL_P {Ps : List (V → Hp → Prop)} (m : ∀ P ∈ Ps, Mono P) (h : EaP tA σ H Ps) (hl : Ps.length ≤ 100000) : EvG (tLst tA) σ H (fun v H' => ∃ p vs, v = .ref p ∧ H' p = some (.lst vs) ∧ AllP H' vs Ps) := fun H1 e Q q =>
  h H1 e _ fun vs H2 e2 hvs => ⟨sz_of (by rw [hvs.len]; exact hl), fun p np => q _ _ (e2.trans (Ex.new np)) ⟨p, vs, rfl, upd_same, hvs.ex (Ex.new np) m⟩⟩
theorem evL_catP {Ps Qs : List (V → Hp → Prop)} (m : ∀ P ∈ Ps ++ Qs, Mono P) (ha : EvG ta σ H (fun v H' => ∃ p vs, v = .ref p ∧ H' p = some (.lst vs) ∧ AllP H' vs Ps)) (hb : EvG tb σ H (fun v H' => ∃ p vs, v = .ref p ∧ H' p = some (.lst vs) ∧ AllP H' vs Qs)) (hz : Ps.length + Qs.length ≤ 100000) :
    EvG (tOp rCat ta tb) σ H (fun v H' => ∃ p vs, v = .ref p ∧ H' p = some (.lst vs) ∧ AllP H' vs (Ps ++ Qs)) := fun H1 e Q q =>
  ha H1 e _ fun v H2 e2 ⟨p1, vs, hv1, hp1, h1⟩ => hb H2 (e.trans e2) _ fun w H3 e3 ⟨p2, ws, hv2, hp2, h2⟩ => by
    subst hv1 hv2
    refine ⟨p1, p2, vs, ws, rfl, rfl, e3 _ _ hp1, hp2, sz_of (by rw [h1.len, h2.len]; exact hz), fun l nl => q _ _ ((e2.trans e3).trans (Ex.new nl)) ⟨l, _, rfl, upd_same, ?_⟩⟩
    exact ((h1.ex e3 fun P hP => m P (List.mem_append.mpr (Or.inl hP))).app h2).ex (Ex.new nl) m
/-- a field of an error -/
theorem ev_fldErr {C : Addr} {fld : Str} {y v : V} (T : XfC K C) (no : PySem.W.findIn K (.ref C) fld = some none) (h : Ev te σ H v) (hv : FldErr C fld y v H) : Ev (tEvF K fld te) σ H y := fun H1 e Q q =>
  h H1 e _ fun H2 e2 => by
    obtain ⟨a, d, rfl, h1, h2⟩ := FldErr.m _ _ _ (e.trans e2) hv
    exact ⟨a, C, d, _, y, rfl, h1, T, no, h2, by simp, q H2 e2⟩
/-- isinstance(error, a class) -/
theorem ev_isErr {D : Addr} {y v : V} {cls : Value} {b : Bool} (h : Ev ta σ H v) (hv : AnErr D v H) (h2 : Ev tb σ H y) (C : ExcC K D) (hy : (∃ c, y = .ref c ∧ cls = .ref c) ∨ ∃ T, y = .ty T ∧ cls = .type T) (hk : PySem.W.kitOne K (.ref D) cls = some b) :
    Ev (tCB (rIsV K) (tCons ta (tCons tb tNil))) σ H (.bl b) := by
  obtain ⟨a, rfl, hv⟩ := hv
  exact ev_cb (ea_cons h (ea_cons h2 ea_nil)) fun H1 e Q q => by
    obtain ⟨a', e', hv'⟩ := AnErr.m _ _ _ e ⟨a, rfl, hv⟩
    cases e'
    exact ⟨a, D, y, cls, b, rfl, hv', C, hy, hk, q H1 (Ex.refl H1)⟩
end
/-- an f-string of two parts -/
theorem fmt_of2 {pn c1 : Str} {k1 : _} {q1 q2 q3 q5 : Pos} {sc : Scope} (hpn : sc.names.lookup pn = some .local) (h1 : (pn == ("__debug__" : Str)) = false) (h2 : (pn == ("__classdict__" : Str)) = false) (l1 : c1.length ≤ 1000) :
    FmtE ["self", pn, "__class__"] sc (.JoinedStr [.Constant (.str c1) k1 q1, .FormattedValue (.Name pn q2) (-1) none q3] q5) := fun X hN hs => by
  refine ⟨_, pe_joined (.cons pe_str (.cons (pe_fmt (pv 1 (by rw [hN]; rfl) (Or.inl (by rw [hs]; exact hpn)) h1 h2)) .nil)), fun σ H y Q hσ hy q => ?_⟩
  have fin : ∀ z : Str, z.length ≤ 3000 → (Str.empty ++ c1 ++ z).length ≤ sizeLine := fun z hz => by
    have e0 : (Str.empty : Str).length = 0 := rfl
    have e1 := Str.length_append Str.empty c1
    have e2 := Str.length_append (Str.empty ++ c1) z
    rw [sizeLine_eq]
    omega
  have f0 : (Str.empty ++ c1).length ≤ sizeLine := by
    have e1 := Str.length_append Str.empty c1
    have e0 : (Str.empty : Str).length = 0 := rfl
    rw [sizeLine_eq]
    omega
  refine ⟨c1, rfl, f0, y, hσ, ?_⟩
  rcases hy with ⟨z, rfl, hz⟩ | ⟨i, rfl, hi⟩
  · exact Or.inl ⟨z, rfl, by rw [sizeLine_eq]; omega, z, rfl, fin z (by omega), q _⟩
  · have hl : (toString i : Str).length ≤ 3000 := by
      have e := int_text_length_le (k := 1920) (by decide) hi
      rw [show (toString i : Str) = Str.ofString (toString i) from rfl, PySem.ofString_length]
      omega
    exact Or.inr ⟨i, rfl, hi, _, rfl, fin _ hl, q _⟩
end My
/-! ### sorted(a tuple of texts) -/
namespace My
open PySem PySem.Spec PyProof.Rows L2 Evl
def rSortedT (K : PySem.W.Frag) : List V → Hp → VK → Prop := fun vs H Q => ∃ (a : Addr) (xs : List Str), vs = [.ref a] ∧ SqT K H a (xs.map V.str) ∧ xs.length ≤ 1000 ∧ ∀ (ys : List Str) p, ys.Perm xs → sortedS ys = true → H p = none → Q (.ref p) (upd H p (.lst (ys.map V.str)))
theorem cr_sortedT {X : Cx} : CallR X (.builtin "sorted") (rSortedT X.K) := by
  intro pins s σ H vs us Q I r h; obtain ⟨a, xs, rfl, hs, room, q⟩ := h
  rw [Vals.ref1 r]
  obtain ⟨its, rv, ⟨o, ho, hc, n, hd⟩, hz⟩ := I.tuple hs
  have len : its.length = xs.length := by rw [← rv.length, List.length_map]
  have hS : StrsAre its xs := strsAre_of rv
  have sz : its.length ≤ sizeLine := by rw [len, sizeLine_eq]; omega
  refine Calls.call_function_entry kind_sorted plain_sorted entry_sorted (args_sorted1 _) ?_; unfold Builtin.«sorted»
  refine wpAny_bind (m := checkCount "sorted" 1 1 _) (wpAny_pure ?_)
  refine wpAny_bind (wpAny_collect_seq a (Or.inr rfl) ho hc hd (fun h1 k1 => ?_) (by rw [List.size_toArray]; exact sz))
  refine wpAny_bind (wpAny_newList ?_ sz)
  have at1 : (h1.push (seqObj "list" its.toArray 0)).get? h1.objs.size = some (seqObj "list" its.toArray 0) := Heap.get?_push_size _ rfl
  refine wpAny_bind (wpAny_holding (wpAny_call_entry slot_list_sort ⟨_, at1, rfl⟩ entry_list_sort
    (list_sort_treeKAny strKind_oneLt at1 hS.keysOf (fun _ _ _ e => keyKind_strs (by rw [← e]; exact hS)) sz fun st' q1 q2 => ⟨_, rfl, ?_⟩) (args_list_sort _)))
  obtain ⟨ys, r1, r2, r3⟩ := sorted_out_str hS q1 q2
  obtain ⟨c, hc2⟩ := sortedHeap_at (vs := its) (out := (arrOf st').map (·.2)) at1
  have I1 := I.kept (h' := h1) (t' := s.toks) k1
  have hn : H h1.objs.size = none := I1.hok.fresh (Nat.le_refl _)
  have k2 : ∀ b u, h1.get? b = some u → (sortedHeap (h1.push (seqObj "list" its.toArray 0)) h1.objs.size its ((arrOf st').map (·.2))).get? b = some u := fun b u e => by
    have lt := Heap.lt_size e
    rw [sortedHeap_old (Nat.ne_of_lt lt) (by rw [size_push']; exact Nat.lt_succ_of_lt lt)]
    exact Heap.get?_push_of_some _ e
  refine wpAny_pure ⟨_, rfl, .ref h1.objs.size, _, I1.laid (a := h1.objs.size) (o := .lst (ys.map V.str)) k2 (Nat.le_refl _) ⟨by rw [List.length_map, r2.length_eq, ← len]; exact sz, _, c, vals_of_strs r1, hc2⟩, rfl, q ys _ r2 r3 hn⟩
end My
set_option Elab.async false
set_option linter.all false
set_option maxRecDepth 100000
set_option maxHeartbeats 2000000
namespace My
open PySem PySem.Spec PyProof.Rows L2
/-! ### the rules for set(..) and len(..) of nested keys -/
section
variable {X : Cx} {pins : List (Addr × Obj)} {σ : L2.St} {H : Hp} {s : Shared}
mutual
theorem nest_of (I : Inv X pins σ H s) : ∀ (k : NestedKey) (v : V) (u : Value), Dp X.K H v k.data → RelV v u → NestedIs s.heap k u
  | .none, _, _, d, r => by
    cases d
    obtain rfl := r
    exact .none
  | .num i, _, _, d, r => by
    cases d
    obtain ⟨t, rfl⟩ := r
    exact .int i t
  | .text x, _, _, d, r => by
    cases d
    obtain ⟨t, rfl⟩ := r
    exact .text x t
  | .tup ks, v, _, d, r => by
    rw [NestedKey.data] at d
    cases d with
    | tup h all =>
      obtain rfl := r
      obtain ⟨its, rv, ⟨o, ho, hc, n, hd⟩, _⟩ := I.tuple h
      exact .tup ho hc hd (nests_of I ks _ _ all rv)
theorem nests_of (I : Inv X pins σ H s) : ∀ (ks : List NestedKey) (vs : List V) (us : List Value), DpAll X.K H vs (NestedKey.datas ks) → Vals vs us → NestedAll s.heap ks us
  | [], _, _, d, r => by
    rw [NestedKey.datas] at d
    cases d
    cases r
    exact .nil
  | k :: ks, _, _, d, r => by
    rw [NestedKey.datas] at d
    cases d with
    | cons d1 d2 =>
      cases r with
      | cons r1 r2 => exact .cons (nest_of I k _ _ d1 r1) (nests_of I ks _ _ d2 r2)
end
/-- a set of the keys ks -/
def KeyO (X : Cx) (a : Addr) (ks : List NestedKey) : HO := .ext fun h => ∃ L es ep t, TabN X.w h a L es ep t ∧ L.map (·.2) = ks
theorem keyO_new {H : Hp} {h : Heap} {a : Addr} {ks : List NestedKey} (T : ∃ L es ep t, TabN X.w h a L es ep t ∧ L.map (·.2) = ks) : ObjOk X.prog X.w H h a (KeyO X a ks) := by
  obtain ⟨L, es, ep, t, T, e⟩ := T
  have ⟨o, ho, _⟩ := T.ob
  exact ⟨⟨L, es, ep, t, T, e⟩, ⟨o, ho⟩, fun _ _ ⟨L, es, ep, t, T, e⟩ k => ⟨L, es, ep, t, T.at k, e⟩⟩
/-- set(a list or a tuple of tuples of texts, numbers, None and such tuples) -/
def rSetK (X : Cx) : List V → Hp → VK → Prop := fun vs H Q => ∃ (l : Addr) (ks : List (Addr × NestedKey)), vs = [V.ref l] ∧ (SqL X.K H l (ks.map fun p => V.ref p.1) ∨ SqT X.K H l (ks.map fun p => V.ref p.1)) ∧ (∀ p ∈ ks, Dp X.K H (.ref p.1) p.2.data ∧ p.2.depth ≤ 8) ∧ ks.length < 64 ∧
  ∀ p (zs : List NestedKey), zs.Nodup → (∀ k, k ∈ zs ↔ k ∈ ks.map (·.2)) → H p = none → Q (.ref p) (upd H p (KeyO X p zs))
theorem cr_setK (hc : X.calm = true) (hu : X.A.units + 64 < cLine) : CallR X (.type "set") (rSetK X) := by
  intro pins s σ H vs us Q I r h
  obtain ⟨l, ks, rfl, hs, hk, few, q⟩ := h
  rw [Vals.ref1 r]
  have here : KeysN s.heap ks := fun p hp => ⟨nest_of I p.2 _ _ (hk p hp).1 rfl, (hk p hp).2⟩
  have fin : ∀ h' tk L es ep t, TabN X.w h' s.heap.objs.size L es ep t → GotN ks ks.length L → Keeps s.heap h' → EP X pins σ Q (.ref s.heap.objs.size) { s with heap := h', toks := tk } := fun h' tk L es ep t T g k => by
    refine ⟨.ref _, upd H s.heap.objs.size (KeyO X s.heap.objs.size (L.map (·.2))), I.laid (t' := tk) k (Nat.le_refl _) (keyO_new ⟨L, es, ep, t, T, rfl⟩), rfl, q _ _ T.nd (fun y => ⟨fun hy => ?_, fun hy => ?_⟩) (I.hok.fresh (Nat.le_refl _))⟩
    · obtain ⟨p, hp, rfl⟩ := List.mem_map.mp hy
      exact List.mem_map.mpr ⟨p, g.old p hp, rfl⟩
    · obtain ⟨p, hp, rfl⟩ := List.mem_map.mp hy
      obtain ⟨j, hj⟩ := List.mem_iff_getElem?.mp hp
      exact g.all j p (List.getElem?_eq_some_iff.mp hj).1 hj
  have refs : ∀ (its : List Value), Vals (ks.map fun p => V.ref p.1) its → its.toArray.toList = ks.map fun p => Value.ref p.1 := fun its rv => by
    clear hs hk few q here fin
    induction ks generalizing its with
    | nil => cases rv; rfl
    | cons p r ih =>
      cases rv with
      | cons r1 r2 =>
        obtain rfl := r1
        exact congrArg (Value.ref p.1 :: ·) (ih _ r2)
  rcases hs with hs | hs
  · obtain ⟨its, rv, pl, hz⟩ := I.list hs
    exact call_keys (fed_list ..) (I.ok.hd hc) pl.isList ks (refs its rv) here few (by omega) fin
  · obtain ⟨its, rv, pl, hz⟩ := I.tuple hs
    exact call_keys (fed_tuple ..) (I.ok.hd hc) pl ks (refs its rv) here few (by omega) fin
/-- len(such a set) -/
def rLenK (X : Cx) : List V → Hp → VK → Prop := fun vs H Q => ∃ a ks, vs = [V.ref a] ∧ H a = some (KeyO X a ks) ∧ Q (.int (ks.length : Nat)) H
theorem cr_lenK : CallR X (.builtin "len") (rLenK X) := by
  intro pins s σ H vs us Q I r h
  obtain ⟨a, ks, rfl, e, q⟩ := h
  rw [Vals.ref1 r]
  obtain ⟨L, es, ep, t, T, rfl⟩ : ∃ L es ep t, TabN X.w s.heap a L es ep t ∧ L.map (·.2) = ks := (I.hok a _ e).1
  obtain ⟨o, ho, hx, hd⟩ := T.ob
  have len := rowsN_len T.rows
  have few := T.few
  refine call_len_set ho hx hd T.fits (by omega) ?_
  rw [len, ← List.length_map (as := L) (f := (·.2))]
  exact ⟨.int _, H, I.tok _, ⟨_, rfl⟩, q⟩
end
section
variable {X : Cx} {σ : L2.St} {H : Hp} {ta : TE}
open Evl
/-- len(set(a list of keys)) -/
theorem ev_lenK {l : Addr} {ks : List (Addr × NestedKey)} {n : Nat} (ha : Ev ta σ H (.ref l)) (h : SqL X.K H l (ks.map fun p => V.ref p.1)) (hk : ∀ p ∈ ks, Dp X.K H (.ref p.1) p.2.data ∧ p.2.depth ≤ 8) (few : ks.length < 64)
    (hn : ∀ zs : List NestedKey, zs.Nodup → (∀ k, k ∈ zs ↔ k ∈ ks.map (·.2)) → zs.length = n) : Ev (tCB (rLenK X) (tCons (tCB (rSetK X) (tCons ta tNil)) tNil)) σ H (.int (n : Int)) := fun H1 e Q q =>
  ha H1 e _ fun H2 e2 => ⟨l, ks, rfl, .inl (ex_l (e.trans e2) h), fun p hp => ⟨dp_ex (e.trans e2) (hk p hp).1, (hk p hp).2⟩, few, fun p zs nd mem np =>
    ⟨p, zs, rfl, upd_same, by rw [hn zs nd mem]; exact q _ (e2.trans (Ex.new np))⟩⟩
/-- len(set(a list of texts)) -/
theorem ev_lenTx {l : Addr} {xs : List Str} {n : Nat} (ha : Ev ta σ H (.ref l)) (h : SqL X.K H l (xs.map V.str)) (room : xs.length + 1 < scanBound) (hn : ∀ zs : List Str, zs.Nodup → (∀ k, k ∈ zs ↔ k ∈ xs) → zs.length = n) :
    Ev (tCB (rLenTab X (PySem.strKind X.prog X.w)) (tCons (tCB (rSetTx X) (tCons ta tNil)) tNil)) σ H (.int (n : Int)) := fun H1 e Q q =>
  ha H1 e _ fun H2 e2 => ⟨l, xs, rfl, .inl (ex_l (e.trans e2) h), room, fun p zs nd mem np =>
    ⟨p, zs, rfl, upd_same, by rw [hn zs nd mem]; exact q _ (e2.trans (Ex.new np))⟩⟩
/-- lists without doubles, with the same things up to a map that parts them, are equally long -/
theorem same_many {α β : Type} [DecidableEq α] [DecidableEq β] (f : α → β) : ∀ (xs : List α) (ys : List β), xs.Nodup → ys.Nodup → (∀ a ∈ xs, ∀ b ∈ xs, f a = f b → a = b) → (∀ y, y ∈ ys ↔ ∃ x ∈ xs, f x = y) → ys.length = xs.length
  | [], ys, _, _, _, m => by
    cases ys with
    | nil => rfl
    | cons y r => obtain ⟨x, hx, _⟩ := (m y).mp List.mem_cons_self; exact nomatch hx
  | x :: xs, ys, nx, ny, inj, m => by
    have hx := List.nodup_cons.mp nx
    have fx : f x ∈ ys := (m (f x)).mpr ⟨x, List.mem_cons_self, rfl⟩
    have ih := same_many f xs (ys.erase (f x)) hx.2 (ny.erase _) (fun a ha b hb => inj a (List.mem_cons_of_mem _ ha) b (List.mem_cons_of_mem _ hb)) fun y => by
      rw [ny.mem_erase_iff, m y]
      constructor
      · rintro ⟨ne, a, ha, rfl⟩
        rcases List.mem_cons.mp ha with rfl | ha
        · exact absurd rfl ne
        · exact ⟨a, ha, rfl⟩
      · rintro ⟨a, ha, rfl⟩
        exact ⟨fun e => hx.1 (by rw [← inj a (List.mem_cons_of_mem _ ha) x List.mem_cons_self e]; exact ha), a, List.mem_cons_of_mem _ ha, rfl⟩
    have l := List.length_erase_of_mem fx
    have pos : 0 < ys.length := List.length_pos_of_mem fx
    rw [List.length_cons]
    omega
end
end My
set_option Elab.async false
set_option linter.all false
set_option maxRecDepth 100000
set_option maxHeartbeats 300000

namespace My_farword_k65_what_can_be_taken
open PySem PySem.Spec PyProof.Rows L2 Evl My
/-- the values' evaluation, told by the term: the value is found on the way -/
local macro_rules | `(tactic| walk_at "rv") => `(tactic| first
  | exact rv_I0
  | exact ru_neg
  | exact rv_eq rfl
  | exact rv_ne rfl
  | (refine' rv_I ?hc; case hc => first | (show (0 : Int) < _; omega) | (unfold CDiv; omega) | (unfold CPow; omega) | (unfold CMul; omega) | omega | decide))
local macro_rules | `(tactic| walk_at "ea") => `(tactic| first
  | exact ea_nil
  | (refine' ea_cons ?eah ?eat; (case eah => walk_at "ev"); (case eat => walk_at "ea")))
local macro_rules | `(tactic| walk_at "et") => `(tactic| first
  | (refine' et_test ?h; case h => walk_at "ev")
  | (refine' et_B ?h; case h => walk_at "ev")
  | (refine' et_not ?h; case h => walk_at "et"))
local macro_rules | `(tactic| walk_at "ev") => `(tactic| first
  | exact ev_c
  | exact ev_var rfl
  | (refine' ev_lenL ?h ?hl; (case h => walk_at "ev"); (case hl => walk_at "sq"))
  | (refine' ev_op ?eva ?evb ?evr; (case eva => walk_at "ev"); (case evb => walk_at "ev"); (case evr => walk_at "rv"))
  | (refine' ev_un ?eva ?evr; (case eva => walk_at "ev"); (case evr => walk_at "rv"))
  | (refine' ev_abs ?h; case h => walk_at "ea")
  | (refine' ev_int ?h; case h => walk_at "ea")
  | (refine' ev_intB ?h; case h => walk_at "ea")
  | (refine' ev_max1 ?h; case h => walk_at "ea")
  | (refine' ev_call ?h ?hs; (case h => walk_at "ea"); (case hs => walk_at "sp"))
  | (refine' ev_notV ?h; case h => walk_at "ev"))
local macro_rules | `(tactic| walk_at "sq") => `(tactic| first
  | assumption
  | (refine sq_of ?hq; case hq => assumption))
local macro_rules | `(tactic| walk_at "sp") => `(tactic| first
  | exact SpPlaces (by omega) (by omega)
  | exact SpOnes (by omega)
  | exact SpSpot (by omega) (by omega) (by omega))

/-! ### the text -/
def topS (i : Nat) : Stmt := PySem.Challenge.pw_farword_k65_what_can_be_taken.main.body.getD i (.Pass ⟨0, 0, 0, 0⟩)
abbrev s_may_take : Stmt := topS 1
abbrev N_may_take : List Str := ["sent", "count", "tick", "order", "since"]
abbrev p_may_take : List Str := ["sent", "count", "tick"]
theorem sc_may_take : FnScope N_may_take p_may_take (defScope s_may_take) := ⟨rfl, rfl, rfl, by decide +kernel, rfl, by decide +kernel, by decide +kernel⟩
abbrev s_fits_frames : Stmt := topS 2
abbrev N_fits_frames : List Str := ["standing", "count", "tick", "frames", "told", "frame"]
abbrev p_fits_frames : List Str := ["standing", "count", "tick", "frames"]
theorem sc_fits_frames : FnScope N_fits_frames p_fits_frames (defScope s_fits_frames) := ⟨rfl, rfl, rfl, by decide +kernel, rfl, by decide +kernel, by decide +kernel⟩
abbrev s__law_row : Stmt := topS 4
abbrev N__law_row : List Str := ["cell", "many", "row", "rest", "state", "k"]
abbrev p__law_row : List Str := ["cell", "many"]
theorem sc__law_row : FnScope N__law_row p__law_row (defScope s__law_row) := ⟨rfl, rfl, rfl, by decide +kernel, rfl, by decide +kernel, by decide +kernel⟩
abbrev s__law_numbers : Stmt := topS 5
abbrev N__law_numbers : List Str := ["script", "many", "cells", "each", "numbers", "cell", "number"]
abbrev p__law_numbers : List Str := ["script", "many"]
theorem sc__law_numbers : FnScope N__law_numbers p__law_numbers (defScope s__law_numbers) := ⟨rfl, rfl, rfl, by decide +kernel, rfl, by decide +kernel, by decide +kernel⟩
abbrev s__law_book : Stmt := topS 6
abbrev N__law_book : List Str := ["numbers", "at", "holds", "names", "modes", "k", "on", "off", "commands", "value", "lets", "alarms", "rows", "steps", "j"]
abbrev p__law_book : List Str := ["numbers", "at"]
theorem sc__law_book : FnScope N__law_book p__law_book (defScope s__law_book) := ⟨rfl, rfl, rfl, by decide +kernel, rfl, by decide +kernel, by decide +kernel⟩
abbrev s__law_parted : Stmt := topS 7
abbrev N__law_parted : List Str := ["holds", "number", "on", "k", "hold"]
abbrev p__law_parted : List Str := ["holds", "number"]
theorem sc__law_parted : FnScope N__law_parted p__law_parted (defScope s__law_parted) := ⟨rfl, rfl, rfl, by decide +kernel, rfl, by decide +kernel, by decide +kernel⟩
abbrev s__law_effect : Stmt := topS 8
abbrev N__law_effect : List Str := ["parts", "mode", "on", "part", "held", "entered", "one", "hold"]
abbrev p__law_effect : List Str := ["parts", "mode", "on", "part"]
theorem sc__law_effect : FnScope N__law_effect p__law_effect (defScope s__law_effect) := ⟨rfl, rfl, rfl, by decide +kernel, rfl, by decide +kernel, by decide +kernel⟩
abbrev s__law_first : Stmt := topS 9
abbrev N__law_first : List Str := ["parts", "mode", "on"]
abbrev p__law_first : List Str := ["parts"]
theorem sc__law_first : FnScope N__law_first p__law_first (defScope s__law_first) := ⟨rfl, rfl, rfl, by decide +kernel, rfl, by decide +kernel, by decide +kernel⟩
abbrev s__law_command : Stmt := topS 10
abbrev N__law_command : List Str := ["parts", "mode", "on", "name", "told", "one"]
abbrev p__law_command : List Str := ["parts", "mode", "on", "name"]
theorem sc__law_command : FnScope N__law_command p__law_command (defScope s__law_command) := ⟨rfl, rfl, rfl, by decide +kernel, rfl, by decide +kernel, by decide +kernel⟩
abbrev s__law_tick : Stmt := topS 11
abbrev N__law_tick : List Str := ["parts", "standing", "alarms", "order", "mode", "on", "row", "place", "left", "silence", "alarm", "fresh", "steps", "one"]
abbrev p__law_tick : List Str := ["parts", "standing", "alarms", "order"]
theorem sc__law_tick : FnScope N__law_tick p__law_tick (defScope s__law_tick) := ⟨rfl, rfl, rfl, by decide +kernel, rfl, by decide +kernel, by decide +kernel⟩
abbrev s__law_sent : Stmt := topS 12
abbrev N__law_sent : List Str := ["parts", "numbers", "at", "many", "menu", "sent", "since", "k", "one"]
abbrev p__law_sent : List Str := ["parts", "numbers", "at", "many"]
theorem sc__law_sent : FnScope N__law_sent p__law_sent (defScope s__law_sent) := ⟨rfl, rfl, rfl, by decide +kernel, rfl, by decide +kernel, by decide +kernel⟩
abbrev s__law_may_come : Stmt := topS 13
abbrev N__law_may_come : List Str := ["parts", "number", "k", "one"]
abbrev p__law_may_come : List Str := ["parts", "number"]
theorem sc__law_may_come : FnScope N__law_may_come p__law_may_come (defScope s__law_may_come) := ⟨rfl, rfl, rfl, by decide +kernel, rfl, by decide +kernel, by decide +kernel⟩
abbrev s__law_lots : Stmt := topS 14
abbrev N__law_lots : List Str := ["alarms", "lots", "name", "lot"]
abbrev p__law_lots : List Str := ["alarms"]
theorem sc__law_lots : FnScope N__law_lots p__law_lots (defScope s__law_lots) := ⟨rfl, rfl, rfl, by decide +kernel, rfl, by decide +kernel, by decide +kernel⟩
abbrev s__law_histories : Stmt := topS 15
abbrev N__law_histories : List Str := ["parts", "sent", "alarms", "now", "rows", "number", "longer", "history", "pairs", "standing", "count", "orders", "lot", "order", "pair"]
abbrev p__law_histories : List Str := ["parts", "sent", "alarms", "now"]
theorem sc__law_histories : FnScope N__law_histories p__law_histories (defScope s__law_histories) := ⟨rfl, rfl, rfl, by decide +kernel, rfl, by decide +kernel, by decide +kernel⟩
abbrev s__law_frames : Stmt := topS 16
abbrev N__law_frames : List Str := ["parts", "rows", "numbers", "at", "now", "pairs", "frames", "k", "number", "standing", "count", "mode", "on", "kind", "hold"]
abbrev p__law_frames : List Str := ["parts", "rows", "numbers", "at", "now"]
theorem sc__law_frames : FnScope N__law_frames p__law_frames (defScope s__law_frames) := ⟨rfl, rfl, rfl, by decide +kernel, rfl, by decide +kernel, by decide +kernel⟩
abbrev s_law : Stmt := topS 17
abbrev N_law : List Str := ["script", "numbers", "parts", "sent", "kept", "count", "number", "due", "turn", "told", "rows", "frames", "handed", "k", "pairs", "standing", "own", "frame"]
abbrev p_law : List Str := ["script"]
theorem sc_law : FnScope N_law p_law (defScope s_law) := ⟨rfl, rfl, rfl, by decide +kernel, rfl, by decide +kernel, by decide +kernel⟩

section
variable {P : Program} {w : World} {K : PySem.W.Frag} {mg : Str → Option Value} {base : Heap}
/-! ### the drawn numbers: all that is wanted of them is how many there are, and that each is from 0 to 1008 -/
def Small (ns : List Int) : Prop := ∀ n ∈ ns, 0 ≤ n ∧ n < 1009
theorem Small.app {ns : List Int} {n : Int} (h : Small ns) (h0 : 0 ≤ n) (h1 : n < 1009) : Small (ns ++ [n]) := fun z hz => by
  rcases List.mem_append.mp hz with hz | hz
  · exact h z hz
  · rw [List.mem_singleton.mp hz]
    exact ⟨h0, h1⟩
def spRow : Sp := fun vs H Q _ => ∃ (c m : Int), vs = [.int c, .int m] ∧ 0 ≤ m ∧ m ≤ 1000 ∧ ∀ (ns : List Int) p H', (ns.length : Int) = m → Small ns → H p = none → Ex H H' → H' p = some (.lst (ns.map V.int)) → Q (.ref p) H'
def spNumbers (K : PySem.W.Frag) : Sp := fun vs H Q _ => ∃ (a : Addr) (xs : List Int) (m : Int), vs = [.ref a, .int m] ∧ SqL K H a (xs.map V.int) ∧ xs.length ≤ 63 ∧ 0 ≤ m ∧ m ≤ 900 ∧
  ∀ (ns : List Int) p H', (ns.length : Int) = m → Small ns → H p = none → Ex H H' → H' p = some (.lst (ns.map V.int)) → Q (.ref p) H'
section
variable {P : Program} {w : World} {K : PySem.W.Frag} {mg : Str → Option Value} {base : Heap}
theorem ok_row (A : At K mg "_law_row" s__law_row) (mz_abs : mg "abs" = none) (mz_int : mg "int" = none) (mz_range : mg "range" = none) : Dfn P w K mg base 1 "_law_row" p__law_row spRow := by
  refine dfn_ok A sc__law_row (fun _ _ _ _ _ _ us hl => match us, hl with | [_, _], _ => rfl) (fun vs H Q E h => ?_) (fun f cdv A outer s H vs Q E hr h => ?_)
  · obtain ⟨c, m, rfl, _⟩ := h
    rfl
  · obtain ⟨c, m, rfl, hm, hm2, q⟩ := h
    refine ⟨_, (pss_cons (ps_set (i := 2) sc__law_row.nd rfl (Or.inl rfl) (pe_lst pa_nil))
  (pss_cons (ps_set (i := 3) sc__law_row.nd rfl (Or.inl rfl) pe_int)
  (pss_cons (ps_if (pt_cmpR op_ge (pe_callB call_abs (by rfl) mz_abs (by decide +kernel) (pa_cons (pv 0) pa_nil)) (pe_op op_pow pe_int pe_int) (by first | exact nomark _ | rfl))
    (pss_one (ps_set (i := 3) sc__law_row.nd rfl (Or.inl rfl) (pe_callB call_abs (by rfl) mz_abs (by decide +kernel) (pa_cons (pv 0) pa_nil))))
    pss_nil)
  (pss_cons (ps_set (i := 4) sc__law_row.nd rfl (Or.inl rfl) (pe_op op_mod (pe_callTy call_int1 (by rfl) mz_int (by decide +kernel) (pa_cons (pe_callB call_abs (by rfl) mz_abs (by decide +kernel) (pa_cons (pv 0) pa_nil)) pa_nil)) pe_int))
  (pss_cons (ps_for PassesOwn.never rfl (pi_range1 (by rfl) mz_range (pa_cons (pv 1) pa_nil)) (pg_name (i := 5) sc__law_row.nd rfl (Or.inl rfl))
    (pss_cons (ps_set (i := 4) sc__law_row.nd rfl (Or.inl rfl) (pe_op op_mod (pe_callTy call_int1 (by rfl) mz_int (by decide +kernel) (pa_cons (pe_op op_add (pe_op op_mul (pe_op op_add (pv 4) pe_int) pe_int) (pe_op op_mul pe_int (pv 5))) pa_nil)) pe_int))
  (pss_one (ps_if (pt_cmpR op_gt (pv 3) pe_int (by first | exact nomark _ | rfl))
    (pss_cons (ps_expr (show PE _ _ (tBM K "list" _ _ _) from pe_bm PySem.F.plainAttrs_list PySem.F.slot_list_append PySem.F.type_list_append mt_append (pv 2) (pa_cons (pe_op op_mod (pe_callTy call_int1 (by rfl) mz_int (by decide +kernel) (pa_cons (pv 3) pa_nil)) pe_int) pa_nil)))
  (pss_one (ps_set (i := 3) sc__law_row.nd rfl (Or.inl rfl) (pe_op op_fdiv (pv 3) pe_int))))
    (pss_one (ps_expr (show PE _ _ (tBM K "list" _ _ _) from pe_bm PySem.F.plainAttrs_list PySem.F.slot_list_append PySem.F.type_list_append mt_append (pv 2) (pa_cons (pe_op op_mod (pe_callTy call_int1 (by rfl) mz_int (by decide +kernel) (pa_cons (pe_op op_fdiv (pv 4) pe_int) pa_nil)) pe_int) pa_nil))))))))
  (pss_one (ps_ret (pv 2)))))))), ?_⟩
    refine q_asgL (xs := []) (by refine el_lst ea_nil (by decide)) fun p H1 np e1 h1 => ?_
    refine' q_asg (v := ?v2) ?e2 fun H2 e2 => ?_
    case e2 => walk_at "ev"
    refine' q_ifAsg (b := decide ((10:Int) ^ (18:Int).toNat ≤ if c < 0 then -c else c)) (v := .int (if (10:Int) ^ (18:Int).toNat ≤ (if c < 0 then -c else c) then (if c < 0 then -c else c) else 0)) ?b3 ?t3 ?f3 fun H3 e3 => ?_
    case b3 => walk_at "et"
    case t3 =>
      intro hb
      rw [if_pos (of_decide_eq_true hb)]
      walk_at "ev"
    case f3 =>
      intro hb
      rw [if_neg (of_decide_eq_false hb)]
      rfl
    generalize hr0 : (if (10:Int) ^ (18:Int).toNat ≤ (if c < 0 then -c else c) then (if c < 0 then -c else c) else 0) = r0
    have hr00 : 0 ≤ r0 := by
      rw [← hr0]
      split
      · split <;> omega
      · omega
    refine' q_asg (v := ?v4) ?e4 fun H4 e4 => ?_
    case e4 => walk_at "ev"
    have hs0 : 0 ≤ (if c < 0 then -c else c) % 2147483647 ∧ (if c < 0 then -c else c) % 2147483647 < 2147483647 := ⟨Int.emod_nonneg _ (by decide), Int.emod_lt_of_pos _ (by decide)⟩
    generalize (if c < 0 then -c else c) % 2147483647 = st0 at hs0
    refine q_forR1 (n := m) (by walk_at "ea") ⟨hm, by omega⟩ (fun i σ' H' => ∃ (st r : Int) (k : Option V) (ns : List Int), σ' = [some (.int c), some (.int m), some (.ref p), some (.int r), some (.int st), k] ∧ 0 ≤ st ∧ st < 2147483647 ∧ ns.length = i ∧ Small ns ∧ Ex H H' ∧ H' p = some (.lst (ns.map V.int))) ?h0 ?hs ?hd
    case h0 => exact fun H5 e5 => ⟨st0, r0, none, [], rfl, hs0.1, hs0.2, rfl, (fun _ z => nomatch z), (((e1.trans e2).trans e3).trans e4).trans e5, e5 _ _ (e4 _ _ (e3 _ _ (e2 _ _ h1)))⟩
    case hs =>
      rintro i σ' H' hi ⟨st, r, k, ns, rfl, s0, s1, hl, hS, eH, hp⟩
      refine' q_asg (v := ?v5) ?e5 fun H5 e5 => ?_
      case e5 => walk_at "ev"
      have hs2 : 0 ≤ ((st + 1) * 48271 + 69621 * (i : Int)) % 2147483647 ∧ ((st + 1) * 48271 + 69621 * (i : Int)) % 2147483647 < 2147483647 := ⟨Int.emod_nonneg _ (by decide), Int.emod_lt_of_pos _ (by decide)⟩
      generalize ((st + 1) * 48271 + 69621 * (i : Int)) % 2147483647 = st2 at hs2
      have hp5 := e5 _ _ hp
      have last : ∀ (x y : Int) H6, Ex H5 H6 → 0 ≤ x → x < 1009 → ∃ (st r : Int) (k : Option V) (ns' : List Int), ([some (.int c), some (.int m), some (.ref p), some (.int y), some (.int st2), some (.int (i : Int))] : L2.St) = [some (.int c), some (.int m), some (.ref p), some (.int r), some (.int st), k] ∧ 0 ≤ st ∧ st < 2147483647 ∧ ns'.length = i + 1 ∧ Small ns' ∧ Ex H (upd H6 p (.lst (ns.map V.int ++ [.int x]))) ∧ (upd H6 p (.lst (ns.map V.int ++ [.int x]))) p = some (.lst (ns'.map V.int)) := fun x y H6 e6 h0 h1 =>
        ⟨st2, y, _, ns ++ [x], rfl, hs2.1, hs2.2, by rw [List.length_append, hl]; rfl, hS.app h0 h1, Ex.mut ((eH.trans e5).trans e6) np, by rw [upd_same, List.map_append]; rfl⟩
      have hz : (ns.map V.int).length < 100000 := by rw [List.length_map]; omega
      refine' s_if (b := decide ((0:Int) < r)) ?b6 ?t6 ?f6
      case b6 => walk_at "et"
      case t6 =>
        intro _ H6 e6
        refine' q_app (e6 _ _ hp5) (ev_var rfl) ?e7 hz fun H7 e7 => ?_
        case e7 => walk_at "ev"
        refine' s_asg (v := ?v8) ?e8 fun H8 e8 => ?_
        case e8 => walk_at "ev"
        obtain ⟨a1, a2, a3, a4, b1, b2, b3, b4, b5, b6, b7⟩ := last (r % 1009) (r / 1009) H7 (e6.trans e7) (Int.emod_nonneg _ (by decide)) (Int.emod_lt_of_pos _ (by decide))
        exact ⟨a1, a2, a3, a4, b1, b2, b3, b4, b5, b6.trans e8, e8 _ _ b7⟩
      case f6 =>
        intro _ H6 e6
        refine' s_app (e6 _ _ hp5) (ev_var rfl) ?e7 hz fun H7 e7 => ?_
        case e7 => walk_at "ev"
        exact last (st2 / 2048 % 1009) r H7 (e6.trans e7) (Int.emod_nonneg _ (by decide)) (Int.emod_lt_of_pos _ (by decide))
    case hd =>
      rintro σ' H' ⟨st, r, k, ns, rfl, s0, s1, hl, hS, eH, hp⟩
      refine s_ret (ev_var rfl) fun H6 e6 => ?_
      exact q ns p H6 (by omega) hS np (eH.trans e6) (e6 _ _ hp)
theorem Small.app2 {ns ms : List Int} (h : Small ns) (h2 : Small ms) : Small (ns ++ ms) := fun z hz => (List.mem_append.mp hz).elim (h z) (h2 z)
theorem Small.take {ns : List Int} (h : Small ns) (k : Nat) : Small (ns.take k) := fun z hz => h z (List.mem_of_mem_take hz)
theorem Small.at {ns : List Int} (h : Small ns) {i : Nat} {n : Int} (e : ns[i]? = some n) : 0 ≤ n ∧ n < 1009 := h n (List.mem_of_getElem? e)
theorem ok_numbers (A : At K mg "_law_numbers" s__law_numbers) (D__law_row : Dfn P w K mg base 1 "_law_row" p__law_row spRow) (mz_len : mg "len" = none) (mz_max : mg "max" = none) : Dfn P w K mg base 2 "_law_numbers" p__law_numbers (spNumbers K) := by
  refine dfn_ok A sc__law_numbers (fun _ _ _ _ _ _ us hl => match us, hl with | [_, _], _ => rfl) (fun vs H Q E h => ?_) (fun f cdv A outer s H vs Q E hr h => ?_)
  · obtain ⟨a, xs, m, rfl, _⟩ := h
    rfl
  · obtain ⟨a, xs, m, rfl, hA, hx, hm, hm2, q⟩ := h
    refine ⟨_, (pss_cons (ps_set (i := 2) sc__law_numbers.nd rfl (Or.inl rfl) (pe_slice (show SlR _ (rSlL K) from sl_list) (pv 0) po_none (po_some pe_int)))
  (pss_cons (ps_set (i := 3) sc__law_numbers.nd rfl (Or.inl rfl) (pe_op op_add pe_int (pe_op op_fdiv (pv 1) (pe_callB (call_max2 rfl) (by rfl) mz_max (by decide +kernel) (pa_cons pe_int (pa_cons (pe_callB (show CallR _ _ (rLenS K) from call_len_seq) (by rfl) mz_len PySem.boot_len (pa_cons (pv 2) pa_nil)) pa_nil))))))
  (pss_cons (ps_set (i := 4) sc__law_numbers.nd rfl (Or.inl rfl) (pe_lst pa_nil))
  (pss_cons (ps_for PassesOwn.never rfl (show PI _ _ _ (iList K _) from pi_list (pv 2)) (pg_name (i := 5) sc__law_numbers.nd rfl (Or.inl rfl))
    (pss_one (ps_for PassesOwn.never rfl (show PI _ _ _ (iList K _) from pi_list (pe_d D__law_row (hr.mono (by decide)) (pa_cons (pv 5) (pa_cons (pv 3) pa_nil)))) (pg_name (i := 6) sc__law_numbers.nd rfl (Or.inl rfl))
    (pss_one (ps_expr (show PE _ _ (tBM K "list" _ _ _) from pe_bm PySem.F.plainAttrs_list PySem.F.slot_list_append PySem.F.type_list_append mt_append (pv 4) (pa_cons (pv 6) pa_nil)))))))
  (pss_cons (ps_while PassesOwn.never (pt_cmpR op_lt (pe_callB (show CallR _ _ (rLenS K) from call_len_seq) (by rfl) mz_len PySem.boot_len (pa_cons (pv 4) pa_nil)) (pv 1) (by first | exact nomark _ | rfl))
    (pss_one (ps_expr (show PE _ _ (tBM K "list" _ _ _) from pe_bm PySem.F.plainAttrs_list PySem.F.slot_list_append PySem.F.type_list_append mt_append (pv 4) (pa_cons pe_int pa_nil)))))
  (pss_one (ps_ret (pe_slice (show SlR _ (rSlL K) from sl_list) (pv 4) po_none (po_some (pv 1)))))))))), ?_⟩
    refine q_asgL (xs := xs.map V.int) ?c1 fun c H1 nc e1 h1 => ?_
    case c1 =>
      have e : xs.map V.int = cutV (xs.map V.int) none (some ((63 : Nat) : Int)) := by
        rw [cut_take, List.take_of_length_le (by rw [List.length_map]; exact hx)]
      rw [e]
      exact el_sl (ev_var rfl) eo_none (eo_some ev_c) hA
    have hlx : ((xs.map V.int).length : Int) ≤ 63 := by rw [List.length_map]; omega
    have hmx : 0 < (if ((xs.map V.int).length : Int) > 1 then ((xs.map V.int).length : Int) else 1) ∧ (if ((xs.map V.int).length : Int) > 1 then ((xs.map V.int).length : Int) else 1) < 1073741824 := by split <;> omega
    refine q_asg (ev_op ev_c (ev_op (ev_var rfl) (ev_max1 (ea_cons ev_c (ea_cons (ev_lenL (ev_var rfl) (sq_of h1)) ea_nil))) (rv_I hmx)) rv_I0) fun H2 e2 => ?_
    generalize hz : (1 + m / (if ((xs.map V.int).length : Int) > 1 then ((xs.map V.int).length : Int) else 1)) = each
    have h2 := e2 _ _ h1
    have hz1 : 0 ≤ each ∧ each ≤ 1000 := by
      have a1 := Int.ediv_nonneg hm (Int.le_of_lt hmx.1)
      have a2 := Int.ediv_le_self (if ((xs.map V.int).length : Int) > 1 then ((xs.map V.int).length : Int) else 1) hm
      omega
    clear hz
    refine q_asgL (xs := []) (by refine el_lst ea_nil (by decide)) fun p H3 np e3 h3 => ?_
    have e0 : Ex H H3 := (e1.trans e2).trans e3
    have np0 : H p = none := fresh_back (e1.trans e2) np
    have h3c := e3 _ _ h2
    have ncp : c ≠ p := ne_of_none h2 np
    refine q_forLn (xs := xs.map V.int) (a := c) (ev_var rfl) (sq_of h3c) (fun i σ' H' => ∃ (u v : Option V) (ns : List Int), σ' = [some (.ref a), some (.int m), some (.ref c), some (.int each), some (.ref p), u, v] ∧ ns.length ≤ i * 1000 ∧ Small ns ∧ Ex H H' ∧ H' c = some (.lst (xs.map V.int)) ∧ H' p = some (.lst (ns.map V.int))) ?h0 ?hl ?hs ?hd
    case h0 => exact fun H4 e4 => ⟨none, none, [], rfl, Nat.zero_le _, (fun _ z => nomatch z), e0.trans e4, e4 _ _ h3c, e4 _ _ h3⟩
    case hl => exact fun i σ' H' _ ⟨_, _, _, _, _, _, _, hc, _⟩ => sq_of hc
    case hs =>
      rintro i x σ' H' hi ⟨u, v, ns, rfl, hl, hS, eH, hc, hp⟩
      have hix : i < 63 := by
        have := (List.getElem?_eq_some_iff.mp hi).1
        rw [List.length_map] at this
        omega
      obtain ⟨n, hn, rfl⟩ := int_at hi
      refine s_forP (P := fun ys => ∃ ms : List Int, ys = ms.map V.int ∧ (ms.length : Int) = each ∧ Small ms) ?hp (fun ys q j σ2 H2 => ∃ (v : Option V) (ms : List Int), ys = ms.map V.int ∧ (ms.length : Int) = each ∧ Small ms ∧ σ2 = [some (.ref a), some (.int m), some (.ref c), some (.int each), some (.ref p), some (.int n), v] ∧ Ex H H2 ∧ H2 c = some (.lst (xs.map V.int)) ∧ H2 q = some (.lst ys) ∧ q ≠ p ∧ H2 p = some (.lst ((ns ++ ms.take j).map V.int))) ?g0 ?gl ?gs ?gd
      case hp =>
        refine evP_call (ea_cons (ev_var rfl) (ea_cons (ev_var rfl) ea_nil)) fun H1 e1 Q q E => ⟨n, each, rfl, hz1.1, hz1.2, fun ms p' H2 hm hS np' e2 h2 => q _ p' H2 ⟨ms, rfl, hm, hS⟩ np' e2 h2⟩
      case g0 =>
        rintro ys q' H1 ⟨ms, rfl, hml, hSm⟩ nq e1 hq
        refine ⟨v, ms, rfl, hml, hSm, rfl, eH.trans e1, e1 _ _ hc, hq, (ne_of_none hp nq).symm, ?_⟩
        rw [List.take_zero, List.append_nil]
        exact e1 _ _ hp
      case gl => exact fun ys q' j σ2 H2 _ ⟨_, _, _, _, _, _, _, _, hq, _⟩ => sq_of hq
      case gs =>
        rintro ys q' j x' σ2 H2 hj ⟨v, ms, rfl, hml, hSm, rfl, eH2, hc2, hq, nqp, hp2⟩
        obtain ⟨n2, hn2, rfl⟩ := int_at hj
        have hj2 := (List.getElem?_eq_some_iff.mp hn2).1
        refine s_app hp2 (ev_var rfl) (ev_var rfl) (by rw [List.length_map, List.length_append, List.length_take]; omega) fun H3 e3 => ?_
        refine ⟨_, ms, rfl, hml, hSm, rfl, Ex.mut (eH2.trans e3) np0, by rw [upd_ne ncp]; exact e3 _ _ hc2, by rw [upd_ne nqp]; exact e3 _ _ hq, nqp, ?_⟩
        rw [upd_same, List.take_add_one, hn2, ← List.append_assoc, List.map_append (l₁ := ns ++ ms.take j)]
        rfl
      case gd =>
        rintro ys q' σ2 H2 ⟨v, ms, rfl, hml, hSm, rfl, eH2, hc2, hq, nqp, hp2⟩
        rw [List.length_map, List.take_of_length_le (Nat.le_refl _)] at hp2
        exact ⟨_, _, _, rfl, by rw [List.length_append]; omega, hS.app2 hSm, eH2, hc2, hp2⟩
    case hd =>
      rintro σ' H' ⟨u, v, ns, rfl, hl, hS, eH, hc, hp⟩
      rw [List.length_map] at hl
      refine q_while (fun d σ2 H2 => ∃ ns : List Int, σ2 = [some (.ref a), some (.int m), some (.ref c), some (.int each), some (.ref p), u, v] ∧ d = m.toNat - ns.length ∧ ns.length ≤ 70000 ∧ Small ns ∧ Ex H H2 ∧ H2 p = some (.lst (ns.map V.int))) _ ⟨ns, rfl, rfl, by omega, hS, eH, hp⟩ ?_
      rintro d σ2 H2 ⟨ns, rfl, rfl, hl, hS, eH, hp⟩
      refine ⟨decide (((ns.map V.int).length : Int) < m), et_test (ev_op (ev_lenL (ev_var rfl) (sq_of hp)) (ev_var rfl) rv_I0), fun hb H3 e3 => ?_, fun hb H3 e3 => ?_⟩
      · have hb := of_decide_eq_true hb
        rw [List.length_map] at hb
        refine ⟨fun σ3 H4 => ∃ ns' : List Int, σ3 = [some (.ref a), some (.int m), some (.ref c), some (.int each), some (.ref p), u, v] ∧ ns'.length = ns.length + 1 ∧ Small ns' ∧ Ex H H4 ∧ H4 p = some (.lst (ns'.map V.int)), fun σ3 H4 ⟨ns', z1, z2, z3, z4, z5⟩ => ⟨_, by omega, ns', z1, rfl, by omega, z3, z4, z5⟩, ?_⟩
        refine s_app (e3 _ _ hp) (ev_var rfl) ev_c (by rw [List.length_map]; omega) fun H4 e4 => ?_
        exact ⟨ns ++ [0], rfl, by rw [List.length_append]; rfl, hS.app (by decide) (by decide), Ex.mut ((eH.trans e3).trans e4) np0, by rw [upd_same, List.map_append]; rfl⟩
      · have hb := of_decide_eq_false hb
        rw [List.length_map] at hb
        refine s_retL (el_sl (ev_var rfl) eo_none (eo_some (ev_var rfl)) (sq_of (e3 _ _ hp))) fun r H4 nr e4 h4 => ?_
        have em : m = ((m.toNat : Nat) : Int) := by omega
        rw [em, cut_take, ← List.map_take] at h4
        exact q _ r H4 (by rw [List.length_take]; omega) (hS.take _) (fresh_back (eH.trans e3) nr) ((eH.trans e3).trans e4) h4
end

/-! ### what may be taken, what fits: data of the law -/
def tD (xs : List Str) : PyData := .tuple (xs.map .str)
def oD : Option Str → PyData
  | none => .none
  | some s => .str s
abbrev Sent := List Str × Nat
def snD (s : Sent) : PyData := .tuple [tD s.1, .int (s.2 : Int)]
structure Fr where
  t : Nat
  c : Nat
  m : Str
  on : List Str
def frD (f : Fr) : PyData := .tuple [.int (f.t : Int), .int (f.c : Int), .str f.m, tD f.on]
structure Sg where
  m : Str
  on : List Str
  row : Option Str
  place : Nat
  left : Nat
  sil : Nat
def sgD (s : Sg) : PyData := .tuple [.str s.m, tD s.on, oD s.row, .int (s.place : Int), .int (s.left : Int), .int (s.sil : Int)]
/-- few short texts -/
def Few (xs : List Str) : Prop := xs.length ≤ 3 ∧ ∀ x ∈ xs, Gt 4 x
def FrOk (f : Fr) : Prop := Gt 4 f.m ∧ Few f.on
def dueD (ss : List Sent) (c t : Nat) : List PyData := match ss[c]? with
  | none => [.none]
  | some s => if s.2 ≤ t then [.none, tD s.1] else [.none]
theorem dpa_at {K : PySem.W.Frag} {H : Hp} : ∀ (ds : List PyData) (vs : List V) (i : Nat) (d : PyData), DpAll K H vs ds → ds[i]? = some d → ∃ v, vs[i]? = some v ∧ Dp K H v d
  | [], _, _, _, _, e => by cases e
  | x :: r, vs, i, d, h, e => by
    obtain ⟨v, vr, rfl, h1, h2⟩ := DpAll.cons_inv h
    cases i with
    | zero => cases e; exact ⟨v, rfl, h1⟩
    | succ i => exact dpa_at r vr i d h2 e
theorem dp_lst_inv {K : PySem.W.Frag} {H : Hp} {v : V} {ds : List PyData} (h : Dp K H v (.list ds)) : ∃ a xs, v = .ref a ∧ SqL K H a xs ∧ DpAll K H xs ds := by
  cases h with
  | lst h1 h2 => exact ⟨_, _, rfl, h1, h2⟩
theorem q_unt2 {σ : L2.St} {H : Hp} {te : TE} {tz : TS} {D : Ends} {a : Addr} {i j : Nat} {x y : V} (h : Ev te σ H (.ref a)) (hs : SqT K H a [x, y]) (k : ∀ H1, Ex H H1 → tz D ((σ.set i (some x)).set j (some y)) H1) : tSeq (tAsg te (gTup K 2 (gCons (gName i) (gCons (gName j) gNil)))) tz D σ H :=
  h H (Ex.refl H) _ fun H1 e => ⟨a, _, rfl, ex_t e hs, rfl, _, _, rfl, _, _, rfl, rfl, k H1 e⟩
def spMay (K : PySem.W.Frag) : Sp := fun vs H Q _ => ∃ (v : V) (ss : List Sent) (c t : Nat), vs = [v, .int (c : Int), .int (t : Int)] ∧ Dp K H v (.list (ss.map snD)) ∧ ∀ p xs H', H p = none → Ex H H' → H' p = some (.lst xs) → DpAll K H' xs (dueD ss c t) → Q (.ref p) H'
theorem ok_may (A : At K mg "may_take" s_may_take) (mz_len : mg "len" = none) : Dfn P w K mg base 1 "may_take" p_may_take (spMay K) := by
  refine dfn_ok A sc_may_take (fun _ _ _ _ _ _ us hl => match us, hl with | [_, _, _], _ => rfl) (fun vs H Q E h => ?_) (fun f cdv A outer s H vs Q E hr h => ?_)
  · obtain ⟨v, ss, c, t, rfl, _⟩ := h
    rfl
  · obtain ⟨v, ss, c, t, rfl, d, q⟩ := h
    refine ⟨_, (pss_cons (ps_if (pt_not (pt_chain op_le op_lt pe_int (pv 1) (pe_callB (show CallR _ _ (rLenS K) from call_len_seq) (by rfl) mz_len PySem.boot_len (pa_cons (pv 0) pa_nil))))
    (pss_one (ps_ret (pe_lst (pa_cons pe_non pa_nil))))
    pss_nil)
  (pss_cons (ps_asg (pe_ix (show IxR _ (rIxL K) from ix_list) (pv 0) (pv 1) (fun _ _ => rfl)) (show PG _ _ (gTup K 2 _) from pg_tup rfl (pgs_cons (pg_name (i := 3) sc_may_take.nd rfl (Or.inl rfl)) (pgs_cons (pg_name (i := 4) sc_may_take.nd rfl (Or.inl rfl)) pgs_nil))))
  (pss_one (ps_ret (pe_ifExp (pt_cmpR op_le (pv 4) (pv 2) (by first | exact nomark _ | rfl)) (pe_lst (pa_cons pe_non (pa_cons (pv 3) pa_nil))) (pe_lst (pa_cons pe_non pa_nil))))))), ?_⟩
    obtain ⟨a, xs, rfl, hs, all⟩ := dp_lst_inv d
    have lx : xs.length = ss.length := by rw [dpa_len all, List.length_map]
    refine q_when (b := !decide (c < ss.length)) (et_is (et_not (et_is (et_B (rv_chain (y := .int (c : Int)) (b := decide ((0 : Int) ≤ c)) (c := decide ((c : Int) < (xs.length : Int))) ev_c (ev_var rfl) rv_I0 (fun _ => ev_len (ev_var rfl) hs) (fun _ => rv_I0))) rfl)) ?cc) (fun hb H1 e1 => ?_) fun hb H1 e1 => ?_
    case cc =>
      rw [lx]
      congr 1
      rw [← Bool.decide_and]
      exact decide_eq_decide.mpr (by omega)
    · have hc : ss[c]? = none := List.getElem?_eq_none (by simpa using hb)
      refine s_retL (el_lst (ea_cons ev_c ea_nil) (by simp)) fun p H2 np e2 hp => q p _ H2 (fresh_back e1 np) (e1.trans e2) hp ?_
      unfold dueD
      rw [hc]
      exact .cons .non .nil
    · have hc : c < ss.length := by simpa using hb
      have hs1 : ss[c]? = some ss[c] := List.getElem?_eq_getElem hc
      generalize ss[c] = sc at hs1
      obtain ⟨v, hv, dv⟩ := dpa_at _ _ _ _ all (show (ss.map snD)[c]? = some (snD sc) by rw [List.getElem?_map, hs1]; rfl)
      obtain ⟨b, ys, rfl, hb2, all2⟩ := Dp.tup_inv dv
      obtain ⟨v1, r1, rfl, d1, all2⟩ := DpAll.cons_inv all2
      obtain ⟨v2, r2, rfl, d2, all2⟩ := DpAll.cons_inv all2
      obtain rfl := DpAll.nil_inv all2
      obtain rfl := Dp.int_inv d2
      refine q_unt2 (ev_ixI (ev_var rfl) (ev_var rfl) (ex_l e1 hs) (atI_nat hv)) (ex_t e1 hb2) fun H2 e2 => ?_
      have e12 := e1.trans e2
      refine s_retG (P := fun v H' => ∃ p xs, v = .ref p ∧ H2 p = none ∧ H' p = some (.lst xs) ∧ DpAll K H' xs (dueD ss c t)) (evG_if (b := decide (sc.2 ≤ t)) (et_is (et_test (ev_op (ev_var rfl) (ev_var rfl) rv_I0)) (decide_eq_decide.mpr (by omega))) (fun ht => ?_) fun ht => ?_) fun v H3 e3 hv => ?_
      · have ht : sc.2 ≤ t := of_decide_eq_true ht
        have e : dueD ss c t = [.none, tD sc.1] := by unfold dueD; rw [hs1]; exact if_pos ht
        rw [e]
        exact evL_data (eaD_cons (evD_non ev_c) (eaD_cons (Ev.gi (ev_var rfl) fun H' e' => dp_ex (e12.trans e') d1) eaD_nil)) (by simp)
      · have ht : ¬ sc.2 ≤ t := of_decide_eq_false ht
        have e : dueD ss c t = [.none] := by unfold dueD; rw [hs1]; exact if_neg ht
        rw [e]
        exact evL_data (eaD_cons (evD_non ev_c) eaD_nil) (by simp)
      · obtain ⟨p, xs, rfl, np, hp, h⟩ := hv
        exact q p xs H3 (fresh_back e12 np) (e12.trans e3) hp h
theorem tD_sh {xs : List Str} (h : Few xs) {n : Nat} : Lay (tD xs) (n + 1) := .tuple (.map fun x hx => .str (h.2 x hx).1)
theorem fr_sh {f : Fr} (h : FrOk f) : SeqAt.shaped (frD f) = true := (Lay.tuple (n := 3) (.cons (.int _) (.cons (.int _) (.cons (.str h.1.1) (.cons (tD_sh h.2) .nil))))).sh
/-- what fits_frames tells -/
def fitsV (f0 : Fr) (fs : List Fr) : Bool := (fs.filter fun f => decide (f.t = f0.t)).all fun f => PyData.eqv (frD f) (frD f0)
def spFits (K : PySem.W.Frag) : Sp := fun vs H Q _ => ∃ (v u : V) (st : Sg) (c t : Nat) (fs : List Fr), vs = [v, .int (c : Int), .int (t : Int), u] ∧ Dp K H v (sgD st) ∧ Dp K H u (.list (fs.map frD)) ∧ Gt 4 st.m ∧ Few st.on ∧ (∀ f ∈ fs, FrOk f) ∧ fs.length ≤ 100 ∧ ∀ H', Ex H H' → Q (.bl (fitsV ⟨t, c, st.m, st.on⟩ fs)) H'
/-- the comprehension over the frames of a tick -/
theorem filt_at {α β : Type} (f : α → Bool) (g : α → β) (d : α) : ∀ xs : List α, ((List.range xs.length).filter fun i => f (xs.getD i d)).map (fun i => g (xs.getD i d)) = (xs.filter f).map g
  | [] => rfl
  | x :: r => by
    have ih := filt_at f g d r
    rw [List.length_cons, List.range_succ_eq_map, List.filter_cons]
    have e : ((List.range r.length).map Nat.succ).filter (fun i => f ((x :: r).getD i d)) = ((List.range r.length).filter fun i => f (r.getD i d)).map Nat.succ := by
      rw [List.filter_map]; rfl
    rw [e, List.filter_cons]
    have e2 : ∀ l : List Nat, (l.map Nat.succ).map (fun i => g ((x :: r).getD i d)) = l.map fun i => g (r.getD i d) := fun l => by
      rw [List.map_map]; rfl
    show (if f x = true then _ else _ : List Nat).map _ = _
    cases f x
    · show (List.map _ _) = _
      rw [if_neg Bool.false_ne_true, if_neg Bool.false_ne_true, e2, ih]
    · rw [if_pos rfl, if_pos rfl, List.map_cons, List.map_cons, e2, ih]; rfl
theorem ok_fits (A : At K mg "fits_frames" s_fits_frames) (mz_all : mg "all" = none) : Dfn P w K mg base 1 "fits_frames" p_fits_frames (spFits K) := by
  refine dfn_ok A sc_fits_frames (fun _ _ _ _ _ _ us hl => match us, hl with | [_, _, _, _], _ => rfl) (fun vs H Q E h => ?_) (fun f cdv A outer s H vs Q E hr h => ?_)
  · obtain ⟨v, u, st, c, t, fs, rfl, _⟩ := h
    rfl
  · obtain ⟨v, u, st, c, t, fs, rfl, dv, du, hm, hon, hf, lf, q⟩ := h
    refine ⟨_, (pss_cons (ps_set (i := 4) sc_fits_frames.nd rfl (Or.inr rfl) (pe_tup (pa_cons (pv 2) (pa_cons (pv 1) (pa_cons (pe_ix (show IxR _ (rIxT K) from ix_tup) (pv 0) pe_int (fun _ _ => rfl)) (pa_cons (pe_ix (show IxR _ (rIxT K) from ix_tup) (pv 0) pe_int (fun _ _ => rfl)) pa_nil))))))
  (pss_one (ps_ret (pe_callB (show CallR _ _ (rAll K) from (cr_all rfl)) (by rfl) mz_all (by decide +kernel) (pa_cons (pe_lc (own := [("frame", 5)]) (g := gName 5) rfl sc_fits_frames.nd (show PI _ _ _ (iList K _) from pi_list (pv 3)) (blkOk_by (N := N_fits_frames) (sc := defScope s_fits_frames) (by decide +kernel)) (fun _ _ _ _ _ => (pg_name (i := 5) sc_fits_frames.nd rfl (Or.inl rfl))) (fun _ _ _ _ _ => (pts_one (pt_cmpR op_eq (pe_ix (show IxR _ (rIxT K) from ix_tup) (pv 5) pe_int (fun _ _ => rfl)) (pv 2) (by first | exact nomark _ | rfl)))) (fun _ _ _ _ _ => (pe_cmpR (show OpR _ _ (rEqD K) from (op_eqD hr.units)) (pv 5) (pv 4) (by first | exact nomark _ | rfl)))) pa_nil))))), ?_⟩
    obtain ⟨a, xs, rfl, hs, hd⟩ := Dp.tup_inv dv
    obtain ⟨v1, r1, rfl, d1, hd⟩ := DpAll.cons_inv hd
    obtain ⟨v2, r2, rfl, d2, hd⟩ := DpAll.cons_inv hd
    obtain ⟨v3, r3, rfl, d3, hd⟩ := DpAll.cons_inv hd
    obtain ⟨v4, r4, rfl, d4, hd⟩ := DpAll.cons_inv hd
    obtain ⟨v5, r5, rfl, d5, hd⟩ := DpAll.cons_inv hd
    obtain ⟨v6, r6, rfl, d6, hd⟩ := DpAll.cons_inv hd
    obtain rfl := DpAll.nil_inv hd
    obtain rfl := Dp.str_inv d1
    obtain ⟨b, ys, rfl, hs2, all⟩ := dp_lst_inv du
    have ly : ys.length = fs.length := by rw [dpa_len all, List.length_map]
    refine q_asgG (P := fun v H' => Dp K H' v (frD ⟨t, c, st.m, st.on⟩)) (evD_tup (eaD_cons (evD_int (ev_var rfl)) (eaD_cons (evD_int (ev_var rfl)) (eaD_cons (evD_str (ev_op (ev_var rfl) ev_c (rv_ixT hs rfl))) (eaD_cons (Ev.gi (ev_op (ev_var rfl) ev_c (rv_ixT hs rfl)) fun H' e' => dp_ex e' d2) eaD_nil)))) (by simp)) fun w0 H1 e1 hw => ?_
    have ok0 : FrOk ⟨t, c, st.m, st.on⟩ := ⟨hm, hon⟩
    refine s_ret (ev_is (ev_allL (bs := (fs.filter fun f => decide (f.t = t)).map fun f => PyData.eqv (frD f) (frD ⟨t, c, st.m, st.on⟩)) (el_is (el_lcL (fun i => decide ((fs.getD i ⟨0, 0, Str.empty, []⟩).t = t)) (fun i => V.bl (PyData.eqv (frD (fs.getD i ⟨0, 0, Str.empty, []⟩)) (frD ⟨t, c, st.m, st.on⟩))) (ev_var rfl) (ex_l e1 hs2) (by omega) (fun _ => rfl) (fun i x H2 e2 hx => ?tst) (fun i x H2 e2 hx _ => ?ee)) ?ll)) ?vv) fun H2 e2 => q H2 (e1.trans e2)
    case tst =>
      have hi : i < fs.length := by rw [← ly]; exact (List.getElem?_eq_some_iff.mp hx).1
      have hf1 : fs[i]? = some fs[i] := List.getElem?_eq_getElem hi
      generalize fs[i] = f0 at hf1
      have e : fs.getD i ⟨0, 0, Str.empty, []⟩ = f0 := by rw [List.getD_eq_getElem?_getD, hf1]; rfl
      obtain ⟨y, hy, dy⟩ := dpa_at _ _ _ _ all (show (fs.map frD)[i]? = some (frD f0) by rw [List.getElem?_map, hf1]; rfl)
      rw [hx] at hy
      obtain rfl := Option.some.inj hy
      obtain ⟨p, zs, rfl, hz, hd⟩ := Dp.tup_inv dy
      obtain ⟨z1, r1, rfl, dz, hd⟩ := DpAll.cons_inv hd
      obtain ⟨z2, r2, rfl, _, hd⟩ := DpAll.cons_inv hd
      obtain ⟨z3, r3, rfl, _, hd⟩ := DpAll.cons_inv hd
      obtain ⟨z4, r4, rfl, _, hd⟩ := DpAll.cons_inv hd
      obtain rfl := DpAll.nil_inv hd
      obtain rfl := Dp.int_inv dz
      rw [e]
      exact et_is (et_test (ev_op (ev_op (ev_var rfl) ev_c (rv_ixT (ex_t (e1.trans e2) hz) rfl)) (ev_var rfl) (rv_eq rfl))) (show decide (V.int (f0.t : Int) = V.int (t : Int)) = decide (f0.t = t) from decide_eq_decide.mpr ⟨fun e => by injection e with e; omega, fun e => by rw [e]⟩)
    case ee =>
      have hi : i < fs.length := by rw [← ly]; exact (List.getElem?_eq_some_iff.mp hx).1
      have hf1 : fs[i]? = some fs[i] := List.getElem?_eq_getElem hi
      generalize fs[i] = f0 at hf1
      have e : fs.getD i ⟨0, 0, Str.empty, []⟩ = f0 := by rw [List.getD_eq_getElem?_getD, hf1]; rfl
      obtain ⟨y, hy, dy⟩ := dpa_at _ _ _ _ all (show (fs.map frD)[i]? = some (frD f0) by rw [List.getElem?_map, hf1]; rfl)
      rw [hx] at hy
      obtain rfl := Option.some.inj hy
      rw [e]
      exact ev_op (ev_var rfl) (ev_var rfl) (rv_eqD (dp_ex (e1.trans e2) dy) (dp_ex e2 hw) (fr_sh (hf f0 (List.mem_of_getElem? hf1))) (fr_sh ok0))
    case ll =>
      unfold given
      rw [ly, filt_at (fun f : Fr => decide (f.t = t)) (fun f => V.bl (PyData.eqv (frD f) (frD ⟨t, c, st.m, st.on⟩))), List.map_map]
      rfl
    case vv => unfold fitsV; rw [List.all_map]; rfl

/-! ### the law's own book -/
abbrev Md := Str × List Str × List Str
def mdD (m : Md) : PyData := .tuple [.str m.1, tD m.2.1, tD m.2.2]
structure Cd where
  n : Str
  lets : List Str
  on : List Str
  off : List Str
  to : Option Str
def cdD (c : Cd) : PyData := .tuple [.str c.n, tD c.lets, tD c.on, tD c.off, oD c.to]
structure Al where
  n : Str
  on : List Str
  off : List Str
  to : Option Str
def alD (c : Al) : PyData := .tuple [.str c.n, tD c.on, tD c.off, oD c.to]
abbrev Rw := Str × List (Nat × Str)
def stepD (s : Nat × Str) : PyData := .tuple [.int (s.1 : Int), .str s.2]
def rwD (r : Rw) : PyData := .tuple [.str r.1, .tuple (r.2.map stepD)]
def limD : Option Nat → PyData
  | none => .none
  | some n => .int (n : Int)
structure Bk where
  holds : List Str
  modes : List Md
  cmds : List Cd
  als : List Al
  rows : List Rw
  lim : Option Nat
def bkD (b : Bk) : PyData := .tuple [.list (b.holds.map .str), .list (b.modes.map mdD), .list (b.cmds.map cdD), .list (b.als.map alD), .list (b.rows.map rwD), limD b.lim]
def ToOk (b : Bk) : Option Str → Prop
  | none => True
  | some s => ∃ m ∈ b.modes, m.1 = s
structure BkOk (b : Bk) : Prop where
  holds : Few b.holds
  modes : b.modes ≠ [] ∧ b.modes.length ≤ 3 ∧ ∀ m ∈ b.modes, Gt 4 m.1 ∧ Few m.2.1 ∧ Few m.2.2
  cmds : b.cmds ≠ [] ∧ b.cmds.length ≤ 3 ∧ ∀ c ∈ b.cmds, Gt 4 c.n ∧ Few c.lets ∧ Few c.on ∧ Few c.off ∧ ToOk b c.to
  als : b.als.length ≤ 2 ∧ ∀ c ∈ b.als, Gt 4 c.n ∧ Few c.on ∧ Few c.off ∧ ToOk b c.to
  rows : b.rows.length ≤ 1 ∧ ∀ r ∈ b.rows, Gt 4 r.1 ∧ r.2 ≠ [] ∧ r.2.length ≤ 3 ∧ ∀ s ∈ r.2, 1 ≤ s.1 ∧ s.1 ≤ 3 ∧ ∃ c ∈ b.cmds, c.n = s.2
  hne : b.holds ≠ []
/-- chosen among texts -/
def sel (hs : List Str) (f : Nat → Bool) : List Str := ((List.range hs.length).filter f).map fun i => hs.getD i Str.empty
theorem given_sel (hs : List Str) (f : Nat → Bool) : given (hs.map V.str).length f (fun i => V.str (hs.getD i Str.empty)) = (sel hs f).map V.str := by
  unfold given sel
  rw [List.length_map, List.map_map]; rfl
theorem few_sel {hs : List Str} (h : Few hs) (f : Nat → Bool) : Few (sel hs f) := by
  refine ⟨?_, fun x hx => ?_⟩
  · unfold sel
    rw [List.length_map]
    refine Nat.le_trans (List.length_filter_le _ _) ?_
    rw [List.length_range]; exact h.1
  · obtain ⟨i, hi, rfl⟩ := List.mem_map.mp hx
    have hi := List.mem_range.mp (List.mem_filter.mp hi).1
    rw [List.getD_eq_getElem?_getD, List.getElem?_eq_getElem hi]
    exact h.2 _ (List.getElem_mem hi)
theorem few_perm {xs ys : List Str} (h : Few xs) (p : ys.Perm xs) : Few ys := ⟨by rw [p.length_eq]; exact h.1, fun x hx => h.2 x (p.mem_iff.mp hx)⟩
theorem txt_at {xs : List Str} {i : Nat} {x : V} (h : (xs.map V.str)[i]? = some x) : x = V.str (xs.getD i Str.empty) ∧ i < xs.length := by
  rw [List.getElem?_map] at h
  cases e : xs[i]? with
  | none => rw [e] at h; cases h
  | some y =>
    rw [e] at h
    refine ⟨?_, (List.getElem?_eq_some_iff.mp e).1⟩
    rw [List.getD_eq_getElem?_getD, e]
    exact (Option.some.inj h).symm
def spPart (K : PySem.W.Frag) : Sp := fun vs H Q _ => ∃ (a : Addr) (hs : List Str) (m : Nat), vs = [.ref a, .int (m : Int)] ∧ SqL K H a (hs.map V.str) ∧ Few hs ∧ ∀ p po pf on off H', Few on → Few off → Ex H H' → H' p = some (.tup [.ref po, .ref pf]) → H' po = some (.tup (on.map V.str)) → H' pf = some (.tup (off.map V.str)) → Q (.ref p) H'
theorem ok_part (A : At K mg "_law_parted" s__law_parted) (mz_int : mg "int" = none) (mz_tuple : mg "tuple" = none) (mz_enumerate : mg "enumerate" = none) : Dfn P w K mg base 1 "_law_parted" p__law_parted (spPart K) := by
  refine dfn_ok A sc__law_parted (fun _ _ _ _ _ _ us hl => match us, hl with | [_, _], _ => rfl) (fun vs H Q E h => ?_) (fun f cdv A outer s H vs Q E hr h => ?_)
  · obtain ⟨a, hs, m, rfl, _⟩ := h
    rfl
  · obtain ⟨a, hs, m, rfl, hA, few, q⟩ := h
    refine ⟨_, (pss_cons (ps_set (i := 2) sc__law_parted.nd rfl (Or.inl rfl) (pe_callTy (show CallR _ _ (rTupS K) from call_tuple_of) (by rfl) mz_tuple (by decide +kernel) (pa_cons (pe_lc (own := [("k", 3), ("hold", 4)]) rfl sc__law_parted.nd (show PI _ _ _ (iEnum K _) from pi_enum (by rfl) mz_enumerate (pa_cons (pv 0) pa_nil)) (blkOk_by (N := N__law_parted) (sc := defScope s__law_parted) (by decide +kernel)) (fun _ _ _ _ _ => (show PG _ _ (gTup K 2 _) from pg_tup rfl (pgs_cons (pg_name (i := 3) sc__law_parted.nd rfl (Or.inl rfl)) (pgs_cons (pg_name (i := 4) sc__law_parted.nd rfl (Or.inl rfl)) pgs_nil)))) (fun _ _ _ _ _ => (pts_one (pt_cmpR op_eq (pe_op op_mod (pe_callTy call_int1 (by rfl) mz_int (by decide +kernel) (pa_cons (pe_op op_fdiv (pv 1) (pe_ix (show IxR _ (rIxL K) from ix_list) (pe_lst (pa_cons pe_int (pa_cons pe_int (pa_cons pe_int pa_nil)))) (pv 3) (fun _ _ => rfl))) pa_nil)) pe_int) pe_int (by first | exact nomark _ | rfl)))) (fun _ _ _ _ _ => (pv 4))) pa_nil)))
  (pss_one (ps_ret (pe_tup (pa_cons (pv 2) (pa_cons (pe_callTy (show CallR _ _ (rTupS K) from call_tuple_of) (by rfl) mz_tuple (by decide +kernel) (pa_cons (pe_lc (own := [("k", 3), ("hold", 4)]) rfl sc__law_parted.nd (show PI _ _ _ (iEnum K _) from pi_enum (by rfl) mz_enumerate (pa_cons (pv 0) pa_nil)) (blkOk_by (N := N__law_parted) (sc := defScope s__law_parted) (by decide +kernel)) (fun _ _ _ _ _ => (show PG _ _ (gTup K 2 _) from pg_tup rfl (pgs_cons (pg_name (i := 3) sc__law_parted.nd rfl (Or.inl rfl)) (pgs_cons (pg_name (i := 4) sc__law_parted.nd rfl (Or.inl rfl)) pgs_nil)))) (fun _ _ _ _ _ => (pts_one (pt_cmpR op_eq (pe_op op_mod (pe_callTy call_int1 (by rfl) mz_int (by decide +kernel) (pa_cons (pe_op op_fdiv (pv 1) (pe_ix (show IxR _ (rIxL K) from ix_list) (pe_lst (pa_cons pe_int (pa_cons pe_int (pa_cons pe_int pa_nil)))) (pv 3) (fun _ _ => rfl))) pa_nil)) pe_int) pe_int (by first | exact nomark _ | rfl)))) (fun _ _ _ _ _ => (pv 4))) pa_nil)) pa_nil)))))), ?_⟩
    have few3 := few.1
    have pw : ∀ i : Nat, i < 3 → ∃ d : Nat, ([.int 1, .int 3, .int 9] : List V)[i]? = some (.int (d : Int)) ∧ (0 < d ∧ d ≤ 9) ∧ d = [1, 3, 9].getD i 1 := fun i hi => by
      match i, hi with
      | 0, _ => exact ⟨1, rfl, by omega, rfl⟩
      | 1, _ => exact ⟨3, rfl, by omega, rfl⟩
      | 2, _ => exact ⟨9, rfl, by omega, rfl⟩
    have dv : ∀ d : Nat, 0 < d ∧ d ≤ 9 → CDiv (m : Int) (d : Int) := fun d hd => by unfold CDiv; omega
    refine q_asgU (eu_tupleN (el_is (el_lcEA (fun i => decide (m / [1, 3, 9].getD i 1 % 3 = 1)) (fun i => V.str (hs.getD i Str.empty)) (ev_var rfl) (ex_l (Ex.refl _) hA) (by rw [List.length_map]; omega) (fun _ _ => rfl) (fun i x H2 e2 hx => ?t1) (fun i x H2 e2 hx _ => ?e1)) (given_sel hs _))) fun po H1 _ e1 hpo => ?_
    case t1 =>
      obtain ⟨rfl, hi⟩ := txt_at hx
      obtain ⟨d, hd, pd, ed⟩ := pw i (by omega)
      rw [← ed]
      exact et_is (et_test (ev_op (ev_op (ev_int (ea_cons (ev_op (ev_var rfl) (ev_ixN (el_lst (ea_cons ev_c (ea_cons ev_c (ea_cons ev_c ea_nil))) (by simp)) (ev_var rfl) (atI_nat hd)) (rv_I (dv d pd))) ea_nil)) ev_c (rv_I (show (0 : Int) < 3 by decide))) ev_c (rv_eq rfl))) (show decide (V.int ((m : Int) / (d : Int) % 3) = V.int 1) = decide (m / d % 3 = 1) from decide_eq_decide.mpr ⟨fun h => by injection h with h; omega, fun h => congrArg V.int (by omega)⟩)
    case e1 =>
      obtain ⟨rfl, _⟩ := txt_at hx
      exact ev_var rfl
    refine s_retG (evG_tup2 (P1 := fun v H' => v = .ref po ∧ H' po = some (.tup ((sel hs fun i => decide (m / [1, 3, 9].getD i 1 % 3 = 1)).map V.str))) (P2 := fun v H' => ∃ pf, v = .ref pf ∧ H' pf = some (.tup ((sel hs fun i => decide (m / [1, 3, 9].getD i 1 % 3 = 2)).map V.str))) (Ev.gi (ev_var rfl) fun H' e => ⟨rfl, e _ _ hpo⟩) (fun v H2 H3 e ⟨h1, h2⟩ => ⟨h1, e _ _ h2⟩) (EvU.gi (eu_tupleN (el_is (el_lcEA (fun i => decide (m / [1, 3, 9].getD i 1 % 3 = 2)) (fun i => V.str (hs.getD i Str.empty)) (ev_var rfl) (ex_l e1 hA) (by rw [List.length_map]; omega) (fun _ _ => rfl) (fun i x H2 e2 hx => ?t2) (fun i x H2 e2 hx _ => ?e2)) (given_sel hs _))) fun p H' _ hp => ⟨p, rfl, hp⟩) (fun v H2 H3 e ⟨p, h1, h2⟩ => ⟨p, h1, e _ _ h2⟩)) fun v H2 e2 hv => ?_
    case t2 =>
      obtain ⟨rfl, hi⟩ := txt_at hx
      obtain ⟨d, hd, pd, ed⟩ := pw i (by omega)
      rw [← ed]
      exact et_is (et_test (ev_op (ev_op (ev_int (ea_cons (ev_op (ev_var rfl) (ev_ixN (el_lst (ea_cons ev_c (ea_cons ev_c (ea_cons ev_c ea_nil))) (by simp)) (ev_var rfl) (atI_nat hd)) (rv_I (dv d pd))) ea_nil)) ev_c (rv_I (show (0 : Int) < 3 by decide))) ev_c (rv_eq rfl))) (show decide (V.int ((m : Int) / (d : Int) % 3) = V.int 2) = decide (m / d % 3 = 2) from decide_eq_decide.mpr ⟨fun h => by injection h with h; omega, fun h => congrArg V.int (by omega)⟩)
    case e2 =>
      obtain ⟨rfl, _⟩ := txt_at hx
      exact ev_var rfl
    obtain ⟨p, a1, c1, rfl, _, hp, ⟨rfl, h1⟩, ⟨pf, rfl, h2⟩⟩ := hv
    exact q p po pf _ _ H2 (few_sel few _) (few_sel few _) (e1.trans e2) hp h1 h2

/-! ### an effect -/
theorem flat_texts (xs : List Str) : (xs.map V.str).all flatV = true := by
  rw [List.all_map]; exact List.all_eq_true.mpr fun _ _ => rfl
theorem evG_tupleG {σ : L2.St} {H : Hp} {ta : TE} {R : List Str → Prop} (h : EvG ta σ H (fun v H' => ∃ p ys, v = .ref p ∧ H' p = some (.lst ((ys : List Str).map V.str)) ∧ R ys)) : EvG (tCB (rTupS K) (tCons ta tNil)) σ H (fun v H' => ∃ p ys, v = .ref p ∧ H' p = some (.tup ((ys : List Str).map V.str)) ∧ R ys) := fun H1 e Q q =>
  h H1 e _ fun v H2 e2 ⟨p, ys, ev, hp, r⟩ => ⟨p, ys.map V.str, by rw [ev], Or.inl ⟨sq_of hp, fun l nl => q _ _ (e2.trans (Ex.new nl)) ⟨l, ys, rfl, upd_same, r⟩⟩⟩
/-- tuple(sorted(few texts)) -/
theorem evG_srt {σ : L2.St} {H : Hp} {ta : TE} {xs : List Str} (h : EvL ta σ H (xs.map V.str)) (few : Few xs) : EvG (tCB (rTupS K) (tCons (tCB (rSortedS K) (tCons ta tNil)) tNil)) σ H (fun v H' => ∃ p ys, v = .ref p ∧ H' p = some (.tup ((ys : List Str).map V.str)) ∧ Few ys) :=
  evG_tupleG (EvG.imp (evP_sortedS h (by have := few.1; omega)) fun v H' _ ⟨p, ys, h1, _, h2, pm, _⟩ => ⟨p, ys, h1, h2, few_perm few pm⟩)
theorem rv_isN0 {H : Hp} {x : V} : RV (fun x y H Q => y = .non ∧ Q (.bl (decide (x = .non))) H) x .non H (.bl (decide (x = .non))) := fun H1 _ Q q => ⟨rfl, q H1 (Ex.refl H1)⟩
theorem first_of {n : Nat} {f : Nat → Bool} {g : Nat → V} (h : ∃ i, i < n ∧ f i = true) : ∃ j, j < n ∧ f j = true ∧ atI (given n f g) 0 = some (g j) := by
  obtain ⟨i, hi, hf⟩ := h
  have hm : i ∈ (List.range n).filter f := List.mem_filter.mpr ⟨List.mem_range.mpr hi, hf⟩
  unfold given
  cases e : (List.range n).filter f with
  | nil => rw [e] at hm; exact nomatch hm
  | cons j r =>
    have hj : j ∈ (List.range n).filter f := by rw [e]; exact List.mem_cons_self
    have hj := List.mem_filter.mp hj
    exact ⟨j, List.mem_range.mp hj.1, hj.2, atI_nat (j := 0) rfl⟩
theorem texts_of_dp {H : Hp} {v : V} {xs : List Str} (h : Dp K H v (tD xs)) : ∃ a, v = .ref a ∧ SqT K H a (xs.map V.str) := by
  obtain ⟨a, ys, rfl, hs, hd⟩ := Dp.tup_inv h
  obtain rfl := DpAll.texts_inv hd
  exact ⟨a, rfl, hs⟩
def IsPart (K : PySem.W.Frag) (b : Bk) (v : V) (H : Hp) : Prop := ∃ x y z, Dp K H v (.tuple [tD x, tD y, oD z]) ∧ Few x ∧ Few y ∧ ToOk b z
def spEff (K : PySem.W.Frag) : Sp := fun vs H Q _ => ∃ (bv ov tv : V) (b : Bk) (m : Str) (on : List Str), vs = [bv, .str m, ov, tv] ∧ Dp K H bv (bkD b) ∧ BkOk b ∧ Gt 4 m ∧ Dp K H ov (tD on) ∧ Few on ∧ IsPart K b tv H ∧ ∀ p ph m' hd H', Gt 4 m' → Few hd → Ex H H' → H' p = some (.tup [.str m', .ref ph]) → H' ph = some (.tup (hd.map V.str)) → Q (.ref p) H'
theorem ok_eff (A : At K mg "_law_effect" s__law_effect) (mz_sorted : mg "sorted" = none) (mz_tuple : mg "tuple" = none) : Dfn P w K mg base 1 "_law_effect" p__law_effect (spEff K) := by
  refine dfn_ok A sc__law_effect (fun _ _ _ _ _ _ us hl => match us, hl with | [_, _, _, _], _ => rfl) (fun vs H Q E h => ?_) (fun f cdv A outer s H vs Q E hr h => ?_)
  · obtain ⟨bv, ov, tv, b, m, on, rfl, _⟩ := h
    rfl
  · obtain ⟨bv, ov, tv, b, m, on, rfl, dp, ok, gm, dov, fon, ⟨x, y, z, dt, fx, fy, tz⟩, q⟩ := h
    refine ⟨_, (pss_cons (ps_set (i := 4) sc__law_effect.nd rfl (Or.inr rfl) (pe_callTy (show CallR _ _ (rTupS K) from call_tuple_of) (by rfl) mz_tuple (by decide +kernel) (pa_cons (pe_callB (show CallR _ _ (rSortedS K) from cr_sortedS) (by rfl) mz_sorted (by decide +kernel) (pa_cons (pe_lc (own := [("hold", 7)]) (g := gName 7) rfl sc__law_effect.nd (show PI _ _ _ (iList K _) from pi_list (pe_ix (show IxR _ (rIxT K) from ix_tup) (pv 0) pe_int (fun _ _ => rfl))) (blkOk_by (N := N__law_effect) (sc := defScope s__law_effect) (by decide +kernel)) (fun _ _ _ _ _ => (pg_name (i := 7) sc__law_effect.nd rfl (Or.inl rfl))) (fun _ _ _ _ _ => (pts_one (PW.pt (pw_or (pt_cmpR (show OpR _ _ (rIn K false) from op_in_seq) (pv 7) (pe_ix (show IxR _ (rIxT K) from ix_tup) (pv 3) pe_int (fun _ _ => rfl)) (by first | exact nomark _ | rfl)) (pw_or1 (PW.pt (pw_and (pt_cmpR (show OpR _ _ (rIn K false) from op_in_seq) (pv 7) (pv 2) (by first | exact nomark _ | rfl)) (pw_and1 (pt_cmpR (show OpR _ _ (rIn K true) from op_notIn_seq) (pv 7) (pe_ix (show IxR _ (rIxT K) from ix_tup) (pv 3) pe_int (fun _ _ => rfl)) (by first | exact nomark _ | rfl)))))))))) (fun _ _ _ _ _ => (pv 7))) pa_nil)) pa_nil)))
  (pss_cons (ps_if (pt_cmpR op_isN (pe_ix (show IxR _ (rIxT K) from ix_tup) (pv 3) pe_int (fun _ _ => rfl)) pe_non (by first | exact nomark _ | rfl))
    (pss_one (ps_ret (pe_tup (pa_cons (pv 1) (pa_cons (pv 4) pa_nil)))))
    pss_nil)
  (pss_cons (ps_set (i := 5) sc__law_effect.nd rfl (Or.inr rfl) (pe_ix (show IxR _ (rIxL K) from ix_list) (pe_lc (own := [("one", 6)]) (g := gName 6) rfl sc__law_effect.nd (show PI _ _ _ (iList K _) from pi_list (pe_ix (show IxR _ (rIxT K) from ix_tup) (pv 0) pe_int (fun _ _ => rfl))) (blkOk_by (N := N__law_effect) (sc := defScope s__law_effect) (by decide +kernel)) (fun _ _ _ _ _ => (pg_name (i := 6) sc__law_effect.nd rfl (Or.inl rfl))) (fun _ _ _ _ _ => (pts_one (pt_cmpR op_eq (pe_ix (show IxR _ (rIxT K) from ix_tup) (pv 6) pe_int (fun _ _ => rfl)) (pe_ix (show IxR _ (rIxT K) from ix_tup) (pv 3) pe_int (fun _ _ => rfl)) (by first | exact nomark _ | rfl)))) (fun _ _ _ _ _ => (pv 6))) pe_int (fun _ _ => rfl)))
  (pss_one (ps_ret (pe_tup (pa_cons (pe_ix (show IxR _ (rIxT K) from ix_tup) (pv 3) pe_int (fun _ _ => rfl)) (pa_cons (pe_callTy (show CallR _ _ (rTupS K) from call_tuple_of) (by rfl) mz_tuple (by decide +kernel) (pa_cons (pe_callB (show CallR _ _ (rSortedS K) from cr_sortedS) (by rfl) mz_sorted (by decide +kernel) (pa_cons (pe_lc (own := [("hold", 7)]) (g := gName 7) rfl sc__law_effect.nd (show PI _ _ _ (iList K _) from pi_list (pe_ix (show IxR _ (rIxT K) from ix_tup) (pv 0) pe_int (fun _ _ => rfl))) (blkOk_by (N := N__law_effect) (sc := defScope s__law_effect) (by decide +kernel)) (fun _ _ _ _ _ => (pg_name (i := 7) sc__law_effect.nd rfl (Or.inl rfl))) (fun _ _ _ _ _ => (pts_one (PW.pt (pw_or (pt_cmpR (show OpR _ _ (rIn K false) from op_in_seq) (pv 7) (pe_ix (show IxR _ (rIxT K) from ix_tup) (pv 5) pe_int (fun _ _ => rfl)) (by first | exact nomark _ | rfl)) (pw_or1 (PW.pt (pw_and (pt_cmpR (show OpR _ _ (rIn K false) from op_in_seq) (pv 7) (pv 4) (by first | exact nomark _ | rfl)) (pw_and1 (pt_cmpR (show OpR _ _ (rIn K true) from op_notIn_seq) (pv 7) (pe_ix (show IxR _ (rIxT K) from ix_tup) (pv 5) pe_int (fun _ _ => rfl)) (by first | exact nomark _ | rfl)))))))))) (fun _ _ _ _ _ => (pv 7))) pa_nil)) pa_nil)) pa_nil)))))))), ?_⟩
    obtain ⟨a, xs, rfl, hs, hd⟩ := Dp.tup_inv dp
    obtain ⟨v1, r1, rfl, d1, hd⟩ := DpAll.cons_inv hd
    obtain ⟨v2, r2, rfl, d2, hd⟩ := DpAll.cons_inv hd
    obtain ⟨v3, r3, rfl, d3, hd⟩ := DpAll.cons_inv hd
    obtain ⟨v4, r4, rfl, d4, hd⟩ := DpAll.cons_inv hd
    obtain ⟨v5, r5, rfl, d5, hd⟩ := DpAll.cons_inv hd
    obtain ⟨v6, r6, rfl, d6, hd⟩ := DpAll.cons_inv hd
    obtain rfl := DpAll.nil_inv hd
    obtain ⟨ah, hx, rfl, hh, hhd⟩ := dp_lst_inv d1
    obtain rfl := DpAll.texts_inv hhd
    obtain ⟨am, ms, rfl, hm, hmd⟩ := dp_lst_inv d2
    obtain ⟨ao, rfl, ho⟩ := texts_of_dp dov
    obtain ⟨at_, ts, rfl, ht, htd⟩ := Dp.tup_inv dt
    obtain ⟨t1, r1, rfl, e1, htd⟩ := DpAll.cons_inv htd
    obtain ⟨t2, r2, rfl, e2, htd⟩ := DpAll.cons_inv htd
    obtain ⟨t3, r3, rfl, e3, htd⟩ := DpAll.cons_inv htd
    obtain rfl := DpAll.nil_inv htd
    obtain ⟨ax, rfl, hax⟩ := texts_of_dp e1
    obtain ⟨ay, rfl, hay⟩ := texts_of_dp e2
    have fh := ok.holds
    refine q_asgG (P := fun v H' => ∃ p ys, v = .ref p ∧ H' p = some (.tup ((ys : List Str).map V.str)) ∧ Few ys) (evG_srt (xs := sel b.holds fun i => inV (.str (b.holds.getD i Str.empty)) (x.map V.str) || (inV (.str (b.holds.getD i Str.empty)) (on.map V.str) && !inV (.str (b.holds.getD i Str.empty)) (y.map V.str))) (el_is (el_lcL (fun i => inV (.str (b.holds.getD i Str.empty)) (x.map V.str) || (inV (.str (b.holds.getD i Str.empty)) (on.map V.str) && !inV (.str (b.holds.getD i Str.empty)) (y.map V.str))) (fun i => V.str (b.holds.getD i Str.empty)) (ev_op (ev_var rfl) ev_c (rv_ixT hs rfl)) hh (by have := fh.1; rw [List.length_map]; omega) (fun _ => rfl) (fun i u H1 g1 hu => ?t1) (fun i u H1 g1 hu _ => ?g1)) (given_sel _ _)) (few_sel fh _)) fun v H1 g1 hv => ?_
    case t1 =>
      obtain ⟨rfl, _⟩ := txt_at hu
      exact et_or (et_test (ev_op (ev_var rfl) (ev_op (ev_var rfl) ev_c (rv_ixT (ex_t g1 ht) rfl)) (rv_isT (ex_t g1 hax) rfl (flat_texts _)))) fun _ => et_and (et_test (ev_op (ev_var rfl) (ev_var rfl) (rv_isT (ex_t g1 ho) rfl (flat_texts _)))) fun _ => et_test (ev_op (ev_var rfl) (ev_op (ev_var rfl) ev_c (rv_ixT (ex_t g1 ht) rfl)) (rv_niT (ex_t g1 hay) rfl (flat_texts _)))
    case g1 =>
      obtain ⟨rfl, _⟩ := txt_at hu
      exact ev_var rfl
    obtain ⟨ph, hd1, rfl, hph, fhd⟩ := hv
    cases z with
    | none =>
      cases e3
      refine q_when (b := true) (et_is (et_test (ev_op (ev_op (ev_var rfl) ev_c (rv_ixT (ex_t g1 ht) rfl)) ev_c rv_isN0)) rfl) (fun _ H2 g2 => ?_) fun h => Bool.noConfusion h
      exact s_retU (eu_tup (ea_cons (ev_var rfl) (ea_cons (ev_var rfl) ea_nil)) (by simp)) fun p H3 _ g3 hp => q p ph m hd1 H3 gm fhd ((g1.trans g2).trans g3) hp ((g2.trans g3) _ _ hph)
    | some zz =>
      cases e3
      refine q_when (b := false) (et_is (et_test (ev_op (ev_op (ev_var rfl) ev_c (rv_ixT (ex_t g1 ht) rfl)) ev_c rv_isN0)) rfl) (fun h => Bool.noConfusion h) fun _ H2 g2 => ?_
      obtain ⟨m0, hm0, en⟩ := tz
      have modeAt : ∀ (i : Nat) (u : V), ms[i]? = some u → ∃ (mm : Md) (p : Addr) (u2 u3 : V), b.modes[i]? = some mm ∧ u = .ref p ∧ SqT K H p [.str mm.1, u2, u3] ∧ Dp K H u2 (tD mm.2.1) ∧ Dp K H u3 (tD mm.2.2) := fun i u hu => by
        have hi : i < b.modes.length := by
          have := (List.getElem?_eq_some_iff.mp hu).1
          rw [dpa_len hmd, List.length_map] at this
          exact this
        obtain ⟨y, hy, dy⟩ := dpa_at _ _ _ _ hmd (show (b.modes.map mdD)[i]? = some (mdD b.modes[i]) by rw [List.getElem?_map, List.getElem?_eq_getElem hi]; rfl)
        rw [hu] at hy
        obtain rfl := Option.some.inj hy
        obtain ⟨p, zs, rfl, hz, hzd⟩ := Dp.tup_inv dy
        obtain ⟨z1, r1, rfl, k1, hzd⟩ := DpAll.cons_inv hzd
        obtain ⟨z2, r2, rfl, k2, hzd⟩ := DpAll.cons_inv hzd
        obtain ⟨z3, r3, rfl, k3, hzd⟩ := DpAll.cons_inv hzd
        obtain rfl := DpAll.nil_inv hzd
        obtain rfl := Dp.str_inv k1
        exact ⟨b.modes[i], p, z2, z3, List.getElem?_eq_getElem hi, rfl, hz, k2, k3⟩
      obtain ⟨i0, hi0⟩ := List.mem_iff_getElem?.mp hm0
      have lm : ms.length = b.modes.length := by rw [dpa_len hmd, List.length_map]
      obtain ⟨j, hj, fj, at0⟩ := first_of (n := ms.length) (f := fun i => decide ((b.modes.getD i (Str.empty, [], [])).1 = zz)) (g := fun i => ms.getD i .non) ⟨i0, by rw [lm]; exact (List.getElem?_eq_some_iff.mp hi0).1, decide_eq_true (by rw [List.getD_eq_getElem?_getD, hi0]; exact en)⟩
      obtain ⟨mm, pm, u2, u3, hmm, hu, hpm, k2, k3⟩ := modeAt j ms[j] (List.getElem?_eq_getElem hj)
      have emm : mm.1 = zz := by
        have := of_decide_eq_true fj
        rw [List.getD_eq_getElem?_getD, hmm] at this
        exact this
      rw [List.getD_eq_getElem?_getD, List.getElem?_eq_getElem hj] at at0
      rw [show (some ms[j]).getD V.non = V.ref pm from hu] at at0
      have g12 := g1.trans g2
      refine q_asg (v := .ref pm) (ev_ixN (el_lcL (fun i => decide ((b.modes.getD i (Str.empty, [], [])).1 = zz)) (fun i => ms.getD i .non) (ev_op (ev_var rfl) ev_c (rv_ixT (ex_t g12 hs) rfl)) (ex_l g12 hm) (by have := ok.modes.2.1; omega) (fun _ => rfl) (fun i u H3 g3 hu => ?t2) (fun i u H3 g3 hu _ => ?g2)) ev_c at0) fun H3 g3 => ?_
      case t2 =>
        obtain ⟨m1, p, w2, w3, h1, rfl, hp, _, _⟩ := modeAt i u hu
        have e : b.modes.getD i (Str.empty, [], []) = m1 := by rw [List.getD_eq_getElem?_getD, h1]; rfl
        rw [e]
        exact et_is (et_test (ev_op (ev_op (ev_var rfl) ev_c (rv_ixT (ex_t (g12.trans g3) hp) rfl)) (ev_op (ev_var rfl) ev_c (rv_ixT (ex_t (g12.trans g3) ht) rfl)) (rv_eq rfl))) (show decide (V.str m1.1 = V.str zz) = decide (m1.1 = zz) from decide_eq_decide.mpr ⟨fun h => by injection h, fun h => by rw [h]⟩)
      case g2 =>
        have e : ms.getD i .non = u := by rw [List.getD_eq_getElem?_getD, hu]; rfl
        rw [e]
        exact ev_var rfl
      obtain ⟨a2, rfl, h2⟩ := texts_of_dp k2
      obtain ⟨a3, rfl, h3⟩ := texts_of_dp k3
      have g13 := g12.trans g3
      have gz : Gt 4 zz := by rw [← en]; exact (ok.modes.2.2 m0 hm0).1
      refine s_retG (evG_tup2 (P1 := fun v _ => v = .str zz) (P2 := fun v H' => ∃ p ys, v = .ref p ∧ H' p = some (.tup ((ys : List Str).map V.str)) ∧ Few ys) (Ev.gi (ev_op (ev_var rfl) ev_c (rv_ixT (ex_t g13 ht) rfl)) fun _ _ => rfl) (fun _ _ _ _ h => h) (evG_srt (xs := sel b.holds fun i => inV (.str (b.holds.getD i Str.empty)) (mm.2.1.map V.str) || (inV (.str (b.holds.getD i Str.empty)) (hd1.map V.str) && !inV (.str (b.holds.getD i Str.empty)) (mm.2.2.map V.str))) (el_is (el_lcL (fun i => inV (.str (b.holds.getD i Str.empty)) (mm.2.1.map V.str) || (inV (.str (b.holds.getD i Str.empty)) (hd1.map V.str) && !inV (.str (b.holds.getD i Str.empty)) (mm.2.2.map V.str))) (fun i => V.str (b.holds.getD i Str.empty)) (ev_op (ev_var rfl) ev_c (rv_ixT (ex_t g13 hs) rfl)) (ex_l g13 hh) (by have := fh.1; rw [List.length_map]; omega) (fun _ => rfl) (fun i u H4 g4 hu => ?t3) (fun i u H4 g4 hu _ => ?g3)) (given_sel _ _)) (few_sel fh _)) (fun v H1 H2 e ⟨p, ys, h1, h2, h3⟩ => ⟨p, ys, h1, e _ _ h2, h3⟩)) fun v H4 g4 hv => ?_
      case t3 =>
        obtain ⟨rfl, _⟩ := txt_at hu
        exact et_or (et_test (ev_op (ev_var rfl) (ev_op (ev_var rfl) ev_c (rv_ixT (ex_t (g13.trans g4) hpm) rfl)) (rv_isT (ex_t (g13.trans g4) h2) rfl (flat_texts _)))) fun _ => et_and (et_test (ev_op (ev_var rfl) (ev_var rfl) (rv_isT (st_of (((g2.trans g3).trans g4) _ _ hph)) rfl (flat_texts _)))) fun _ => et_test (ev_op (ev_var rfl) (ev_op (ev_var rfl) ev_c (rv_ixT (ex_t (g13.trans g4) hpm) rfl)) (rv_niT (ex_t (g13.trans g4) h3) rfl (flat_texts _)))
      case g3 =>
        obtain ⟨rfl, _⟩ := txt_at hu
        exact ev_var rfl
      obtain ⟨p, a1, c1, rfl, _, hp, rfl, ⟨pz, ys, rfl, hpz, fz⟩⟩ := hv
      exact q p pz zz ys H4 gz fz (g13.trans g4) hp hpz

/-! ### the first standing, a command -/
structure Pt (K : PySem.W.Frag) (H : Hp) (b : Bk) (a ah am ac aa ar : Addr) (ms cs als rs : List V) (lv : V) : Prop where
  top : SqT K H a [.ref ah, .ref am, .ref ac, .ref aa, .ref ar, lv]
  holds : SqL K H ah (b.holds.map V.str)
  modes : SqL K H am ms ∧ DpAll K H ms (b.modes.map mdD)
  cmds : SqL K H ac cs ∧ DpAll K H cs (b.cmds.map cdD)
  als : SqL K H aa als ∧ DpAll K H als (b.als.map alD)
  rows : SqL K H ar rs ∧ DpAll K H rs (b.rows.map rwD)
  lim : Dp K H lv (limD b.lim)
theorem parts_inv {H : Hp} {v : V} {b : Bk} (d : Dp K H v (bkD b)) : ∃ a ah am ac aa ar ms cs als rs lv, v = .ref a ∧ Pt K H b a ah am ac aa ar ms cs als rs lv := by
  obtain ⟨a, xs, rfl, hs, hd⟩ := Dp.tup_inv d
  obtain ⟨v1, r1, rfl, d1, hd⟩ := DpAll.cons_inv hd
  obtain ⟨v2, r2, rfl, d2, hd⟩ := DpAll.cons_inv hd
  obtain ⟨v3, r3, rfl, d3, hd⟩ := DpAll.cons_inv hd
  obtain ⟨v4, r4, rfl, d4, hd⟩ := DpAll.cons_inv hd
  obtain ⟨v5, r5, rfl, d5, hd⟩ := DpAll.cons_inv hd
  obtain ⟨v6, r6, rfl, d6, hd⟩ := DpAll.cons_inv hd
  obtain rfl := DpAll.nil_inv hd
  obtain ⟨ah, hx, rfl, hh, hhd⟩ := dp_lst_inv d1
  obtain rfl := DpAll.texts_inv hhd
  obtain ⟨am, ms, rfl, h2, k2⟩ := dp_lst_inv d2
  obtain ⟨ac, cs, rfl, h3, k3⟩ := dp_lst_inv d3
  obtain ⟨aa, als, rfl, h4, k4⟩ := dp_lst_inv d4
  obtain ⟨ar, rs, rfl, h5, k5⟩ := dp_lst_inv d5
  exact ⟨a, ah, am, ac, aa, ar, ms, cs, als, rs, v6, rfl, ⟨hs, hh, ⟨h2, k2⟩, ⟨h3, k3⟩, ⟨h4, k4⟩, ⟨h5, k5⟩, d6⟩⟩
def StOk (b : Bk) (s : Sg) : Prop := Gt 4 s.m ∧ Few s.on ∧ match s.row with
  | none => True
  | some r => ∃ rw ∈ b.rows, rw.1 = r ∧ s.place < rw.2.length ∧ 1 ≤ s.left
def IsSt (K : PySem.W.Frag) (b : Bk) : V → Hp → Prop := fun v H => ∃ st, Dp K H v (sgD st) ∧ StOk b st
theorem IsSt.m {b : Bk} : Mono (IsSt K b) := fun _ _ _ e ⟨st, d, o⟩ => ⟨st, dp_ex e d, o⟩
/-- what an effect tells -/
def IsEff (K : PySem.W.Frag) : V → Hp → Prop := fun v H => ∃ p ph m hd, v = .ref p ∧ H p = some (.tup [.str m, .ref ph]) ∧ SqT K H ph ((hd : List Str).map V.str) ∧ Gt 4 m ∧ Few hd
theorem SpEff {H : Hp} {bv ov tv : V} {b : Bk} {m : Str} {on : List Str} (d : Dp K H bv (bkD b)) (ok : BkOk b) (gm : Gt 4 m) (dov : Dp K H ov (tD on)) (fon : Few on) (ht : IsPart K b tv H) : SpG (spEff K) [bv, .str m, ov, tv] H (IsEff K) := fun H1 e Q q E =>
  ⟨bv, ov, tv, b, m, on, rfl, dp_ex e d, ok, gm, dp_ex e dov, fon, (by obtain ⟨x, y, z, h, r⟩ := ht; exact ⟨x, y, z, dp_ex e h, r⟩), fun p ph m' hd H' g f e' hp hph => q _ H' e' ⟨p, ph, m', hd, rfl, hp, st_of hph, g, f⟩⟩
theorem evG_callP {σ : L2.St} {H : Hp} {sp : Sp} {dvs : List V} {E : XK} {tA : TA} {Ps : List (V → Hp → Prop)} {P : V → Hp → Prop} (h : EaP tA σ H Ps) (hs : ∀ vs H1, Ex H H1 → AllP H1 vs Ps → SpG sp (vs ++ dvs) H1 P) : EvG (tCall sp dvs E tA) σ H P := fun H1 e Q q =>
  h H1 e _ fun vs H2 e2 hv => hs vs H2 (e.trans e2) hv H2 (Ex.refl _) Q (fun v H3 e3 p => q v H3 (e2.trans e3) p) E
theorem q_unG2 {σ : L2.St} {H : Hp} {te : TE} {tz : TS} {D : Ends} {i j : Nat} {P : V → Hp → Prop} (h : EvG te σ H P) (hp : ∀ v H1, Ex H H1 → P v H1 → ∃ p x y, v = .ref p ∧ H1 p = some (.tup [x, y]) ∧ tz D ((σ.set i (some x)).set j (some y)) H1) : tSeq (tAsg te (gTup K 2 (gCons (gName i) (gCons (gName j) gNil)))) tz D σ H :=
  h H (Ex.refl H) _ fun v H1 e hv => by
    obtain ⟨p, x, y, ev, hp1, k⟩ := hp v H1 e hv
    exact ⟨p, _, ev, st_of hp1, rfl, _, _, rfl, _, _, rfl, rfl, k⟩
def IsV (x : V) : V → Hp → Prop := fun v _ => v = x
theorem IsV.m {x : V} : Mono (IsV x) := fun _ _ _ _ h => h
theorem ea_one {σ : L2.St} {H : Hp} {te : TE} {x : V} (h : Ev te σ H x) : EvG te σ H (IsV x) := Ev.gi h fun _ _ => rfl
def spFirst (K : PySem.W.Frag) : Sp := fun vs H Q _ => ∃ (bv : V) (b : Bk), vs = [bv] ∧ Dp K H bv (bkD b) ∧ BkOk b ∧ ∀ v H', IsSt K b v H' → Ex H H' → Q v H'
theorem SpFirst {H : Hp} {bv : V} {b : Bk} (d : Dp K H bv (bkD b)) (ok : BkOk b) : SpG (spFirst K) [bv] H (IsSt K b) := fun H1 e Q q E => ⟨bv, b, rfl, dp_ex e d, ok, fun v H' h e' => q v H' e' h⟩
theorem evG_stD {σ : L2.St} {H : Hp} {b : Bk} {m : Str} {hd : List Str} {ph : Addr} {t1 t2 t3 t4 t5 t6 : TE} {row : Option Str} {pl lf sl : Nat} (h1 : Ev t1 σ H (.str m)) (h2 : Ev t2 σ H (.ref ph)) (hp : SqT K H ph (hd.map V.str)) (h3 : EvG t3 σ H (fun v H' => Dp K H' v (oD row))) (h4 : Ev t4 σ H (.int (pl : Int))) (h5 : Ev t5 σ H (.int (lf : Int))) (h6 : Ev t6 σ H (.int (sl : Int))) (ok : StOk b ⟨m, hd, row, pl, lf, sl⟩) :
    EvG (tTup (tCons t1 (tCons t2 (tCons t3 (tCons t4 (tCons t5 (tCons t6 tNil))))))) σ H (IsSt K b) :=
  EvG.imp (evD_tup (eaD_cons (evD_str h1) (eaD_cons (Ev.gi h2 fun H' e => .tup (ex_t e hp) (dpa_texts hd)) (eaD_cons h3 (eaD_cons (evD_int h4) (eaD_cons (evD_int h5) (eaD_cons (evD_int h6) eaD_nil)))))) (by simp)) fun v H' _ h => ⟨⟨m, hd, row, pl, lf, sl⟩, h, ok⟩
theorem ok_first (A : At K mg "_law_first" s__law_first) (D__law_effect : Dfn P w K mg base 1 "_law_effect" p__law_effect (spEff K)) : Dfn P w K mg base 2 "_law_first" p__law_first (spFirst K) := by
  refine dfn_ok A sc__law_first (fun _ _ _ _ _ _ us hl => match us, hl with | [_], _ => rfl) (fun vs H Q E h => ?_) (fun f cdv A outer s H vs Q E hr h => ?_)
  · obtain ⟨bv, b, rfl, _⟩ := h
    rfl
  · obtain ⟨bv, b, rfl, d, ok, q⟩ := h
    refine ⟨_, (pss_cons (ps_asg (pe_d D__law_effect (hr.mono (by decide)) (pa_cons (pv 0) (pa_cons pe_str (pa_cons (pe_tup pa_nil) (pa_cons (pe_tup (pa_cons (pe_tup pa_nil) (pa_cons (pe_tup pa_nil) (pa_cons (pe_ix (show IxR _ (rIxT K) from ix_tup) (pe_ix (show IxR _ (rIxL K) from ix_list) (pe_ix (show IxR _ (rIxT K) from ix_tup) (pv 0) pe_int (fun _ _ => rfl)) pe_int (fun _ _ => rfl)) pe_int (fun _ _ => rfl)) pa_nil)))) pa_nil))))) (show PG _ _ (gTup K 2 _) from pg_tup rfl (pgs_cons (pg_name (i := 1) sc__law_first.nd rfl (Or.inl rfl)) (pgs_cons (pg_name (i := 2) sc__law_first.nd rfl (Or.inl rfl)) pgs_nil))))
  (pss_one (ps_ret (pe_tup (pa_cons (pv 1) (pa_cons (pv 2) (pa_cons pe_non (pa_cons pe_int (pa_cons pe_int (pa_cons pe_int pa_nil)))))))))), ?_⟩
    obtain ⟨a, ah, am, ac, aa, ar, ms, cs, als, rs, lv, rfl, pt⟩ := parts_inv d
    obtain ⟨m0, hm0⟩ : ∃ m0, b.modes[0]? = some m0 := by
      have := ok.modes.1
      cases e : b.modes with
      | nil => exact absurd e this
      | cons x r => exact ⟨x, rfl⟩
    obtain ⟨u, hu, du⟩ := dpa_at _ _ _ _ pt.modes.2 (show (b.modes.map mdD)[0]? = some (mdD m0) by rw [List.getElem?_map, hm0]; rfl)
    obtain ⟨p0, zs, rfl, hz, hzd⟩ := Dp.tup_inv du
    obtain ⟨z1, r1, rfl, k1, hzd⟩ := DpAll.cons_inv hzd
    obtain ⟨z2, r2, rfl, _, hzd⟩ := DpAll.cons_inv hzd
    obtain ⟨z3, r3, rfl, _, hzd⟩ := DpAll.cons_inv hzd
    obtain rfl := DpAll.nil_inv hzd
    obtain rfl := Dp.str_inv k1
    have nameE : ∀ {σ : L2.St} {H1 : Hp}, Ex H H1 → σ[0]? = some (some (.ref a)) → Ev (tOp (rIxT K) (tOp (rIxL K) (tOp (rIxT K) (tVar 0) (tC (.int 1))) (tC (.int 0))) (tC (.int 0))) σ H1 (.str m0.1) := fun e h0 => ev_op (ev_ixI (ev_op (ev_var h0) ev_c (rv_ixT (ex_t e pt.top) rfl)) ev_c (ex_l e pt.modes.1) (atI_nat (j := 0) hu)) ev_c (rv_ixT (ex_t e hz) rfl)
    refine q_unG2 (P := IsEff K) (evG_callP (Ps := [IsV (.ref a), IsV (.str Str.empty), fun v H' => Dp K H' v (tD []), fun v H' => Dp K H' v (.tuple [tD [], tD [], oD (some m0.1)])]) (eaP_cons IsV.m (ea_one (ev_var rfl)) (eaP_cons IsV.m (ea_one ev_c) (eaP_cons (fun _ _ _ e h => dp_ex e h) (evD_tup eaD_nil (by simp)) (eaP_cons (fun _ _ _ e h => dp_ex e h) (evD_tup (eaD_cons (evD_tup eaD_nil (by simp)) (eaD_cons (evD_tup eaD_nil (by simp)) (eaD_cons (evD_str (nameE (Ex.refl _) rfl)) eaD_nil))) (by simp)) eaP_nil)))) fun vs H1 e1 hv => ?_) fun v H1 e1 hv => ?_
    · cases hv with | cons a1 hv =>
      cases hv with | cons a2 hv =>
      cases hv with | cons a3 hv =>
      cases hv with | cons a4 hv =>
      cases hv
      obtain rfl := a1
      obtain rfl := a2
      exact SpEff (dp_ex e1 d) ok ⟨by decide +kernel, by decide +kernel⟩ a3 ⟨Nat.zero_le _, fun _ h => (nomatch h)⟩ ⟨[], [], some m0.1, a4, ⟨Nat.zero_le _, fun _ h => (nomatch h)⟩, ⟨Nat.zero_le _, fun _ h => (nomatch h)⟩, ⟨m0, List.mem_of_getElem? hm0, rfl⟩⟩
    · obtain ⟨p, ph, m, hd, rfl, hp, hph, gm, fhd⟩ := hv
      refine ⟨p, _, _, rfl, hp, s_retG (evG_stD (b := b) (m := m) (hd := hd) (row := none) (pl := 0) (lf := 0) (sl := 0) (ev_var rfl) (ev_var rfl) hph (evD_non ev_c) ev_c ev_c ev_c ⟨gm, fhd, trivial⟩) fun v H2 e2 h => q v H2 h (e1.trans e2)⟩

/-! ### the first of a list that has a name -/
theorem ev_find {α : Type} (D : α → PyData) (nm : α → Str) (hD : ∀ x, ∃ r, D x = .tuple (.str (nm x) :: r)) {σ : L2.St} {H : Hp} {tl te te2 : TE} {j : Nat} {vs : List Nat} {al : Addr} {ls : List V} {xs : List α} {z : Str} (g : Nat → V) (hl : Ev tl σ H (.ref al)) (hs : SqL K H al ls) (all : DpAll K H ls (xs.map D)) (few : xs.length ≤ 1000) (hz : ∃ x ∈ xs, nm x = z)
    (hw : ∀ y, wipe ((wipe σ vs).set j (some y)) vs = wipe σ vs) (hj : ∀ u, ((wipe σ vs).set j (some u))[j]? = some (some u)) (h2 : ∀ u H1, Ex H H1 → Ev te2 ((wipe σ vs).set j (some u)) H1 (.str z)) (he : ∀ i u H1, Ex H H1 → ls[i]? = some u → Ev te ((wipe σ vs).set j (some u)) H1 (g i)) :
    ∃ k x u, ls[k]? = some u ∧ xs[k]? = some x ∧ nm x = z ∧ Dp K H u (D x) ∧ Ev (tOp (rIxL K) (tLc (iList K tl) (gName j) (tTest (tOp rEq (tOp (rIxT K) (tVar j) (tC (.int 0))) te2)) te vs) (tC (.int 0))) σ H (g k) := by
  have len : ls.length = xs.length := by rw [dpa_len all, List.length_map]
  obtain ⟨x0, hx0, ez⟩ := hz
  obtain ⟨i0, hi0⟩ := List.mem_iff_getElem?.mp hx0
  obtain ⟨k, hk, fk, at0⟩ := first_of (n := ls.length) (f := fun i => decide ((xs[i]?).map nm = some z)) (g := g) ⟨i0, by rw [len]; exact (List.getElem?_eq_some_iff.mp hi0).1, decide_eq_true (by rw [hi0, ← ez]; rfl)⟩
  have hxk : xs[k]? = some (xs[k]'(by omega)) := List.getElem?_eq_getElem (by omega)
  generalize xs[k]'(by omega) = x at hxk
  obtain ⟨u, hu, du⟩ := dpa_at _ _ _ _ all (show (xs.map D)[k]? = some (D x) by rw [List.getElem?_map, hxk]; rfl)
  have en : nm x = z := by
    have := of_decide_eq_true fk
    rw [hxk] at this
    exact Option.some.inj this
  refine ⟨k, x, u, hu, hxk, en, du, ev_ixN (el_lcL (fun i => decide ((xs[i]?).map nm = some z)) g hl hs (by omega) hw (fun i y H1 e1 hy => ?_) (fun i y H1 e1 hy _ => he i y H1 e1 hy)) ev_c at0⟩
  have hi : i < xs.length := by rw [← len]; exact (List.getElem?_eq_some_iff.mp hy).1
  have hxi : xs[i]? = some xs[i] := List.getElem?_eq_getElem hi
  generalize xs[i] = xi at hxi
  obtain ⟨y', hy', dy⟩ := dpa_at _ _ _ _ all (show (xs.map D)[i]? = some (D xi) by rw [List.getElem?_map, hxi]; rfl)
  rw [hy] at hy'
  obtain rfl := Option.some.inj hy'
  obtain ⟨r, er⟩ := hD xi
  rw [er] at dy
  obtain ⟨p, zs, rfl, hp, hzd⟩ := Dp.tup_inv dy
  obtain ⟨z1, r1, rfl, k1, _⟩ := DpAll.cons_inv hzd
  obtain rfl := Dp.str_inv k1
  rw [hxi]
  exact et_is (et_test (ev_op (ev_op (ev_var (hj _)) ev_c (rv_ixT (ex_t e1 hp) (atI_nat (j := 0) rfl))) (h2 _ H1 e1) (rv_eq rfl))) (show decide (V.str (nm xi) = V.str z) = decide (some (nm xi) = some z) from decide_eq_decide.mpr ⟨fun h => by injection h with h; rw [h], fun h => by rw [Option.some.inj h]⟩)
theorem eu_slT {σ : L2.St} {H : Hp} {te : TE} {tl th : TO} {a : Addr} {xs : List V} {lo hi : Option Int} (h : Ev te σ H (.ref a)) (h1 : EvO tl σ H lo) (h2 : EvO th σ H hi) (hs : SqT K H a xs) (hw : ¬ (HT.sIx xs.length 0 lo = 0 ∧ HT.sIx xs.length xs.length hi = xs.length)) : EvU (tSl (rSlT K) te tl th) σ H (cutV xs lo hi) := fun H1 e _ q =>
  h H1 e _ fun H2 e2 => h1 H2 (e.trans e2) _ fun H3 e3 => h2 H3 ((e.trans e2).trans e3) _ fun H4 e4 =>
    ⟨a, xs, rfl, ex_t (((e.trans e2).trans e3).trans e4) hs, hw, fun p hp => q p _ (fresh_back ((e2.trans e3).trans e4) hp) (((e2.trans e3).trans e4).trans (Ex.new hp)) upd_same⟩
/-! ### a command -/
def spCmd (K : PySem.W.Frag) : Sp := fun vs H Q _ => ∃ (bv ov : V) (b : Bk) (m : Str) (on : List Str) (n : Str), vs = [bv, .str m, ov, .str n] ∧ Dp K H bv (bkD b) ∧ BkOk b ∧ Gt 4 m ∧ Dp K H ov (tD on) ∧ Few on ∧ (∃ c ∈ b.cmds, c.n = n) ∧ ∀ v H', IsEff K v H' → Ex H H' → Q v H'
theorem SpCmd {H : Hp} {bv ov : V} {b : Bk} {m n : Str} {on : List Str} (d : Dp K H bv (bkD b)) (ok : BkOk b) (gm : Gt 4 m) (dov : Dp K H ov (tD on)) (fon : Few on) (hn : ∃ c ∈ b.cmds, c.n = n) : SpG (spCmd K) [bv, .str m, ov, .str n] H (IsEff K) := fun H1 e Q q E => ⟨bv, ov, b, m, on, n, rfl, dp_ex e d, ok, gm, dp_ex e dov, fon, hn, fun v H' h e' => q v H' e' h⟩
theorem ok_cmd (A : At K mg "_law_command" s__law_command) (D__law_effect : Dfn P w K mg base 1 "_law_effect" p__law_effect (spEff K)) : Dfn P w K mg base 2 "_law_command" p__law_command (spCmd K) := by
  refine dfn_ok A sc__law_command (fun _ _ _ _ _ _ us hl => match us, hl with | [_, _, _, _], _ => rfl) (fun vs H Q E h => ?_) (fun f cdv A outer s H vs Q E hr h => ?_)
  · obtain ⟨bv, ov, b, m, on, n, rfl, _⟩ := h
    rfl
  · obtain ⟨bv, ov, b, m, on, n, rfl, d, ok, gm, dov, fon, hn, q⟩ := h
    refine ⟨_, (pss_cons (ps_set (i := 4) sc__law_command.nd rfl (Or.inl rfl) (pe_ix (show IxR _ (rIxL K) from ix_list) (pe_lc (own := [("one", 5)]) (g := gName 5) rfl sc__law_command.nd (show PI _ _ _ (iList K _) from pi_list (pe_ix (show IxR _ (rIxT K) from ix_tup) (pv 0) pe_int (fun _ _ => rfl))) (blkOk_by (N := N__law_command) (sc := defScope s__law_command) (by decide +kernel)) (fun _ _ _ _ _ => (pg_name (i := 5) sc__law_command.nd rfl (Or.inl rfl))) (fun _ _ _ _ _ => (pts_one (pt_cmpR op_eq (pe_ix (show IxR _ (rIxT K) from ix_tup) (pv 5) pe_int (fun _ _ => rfl)) (pv 3) (by first | exact nomark _ | rfl)))) (fun _ _ _ _ _ => (pv 5))) pe_int (fun _ _ => rfl)))
  (pss_cons (ps_if (pt_cmpR (show OpR _ _ (rIn K true) from op_notIn_seq) (pv 1) (pe_ix (show IxR _ (rIxT K) from ix_tup) (pv 4) pe_int (fun _ _ => rfl)) (by first | exact nomark _ | rfl))
    (pss_one (ps_ret (pe_tup (pa_cons (pv 1) (pa_cons (pv 2) pa_nil)))))
    pss_nil)
  (pss_one (ps_ret (pe_d D__law_effect (hr.mono (by decide)) (pa_cons (pv 0) (pa_cons (pv 1) (pa_cons (pv 2) (pa_cons (pe_slice (show SlR _ (rSlT K) from sl_tup) (pv 4) (po_some pe_int) po_none) pa_nil))))))))), ?_⟩
    obtain ⟨a, ah, am, ac, aa, ar, ms, cs, als, rs, lv, rfl, pt⟩ := parts_inv d
    obtain ⟨ao, rfl, ho⟩ := texts_of_dp dov
    obtain ⟨k, c, u, hu, hc, en, du, fnd⟩ := ev_find cdD Cd.n (fun c => ⟨_, rfl⟩) (σ := [some (.ref a), some (.str m), some (.ref ao), some (.str n), none, none]) (tl := tOp (rIxT K) (tVar 0) (tC (.int 2))) (te := tVar 5) (te2 := tVar 3) (j := 5) (vs := [5]) (fun i => cs.getD i .non) (ev_op (ev_var rfl) ev_c (rv_ixT pt.top rfl)) pt.cmds.1 pt.cmds.2 (by have := ok.cmds.2.1; omega) hn (fun _ => rfl) (fun _ => rfl) (fun u H1 _ => ev_var rfl) (fun i u H1 _ hu => by
      rw [show cs.getD i .non = u by rw [List.getD_eq_getElem?_getD, hu]; rfl]; exact ev_var rfl)
    rw [show cs.getD k .non = u by rw [List.getD_eq_getElem?_getD, hu]; rfl] at fnd
    have cok := ok.cmds.2.2 c (List.mem_of_getElem? hc)
    obtain ⟨p, zs, rfl, hp, hzd⟩ := Dp.tup_inv du
    obtain ⟨z1, r1, rfl, k1, hzd⟩ := DpAll.cons_inv hzd
    obtain ⟨z2, r2, rfl, k2, hzd⟩ := DpAll.cons_inv hzd
    obtain ⟨z3, r3, rfl, k3, hzd⟩ := DpAll.cons_inv hzd
    obtain ⟨z4, r4, rfl, k4, hzd⟩ := DpAll.cons_inv hzd
    obtain ⟨z5, r5, rfl, k5, hzd⟩ := DpAll.cons_inv hzd
    obtain rfl := DpAll.nil_inv hzd
    obtain ⟨a2, rfl, h2⟩ := texts_of_dp k2
    refine q_asg fnd fun H1 e1 => ?_
    refine q_when (b := !inV (.str m) (c.lets.map V.str)) (et_test (ev_op (ev_var rfl) (ev_op (ev_var rfl) ev_c (rv_ixT (ex_t e1 hp) rfl)) (rv_niT (ex_t e1 h2) rfl (flat_texts _)))) (fun _ H2 e2 => ?_) fun _ H2 e2 => ?_
    · refine s_retU (eu_tup (ea_cons (ev_var rfl) (ea_cons (ev_var rfl) ea_nil)) (by simp)) fun pr H3 _ e3 hpr => q _ H3 ⟨pr, ao, m, on, rfl, hpr, ex_t ((e1.trans e2).trans e3) ho, gm, fon⟩ ((e1.trans e2).trans e3)
    · have e12 := e1.trans e2
      refine s_retG (evG_callP (Ps := [IsV (.ref a), IsV (.str m), IsV (.ref ao), fun v H' => Dp K H' v (.tuple [tD c.on, tD c.off, oD c.to])]) (eaP_cons IsV.m (ea_one (ev_var rfl)) (eaP_cons IsV.m (ea_one (ev_var rfl)) (eaP_cons IsV.m (ea_one (ev_var rfl)) (eaP_cons (fun _ _ _ e h => dp_ex e h) (EvU.gi (eu_slT (xs := [z1, .ref a2, z3, z4, z5]) (ev_var rfl) (eo_some ev_c) eo_none (ex_t e12 hp) (by show ¬ (HT.sIx 5 0 (some 2) = 0 ∧ HT.sIx 5 5 none = 5); decide)) fun p' H' e' hp' => .tup (st_of hp') (.cons (dp_ex (e12.trans e') k3) (.cons (dp_ex (e12.trans e') k4) (.cons (dp_ex (e12.trans e') k5) .nil)))) eaP_nil)))) fun vs H3 e3 hv => ?_) fun v H3 e3 h => q v H3 h (e12.trans e3)
      cases hv with | cons a1 hv =>
      cases hv with | cons a2 hv =>
      cases hv with | cons a3 hv =>
      cases hv with | cons a4 hv =>
      cases hv
      obtain rfl := a1
      obtain rfl := a2
      obtain rfl := a3
      exact SpEff (dp_ex (e12.trans e3) d) ok gm (dp_ex (e12.trans e3) dov) fon ⟨_, _, _, a4, cok.2.2.1, cok.2.2.2.1, cok.2.2.2.2⟩

/-! ### which alarms may come -/
def spCome (K : PySem.W.Frag) : Sp := fun vs H Q _ => ∃ (bv : V) (b : Bk) (m : Nat), vs = [bv, .int (m : Int)] ∧ Dp K H bv (bkD b) ∧ BkOk b ∧ ∀ p ys H', Few ys → ys.length ≤ 2 → Ex H H' → H' p = some (.tup (ys.map V.str)) → Q (.ref p) H'
theorem ok_come (A : At K mg "_law_may_come" s__law_may_come) (mz_int : mg "int" = none) (mz_tuple : mg "tuple" = none) (mz_sorted : mg "sorted" = none) (mz_enumerate : mg "enumerate" = none) : Dfn P w K mg base 1 "_law_may_come" p__law_may_come (spCome K) := by
  refine dfn_ok A sc__law_may_come (fun _ _ _ _ _ _ us hl => match us, hl with | [_, _], _ => rfl) (fun vs H Q E h => ?_) (fun f cdv A outer s H vs Q E hr h => ?_)
  · obtain ⟨bv, b, m, rfl, _⟩ := h
    rfl
  · obtain ⟨bv, b, m, rfl, d, ok, q⟩ := h
    refine ⟨_, (pss_one (ps_ret (pe_callTy (show CallR _ _ (rTupS K) from call_tuple_of) (by rfl) mz_tuple (by decide +kernel) (pa_cons (pe_callB (show CallR _ _ (rSortedS K) from cr_sortedS) (by rfl) mz_sorted (by decide +kernel) (pa_cons (pe_lc (own := [("k", 2), ("one", 3)]) rfl sc__law_may_come.nd (show PI _ _ _ (iEnum K _) from pi_enum (by rfl) mz_enumerate (pa_cons (pe_ix (show IxR _ (rIxT K) from ix_tup) (pv 0) pe_int (fun _ _ => rfl)) pa_nil)) (blkOk_by (N := N__law_may_come) (sc := defScope s__law_may_come) (by decide +kernel)) (fun _ _ _ _ _ => (show PG _ _ (gTup K 2 _) from pg_tup rfl (pgs_cons (pg_name (i := 2) sc__law_may_come.nd rfl (Or.inl rfl)) (pgs_cons (pg_name (i := 3) sc__law_may_come.nd rfl (Or.inl rfl)) pgs_nil)))) (fun _ _ _ _ _ => (pts_one (pt_cmpR op_eq (pe_op op_mod (pe_callTy call_int1 (by rfl) mz_int (by decide +kernel) (pa_cons (pe_op op_fdiv (pv 1) (pe_ix (show IxR _ (rIxL K) from ix_list) (pe_lst (pa_cons pe_int (pa_cons pe_int pa_nil))) (pv 2) (fun _ _ => rfl))) pa_nil)) pe_int) pe_int (by first | exact nomark _ | rfl)))) (fun _ _ _ _ _ => (pe_ix (show IxR _ (rIxT K) from ix_tup) (pv 3) pe_int (fun _ _ => rfl)))) pa_nil)) pa_nil)))), ?_⟩
    obtain ⟨a, ah, am, ac, aa, ar, ms, cs, als, rs, lv, rfl, pt⟩ := parts_inv d
    have la : als.length = b.als.length := by rw [dpa_len pt.als.2, List.length_map]
    have l2 := ok.als.1
    have fewN : Few (b.als.map Al.n) := ⟨by rw [List.length_map]; omega, fun x hx => by
      obtain ⟨c, hc, rfl⟩ := List.mem_map.mp hx
      exact (ok.als.2 c hc).1⟩
    have gs : given als.length (fun i => decide (m / [1, 2].getD i 1 % 2 = 0)) (fun i => V.str ((b.als.map Al.n).getD i Str.empty)) = (sel (b.als.map Al.n) fun i => decide (m / [1, 2].getD i 1 % 2 = 0)).map V.str := by
      rw [← given_sel, List.length_map, List.length_map, la]
    have item : ∀ (i : Nat) (u : V), als[i]? = some u → ∃ (p : Addr) (zs : List V), u = .ref p ∧ SqT K H p zs ∧ atI zs 0 = some (.str ((b.als.map Al.n).getD i Str.empty)) ∧ i < 2 := fun i u hu => by
      have hi : i < b.als.length := by rw [← la]; exact (List.getElem?_eq_some_iff.mp hu).1
      have hx : b.als[i]? = some b.als[i] := List.getElem?_eq_getElem hi
      generalize b.als[i] = c at hx
      obtain ⟨y, hy, dy⟩ := dpa_at _ _ _ _ pt.als.2 (show (b.als.map alD)[i]? = some (alD c) by rw [List.getElem?_map, hx]; rfl)
      rw [hu] at hy
      obtain rfl := Option.some.inj hy
      obtain ⟨p, zs, rfl, hp, hzd⟩ := Dp.tup_inv dy
      obtain ⟨z1, r1, rfl, k1, _⟩ := DpAll.cons_inv hzd
      obtain rfl := Dp.str_inv k1
      refine ⟨p, _, rfl, hp, ?_, by omega⟩
      rw [List.getD_eq_getElem?_getD, List.getElem?_map, hx]
      exact atI_nat (j := 0) rfl
    refine s_retG (evG_tupleG (R := fun ys => Few ys ∧ ys.length ≤ 2) (EvG.imp (evP_sortedS (xs := sel (b.als.map Al.n) fun i => decide (m / [1, 2].getD i 1 % 2 = 0)) (el_is (el_lcEA (fun i => decide (m / [1, 2].getD i 1 % 2 = 0)) (fun i => V.str ((b.als.map Al.n).getD i Str.empty)) (ev_op (ev_var rfl) ev_c (rv_ixT pt.top rfl)) pt.als.1 (by omega) (fun _ _ => rfl) (fun i u H1 e1 hu => ?tst) (fun i u H1 e1 hu _ => ?ee)) gs) (by have := (few_sel fewN fun i => decide (m / [1, 2].getD i 1 % 2 = 0)).1; omega)) fun v H' _ ⟨p, ys, h1, _, h2, pm, _⟩ => ⟨p, ys, h1, h2, few_perm (few_sel fewN _) pm, ?len⟩)) fun v H1 e1 ⟨p, ys, hv, hp, fy, ly⟩ => ?fin
    case fin =>
      subst hv
      exact q p ys H1 fy ly e1 hp
    case len =>
      rw [pm.length_eq]
      unfold sel
      rw [List.length_map]
      refine Nat.le_trans (List.length_filter_le _ _) ?_
      rw [List.length_range, List.length_map]; exact l2
    case tst =>
      obtain ⟨p, zs, rfl, hp, h0, hi⟩ := item i u hu
      obtain ⟨dd, hd, pd, ed⟩ : ∃ dd : Nat, ([.int 1, .int 2] : List V)[i]? = some (.int (dd : Int)) ∧ (0 < dd ∧ dd ≤ 2) ∧ dd = [1, 2].getD i 1 := by
        match i, hi with
        | 0, _ => exact ⟨1, rfl, by omega, rfl⟩
        | 1, _ => exact ⟨2, rfl, by omega, rfl⟩
      rw [← ed]
      exact et_is (et_test (ev_op (ev_op (ev_int (ea_cons (ev_op (ev_var rfl) (ev_ixN (el_lst (ea_cons ev_c (ea_cons ev_c ea_nil)) (by simp)) (ev_var rfl) (atI_nat hd)) (rv_I (by unfold CDiv; omega))) ea_nil)) ev_c (rv_I (show (0 : Int) < 2 by decide))) ev_c (rv_eq rfl))) (show decide (V.int ((m : Int) / (dd : Int) % 2) = V.int 0) = decide (m / dd % 2 = 0) from decide_eq_decide.mpr ⟨fun h => by injection h with h; omega, fun h => congrArg V.int (by omega)⟩)
    case ee =>
      obtain ⟨p, zs, rfl, hp, h0, hi⟩ := item i u hu
      exact ev_op (ev_var rfl) ev_c (rv_ixT (ex_t e1 hp) h0)

/-! ### all lots of the alarms that may come -/
def IsLotV (K : PySem.W.Frag) (n : Nat) : V → Hp → Prop := fun v H => ∃ ys : List Str, Dp K H v (tD ys) ∧ ys.length ≤ n ∧ ∀ y ∈ ys, Gt 4 y
theorem IsLotV.m {n : Nat} : Mono (IsLotV K n) := fun _ _ _ e ⟨ys, d, r⟩ => ⟨ys, dp_ex e d, r⟩
theorem noL_tD (xs : List Str) : noL (tD xs) = true := by
  unfold tD
  rw [noL]
  exact noTexts xs
theorem IsLotV.mu {n : Nat} (x : V) (H : Hp) (p : Addr) (ys : List V) (o : HO) (h : H p = some (.lst ys)) (hx : IsLotV K n x H) : IsLotV K n x (upd H p o) := by
  obtain ⟨zs, d, r⟩ := hx
  exact ⟨zs, dp_mut h (noL_tD zs) d, r⟩
def Cp (H : Hp) (P : V → Hp → Prop) (Dl : Addr) (i : Nat) (H' : Hp) : Prop := H Dl = none ∧ Ex H H' ∧ ∃ xs : List V, xs.length = i ∧ H' Dl = some (.lst xs) ∧ ∀ x ∈ xs, P x H'
theorem cp_turn {te : TE} {H H' : Hp} {P : V → Hp → Prop} {Dl : Addr} {i : Nat} {σ2 : L2.St} (m : Mono P) (mu : ∀ x H p ys o, H p = some (.lst ys) → P x H → P x (upd H p o)) (p : Cp H P Dl i H') (hi : i < 50000) (he : EvG te σ2 H P) :
    tYes σ2 H' fun b H3 => if b = true then te σ2 H3 fun y H4 => ∃ acc, H4 Dl = some (.lst acc) ∧ acc.length < sizeLine ∧ Cp H P Dl (i + 1) (upd H4 Dl (.lst (acc ++ [y]))) else Cp H P Dl (i + 1) H3 := by
  obtain ⟨p1, p2, xs, l, hx, all⟩ := p
  show te σ2 H' fun y H4 => ∃ acc, H4 Dl = some (.lst acc) ∧ acc.length < sizeLine ∧ Cp H P Dl (i + 1) (upd H4 Dl (.lst (acc ++ [y])))
  refine he H' p2 _ fun y H4 e4 py => ⟨xs, e4 _ _ hx, sz_lt (by omega), p1, Ex.mut (p2.trans e4) p1, xs ++ [y], by rw [List.length_append, l]; rfl, upd_same, fun x hx' => ?_⟩
  rcases List.mem_append.mp hx' with h | h
  · exact mu _ _ _ _ _ (e4 _ _ hx) (m _ _ _ e4 (all x h))
  · rw [List.mem_singleton.mp h]; exact mu _ _ _ _ _ (e4 _ _ hx) py
/-- a comprehension over a list that stands, whose things have a property -/
theorem evG_lcLP {σ : L2.St} {H : Hp} {tl te : TE} {a : Addr} {xs : List V} {j : Nat} {vs : List Nat} {P : V → Hp → Prop} (m : Mono P) (mu : ∀ x H p ys o, H p = some (.lst ys) → P x H → P x (upd H p o)) (h : Ev tl σ H (.ref a)) (hx : SqL K H a xs) (hz : xs.length ≤ 40000) (hw : ∀ x, wipe ((wipe σ vs).set j (some x)) vs = wipe σ vs)
    (he : ∀ (i : Nat) (x : V) H1, Ex H H1 → xs[i]? = some x → EvG te ((wipe σ vs).set j (some x)) H1 P) :
    EvG (tLc (iList K tl) (gName j) tYes te vs) σ H (fun v H' => ∃ p ys, v = .ref p ∧ H p = none ∧ H' p = some (.lst ys) ∧ ys.length = xs.length ∧ ∀ y ∈ ys, P y H') := fun H0 e Q q => h H0 e _ fun H1 e1 => ⟨a, rfl, ⟨xs, ex_l (e.trans e1) hx⟩, fun Dl hD =>
  lc_list (xs := xs) (Cp H1 P Dl) ⟨hD, Ex.new hD, [], rfl, upd_same, fun _ h => (nomatch h)⟩ (fun i H' _ p => ex_l ((e.trans e1).trans p.2.1) hx) (fun i x H' hi p => ⟨hw x, cp_turn m mu p (by have := (List.getElem?_eq_some_iff.mp hi).1; omega) (he i x H1 (e.trans e1) hi)⟩)
    (fun H' ⟨p1, p2, ys, l, hy, all⟩ => q _ H' (e1.trans p2) ⟨Dl, ys, rfl, fresh_back (e.trans e1) p1, hy, l, all⟩)⟩
/-- two lists of things that have a property -/
theorem evG_catN {σ : L2.St} {H : Hp} {ta tb : TE} {P : V → Hp → Prop} {n m : Nat} (mo : Mono P) (ha : EvG ta σ H (fun v H' => ∃ p xs, v = .ref p ∧ H' p = some (.lst xs) ∧ xs.length = n ∧ ∀ x ∈ xs, P x H')) (hb : EvG tb σ H (fun v H' => ∃ p xs, v = .ref p ∧ H' p = some (.lst xs) ∧ xs.length = m ∧ ∀ x ∈ xs, P x H')) (hz : n + m ≤ 100000) :
    EvG (tOp rCat ta tb) σ H (fun v H' => ∃ p xs, v = .ref p ∧ H p = none ∧ H' p = some (.lst xs) ∧ xs.length = n + m ∧ ∀ x ∈ xs, P x H') := fun H1 e Q q =>
  ha H1 e _ fun v H2 e2 ⟨p1, xs, hv1, hp1, l1, h1⟩ => hb H2 (e.trans e2) _ fun u H3 e3 ⟨p2, ys, hv2, hp2, l2, h2⟩ => by
    subst hv1 hv2
    refine ⟨p1, p2, xs, ys, rfl, rfl, e3 _ _ hp1, hp2, sz_of (by rw [l1, l2]; exact hz), fun l nl => q _ _ ((e2.trans e3).trans (Ex.new nl)) ⟨l, _, rfl, fresh_back ((e.trans e2).trans e3) nl, upd_same, by rw [List.length_append, l1, l2], fun x hx => ?_⟩⟩
    rcases List.mem_append.mp hx with h | h
    · exact mo _ _ _ (e3.trans (Ex.new nl)) (h1 x h)
    · exact mo _ _ _ (Ex.new nl) (h2 x h)
theorem evG_catQ {σ : L2.St} {H : Hp} {ta tb : TE} {P : V → Hp → Prop} {n m : Nat} (mo : Mono P) (ha : EvG ta σ H (fun v H' => ∃ p xs, v = .ref p ∧ H' p = some (.lst xs) ∧ xs.length = n ∧ ∀ x ∈ xs, P x H')) (hb : EvG tb σ H (fun v H' => ∃ p xs, v = .ref p ∧ H' p = some (.lst xs) ∧ xs.length = m ∧ ∀ x ∈ xs, P x H')) (hz : n + m ≤ 100000) :
    EvG (tOp rCat ta tb) σ H (fun v H' => ∃ p xs, v = .ref p ∧ H' p = some (.lst xs) ∧ xs.length = n + m ∧ ∀ x ∈ xs, P x H') := EvG.imp (evG_catN mo ha hb hz) fun v H' _ ⟨p, xs, h1, _, h2, h3, h4⟩ => ⟨p, xs, h1, h2, h3, h4⟩
theorem IsLotV.up {n m : Nat} (h : n ≤ m) {x : V} {H : Hp} (hx : IsLotV K n x H) : IsLotV K m x H := by
  obtain ⟨ys, d, l, g⟩ := hx
  exact ⟨ys, d, by omega, g⟩
def spLots (K : PySem.W.Frag) : Sp := fun vs H Q _ => ∃ (a : Addr) (ws : List Str), vs = [.ref a] ∧ SqT K H a (ws.map V.str) ∧ Few ws ∧ ws.length ≤ 2 ∧ ∀ p xs H', 0 < xs.length → xs.length ≤ 4 → (∀ x ∈ xs, IsLotV K 2 x H') → H p = none → Ex H H' → H' p = some (.lst xs) → Q (.ref p) H'
theorem two_pow_small {i : Nat} (h : i ≤ 2) : 2 ^ i ≤ 4 := by
  match i, h with
  | 0, _ => decide
  | 1, _ => decide
  | 2, _ => decide
theorem ok_lots (A : At K mg "_law_lots" s__law_lots) : Dfn P w K mg base 1 "_law_lots" p__law_lots (spLots K) := by
  refine dfn_ok A sc__law_lots (fun _ _ _ _ _ _ us hl => match us, hl with | [_], _ => rfl) (fun vs H Q E h => ?_) (fun f cdv A outer s H vs Q E hr h => ?_)
  · obtain ⟨a, ws, rfl, _⟩ := h
    rfl
  · obtain ⟨a, ws, rfl, hA, few, l2, q⟩ := h
    refine ⟨_, (pss_cons (ps_set (i := 1) sc__law_lots.nd rfl (Or.inl rfl) (pe_lst (pa_cons (pe_tup pa_nil) pa_nil)))
  (pss_cons (ps_for PassesOwn.never rfl (show PI _ _ _ (iTup K _) from pi_tup (pv 0)) (pg_name (i := 2) sc__law_lots.nd rfl (Or.inr rfl))
    (pss_one (ps_set (i := 1) sc__law_lots.nd rfl (Or.inl rfl) (pe_op op_cat (pv 1) (pe_lc (own := [("lot", 3)]) (g := gName 3) (tt := tYes) rfl sc__law_lots.nd (show PI _ _ _ (iList K _) from pi_list (pv 1)) (blkOk_by (N := N__law_lots) (sc := defScope s__law_lots) (by decide +kernel)) (fun _ _ _ _ _ => (pg_name (i := 3) sc__law_lots.nd rfl (Or.inl rfl))) (fun _ _ _ _ _ => pts_nil) (fun _ _ _ _ _ => (pe_op (show OpR _ _ (rCatA K) from op_catA) (pv 3) (pe_tup (pa_cons (pv 2) pa_nil)))))))))
  (pss_one (ps_ret (pv 1))))), ?_⟩
    refine q_asgG (P := fun v H' => ∃ p xs, v = .ref p ∧ H p = none ∧ H' p = some (.lst xs) ∧ xs.length = 1 ∧ ∀ x ∈ xs, IsLotV K 0 x H') (EvG.imp (evL_data (K := K) (ds := [tD []]) (eaD_cons (evD_tup eaD_nil (by simp)) eaD_nil) (by simp)) fun v H' _ ⟨p, xs, h1, h0, h2, h3⟩ => ⟨p, xs, h1, h0, h2, by rw [dpa_len h3]; rfl, fun x hx => ?one⟩) fun v H1 e1 hv => ?_
    case one =>
      obtain ⟨y, r, rfl, d, h3⟩ := DpAll.cons_inv h3
      obtain rfl := DpAll.nil_inv h3
      rw [List.mem_singleton.mp hx]
      exact ⟨[], d, Nat.le_refl _, fun _ h => (nomatch h)⟩
    obtain ⟨p0, xs0, rfl, np0, hp0, lx0, all0⟩ := hv
    refine q_forT (a := a) (xs := ws.map V.str) (ev_var rfl) (ex_t e1 hA) (fun i σ' H' => ∃ p xs u2, σ' = [some (.ref a), some (.ref p), u2, none] ∧ H p = none ∧ H' p = some (.lst xs) ∧ xs.length = 2 ^ i ∧ (∀ x ∈ xs, IsLotV K i x H') ∧ Ex H1 H') (fun H2 e2 => ⟨p0, xs0, none, rfl, np0, e2 _ _ hp0, lx0, fun x hx => IsLotV.m _ _ _ e2 (all0 x hx), e2⟩) (fun i σ' H' _ ⟨_, _, _, _, _, _, _, _, e2⟩ => ex_t (e1.trans e2) hA) ?hs ?hd
    case hs =>
      rintro i x σ' H2 hi ⟨p, xs, u2, rfl, np, hp, lx, all, e2⟩
      obtain ⟨rfl, hi2⟩ := txt_at hi
      have i2 : i + 1 ≤ 2 := by omega
      have pw := two_pow_small (i := i) (by omega)
      have gw : Gt 4 (ws.getD i Str.empty) := by
        rw [List.getD_eq_getElem?_getD, List.getElem?_eq_getElem hi2]
        exact few.2 _ (List.getElem_mem hi2)
      refine s_asgG (evG_catN (P := IsLotV K (i + 1)) (n := 2 ^ i) (m := 2 ^ i) IsLotV.m (Ev.gi (ev_var rfl) fun H' e => ⟨p, xs, rfl, e _ _ hp, lx, fun x hx => IsLotV.m _ _ _ e (IsLotV.up (Nat.le_succ _) (all x hx))⟩) (EvG.imp (evG_lcLP (P := IsLotV K (i + 1)) IsLotV.m IsLotV.mu (ev_var rfl) (sq_of hp) (by omega) (fun _ => rfl) fun k y H3 e3 hy => ?el) fun v H' _ ⟨p, ys, h1, _, h2, h3, h4⟩ => ⟨p, ys, h1, h2, by rw [h3, lx], h4⟩) (by omega)) fun v H3 e3 ⟨p2, ys, hv, np2, hp2, ly, all2⟩ => ?fin
      case el =>
        obtain ⟨ys, d, ly, gy⟩ := all y (List.mem_of_getElem? hy)
        obtain ⟨ay, rfl, hay⟩ := texts_of_dp d
        intro H4 e4 Q k2
        refine (ev_var rfl : Ev (tVar 3) _ _ (.ref ay)) H4 e4 _ fun H5 e5 => ?_
        refine (eu_tup (vs := [.str (ws.getD i Str.empty)]) (ea_cons (ev_var rfl) ea_nil) (by simp) : EvU _ _ H3 _) H5 (e4.trans e5) _ fun pb H6 nb e6 hb => ?_
        refine ⟨ay, pb, ys.map V.str, [.str (ws.getD i Str.empty)], rfl, rfl, ex_t (((e3.trans e4).trans e5).trans e6) hay, st_of hb, sz_of (by simp; omega), fun _ => k2 _ _ (e5.trans e6) ⟨[ws.getD i Str.empty], .tup (st_of hb) (dpa_texts [ws.getD i Str.empty]), by simp, fun z hz => by rw [List.mem_singleton.mp hz]; exact gw⟩, fun _ h => (nomatch h), fun _ _ pn nn => k2 _ _ ((e5.trans e6).trans (Ex.new nn)) ⟨ys ++ [ws.getD i Str.empty], ?_, by rw [List.length_append, List.length_singleton]; omega, fun z hz => ?_⟩⟩
        · refine .tup (st_of upd_same) ?_
          have := dpa_texts (K := K) (H := upd H6 pn (.tup (ys.map V.str ++ [.str (ws.getD i Str.empty)]))) (ys ++ [ws.getD i Str.empty])
          rw [List.map_append, List.map_append] at this
          rw [List.map_append]
          exact this
        · rcases List.mem_append.mp hz with h | h
          · exact gy z h
          · rw [List.mem_singleton.mp h]; exact gw
      case fin =>
        subst hv
        exact ⟨p2, ys, _, rfl, fresh_back (e1.trans e2) np2, hp2, by rw [ly, Nat.pow_succ]; omega, all2, e2.trans e3⟩
    case hd =>
      rintro σ' H2 ⟨p, xs, u2, rfl, np, hp, lx, all, e2⟩
      rw [List.length_map] at lx all
      exact s_ret (ev_var rfl) fun H3 e3 => q p xs H3 (by rw [lx]; exact Nat.two_pow_pos _) (by rw [lx]; exact two_pow_small l2) (fun x hx => IsLotV.m _ _ _ e3 (IsLotV.up l2 (all x hx))) np ((e1.trans e2).trans e3) (e3 _ _ hp)

/-! ### what is sent -/
def OrdOk (b : Bk) (o : List Str) : Prop := (∃ c ∈ b.cmds, o = [sDo, c.n]) ∨ (∃ r ∈ b.rows, o = [sRun, r.1]) ∨ o = [sStop]
def IsOrd (K : PySem.W.Frag) (b : Bk) : V → Hp → Prop := fun v H => ∃ o, Dp K H v (tD o) ∧ OrdOk b o
theorem IsOrd.m {b : Bk} : Mono (IsOrd K b) := fun _ _ _ e ⟨o, d, r⟩ => ⟨o, dp_ex e d, r⟩
theorem IsOrd.mu {b : Bk} (x : V) (H : Hp) (p : Addr) (ys : List V) (o : HO) (h : H p = some (.lst ys)) (hx : IsOrd K b x H) : IsOrd K b x (upd H p o) := by
  obtain ⟨zs, d, r⟩ := hx
  exact ⟨zs, dp_mut h (noL_tD zs) d, r⟩
theorem evT_P {σ : L2.St} {H : Hp} {tA : TA} {Ps : List (V → Hp → Prop)} (m : ∀ P ∈ Ps, Mono P) (h : EaP tA σ H Ps) (hl : Ps.length ≤ 100000) : EvG (tTup tA) σ H (fun v H' => ∃ p vs, v = .ref p ∧ H' p = some (.tup vs) ∧ AllP H' vs Ps) := fun H1 e Q q =>
  h H1 e _ fun vs H2 e2 hvs => ⟨sz_of (by rw [hvs.len]; exact hl), fun p np => q _ _ (e2.trans (Ex.new np)) ⟨p, vs, rfl, upd_same, hvs.ex (Ex.new np) m⟩⟩
theorem noLs_sn : ∀ ss : List Sent, noLs (ss.map snD) = true
  | [] => rfl
  | s :: r => by
    rw [List.map_cons, noLs, noLs_sn r, snD, noL, noLs, noL_tD]
    simp [noLs, noL]
theorem dpa_app {H : Hp} : ∀ {vs ws : List V} {ds es : List PyData}, DpAll K H vs ds → DpAll K H ws es → DpAll K H (vs ++ ws) (ds ++ es)
  | _, _, _, _, .nil, h => h
  | _, _, _, _, .cons h1 h2, h => .cons h1 (dpa_app h2 h)
/-- each has its name at the first place -/
theorem name_at {α : Type} (D : α → PyData) (nm : α → Str) (hD : ∀ x, ∃ r, D x = .tuple (.str (nm x) :: r)) {H : Hp} {ls : List V} {xs : List α} (all : DpAll K H ls (xs.map D)) {i : Nat} {u : V} (hu : ls[i]? = some u) : ∃ x p zs, x ∈ xs ∧ u = .ref p ∧ SqT K H p zs ∧ atI zs 0 = some (.str (nm x)) := by
  have hi : i < xs.length := by
    have := (List.getElem?_eq_some_iff.mp hu).1
    rw [dpa_len all, List.length_map] at this
    exact this
  have hx : xs[i]? = some xs[i] := List.getElem?_eq_getElem hi
  generalize xs[i] = x at hx
  obtain ⟨y, hy, dy⟩ := dpa_at _ _ _ _ all (show (xs.map D)[i]? = some (D x) by rw [List.getElem?_map, hx]; rfl)
  rw [hu] at hy
  obtain rfl := Option.some.inj hy
  obtain ⟨r, er⟩ := hD x
  rw [er] at dy
  obtain ⟨p, zs, rfl, hp, hzd⟩ := Dp.tup_inv dy
  obtain ⟨z1, r1, rfl, k1, _⟩ := DpAll.cons_inv hzd
  obtain rfl := Dp.str_inv k1
  exact ⟨x, p, _, List.mem_of_getElem? hx, rfl, hp, atI_nat (j := 0) rfl⟩
def spSent (K : PySem.W.Frag) : Sp := fun vs H Q _ => ∃ (bv : V) (b : Bk) (n : Addr) (ns : List Int) (at_ many : Nat), vs = [bv, .ref n, .int (at_ : Int), .int (many : Int)] ∧ Dp K H bv (bkD b) ∧ BkOk b ∧ SqL K H n (ns.map V.int) ∧ Small ns ∧ many ≤ 5 ∧ at_ + 2 * many < ns.length ∧
  ∀ p zs ss H', DpAll K H' zs ((ss : List Sent).map snD) → ss.length ≤ many → (∀ s ∈ ss, OrdOk b s.1 ∧ s.2 ≤ 11) → H p = none → Ex H H' → H' p = some (.lst zs) → Q (.ref p) H'
theorem ok_sent (A : At K mg "_law_sent" s__law_sent) (mz_int : mg "int" = none) (mz_range : mg "range" = none) (mz_len : mg "len" = none) : Dfn P w K mg base 1 "_law_sent" p__law_sent (spSent K) := by
  refine dfn_ok A sc__law_sent (fun _ _ _ _ _ _ us hl => match us, hl with | [_, _, _, _], _ => rfl) (fun vs H Q E h => ?_) (fun f cdv A outer s H vs Q E hr h => ?_)
  · obtain ⟨bv, b, n, ns, at_, many, rfl, _⟩ := h
    rfl
  · obtain ⟨bv, b, n, ns, at_, many, rfl, d, ok, hN, hS, lm, hat, q⟩ := h
    refine ⟨_, (pss_cons (ps_set (i := 4) sc__law_sent.nd rfl (Or.inl rfl) (pe_op op_cat (pe_op op_cat (pe_lc (own := [("one", 8)]) (g := gName 8) (tt := tYes) rfl sc__law_sent.nd (show PI _ _ _ (iList K _) from pi_list (pe_ix (show IxR _ (rIxT K) from ix_tup) (pv 0) pe_int (fun _ _ => rfl))) (blkOk_by (N := N__law_sent) (sc := defScope s__law_sent) (by decide +kernel)) (fun _ _ _ _ _ => (pg_name (i := 8) sc__law_sent.nd rfl (Or.inl rfl))) (fun _ _ _ _ _ => pts_nil) (fun _ _ _ _ _ => (pe_tup (pa_cons pe_str (pa_cons (pe_ix (show IxR _ (rIxT K) from ix_tup) (pv 8) pe_int (fun _ _ => rfl)) pa_nil))))) (pe_lc (own := [("one", 8)]) (g := gName 8) (tt := tYes) rfl sc__law_sent.nd (show PI _ _ _ (iList K _) from pi_list (pe_ix (show IxR _ (rIxT K) from ix_tup) (pv 0) pe_int (fun _ _ => rfl))) (blkOk_by (N := N__law_sent) (sc := defScope s__law_sent) (by decide +kernel)) (fun _ _ _ _ _ => (pg_name (i := 8) sc__law_sent.nd rfl (Or.inl rfl))) (fun _ _ _ _ _ => pts_nil) (fun _ _ _ _ _ => (pe_tup (pa_cons pe_str (pa_cons (pe_ix (show IxR _ (rIxT K) from ix_tup) (pv 8) pe_int (fun _ _ => rfl)) pa_nil)))))) (pe_lst (pa_cons (pe_tup (pa_cons pe_str pa_nil)) pa_nil))))
  (pss_cons (ps_set (i := 5) sc__law_sent.nd rfl (Or.inl rfl) (pe_lst pa_nil))
  (pss_cons (ps_set (i := 6) sc__law_sent.nd rfl (Or.inl rfl) pe_int)
  (pss_cons (ps_for PassesOwn.never rfl (pi_range1 (by rfl) mz_range (pa_cons (pe_op op_mod (pe_callTy call_int1 (by rfl) mz_int (by decide +kernel) (pa_cons (pe_ix (show IxR _ (rIxL K) from ix_list) (pv 1) (pv 2) (fun _ _ => rfl)) pa_nil)) (pe_op op_add (pv 3) pe_int)) pa_nil)) (pg_name (i := 7) sc__law_sent.nd rfl (Or.inl rfl))
    (pss_cons (ps_set (i := 6) sc__law_sent.nd rfl (Or.inl rfl) (pe_op op_add (pv 6) (pe_ix (show IxR _ (rIxL K) from ix_list) (pe_lst (pa_cons pe_int (pa_cons pe_int (pa_cons pe_int (pa_cons pe_int pa_nil))))) (pe_op op_mod (pe_callTy call_int1 (by rfl) mz_int (by decide +kernel) (pa_cons (pe_ix (show IxR _ (rIxL K) from ix_list) (pv 1) (pe_op op_add (pe_op op_add (pv 2) pe_int) (pe_op op_mul pe_int (pv 7))) (fun _ _ => rfl)) pa_nil)) pe_int) (fun _ _ => rfl))))
  (pss_one (ps_expr (show PE _ _ (tBM K "list" _ _ _) from pe_bm PySem.F.plainAttrs_list PySem.F.slot_list_append PySem.F.type_list_append mt_append (pv 5) (pa_cons (pe_tup (pa_cons (pe_ix (show IxR _ (rIxL K) from ix_list) (pv 4) (pe_op op_mod (pe_callTy call_int1 (by rfl) mz_int (by decide +kernel) (pa_cons (pe_ix (show IxR _ (rIxL K) from ix_list) (pv 1) (pe_op op_add (pe_op op_add (pv 2) pe_int) (pe_op op_mul pe_int (pv 7))) (fun _ _ => rfl)) pa_nil)) (pe_callB (show CallR _ _ (rLenS K) from call_len_seq) (by rfl) mz_len PySem.boot_len (pa_cons (pv 4) pa_nil))) (fun _ _ => rfl)) (pa_cons (pv 6) pa_nil))) pa_nil))))))
  (pss_one (ps_ret (pv 5))))))), ?_⟩
    obtain ⟨a, ah, am, ac, aa, ar, ms, cs, als, rs, lv, rfl, pt⟩ := parts_inv d
    have lc : cs.length = b.cmds.length := by rw [dpa_len pt.cmds.2, List.length_map]
    have lr : rs.length = b.rows.length := by rw [dpa_len pt.rows.2, List.length_map]
    have lc3 := ok.cmds.2.1
    have lr1 := ok.rows.1
    have get : ∀ {j : Nat}, j < ns.length → ∃ m : Nat, (ns.map V.int)[j]? = some (.int (m : Int)) := fun {j} hj => by
      have h1 := hS _ (List.getElem_mem hj)
      refine ⟨ns[j].toNat, ?_⟩
      rw [List.getElem?_map, List.getElem?_eq_getElem hj, Int.toNat_of_nonneg h1.1]
      rfl
    refine q_asgG (P := fun v H' => ∃ p xs, v = .ref p ∧ H' p = some (.lst xs) ∧ xs.length = cs.length + rs.length + 1 ∧ ∀ x ∈ xs, IsOrd K b x H') (evG_catQ IsOrd.m (evG_catQ (n := cs.length) (m := rs.length) IsOrd.m (EvG.imp (evG_lcLP (P := IsOrd K b) IsOrd.m IsOrd.mu (ev_op (ev_var rfl) ev_c (rv_ixT pt.top rfl)) pt.cmds.1 (by omega) (fun _ => rfl) fun i u H1 e1 hu => ?m1) fun v H' _ ⟨p, ys, h1, _, h2, h3, h4⟩ => ⟨p, ys, h1, h2, h3, h4⟩)
      (EvG.imp (evG_lcLP (P := IsOrd K b) IsOrd.m IsOrd.mu (ev_op (ev_var rfl) ev_c (rv_ixT pt.top rfl)) pt.rows.1 (by omega) (fun _ => rfl) fun i u H1 e1 hu => ?m2) fun v H' _ ⟨p, ys, h1, _, h2, h3, h4⟩ => ⟨p, ys, h1, h2, h3, h4⟩) (by omega)) (EvG.imp (evL_data (K := K) (ds := [tD [sStop]]) (eaD_cons (evD_tup (eaD_cons (evD_str ev_c) eaD_nil) (by simp)) eaD_nil) (by simp)) fun v H' _ ⟨p, xs, h1, _, h2, h3⟩ => ⟨p, xs, h1, h2, by rw [dpa_len h3]; rfl, fun x hx => ?m3⟩) (by omega)) fun v H1 e1 hv => ?_
    case m1 =>
      obtain ⟨c, p, zs, hc, rfl, hp, h0⟩ := name_at cdD Cd.n (fun c => ⟨_, rfl⟩) pt.cmds.2 hu
      exact EvG.imp (evD_tup (eaD_cons (evD_str ev_c) (eaD_cons (evD_str (ev_op (ev_var rfl) ev_c (rv_ixT (ex_t e1 hp) h0))) eaD_nil)) (by simp)) fun v H' _ h => ⟨[sDo, c.n], h, .inl ⟨c, hc, rfl⟩⟩
    case m2 =>
      obtain ⟨r, p, zs, hr2, rfl, hp, h0⟩ := name_at rwD (fun r : Rw => r.1) (fun r => ⟨_, rfl⟩) pt.rows.2 hu
      exact EvG.imp (evD_tup (eaD_cons (evD_str ev_c) (eaD_cons (evD_str (ev_op (ev_var rfl) ev_c (rv_ixT (ex_t e1 hp) h0))) eaD_nil)) (by simp)) fun v H' _ h => ⟨[sRun, r.1], h, .inr (.inl ⟨r, hr2, rfl⟩)⟩
    case m3 =>
      obtain ⟨y, r, rfl, dd, h3⟩ := DpAll.cons_inv h3
      obtain rfl := DpAll.nil_inv h3
      rw [List.mem_singleton.mp hx]
      exact ⟨[sStop], dd, .inr (.inr rfl)⟩
    obtain ⟨pm, mn, rfl, hpm, lmn, allM⟩ := hv
    refine q_asgL (xs := []) (el_lst ea_nil (by decide)) fun ps H2 nps e2 hps => ?_
    refine q_asg ev_c fun H3 e3 => ?_
    obtain ⟨m0, hm0⟩ := get (j := at_) (by omega)
    have e13 := e2.trans e3
    have nE : ∀ {σ : L2.St} {H4 : Hp} {tb : TE} {j m : Nat}, Ex H1 H4 → σ[1]? = some (some (.ref n)) → Ev tb σ H4 (.int (j : Int)) → (ns.map V.int)[j]? = some (.int (m : Int)) → Ev (tOp (rIxL K) (tVar 1) tb) σ H4 (.int (m : Int)) := fun e hs hb hm => ev_ixI (ev_var hs) hb (ex_l (e1.trans e) hN) (atI_nat hm)
    refine q_forR1 (n := ((m0 % (many + 1) : Nat) : Int)) (ea_cons (ev_is (ev_op (ev_int (ea_cons (nE (j := at_) e13 rfl (ev_var rfl) hm0) ea_nil)) (ev_op (ev_var rfl) ev_c rv_I0) (rv_I (by omega))) (congrArg V.int (by push_cast; rfl))) ea_nil) (by have := Nat.mod_lt m0 (show 0 < many + 1 by omega); omega) (fun i σ' H' => ∃ (t : Nat) (zs : List V) (ss : List Sent) (u7 : Option V), σ' = [some (.ref a), some (.ref n), some (.int (at_ : Int)), some (.int (many : Int)), some (.ref pm), some (.ref ps), some (.int (t : Int)), u7, none] ∧ H' ps = some (.lst zs) ∧ DpAll K H' zs ((ss : List Sent).map snD) ∧ ss.length = i ∧ (∀ s ∈ ss, OrdOk b s.1 ∧ s.2 ≤ 1 + 2 * i) ∧ t ≤ 1 + 2 * i ∧ Ex H1 H') (fun H4 e4 => ⟨1, [], [], none, rfl, (e3.trans e4) _ _ hps, .nil, rfl, fun _ h => (nomatch h), Nat.le_refl _, e13.trans e4⟩) ?hs ?hd
    case hd =>
      rintro σ' H4 ⟨t, zs, ss, u7, rfl, hps4, dz, ls, os, lt, e4⟩
      rw [Int.toNat_natCast] at ls os
      have lk : m0 % (many + 1) ≤ many := Nat.le_of_lt_succ (Nat.mod_lt _ (by omega))
      exact s_ret (ev_var rfl) fun H5 e5 => q ps zs ss H5 (dpa_ex e5 dz) (by omega) (fun s hs => ⟨(os s hs).1, by have := (os s hs).2; omega⟩) (fresh_back e1 nps) ((e1.trans e4).trans e5) (e5 _ _ hps4)
    case hs =>
      rintro i σ' H4 hi ⟨t, zs, ss, u7, rfl, hps4, dz, ls, os, lt, e4⟩
      have lk : m0 % (many + 1) ≤ many := Nat.le_of_lt_succ (Nat.mod_lt _ (by omega))
      have hi5 : i < many := by omega
      obtain ⟨k1, hk1⟩ := get (j := at_ + 1 + 2 * i) (by omega)
      obtain ⟨k2, hk2⟩ := get (j := at_ + 2 + 2 * i) (by omega)
      obtain ⟨w4, hw4, lw⟩ : ∃ w4 : Nat, ([.int 0, .int 0, .int 1, .int 2] : List V)[k1 % 4]? = some (.int (w4 : Int)) ∧ w4 ≤ 2 := by
        have h : k1 % 4 = 0 ∨ k1 % 4 = 1 ∨ k1 % 4 = 2 ∨ k1 % 4 = 3 := by omega
        rcases h with h | h | h | h <;> rw [h]
        · exact ⟨0, rfl, by decide⟩
        · exact ⟨0, rfl, by decide⟩
        · exact ⟨1, rfl, by decide⟩
        · exact ⟨2, rfl, by decide⟩
      have jE : ∀ {σ : L2.St} {H5 : Hp} (c : Nat), σ[2]? = some (some (.int (at_ : Int))) → σ[7]? = some (some (.int (i : Int))) → Ev (tOp (rI0 fun i j => V.int (i + j)) (tOp (rI0 fun i j => V.int (i + j)) (tVar 2) (tC (.int (c : Int)))) (tOp (rI CMul fun i j => V.int (i * j)) (tC (.int 2)) (tVar 7))) σ H5 (.int ((at_ + c + 2 * i : Nat) : Int)) := fun c h2 h7 => ev_is (ev_op (ev_op (ev_var h2) ev_c rv_I0) (ev_op ev_c (ev_var h7) (rv_I (C := CMul) (Or.inl ⟨by decide, by decide⟩))) rv_I0) (congrArg V.int (by omega))
      refine q_asg (v := .int ((t + w4 : Nat) : Int)) (ev_is (ev_op (ev_var rfl) (ev_ixN (i := ((k1 % 4 : Nat) : Int)) (el_lst (ea_cons ev_c (ea_cons ev_c (ea_cons ev_c (ea_cons ev_c ea_nil)))) (by simp)) (ev_is (ev_op (ev_int (ea_cons (nE (j := at_ + 1 + 2 * i) e4 rfl (jE 1 rfl rfl) hk1) ea_nil)) ev_c (rv_I (show (0 : Int) < 4 by decide))) (congrArg V.int (by omega))) (atI_nat hw4)) rv_I0) (congrArg V.int (by omega))) fun H5 e5 => ?_
      have e15 := e4.trans e5
      have hmn : k2 % mn.length < mn.length := Nat.mod_lt _ (by omega)
      refine s_appG (P := fun v H' => ∃ o, Dp K H' v (snD (o, t + w4)) ∧ OrdOk b o) (e5 _ _ hps4) (ev_var rfl) (EvG.imp (evT_P (Ps := [IsOrd K b, IsV (.int ((t + w4 : Nat) : Int))]) ?mm (eaP_cons IsOrd.m (Ev.gi (ev_ixI (i := ((k2 % mn.length : Nat) : Int)) (ev_var rfl) (ev_is (ev_op (ev_int (ea_cons (nE (j := at_ + 2 + 2 * i) e15 rfl (jE 2 rfl rfl) hk2) ea_nil)) (ev_len (ev_var rfl) (sq_of (e15 _ _ hpm))) (rv_I (by omega))) (congrArg V.int (Int.natCast_emod _ _).symm)) (sq_of (e15 _ _ hpm)) (atI_nat (List.getElem?_eq_getElem hmn))) fun H' e' => IsOrd.m _ _ _ (e15.trans e') (allM _ (List.getElem_mem hmn))) (eaP_cons IsV.m (ea_one (ev_var rfl)) eaP_nil)) (by simp)) ?sn) (by rw [dpa_len dz, List.length_map]; omega) fun v H6 e6 hv => ?_
      case mm =>
        intro P hP
        simp only [List.mem_cons, List.not_mem_nil, or_false] at hP
        rcases hP with rfl | rfl
        · exact IsOrd.m
        · exact IsV.m
      case sn =>
        rintro v H' _ ⟨p, vs, rfl, hp, all⟩
        cases all with | cons a1 all =>
        cases all with | cons a2 all =>
        cases all
        obtain rfl := a2
        obtain ⟨o, d1, oo⟩ := a1
        exact ⟨o, .tup (st_of hp) (.cons d1 (.cons (.int _) .nil)), oo⟩
      obtain ⟨o, dv, oo⟩ := hv
      have hps6 := (e5.trans e6) _ _ hps4
      refine ⟨t + w4, zs ++ [v], ss ++ [(o, t + w4)], _, rfl, upd_same, ?_, by rw [List.length_append, ls]; rfl, fun s hs => ?_, by omega, Ex.mut ((e4.trans e5).trans e6) nps⟩
      · rw [List.map_append]
        exact dpa_app (dpa_mut hps6 (noLs_sn ss) (dpa_ex (e5.trans e6) dz)) (.cons (dp_mut hps6 (by simp [snD, noL, noLs, noL_tD]) dv) .nil)
      · rcases List.mem_append.mp hs with h | h
        · exact ⟨(os s h).1, by have := (os s h).2; omega⟩
        · rw [List.mem_singleton.mp h]; exact ⟨oo, by show t + w4 ≤ _; omega⟩

/-! ### the standing behind a tick -/
def oV : Option Str → V
  | none => .non
  | some s => .str s
def RowOk (b : Bk) (row : Option Str) (pl lf : Nat) : Prop := match row with
  | none => True
  | some r => ∃ rw ∈ b.rows, rw.1 = r ∧ pl < rw.2.length ∧ 1 ≤ lf
theorem dp_oV {H : Hp} : ∀ o : Option Str, Dp K H (oV o) (oD o)
  | none => .non
  | some _ => .str _
theorem oV_of {H : Hp} {v : V} {o : Option Str} (h : Dp K H v (oD o)) : v = oV o := by
  cases o with
  | none => cases h; rfl
  | some s => cases h; rfl
theorem rv_notN0 {H : Hp} {x : V} : RV (fun x y H Q => y = .non ∧ Q (.bl (!decide (x = .non))) H) x .non H (.bl (!decide (x = .non))) := fun H1 _ Q q => ⟨rfl, q H1 (Ex.refl H1)⟩
theorem st_inv {H : Hp} {v : V} {st : Sg} (d : Dp K H v (sgD st)) : ∃ a ph, v = .ref a ∧ SqT K H a [.str st.m, .ref ph, oV st.row, .int (st.place : Int), .int (st.left : Int), .int (st.sil : Int)] ∧ SqT K H ph (st.on.map V.str) := by
  obtain ⟨a, xs, rfl, hs, hd⟩ := Dp.tup_inv d
  obtain ⟨v1, r1, rfl, d1, hd⟩ := DpAll.cons_inv hd
  obtain ⟨v2, r2, rfl, d2, hd⟩ := DpAll.cons_inv hd
  obtain ⟨v3, r3, rfl, d3, hd⟩ := DpAll.cons_inv hd
  obtain ⟨v4, r4, rfl, d4, hd⟩ := DpAll.cons_inv hd
  obtain ⟨v5, r5, rfl, d5, hd⟩ := DpAll.cons_inv hd
  obtain ⟨v6, r6, rfl, d6, hd⟩ := DpAll.cons_inv hd
  obtain rfl := DpAll.nil_inv hd
  obtain rfl := Dp.str_inv d1
  obtain ⟨ph, rfl, hp⟩ := texts_of_dp d2
  obtain rfl := oV_of d3
  obtain rfl := Dp.int_inv d4
  obtain rfl := Dp.int_inv d5
  obtain rfl := Dp.int_inv d6
  exact ⟨a, ph, rfl, hs, hp⟩
theorem q_unt6 {σ : L2.St} {H : Hp} {te : TE} {tz : TS} {D : Ends} {a : Addr} {i j l m n o : Nat} {x y z v w u : V} (h : Ev te σ H (.ref a)) (hs : SqT K H a [x, y, z, v, w, u]) (k : ∀ H1, Ex H H1 → tz D ((((((σ.set i (some x)).set j (some y)).set l (some z)).set m (some v)).set n (some w)).set o (some u)) H1) :
    tSeq (tAsg te (gTup K 6 (gCons (gName i) (gCons (gName j) (gCons (gName l) (gCons (gName m) (gCons (gName n) (gCons (gName o) gNil)))))))) tz D σ H :=
  h H (Ex.refl H) _ fun H1 e => ⟨a, _, rfl, ex_t e hs, rfl, _, _, rfl, _, _, rfl, _, _, rfl, _, _, rfl, _, _, rfl, _, _, rfl, rfl, k H1 e⟩
theorem s_unp2 {σ : L2.St} {H : Hp} {te : TE} {D : Ends} {i j : Nat} {x y : V} (h : EvU te σ H [x, y]) (k : ∀ H1, Ex H H1 → D.nx ((σ.set i (some x)).set j (some y)) H1) : tAsg te (gTup K 2 (gCons (gName i) (gCons (gName j) gNil))) D σ H :=
  h H (Ex.refl H) _ fun p H1 _ e hp => ⟨p, _, rfl, st_of hp, rfl, _, _, rfl, _, _, rfl, rfl, k H1 e⟩
theorem s_unp4 {σ : L2.St} {H : Hp} {te : TE} {D : Ends} {i j l m : Nat} {x y z v : V} (h : EvU te σ H [x, y, z, v]) (k : ∀ H1, Ex H H1 → D.nx ((((σ.set i (some x)).set j (some y)).set l (some z)).set m (some v)) H1) : tAsg te (gTup K 4 (gCons (gName i) (gCons (gName j) (gCons (gName l) (gCons (gName m) gNil))))) D σ H :=
  h H (Ex.refl H) _ fun p H1 _ e hp => ⟨p, _, rfl, st_of hp, rfl, _, _, rfl, _, _, rfl, _, _, rfl, _, _, rfl, rfl, k H1 e⟩
theorem s_unG2 {σ : L2.St} {H : Hp} {te : TE} {D : Ends} {i j : Nat} {P : V → Hp → Prop} (h : EvG te σ H P) (hp : ∀ v H1, Ex H H1 → P v H1 → ∃ p x y, v = .ref p ∧ H1 p = some (.tup [x, y]) ∧ D.nx ((σ.set i (some x)).set j (some y)) H1) : tAsg te (gTup K 2 (gCons (gName i) (gCons (gName j) gNil))) D σ H :=
  h H (Ex.refl H) _ fun v H1 e hv => by
    obtain ⟨p, x, y, ev, hp1, k⟩ := hp v H1 e hv
    exact ⟨p, _, ev, st_of hp1, rfl, _, _, rfl, _, _, rfl, rfl, k⟩
theorem IsPart.m {b : Bk} : Mono (IsPart K b) := fun _ _ _ e ⟨x, y, z, d, r⟩ => ⟨x, y, z, dp_ex e d, r⟩
/-- an effect is asked for -/
theorem evG_eff {σ : L2.St} {H : Hp} {E : XK} {t0 t1 t2 t4 : TE} {bv : V} {b : Bk} {m : Str} {ph : Addr} {hd : List Str} (d : Dp K H bv (bkD b)) (ok : BkOk b) (h0 : Ev t0 σ H bv) (h1 : Ev t1 σ H (.str m)) (h2 : Ev t2 σ H (.ref ph)) (hp : SqT K H ph (hd.map V.str)) (gm : Gt 4 m) (fh : Few hd) (h4 : EvG t4 σ H (IsPart K b)) :
    EvG (tCall (spEff K) [] E (tCons t0 (tCons t1 (tCons t2 (tCons t4 tNil))))) σ H (IsEff K) :=
  evG_callP (Ps := [IsV bv, IsV (.str m), IsV (.ref ph), IsPart K b]) (eaP_cons IsV.m (ea_one h0) (eaP_cons IsV.m (ea_one h1) (eaP_cons IsV.m (ea_one h2) (eaP_cons IsPart.m h4 eaP_nil)))) fun vs H3 e3 hv => by
    cases hv with | cons a1 hv =>
    cases hv with | cons a2 hv =>
    cases hv with | cons a3 hv =>
    cases hv with | cons a4 hv =>
    cases hv
    obtain rfl := a1
    obtain rfl := a2
    obtain rfl := a3
    exact SpEff (dp_ex e3 d) ok gm (.tup (ex_t e3 hp) (dpa_texts hd)) fh a4
/-- a command is asked for -/
theorem evG_cmd {σ : L2.St} {H : Hp} {E : XK} {t0 t1 t2 t4 : TE} {bv : V} {b : Bk} {m n : Str} {ph : Addr} {hd : List Str} (d : Dp K H bv (bkD b)) (ok : BkOk b) (h0 : Ev t0 σ H bv) (h1 : Ev t1 σ H (.str m)) (h2 : Ev t2 σ H (.ref ph)) (hp : SqT K H ph (hd.map V.str)) (gm : Gt 4 m) (fh : Few hd) (h4 : Ev t4 σ H (.str n)) (hn : ∃ c ∈ b.cmds, c.n = n) :
    EvG (tCall (spCmd K) [] E (tCons t0 (tCons t1 (tCons t2 (tCons t4 tNil))))) σ H (IsEff K) :=
  evG_callP (Ps := [IsV bv, IsV (.str m), IsV (.ref ph), IsV (.str n)]) (eaP_cons IsV.m (ea_one h0) (eaP_cons IsV.m (ea_one h1) (eaP_cons IsV.m (ea_one h2) (eaP_cons IsV.m (ea_one h4) eaP_nil)))) fun vs H3 e3 hv => by
    cases hv with | cons a1 hv =>
    cases hv with | cons a2 hv =>
    cases hv with | cons a3 hv =>
    cases hv with | cons a4 hv =>
    cases hv
    obtain rfl := a1
    obtain rfl := a2
    obtain rfl := a3
    obtain rfl := a4
    exact SpCmd (dp_ex e3 d) ok gm (.tup (ex_t e3 hp) (dpa_texts hd)) fh hn
/-- the effect that enters the first mode -/
theorem evG_enter {σ : L2.St} {H : Hp} {t0 : TE} {b : Bk} {a ah am ac aa ar : Addr} {ms cs als rs : List V} {lv : V} (pt : Pt K H b a ah am ac aa ar ms cs als rs lv) (ok : BkOk b) (h0 : Ev t0 σ H (.ref a)) :
    EvG (tTup (tCons (tTup tNil) (tCons (tTup tNil) (tCons (tOp (rIxT K) (tOp (rIxL K) (tOp (rIxT K) t0 (tC (.int 1))) (tC (.int 0))) (tC (.int 0))) tNil)))) σ H (IsPart K b) := by
  obtain ⟨m0, hm0⟩ : ∃ m0, b.modes[0]? = some m0 := by
    have := ok.modes.1
    cases e : b.modes with
    | nil => exact absurd e this
    | cons x r => exact ⟨x, rfl⟩
  obtain ⟨u, hu, du⟩ := dpa_at _ _ _ _ pt.modes.2 (show (b.modes.map mdD)[0]? = some (mdD m0) by rw [List.getElem?_map, hm0]; rfl)
  obtain ⟨p0, zs, rfl, hz, hzd⟩ := Dp.tup_inv du
  obtain ⟨z1, r1, rfl, k1, hzd⟩ := DpAll.cons_inv hzd
  obtain ⟨z2, r2, rfl, _, hzd⟩ := DpAll.cons_inv hzd
  obtain ⟨z3, r3, rfl, _, hzd⟩ := DpAll.cons_inv hzd
  obtain rfl := DpAll.nil_inv hzd
  obtain rfl := Dp.str_inv k1
  exact EvG.imp (evD_tup (eaD_cons (evD_tup eaD_nil (by simp)) (eaD_cons (evD_tup eaD_nil (by simp)) (eaD_cons (evD_str (ev_op (ev_ixI (ev_op h0 ev_c (rv_ixT pt.top rfl)) ev_c pt.modes.1 (atI_nat (j := 0) hu)) ev_c (rv_ixT hz rfl))) eaD_nil))) (by simp)) fun v H' _ h => ⟨[], [], some m0.1, h, ⟨Nat.zero_le _, fun _ h => (nomatch h)⟩, ⟨Nat.zero_le _, fun _ h => (nomatch h)⟩, ⟨m0, List.mem_of_getElem? hm0, rfl⟩⟩
/-- the steps of a row -/
theorem ev_steps {σ : L2.St} {H : Hp} {tl te2 : TE} {j : Nat} {vs : List Nat} {ar : Addr} {rs : List V} {b : Bk} {z : Str} {rw : Rw} (hl : Ev tl σ H (.ref ar)) (hs : SqL K H ar rs) (all : DpAll K H rs (b.rows.map rwD)) (ok : BkOk b) (hr : rw ∈ b.rows) (hz : rw.1 = z)
    (hw : ∀ y, wipe ((wipe σ vs).set j (some y)) vs = wipe σ vs) (hj : ∀ u, ((wipe σ vs).set j (some u))[j]? = some (some u)) (h2 : ∀ u H1, Ex H H1 → Ev te2 ((wipe σ vs).set j (some u)) H1 (.str z)) :
    ∃ as ss, SqT K H as ss ∧ DpAll K H ss (rw.2.map stepD) ∧ Ev (tOp (rIxL K) (tLc (iList K tl) (gName j) (tTest (tOp rEq (tOp (rIxT K) (tVar j) (tC (.int 0))) te2)) (tOp (rIxT K) (tVar j) (tC (.int 1))) vs) (tC (.int 0))) σ H (.ref as) := by
  have l1 := ok.rows.1
  have e : b.rows = [rw] := by
    cases e : b.rows with
    | nil => rw [e] at hr; exact nomatch hr
    | cons x r =>
      rw [e] at hr l1
      cases r with
      | nil => rw [List.mem_singleton.mp hr]
      | cons _ _ => simp at l1
  rw [e] at all
  obtain ⟨u, r, rfl, du, all2⟩ := DpAll.cons_inv all
  obtain rfl := DpAll.nil_inv all2
  have du' := du
  obtain ⟨p, zs, rfl, hp, hzd⟩ := Dp.tup_inv du
  obtain ⟨z1, r1, rfl, k1, hzd⟩ := DpAll.cons_inv hzd
  obtain ⟨z2, r2, rfl, k2, hzd⟩ := DpAll.cons_inv hzd
  obtain rfl := DpAll.nil_inv hzd
  obtain ⟨as, ss, rfl, ha, hss⟩ := Dp.tup_inv k2
  obtain ⟨k, x, u, hu, hx, en, _, fnd⟩ := ev_find rwD (fun r : Rw => r.1) (fun r => ⟨_, rfl⟩) (te := tOp (rIxT K) (tVar j) (tC (.int 1))) (fun _ => V.ref as) hl hs all (by simp) ⟨rw, List.mem_singleton.mpr rfl, hz⟩ hw hj h2 (fun i u H1 e1 hu => by
    cases i with
    | succ i => cases hu
    | zero =>
      cases hu
      exact ev_op (ev_var (hj _)) ev_c (rv_ixT (ex_t e1 hp) rfl))
  exact ⟨as, ss, ha, hss, fnd⟩
theorem step_at {H : Hp} {ss : List V} {xs : List (Nat × Str)} (all : DpAll K H ss (xs.map stepD)) {i : Nat} (hi : i < xs.length) : ∃ s p, s ∈ xs ∧ ss[i]? = some (.ref p) ∧ SqT K H p [.int (s.1 : Int), .str s.2] := by
  obtain ⟨y, hy, dy⟩ := dpa_at _ _ _ _ all (show (xs.map stepD)[i]? = some (stepD xs[i]) by rw [List.getElem?_map, List.getElem?_eq_getElem hi]; rfl)
  obtain ⟨p, zs, rfl, hz, hzd⟩ := Dp.tup_inv dy
  obtain ⟨z1, r1, rfl, k1, hzd⟩ := DpAll.cons_inv hzd
  obtain ⟨z2, r2, rfl, k2, hzd⟩ := DpAll.cons_inv hzd
  obtain rfl := DpAll.nil_inv hzd
  obtain rfl := Dp.int_inv k1
  obtain rfl := Dp.str_inv k2
  exact ⟨_, p, List.getElem_mem hi, hy, hz⟩
/-- the names of a tick -/
def TkP (K : PySem.W.Frag) (b : Bk) (H : Hp) (x0 x1 x2 x3 : V) (F : Option V → Option V → Prop) (σ' : L2.St) (H' : Hp) : Prop :=
  ∃ (m : Str) (ph : Addr) (hd : List Str) (row : Option Str) (pl lf sl : Nat) (u10 u11 u12 : Option V), σ' = [some x0, some x1, some x2, some x3, some (.str m), some (.ref ph), some (oV row), some (.int (pl : Int)), some (.int (lf : Int)), some (.int (sl : Int)), u10, u11, u12, none] ∧
    SqT K H' ph (hd.map V.str) ∧ Gt 4 m ∧ Few hd ∧ RowOk b row pl lf ∧ F u11 u12 ∧ Ex H H'
def spTick (K : PySem.W.Frag) : Sp := fun vs H Q _ => ∃ (bv sv lv ov : V) (b : Bk), vs = [bv, sv, lv, ov] ∧ Dp K H bv (bkD b) ∧ BkOk b ∧ IsSt K b sv H ∧ IsLotV K 2 lv H ∧ (ov = .non ∨ IsOrd K b ov H) ∧ ∀ v H', IsSt K b v H' → Ex H H' → Q v H'
theorem SpTick {H : Hp} {bv sv lv ov : V} {b : Bk} (d : Dp K H bv (bkD b)) (ok : BkOk b) (hs : IsSt K b sv H) (hl : IsLotV K 2 lv H) (ho : ov = .non ∨ IsOrd K b ov H) : SpG (spTick K) [bv, sv, lv, ov] H (IsSt K b) := fun H1 e Q q E => ⟨bv, sv, lv, ov, b, rfl, dp_ex e d, ok, IsSt.m _ _ _ e hs, IsLotV.m _ _ _ e hl, ho.imp id (IsOrd.m _ _ _ e), fun v H' h e' => q v H' e' h⟩

theorem ev_lenT {σ : L2.St} {H : Hp} {ta : TE} {p : Addr} {xs : List V} (ha : Ev ta σ H (.ref p)) (h : SqT K H p xs) : Ev (tCB (rLenS K) (tCons ta tNil)) σ H (.int (xs.length : Int)) := fun H1 e Q q =>
  ha H1 e _ fun H2 e2 => ⟨p, xs, rfl, Or.inr (ex_t (e.trans e2) h), q H2 e2⟩
theorem Pt.ex {H H1 : Hp} {b : Bk} {a ah am ac aa ar : Addr} {ms cs als rs : List V} {lv : V} (e : Ex H H1) (p : Pt K H b a ah am ac aa ar ms cs als rs lv) : Pt K H1 b a ah am ac aa ar ms cs als rs lv :=
  ⟨ex_t e p.top, ex_l e p.holds, ⟨ex_l e p.modes.1, dpa_ex e p.modes.2⟩, ⟨ex_l e p.cmds.1, dpa_ex e p.cmds.2⟩, ⟨ex_l e p.als.1, dpa_ex e p.als.2⟩, ⟨ex_l e p.rows.1, dpa_ex e p.rows.2⟩, dp_ex e p.lim⟩
theorem al_at {H : Hp} {als : List V} {xs : List Al} (all : DpAll K H als (xs.map alD)) {i : Nat} {u : V} (hu : als[i]? = some u) : ∃ c p z2 z3 z4, c ∈ xs ∧ u = .ref p ∧ SqT K H p [.str c.n, z2, z3, z4] ∧ Dp K H z2 (tD c.on) ∧ Dp K H z3 (tD c.off) ∧ Dp K H z4 (oD c.to) := by
  have hi : i < xs.length := by
    have := (List.getElem?_eq_some_iff.mp hu).1
    rw [dpa_len all, List.length_map] at this
    exact this
  obtain ⟨y, hy, dy⟩ := dpa_at _ _ _ _ all (show (xs.map alD)[i]? = some (alD xs[i]) by rw [List.getElem?_map, List.getElem?_eq_getElem hi]; rfl)
  rw [hu] at hy
  obtain rfl := Option.some.inj hy
  obtain ⟨p, zs, rfl, hz, hzd⟩ := Dp.tup_inv dy
  obtain ⟨z1, r1, rfl, k1, hzd⟩ := DpAll.cons_inv hzd
  obtain ⟨z2, r2, rfl, k2, hzd⟩ := DpAll.cons_inv hzd
  obtain ⟨z3, r3, rfl, k3, hzd⟩ := DpAll.cons_inv hzd
  obtain ⟨z4, r4, rfl, k4, hzd⟩ := DpAll.cons_inv hzd
  obtain rfl := DpAll.nil_inv hzd
  obtain rfl := Dp.str_inv k1
  exact ⟨_, p, z2, z3, z4, List.getElem_mem hi, rfl, hz, k2, k3, k4⟩
theorem q_steps {σ : L2.St} {H : Hp} {tl te2 : TE} {tz : TS} {D : Ends} {i j : Nat} {vs : List Nat} {ar : Addr} {rs : List V} {b : Bk} {z : Str} {rw : Rw} (hl : Ev tl σ H (.ref ar)) (hs : SqL K H ar rs) (all : DpAll K H rs (b.rows.map rwD)) (ok : BkOk b) (hr : rw ∈ b.rows) (hz : rw.1 = z)
    (hw : ∀ y, wipe ((wipe σ vs).set j (some y)) vs = wipe σ vs) (hj : ∀ u, ((wipe σ vs).set j (some u))[j]? = some (some u)) (h2 : ∀ u H1, Ex H H1 → Ev te2 ((wipe σ vs).set j (some u)) H1 (.str z))
    (k : ∀ as ss H1, Ex H H1 → SqT K H1 as ss → DpAll K H1 ss (rw.2.map stepD) → tz D (σ.set i (some (.ref as))) H1) :
    tSeq (tAsg (tOp (rIxL K) (tLc (iList K tl) (gName j) (tTest (tOp rEq (tOp (rIxT K) (tVar j) (tC (.int 0))) te2)) (tOp (rIxT K) (tVar j) (tC (.int 1))) vs) (tC (.int 0))) (gName i)) tz D σ H := by
  obtain ⟨as, ss, ha, hss, fnd⟩ := ev_steps hl hs all ok hr hz hw hj h2
  exact q_asg fnd fun H1 e1 => k as ss H1 e1 (ex_t e1 ha) (dpa_ex e1 hss)
theorem ok_tick (A : At K mg "_law_tick" s__law_tick) (mz_len : mg "len" = none) (D__law_effect : Dfn P w K mg base 1 "_law_effect" p__law_effect (spEff K)) (D__law_command : Dfn P w K mg base 2 "_law_command" p__law_command (spCmd K)) : Dfn P w K mg base 3 "_law_tick" p__law_tick (spTick K) := by
  refine dfn_ok A sc__law_tick (fun _ _ _ _ _ _ us hl => match us, hl with | [_, _, _, _], _ => rfl) (fun vs H Q E h => ?_) (fun f cdv A outer s H vs Q E hr h => ?_)
  · obtain ⟨bv, sv, lv, ov, b, rfl, _⟩ := h
    rfl
  · obtain ⟨bv, sv, lv, ov, b, rfl, d, ok, ⟨st, dst, gm, fon, ro⟩, ⟨ys, dl, ly, gy⟩, ho, q⟩ := h
    refine ⟨_, (pss_cons (ps_asg (pv 1) (show PG _ _ (gTup K 6 _) from pg_tup rfl (pgs_cons (pg_name (i := 4) sc__law_tick.nd rfl (Or.inl rfl)) (pgs_cons (pg_name (i := 5) sc__law_tick.nd rfl (Or.inl rfl)) (pgs_cons (pg_name (i := 6) sc__law_tick.nd rfl (Or.inr rfl)) (pgs_cons (pg_name (i := 7) sc__law_tick.nd rfl (Or.inl rfl)) (pgs_cons (pg_name (i := 8) sc__law_tick.nd rfl (Or.inl rfl)) (pgs_cons (pg_name (i := 9) sc__law_tick.nd rfl (Or.inl rfl)) pgs_nil))))))))
  (pss_cons (ps_for PassesOwn.never rfl (show PI _ _ _ (iList K _) from pi_list (pe_ix (show IxR _ (rIxT K) from ix_tup) (pv 0) pe_int (fun _ _ => rfl))) (pg_name (i := 10) sc__law_tick.nd rfl (Or.inl rfl))
    (pss_one (ps_if (pt_cmpR (show OpR _ _ (rIn K false) from op_in_seq) (pe_ix (show IxR _ (rIxT K) from ix_tup) (pv 10) pe_int (fun _ _ => rfl)) (pv 2) (by first | exact nomark _ | rfl))
    (pss_cons (ps_asg (pe_d D__law_effect (hr.mono (by decide)) (pa_cons (pv 0) (pa_cons (pv 4) (pa_cons (pv 5) (pa_cons (pe_slice (show SlR _ (rSlT K) from sl_tup) (pv 10) (po_some pe_int) po_none) pa_nil))))) (show PG _ _ (gTup K 2 _) from pg_tup rfl (pgs_cons (pg_name (i := 4) sc__law_tick.nd rfl (Or.inl rfl)) (pgs_cons (pg_name (i := 5) sc__law_tick.nd rfl (Or.inl rfl)) pgs_nil))))
  (pss_one (ps_set (i := 6) sc__law_tick.nd rfl (Or.inr rfl) pe_non)))
    pss_nil)))
  (pss_cons (ps_set (i := 11) sc__law_tick.nd rfl (Or.inl rfl) pe_bl)
  (pss_cons (ps_if (pt_cmpR op_notN (pv 3) pe_non (by first | exact nomark _ | rfl))
    (pss_cons (ps_set (i := 9) sc__law_tick.nd rfl (Or.inl rfl) pe_int)
  (pss_one (ps_if (pt_cmpR op_eq (pe_ix (show IxR _ (rIxT K) from ix_tup) (pv 3) pe_int (fun _ _ => rfl)) pe_str (by first | exact nomark _ | rfl))
    (pss_one (ps_asg (pe_d D__law_command (hr.mono (by decide)) (pa_cons (pv 0) (pa_cons (pv 4) (pa_cons (pv 5) (pa_cons (pe_ix (show IxR _ (rIxT K) from ix_tup) (pv 3) pe_int (fun _ _ => rfl)) pa_nil))))) (show PG _ _ (gTup K 2 _) from pg_tup rfl (pgs_cons (pg_name (i := 4) sc__law_tick.nd rfl (Or.inl rfl)) (pgs_cons (pg_name (i := 5) sc__law_tick.nd rfl (Or.inl rfl)) pgs_nil)))))
    (pss_one (ps_if (pt_cmpR op_eq (pe_ix (show IxR _ (rIxT K) from ix_tup) (pv 3) pe_int (fun _ _ => rfl)) pe_str (by first | exact nomark _ | rfl))
    (pss_cons (ps_set (i := 12) sc__law_tick.nd rfl (Or.inl rfl) (pe_ix (show IxR _ (rIxL K) from ix_list) (pe_lc (own := [("one", 13)]) (g := gName 13) rfl sc__law_tick.nd (show PI _ _ _ (iList K _) from pi_list (pe_ix (show IxR _ (rIxT K) from ix_tup) (pv 0) pe_int (fun _ _ => rfl))) (blkOk_by (N := N__law_tick) (sc := defScope s__law_tick) (by decide +kernel)) (fun _ _ _ _ _ => (pg_name (i := 13) sc__law_tick.nd rfl (Or.inl rfl))) (fun _ _ _ _ _ => (pts_one (pt_cmpR op_eq (pe_ix (show IxR _ (rIxT K) from ix_tup) (pv 13) pe_int (fun _ _ => rfl)) (pe_ix (show IxR _ (rIxT K) from ix_tup) (pv 3) pe_int (fun _ _ => rfl)) (by first | exact nomark _ | rfl)))) (fun _ _ _ _ _ => (pe_ix (show IxR _ (rIxT K) from ix_tup) (pv 13) pe_int (fun _ _ => rfl)))) pe_int (fun _ _ => rfl)))
  (pss_one (ps_asg (pe_tup (pa_cons (pe_ix (show IxR _ (rIxT K) from ix_tup) (pv 3) pe_int (fun _ _ => rfl)) (pa_cons pe_int (pa_cons (pe_ix (show IxR _ (rIxT K) from ix_tup) (pe_ix (show IxR _ (rIxT K) from ix_tup) (pv 12) pe_int (fun _ _ => rfl)) pe_int (fun _ _ => rfl)) (pa_cons pe_bl pa_nil))))) (show PG _ _ (gTup K 4 _) from pg_tup rfl (pgs_cons (pg_name (i := 6) sc__law_tick.nd rfl (Or.inr rfl)) (pgs_cons (pg_name (i := 7) sc__law_tick.nd rfl (Or.inl rfl)) (pgs_cons (pg_name (i := 8) sc__law_tick.nd rfl (Or.inl rfl)) (pgs_cons (pg_name (i := 11) sc__law_tick.nd rfl (Or.inl rfl)) pgs_nil))))))))
    (pss_one (ps_set (i := 6) sc__law_tick.nd rfl (Or.inr rfl) pe_non)))))))
    (pss_one (ps_if (pt_cmpR op_notN (pe_ix (show IxR _ (rIxT K) from ix_tup) (pv 0) pe_int (fun _ _ => rfl)) pe_non (by first | exact nomark _ | rfl))
    (pss_cons (ps_set (i := 9) sc__law_tick.nd rfl (Or.inl rfl) (pe_op op_add (pv 9) pe_int))
  (pss_one (ps_if (pt_cmpR op_eq (pv 9) (pe_ix (show IxR _ (rIxT K) from ix_tup) (pv 0) pe_int (fun _ _ => rfl)) (by first | exact nomark _ | rfl))
    (pss_cons (ps_asg (pe_d D__law_effect (hr.mono (by decide)) (pa_cons (pv 0) (pa_cons (pv 4) (pa_cons (pv 5) (pa_cons (pe_tup (pa_cons (pe_tup pa_nil) (pa_cons (pe_tup pa_nil) (pa_cons (pe_ix (show IxR _ (rIxT K) from ix_tup) (pe_ix (show IxR _ (rIxL K) from ix_list) (pe_ix (show IxR _ (rIxT K) from ix_tup) (pv 0) pe_int (fun _ _ => rfl)) pe_int (fun _ _ => rfl)) pe_int (fun _ _ => rfl)) pa_nil)))) pa_nil))))) (show PG _ _ (gTup K 2 _) from pg_tup rfl (pgs_cons (pg_name (i := 4) sc__law_tick.nd rfl (Or.inl rfl)) (pgs_cons (pg_name (i := 5) sc__law_tick.nd rfl (Or.inl rfl)) pgs_nil))))
  (pss_one (ps_asg (pe_tup (pa_cons pe_non (pa_cons pe_int pa_nil))) (show PG _ _ (gTup K 2 _) from pg_tup rfl (pgs_cons (pg_name (i := 6) sc__law_tick.nd rfl (Or.inr rfl)) (pgs_cons (pg_name (i := 9) sc__law_tick.nd rfl (Or.inl rfl)) pgs_nil))))))
    pss_nil)))
    pss_nil)))
  (pss_cons (ps_if (PW.pt (pw_and (pt_cmpR op_notN (pv 6) pe_non (by first | exact nomark _ | rfl)) (pw_and1 (pt_not (pt_val (pv 11))))))
    (pss_cons (ps_set (i := 12) sc__law_tick.nd rfl (Or.inl rfl) (pe_ix (show IxR _ (rIxL K) from ix_list) (pe_lc (own := [("one", 13)]) (g := gName 13) rfl sc__law_tick.nd (show PI _ _ _ (iList K _) from pi_list (pe_ix (show IxR _ (rIxT K) from ix_tup) (pv 0) pe_int (fun _ _ => rfl))) (blkOk_by (N := N__law_tick) (sc := defScope s__law_tick) (by decide +kernel)) (fun _ _ _ _ _ => (pg_name (i := 13) sc__law_tick.nd rfl (Or.inl rfl))) (fun _ _ _ _ _ => (pts_one (pt_cmpR op_eq (pe_ix (show IxR _ (rIxT K) from ix_tup) (pv 13) pe_int (fun _ _ => rfl)) (pv 6) (by first | exact nomark _ | rfl)))) (fun _ _ _ _ _ => (pe_ix (show IxR _ (rIxT K) from ix_tup) (pv 13) pe_int (fun _ _ => rfl)))) pe_int (fun _ _ => rfl)))
  (pss_cons (ps_set (i := 8) sc__law_tick.nd rfl (Or.inl rfl) (pe_op op_sub (pv 8) pe_int))
  (pss_one (ps_if (pt_cmpR op_eq (pv 8) pe_int (by first | exact nomark _ | rfl))
    (pss_cons (ps_asg (pe_d D__law_command (hr.mono (by decide)) (pa_cons (pv 0) (pa_cons (pv 4) (pa_cons (pv 5) (pa_cons (pe_ix (show IxR _ (rIxT K) from ix_tup) (pe_ix (show IxR _ (rIxT K) from ix_tup) (pv 12) (pv 7) (fun _ _ => rfl)) pe_int (fun _ _ => rfl)) pa_nil))))) (show PG _ _ (gTup K 2 _) from pg_tup rfl (pgs_cons (pg_name (i := 4) sc__law_tick.nd rfl (Or.inl rfl)) (pgs_cons (pg_name (i := 5) sc__law_tick.nd rfl (Or.inl rfl)) pgs_nil))))
  (pss_cons (ps_set (i := 7) sc__law_tick.nd rfl (Or.inl rfl) (pe_op op_add (pv 7) pe_int))
  (pss_one (ps_if (pt_cmpR op_eq (pv 7) (pe_callB (show CallR _ _ (rLenS K) from call_len_seq) (by rfl) mz_len PySem.boot_len (pa_cons (pv 12) pa_nil)) (by first | exact nomark _ | rfl))
    (pss_one (ps_set (i := 6) sc__law_tick.nd rfl (Or.inr rfl) pe_non))
    (pss_one (ps_set (i := 8) sc__law_tick.nd rfl (Or.inl rfl) (pe_ix (show IxR _ (rIxT K) from ix_tup) (pe_ix (show IxR _ (rIxT K) from ix_tup) (pv 12) (pv 7) (fun _ _ => rfl)) pe_int (fun _ _ => rfl))))))))
    pss_nil))))
    pss_nil)
  (pss_cons (ps_if (pt_cmpR op_isN (pv 6) pe_non (by first | exact nomark _ | rfl))
    (pss_one (ps_ret (pe_tup (pa_cons (pv 4) (pa_cons (pv 5) (pa_cons pe_non (pa_cons pe_int (pa_cons pe_int (pa_cons (pv 9) pa_nil)))))))))
    pss_nil)
  (pss_one (ps_ret (pe_tup (pa_cons (pv 4) (pa_cons (pv 5) (pa_cons (pv 6) (pa_cons (pv 7) (pa_cons (pv 8) (pa_cons (pv 9) pa_nil))))))))))))))), ?_⟩
    obtain ⟨a, ah, am, ac, aa, ar, ms, cs, als, rs, lmv, rfl, pt⟩ := parts_inv d
    obtain ⟨sa, ph0, rfl, hsa, hph0⟩ := st_inv dst
    obtain ⟨la, rfl, hla⟩ := texts_of_dp dl
    obtain ⟨m0, on0, row0, pl0, lf0, sl0⟩ := st
    refine q_unt6 (ev_var rfl) hsa fun H1 e1 => ?_
    refine q_forLn (a := aa) (xs := als) (ev_op (ev_var rfl) ev_c (rv_ixT (ex_t e1 pt.top) rfl)) (ex_l e1 pt.als.1) (fun _ => TkP K b H (.ref a) (.ref sa) (.ref la) ov fun u11 u12 => u11 = none ∧ u12 = none) (fun H2 e2 => ⟨m0, ph0, on0, row0, pl0, lf0, sl0, none, none, none, rfl, ex_t (e1.trans e2) hph0, gm, fon, ro, ⟨rfl, rfl⟩, e1.trans e2⟩) (fun _ σ' H' _ ⟨_, _, _, _, _, _, _, _, _, _, _, _, _, _, _, _, e⟩ => ex_l e pt.als.1) ?hs ?hd
    case hs =>
      rintro i x σ' H2 hi ⟨m, ph, hd, row, pl, lf, sl, u10, u11, u12, rfl, hph, gm, fh, ro, ⟨rfl, rfl⟩, e2⟩
      obtain ⟨c, p, z2, z3, z4, hc, rfl, hp, k2, k3, k4⟩ := al_at pt.als.2 hi
      refine s_when (b := inV (.str c.n) (ys.map V.str)) (et_test (ev_op (ev_op (ev_var rfl) ev_c (rv_ixT (ex_t e2 hp) rfl)) (ev_var rfl) (rv_isT (ex_t e2 hla) rfl (flat_texts _)))) (fun _ H3 e3 => ?_) (fun _ H3 e3 => ?_)
      · have e23 := e2.trans e3
        have cok := ok.als.2 c hc
        refine q_unG2 (P := IsEff K) (evG_eff (dp_ex e23 d) ok (ev_var rfl) (ev_var rfl) (ev_var rfl) (ex_t e3 hph) gm fh (EvU.gi (eu_slT (xs := [.str c.n, z2, z3, z4]) (ev_var rfl) (eo_some ev_c) eo_none (ex_t e23 hp) (by show ¬ (HT.sIx 4 0 (some 1) = 0 ∧ HT.sIx 4 4 none = 4); decide)) fun p' H' e' hp' => ⟨c.on, c.off, c.to, .tup (st_of hp') (.cons (dp_ex (e23.trans e') k2) (.cons (dp_ex (e23.trans e') k3) (.cons (dp_ex (e23.trans e') k4) .nil))), cok.2.1, cok.2.2.1, cok.2.2.2⟩)) fun v H4 e4 hv => ?_
        obtain ⟨pe, ph2, m2, hd2, rfl, hpe, hph2, gm2, fh2⟩ := hv
        exact ⟨pe, _, _, rfl, hpe, s_asg ev_c fun H5 e5 => ⟨m2, ph2, hd2, none, pl, lf, sl, some (.ref p), none, none, rfl, ex_t e5 hph2, gm2, fh2, trivial, ⟨rfl, rfl⟩, (e23.trans e4).trans e5⟩⟩
      · exact ⟨m, ph, hd, row, pl, lf, sl, some (.ref p), none, none, rfl, ex_t e3 hph, gm, fh, ro, ⟨rfl, rfl⟩, e2.trans e3⟩
    case hd =>
      rintro σ' H2 ⟨m, ph, hd, row, pl, lf, sl, u10, u11, u12, rfl, hph, gm, fh, ro, ⟨rfl, rfl⟩, e2⟩
      refine q_asg ev_c fun H3 e3 => ?_
      refine q_join (Pm := TkP K b H (.ref a) (.ref sa) (.ref la) ov fun u11 _ => ∃ fr : Bool, u11 = some (.bl fr)) ?tail fun N hN => ?mid
      case mid =>
        have e23 := e2.trans e3
        rcases ho with rfl | ⟨o, do_, oo⟩
        · refine s_if (b := false) (et_is (et_test (ev_op (ev_var rfl) ev_c rv_notN0)) rfl) (fun h => Bool.noConfusion h) fun _ H4 e4 => ?_
          have lim := pt.lim
          have e24 := e23.trans e4
          cases hl : b.lim with
          | none =>
            rw [hl] at lim
            obtain rfl : lmv = .non := by cases lim; rfl
            refine s_when (b := false) (et_is (et_test (ev_op (ev_op (ev_var rfl) ev_c (rv_ixT (ex_t e24 pt.top) rfl)) ev_c rv_notN0)) rfl) (fun h => Bool.noConfusion h) fun _ H5 e5 => ?_
            exact hN _ _ ⟨m, ph, hd, row, pl, lf, sl, u10, _, none, rfl, ex_t ((e3.trans e4).trans e5) hph, gm, fh, ro, ⟨false, rfl⟩, e24.trans e5⟩
          | some n =>
            rw [hl] at lim
            obtain rfl : lmv = .int (n : Int) := Dp.int_inv lim
            refine s_when (b := true) (et_is (et_test (ev_op (ev_op (ev_var rfl) ev_c (rv_ixT (ex_t e24 pt.top) rfl)) ev_c rv_notN0)) rfl) (fun _ H5 e5 => ?_) fun h => Bool.noConfusion h
            have e25 := e24.trans e5
            refine q_asg (v := .int ((sl + 1 : Nat) : Int)) (ev_is (ev_op (ev_var rfl) ev_c rv_I0) (congrArg V.int (by push_cast; rfl))) fun H6 e6 => ?_
            have e26 := e25.trans e6
            have h36 := ((e3.trans e4).trans e5).trans e6
            refine s_when (b := decide (sl + 1 = n)) (et_is (et_test (ev_op (ev_var rfl) (ev_op (ev_var rfl) ev_c (rv_ixT (ex_t e26 pt.top) rfl)) (rv_eq rfl))) (decide_eq_decide.mpr ⟨fun h => by injection h with h; omega, fun h => by rw [h]⟩)) (fun _ H7 e7 => ?_) fun _ H7 e7 => ?_
            · have e27 := e26.trans e7
              refine q_unG2 (P := IsEff K) (evG_eff (dp_ex e27 d) ok (ev_var rfl) (ev_var rfl) (ev_var rfl) (ex_t (h36.trans e7) hph) gm fh (evG_enter (pt.ex e27) ok (ev_var rfl))) fun v H8 e8 hv => ?_
              obtain ⟨pe, ph2, m2, hd2, rfl, hpe, hph2, gm2, fh2⟩ := hv
              exact ⟨pe, _, _, rfl, hpe, s_unp2 (eu_tup (ea_cons ev_c (ea_cons ev_c ea_nil)) (by simp)) fun H9 e9 => hN _ _ ⟨m2, ph2, hd2, none, pl, lf, 0, u10, _, none, rfl, ex_t e9 hph2, gm2, fh2, trivial, ⟨false, rfl⟩, (e27.trans e8).trans e9⟩⟩
            · exact hN _ _ ⟨m, ph, hd, row, pl, lf, sl + 1, u10, _, none, rfl, ex_t (h36.trans e7) hph, gm, fh, ro, ⟨false, rfl⟩, e26.trans e7⟩
        · obtain ⟨oa, rfl, hoa⟩ := texts_of_dp do_
          refine s_if (b := true) (et_is (et_test (ev_op (ev_var rfl) ev_c rv_notN0)) rfl) (fun _ H4 e4 => ?_) fun h => Bool.noConfusion h
          refine q_asg ev_c fun H5 e5 => ?_
          have e25 := (e23.trans e4).trans e5
          have h35 := (e3.trans e4).trans e5
          rcases oo with ⟨c, hc, rfl⟩ | ⟨rw_, hrw, rfl⟩ | rfl
          · refine s_if (b := true) (et_is (et_test (ev_op (ev_op (ev_var rfl) ev_c (rv_ixT (ex_t e25 hoa) rfl)) ev_c (rv_eq rfl))) (decide_eq_true rfl)) (fun _ H6 e6 => ?_) fun h => Bool.noConfusion h
            have e26 := e25.trans e6
            refine s_unG2 (P := IsEff K) (evG_cmd (n := c.n) (dp_ex e26 d) ok (ev_var rfl) (ev_var rfl) (ev_var rfl) (ex_t (h35.trans e6) hph) gm fh (ev_op (ev_var rfl) ev_c (rv_ixT (ex_t e26 hoa) rfl)) ⟨c, hc, rfl⟩) fun v H7 e7 hv => ?_
            obtain ⟨pe, ph2, m2, hd2, rfl, hpe, hph2, gm2, fh2⟩ := hv
            exact ⟨pe, _, _, rfl, hpe, hN _ _ ⟨m2, ph2, hd2, row, pl, lf, 0, u10, _, none, rfl, hph2, gm2, fh2, ro, ⟨false, rfl⟩, e26.trans e7⟩⟩
          · refine s_if (b := false) (et_is (et_test (ev_op (ev_op (ev_var rfl) ev_c (rv_ixT (ex_t e25 hoa) rfl)) ev_c (rv_eq rfl))) (decide_eq_false fun h => by injection h with h; exact absurd h (by decide +kernel))) (fun h => Bool.noConfusion h) fun _ H6 e6 => ?_
            refine s_if (b := true) (et_is (et_test (ev_op (ev_op (ev_var rfl) ev_c (rv_ixT (ex_t (e25.trans e6) hoa) rfl)) ev_c (rv_eq rfl))) (decide_eq_true rfl)) (fun _ H7 e7 => ?_) fun h => Bool.noConfusion h
            have e27 := (e25.trans e6).trans e7
            obtain ⟨_, nn, _, s3⟩ := ok.rows.2 rw_ hrw
            refine q_steps (ev_op (ev_var rfl) ev_c (rv_ixT (ex_t e27 pt.top) rfl)) (ex_l e27 pt.rows.1) (dpa_ex e27 pt.rows.2) ok hrw rfl (fun _ => rfl) (fun _ => rfl) (fun u H8 e8 => ev_op (ev_var rfl) ev_c (rv_ixT (ex_t (e27.trans e8) hoa) rfl)) fun as ss H8 e8 has hss => ?_
            have pos : 0 < rw_.2.length := List.length_pos_iff.mpr nn
            obtain ⟨s, p, hs, hat, hp⟩ := step_at hss pos
            have e28 := e27.trans e8
            exact s_unp4 (eu_tup (ea_cons (ev_op (ev_var rfl) ev_c (rv_ixT (ex_t e28 hoa) rfl)) (ea_cons ev_c (ea_cons (ev_op (ev_op (ev_var rfl) ev_c (rv_ixT has (atI_nat (j := 0) hat))) ev_c (rv_ixT hp rfl)) (ea_cons ev_c ea_nil)))) (by simp)) fun H9 e9 => hN _ _ ⟨m, ph, hd, some rw_.1, 0, s.1, 0, u10, _, _, rfl, ex_t ((((h35.trans e6).trans e7).trans e8).trans e9) hph, gm, fh, ⟨rw_, hrw, rfl, pos, (s3 s hs).1⟩, ⟨true, rfl⟩, e28.trans e9⟩
          · refine s_if (b := false) (et_is (et_test (ev_op (ev_op (ev_var rfl) ev_c (rv_ixT (ex_t e25 hoa) rfl)) ev_c (rv_eq rfl))) (decide_eq_false fun h => by injection h with h; exact absurd h (by decide +kernel))) (fun h => Bool.noConfusion h) fun _ H6 e6 => ?_
            refine s_if (b := false) (et_is (et_test (ev_op (ev_op (ev_var rfl) ev_c (rv_ixT (ex_t (e25.trans e6) hoa) rfl)) ev_c (rv_eq rfl))) (decide_eq_false fun h => by injection h with h; exact absurd h (by decide +kernel))) (fun h => Bool.noConfusion h) fun _ H7 e7 => ?_
            exact s_asg ev_c fun H8 e8 => hN _ _ ⟨m, ph, hd, none, pl, lf, 0, u10, _, none, rfl, ex_t (((h35.trans e6).trans e7).trans e8) hph, gm, fh, trivial, ⟨false, rfl⟩, ((e25.trans e6).trans e7).trans e8⟩
      case tail =>
        rintro σ' H3 ⟨m, ph, hd, row, pl, lf, sl, u10, u11, u12, rfl, hph, gm, fh, ro, ⟨fr, rfl⟩, e3⟩
        refine q_join (Pm := TkP K b H (.ref a) (.ref sa) (.ref la) ov fun _ _ => True) ?tail2 fun N hN => ?mid2
        case mid2 =>
          cases row with
          | none => exact s_when (b := false) (et_is (et_and (a := false) (b := false) (et_is (et_test (ev_op (ev_var rfl) ev_c rv_notN0)) rfl) fun h => Bool.noConfusion h) rfl) (fun h => Bool.noConfusion h) fun _ H4 e4 => hN _ _ ⟨m, ph, hd, none, pl, lf, sl, u10, _, u12, rfl, ex_t e4 hph, gm, fh, trivial, trivial, e3.trans e4⟩
          | some r =>
            cases fr with
            | true => exact s_when (b := false) (et_is (et_and (a := true) (b := false) (et_is (et_test (ev_op (ev_var rfl) ev_c rv_notN0)) rfl) fun _ => et_is (et_not (et_B (ev_var rfl))) rfl) rfl) (fun h => Bool.noConfusion h) fun _ H4 e4 => hN _ _ ⟨m, ph, hd, some r, pl, lf, sl, u10, _, u12, rfl, ex_t e4 hph, gm, fh, ro, trivial, e3.trans e4⟩
            | false =>
              obtain ⟨rw_, hrw, er, lpl, l1⟩ := ro
              obtain ⟨_, nn, _, s3⟩ := ok.rows.2 rw_ hrw
              refine s_when (b := true) (et_is (et_and (a := true) (b := true) (et_is (et_test (ev_op (ev_var rfl) ev_c rv_notN0)) rfl) fun _ => et_is (et_not (et_B (ev_var rfl))) rfl) rfl) (fun _ H4 e4 => ?_) fun h => Bool.noConfusion h
              have e34 := e3.trans e4
              refine q_steps (ev_op (ev_var rfl) ev_c (rv_ixT (ex_t e34 pt.top) rfl)) (ex_l e34 pt.rows.1) (dpa_ex e34 pt.rows.2) ok hrw er (fun _ => rfl) (fun _ => rfl) (fun u H8 e8 => ev_var rfl) fun as ss H5 e5 has hss => ?_
              refine q_asg (v := .int ((lf - 1 : Nat) : Int)) (ev_is (ev_op (ev_var rfl) ev_c rv_I0) (congrArg V.int (by omega))) fun H6 e6 => ?_
              refine s_when (b := decide (lf - 1 = 0)) (et_is (et_test (ev_op (ev_var rfl) ev_c (rv_eq rfl))) (decide_eq_decide.mpr ⟨fun h => by injection h with h; omega, fun h => by rw [h]; rfl⟩)) (fun _ H7 e7 => ?_) fun h0 H7 e7 => ?_
              · obtain ⟨s, p, hs, hat, hp⟩ := step_at hss lpl
                have e57 := e6.trans e7
                have e37 := (e34.trans e5).trans e57
                refine q_unG2 (P := IsEff K) (evG_cmd (n := s.2) (dp_ex e37 d) ok (ev_var rfl) (ev_var rfl) (ev_var rfl) (ex_t ((e4.trans e5).trans e57) hph) gm fh (ev_op (ev_op (ev_var rfl) (ev_var rfl) (rv_ixT (ex_t e57 has) (atI_nat hat))) ev_c (rv_ixT (ex_t e57 hp) rfl)) (s3 s hs).2.2) fun v H8 e8 hv => ?_
                obtain ⟨pe, ph2, m2, hd2, rfl, hpe, hph2, gm2, fh2⟩ := hv
                refine ⟨pe, _, _, rfl, hpe, ?_⟩
                refine q_asg (v := .int ((pl + 1 : Nat) : Int)) (ev_is (ev_op (ev_var rfl) ev_c rv_I0) (congrArg V.int (by push_cast; rfl))) fun H9 e9 => ?_
                have e59 := (e57.trans e8).trans e9
                have ls : ss.length = rw_.2.length := by rw [dpa_len hss, List.length_map]
                refine s_if (b := decide (pl + 1 = ss.length)) (et_is (et_test (ev_op (ev_var rfl) (ev_lenT (ev_var rfl) (ex_t e59 has)) (rv_eq rfl))) (decide_eq_decide.mpr ⟨fun h => by injection h with h; omega, fun h => by rw [h]⟩)) (fun _ Ha ea => ?_) fun hb Ha ea => ?_
                · exact s_asg ev_c fun Hb eb => hN _ _ ⟨m2, ph2, hd2, none, pl + 1, lf - 1, sl, u10, _, _, rfl, ex_t ((e9.trans ea).trans eb) hph2, gm2, fh2, trivial, trivial, (((e37.trans e8).trans e9).trans ea).trans eb⟩
                · have hb := of_decide_eq_false hb
                  obtain ⟨s', p', hs', hat', hp'⟩ := step_at hss (i := pl + 1) (by omega)
                  have e5a := e59.trans ea
                  exact s_asg (v := .int (s'.1 : Int)) (ev_op (ev_op (ev_var rfl) (ev_var rfl) (rv_ixT (ex_t e5a has) (atI_nat hat'))) ev_c (rv_ixT (ex_t e5a hp') rfl)) fun Hb eb => hN _ _ ⟨m2, ph2, hd2, some r, pl + 1, s'.1, sl, u10, _, _, rfl, ex_t ((e9.trans ea).trans eb) hph2, gm2, fh2, ⟨rw_, hrw, er, by omega, (s3 s' hs').1⟩, trivial, (((e37.trans e8).trans e9).trans ea).trans eb⟩
              · have h0 := of_decide_eq_false h0
                exact hN _ _ ⟨m, ph, hd, some r, pl, lf - 1, sl, u10, _, _, rfl, ex_t (((e4.trans e5).trans e6).trans e7) hph, gm, fh, ⟨rw_, hrw, er, lpl, by omega⟩, trivial, ((e34.trans e5).trans e6).trans e7⟩
        case tail2 =>
          rintro σ' H4 ⟨m, ph, hd, row, pl, lf, sl, u10, u11, u12, rfl, hph, gm, fh, ro, _, e4⟩
          cases row with
          | none =>
            refine q_when (b := true) (et_is (et_test (ev_op (ev_var rfl) ev_c rv_isN0)) rfl) (fun _ H5 e5 => ?_) fun h => Bool.noConfusion h
            exact s_retG (evG_stD (b := b) (m := m) (hd := hd) (row := none) (pl := 0) (lf := 0) (sl := sl) (ev_var rfl) (ev_var rfl) (ex_t e5 hph) (evD_non ev_c) ev_c ev_c (ev_var rfl) ⟨gm, fh, trivial⟩) fun v H6 e6 h => q v H6 h ((e4.trans e5).trans e6)
          | some r =>
            refine q_when (b := false) (et_is (et_test (ev_op (ev_var rfl) ev_c rv_isN0)) rfl) (fun h => Bool.noConfusion h) fun _ H5 e5 => ?_
            exact s_retG (evG_stD (b := b) (m := m) (hd := hd) (row := some r) (pl := pl) (lf := lf) (sl := sl) (ev_var rfl) (ev_var rfl) (ex_t e5 hph) (evD_str (ev_var rfl)) (ev_var rfl) (ev_var rfl) (ev_var rfl) ⟨gm, fh, ro⟩) fun v H6 e6 h => q v H6 h ((e4.trans e5).trans e6)

/-! ### the law's own book is made -/
def bkHolds : List Str := [Str.ofString "a", Str.ofString "b", Str.ofString "c3"]
def bkNames : List Str := [Str.ofString "safe", Str.ofString "up", Str.ofString "0"]
def bkCmds : List Str := [Str.ofString "go", Str.ofString "h1", Str.ofString "z"]
def bkAls : List Str := [Str.ofString "hot", Str.ofString "dry"]
theorem gt_lits : ∀ x ∈ bkHolds ++ bkNames ++ bkCmds ++ bkAls, Gt 4 x := by
  intro x hx
  simp only [bkHolds, bkNames, bkCmds, bkAls, List.cons_append, List.nil_append, List.mem_cons, List.not_mem_nil, or_false] at hx
  rcases hx with rfl | rfl | rfl | rfl | rfl | rfl | rfl | rfl | rfl | rfl | rfl <;> exact ⟨by decide +kernel, by decide +kernel⟩
theorem lit_at (xs : List Str) (i : Nat) (hi : i < xs.length) : (xs.map V.str)[i]? = some (V.str (xs.getD i Str.empty)) := by
  rw [List.getElem?_map, List.getElem?_eq_getElem hi, List.getD_eq_getElem?_getD, List.getElem?_eq_getElem hi]; rfl
theorem getD_mem {xs : List Str} {i : Nat} (hi : i < xs.length) : xs.getD i Str.empty ∈ xs := by
  rw [List.getD_eq_getElem?_getD, List.getElem?_eq_getElem hi]; exact List.getElem_mem hi
theorem el_slN {σ : L2.St} {H : Hp} {te : TE} {tl th : TO} {xs : List V} {lo hi : Option Int} (h : EvL te σ H xs) (h1 : EvO tl σ H lo) (h2 : EvO th σ H hi) : EvL (tSl (rSlL K) te tl th) σ H (cutV xs lo hi) := fun H1 e _ q =>
  h H1 e _ fun p0 H2 _ e2 hp0 => h1 H2 (e.trans e2) _ fun H3 e3 => h2 H3 ((e.trans e2).trans e3) _ fun H4 e4 =>
    ⟨p0, xs, rfl, sq_of ((e3.trans e4) _ _ hp0), fun p hp => q p _ (fresh_back ((e2.trans e3).trans e4) hp) (((e2.trans e3).trans e4).trans (Ex.new hp)) upd_same⟩
def IsPair (K : PySem.W.Frag) : V → Hp → Prop := fun v H => ∃ p po pf on off, v = .ref p ∧ H p = some (.tup [.ref po, .ref pf]) ∧ SqT K H po ((on : List Str).map V.str) ∧ SqT K H pf ((off : List Str).map V.str) ∧ Few on ∧ Few off
theorem evG_part {σ : L2.St} {H : Hp} {E : XK} {t0 t1 : TE} {a : Addr} {hs : List Str} {m : Nat} (hA : SqL K H a (hs.map V.str)) (few : Few hs) (h0 : Ev t0 σ H (.ref a)) (h1 : Ev t1 σ H (.int (m : Int))) : EvG (tCall (spPart K) [] E (tCons t0 (tCons t1 tNil))) σ H (IsPair K) :=
  evG_call (ea_cons h0 (ea_cons h1 ea_nil)) fun H1 e Q q E => ⟨a, hs, m, rfl, ex_l e hA, few, fun p po pf on off H' fo ff e' hp h1 h2 => q _ H' e' ⟨p, po, pf, on, off, rfl, hp, st_of h1, st_of h2, fo, ff⟩⟩
theorem to_at (pre : List (Option Str)) (names : List Str) (i : Nat) (hi : i < pre.length + names.length) : ∃ o, (pre.map oV ++ names.map V.str)[i]? = some (oV o) ∧ (o ∈ pre ∨ ∃ y ∈ names, o = some y) := by
  have e : pre.map oV ++ names.map V.str = (pre ++ names.map some).map oV := by
    rw [List.map_append, List.map_map]; rfl
  have hl : i < (pre ++ names.map some).length := by rw [List.length_append, List.length_map]; exact hi
  refine ⟨(pre ++ names.map some)[i], ?_, ?_⟩
  · rw [e, List.getElem?_map, List.getElem?_eq_getElem hl]; rfl
  · rcases List.mem_append.mp (List.getElem_mem hl) with h | h
    · exact .inl h
    · obtain ⟨y, hy, e⟩ := List.mem_map.mp h
      exact .inr ⟨y, hy, e.symm⟩
def TN (names : List Str) (o : Option Str) : Prop := o = none ∨ ∃ y ∈ names, o = some y
theorem TN.ok {b : Bk} {names : List Str} {o : Option Str} (hn : b.modes.map (fun m => m.1) = names) (h : TN names o) : ToOk b o := by
  rcases h with rfl | ⟨y, hy, rfl⟩
  · exact trivial
  · rw [← hn] at hy
    obtain ⟨m, hm, e⟩ := List.mem_map.mp hy
    exact ⟨m, hm, e⟩
theorem noLs_map {α : Type} (D : α → PyData) (h : ∀ x, noL (D x) = true) : ∀ xs : List α, noLs (xs.map D) = true
  | [] => rfl
  | x :: r => by rw [List.map_cons, noLs, h x, noLs_map D h r]; rfl
theorem noL_oD : ∀ o, noL (oD o) = true
  | none => rfl
  | some _ => rfl
theorem noL_md (m : Md) : noL (mdD m) = true := by simp [mdD, noL, noLs, noL_tD]
theorem noL_cd (m : Cd) : noL (cdD m) = true := by simp [cdD, noL, noLs, noL_tD, noL_oD]
theorem noL_al (m : Al) : noL (alD m) = true := by simp [alD, noL, noLs, noL_tD, noL_oD]
theorem noL_step (m : Nat × Str) : noL (stepD m) = true := by simp [stepD, noL, noLs]
theorem evD_tupS {σ : L2.St} {H : Hp} {ta : TE} {p : Addr} {xs : List V} {ds : List PyData} (ha : Ev ta σ H (.ref p)) (hp : H p = some (.lst xs)) (all : DpAll K H xs ds) : EvG (tCB (rTupS K) (tCons ta tNil)) σ H (fun v H' => Dp K H' v (.tuple ds)) := fun H1 e Q q =>
  ha H1 e _ fun H2 e2 => ⟨p, xs, rfl, Or.inl ⟨sq_of ((e.trans e2) _ _ hp), fun l nl => q _ _ (e2.trans (Ex.new nl)) (.tup (st_of upd_same) (dpa_ex ((e.trans e2).trans (Ex.new nl)) all))⟩⟩
theorem few_take {xs : List Str} (h : ∀ x ∈ xs, Gt 4 x) {k : Nat} (hk : k ≤ 3) : Few (xs.take k) := ⟨by rw [List.length_take]; omega, fun x hx => h x (List.mem_of_mem_take hx)⟩
def lmV : Option Nat → V
  | none => .non
  | some n => .int (n : Int)
theorem dp_lmV {H : Hp} : ∀ o : Option Nat, Dp K H (lmV o) (limD o)
  | none => .non
  | some _ => .int _
def IsBk (K : PySem.W.Frag) : V → Hp → Prop := fun v H => ∃ b, Dp K H v (bkD b) ∧ BkOk b
def spBook (K : PySem.W.Frag) : Sp := fun vs H Q _ => ∃ (n : Addr) (ns : List Int) (at_ : Nat), vs = [.ref n, .int (at_ : Int)] ∧ SqL K H n (ns.map V.int) ∧ Small ns ∧ at_ + 22 < ns.length ∧ ∀ v H', IsBk K v H' → Ex H H' → Q v H'
theorem ok_book (A : At K mg "_law_book" s__law_book) (mz_int : mg "int" = none) (mz_range : mg "range" = none) (mz_len : mg "len" = none) (mz_tuple : mg "tuple" = none) (mz_sorted : mg "sorted" = none) (D__law_parted : Dfn P w K mg base 1 "_law_parted" p__law_parted (spPart K)) : Dfn P w K mg base 2 "_law_book" p__law_book (spBook K) := by
  refine dfn_ok A sc__law_book (fun _ _ _ _ _ _ us hl => match us, hl with | [_, _], _ => rfl) (fun vs H Q E h => ?_) (fun f cdv A outer s H vs Q E hr h => ?_)
  · obtain ⟨n, ns, at_, rfl, _⟩ := h
    rfl
  · obtain ⟨n, ns, at_, rfl, hN, hS, hat, q⟩ := h
    refine ⟨_, (pss_cons (ps_set (i := 2) sc__law_book.nd rfl (Or.inl rfl) (pe_slice (show SlR _ (rSlL K) from sl_list) (pe_lst (pa_cons pe_str (pa_cons pe_str (pa_cons pe_str pa_nil)))) po_none (po_some (pe_op op_add pe_int (pe_op op_mod (pe_callTy call_int1 (by rfl) mz_int (by decide +kernel) (pa_cons (pe_ix (show IxR _ (rIxL K) from ix_list) (pv 0) (pv 1) (fun _ _ => rfl)) pa_nil)) pe_int)))))
  (pss_cons (ps_set (i := 3) sc__law_book.nd rfl (Or.inr rfl) (pe_slice (show SlR _ (rSlL K) from sl_list) (pe_lst (pa_cons pe_str (pa_cons pe_str (pa_cons pe_str pa_nil)))) po_none (po_some (pe_op op_add pe_int (pe_op op_mod (pe_callTy call_int1 (by rfl) mz_int (by decide +kernel) (pa_cons (pe_ix (show IxR _ (rIxL K) from ix_list) (pv 0) (pe_op op_add (pv 1) pe_int) (fun _ _ => rfl)) pa_nil)) pe_int)))))
  (pss_cons (ps_set (i := 4) sc__law_book.nd rfl (Or.inl rfl) (pe_lst pa_nil))
  (pss_cons (ps_for PassesOwn.never rfl (pi_range1 (by rfl) mz_range (pa_cons (pe_callB (show CallR _ _ (rLenS K) from call_len_seq) (by rfl) mz_len PySem.boot_len (pa_cons (pv 3) pa_nil)) pa_nil)) (pg_name (i := 5) sc__law_book.nd rfl (Or.inl rfl))
    (pss_cons (ps_asg (pe_d D__law_parted (hr.mono (by decide)) (pa_cons (pv 2) (pa_cons (pe_ix (show IxR _ (rIxL K) from ix_list) (pv 0) (pe_op op_add (pe_op op_add (pv 1) pe_int) (pv 5)) (fun _ _ => rfl)) pa_nil))) (show PG _ _ (gTup K 2 _) from pg_tup rfl (pgs_cons (pg_name (i := 6) sc__law_book.nd rfl (Or.inl rfl)) (pgs_cons (pg_name (i := 7) sc__law_book.nd rfl (Or.inl rfl)) pgs_nil))))
  (pss_one (ps_expr (show PE _ _ (tBM K "list" _ _ _) from pe_bm PySem.F.plainAttrs_list PySem.F.slot_list_append PySem.F.type_list_append mt_append (pv 4) (pa_cons (pe_tup (pa_cons (pe_ix (show IxR _ (rIxL K) from ix_list) (pv 3) (pv 5) (fun _ _ => rfl)) (pa_cons (pv 6) (pa_cons (pv 7) pa_nil)))) pa_nil))))))
  (pss_cons (ps_set (i := 8) sc__law_book.nd rfl (Or.inl rfl) (pe_lst pa_nil))
  (pss_cons (ps_for PassesOwn.never rfl (pi_range1 (by rfl) mz_range (pa_cons (pe_op op_add pe_int (pe_op op_mod (pe_callTy call_int1 (by rfl) mz_int (by decide +kernel) (pa_cons (pe_ix (show IxR _ (rIxL K) from ix_list) (pv 0) (pe_op op_add (pv 1) pe_int) (fun _ _ => rfl)) pa_nil)) pe_int)) pa_nil)) (pg_name (i := 5) sc__law_book.nd rfl (Or.inl rfl))
    (pss_cons (ps_set (i := 9) sc__law_book.nd rfl (Or.inr rfl) (pe_callTy call_int1 (by rfl) mz_int (by decide +kernel) (pa_cons (pe_ix (show IxR _ (rIxL K) from ix_list) (pv 0) (pe_op op_add (pe_op op_add (pv 1) pe_int) (pv 5)) (fun _ _ => rfl)) pa_nil)))
  (pss_cons (ps_asg (pe_d D__law_parted (hr.mono (by decide)) (pa_cons (pv 2) (pa_cons (pe_ix (show IxR _ (rIxL K) from ix_list) (pv 0) (pe_op op_add (pe_op op_add (pv 1) pe_int) (pv 5)) (fun _ _ => rfl)) pa_nil))) (show PG _ _ (gTup K 2 _) from pg_tup rfl (pgs_cons (pg_name (i := 6) sc__law_book.nd rfl (Or.inl rfl)) (pgs_cons (pg_name (i := 7) sc__law_book.nd rfl (Or.inl rfl)) pgs_nil))))
  (pss_cons (ps_set (i := 10) sc__law_book.nd rfl (Or.inl rfl) (pe_callTy (show CallR _ _ (rTupS K) from call_tuple_of) (by rfl) mz_tuple (by decide +kernel) (pa_cons (pe_callB (show CallR _ _ (rSortedS K) from cr_sortedS) (by rfl) mz_sorted (by decide +kernel) (pa_cons (pe_lc (own := [("j", 14)]) (g := gName 14) rfl sc__law_book.nd (pi_range1 (by rfl) mz_range (pa_cons (pe_callB (show CallR _ _ (rLenS K) from call_len_seq) (by rfl) mz_len PySem.boot_len (pa_cons (pv 3) pa_nil)) pa_nil)) (blkOk_by (N := N__law_book) (sc := defScope s__law_book) (by decide +kernel)) (fun _ _ _ _ _ => (pg_name (i := 14) sc__law_book.nd rfl (Or.inl rfl))) (fun _ _ _ _ _ => (pts_one (pt_cmpR op_eq (pe_op op_mod (pe_callTy call_int1 (by rfl) mz_int (by decide +kernel) (pa_cons (pe_op op_fdiv (pv 9) (pe_ix (show IxR _ (rIxL K) from ix_list) (pe_lst (pa_cons pe_int (pa_cons pe_int (pa_cons pe_int pa_nil)))) (pv 14) (fun _ _ => rfl))) pa_nil)) pe_int) pe_int (by first | exact nomark _ | rfl)))) (fun _ _ _ _ _ => (pe_ix (show IxR _ (rIxL K) from ix_list) (pv 3) (pv 14) (fun _ _ => rfl)))) pa_nil)) pa_nil)))
  (pss_one (ps_expr (show PE _ _ (tBM K "list" _ _ _) from pe_bm PySem.F.plainAttrs_list PySem.F.slot_list_append PySem.F.type_list_append mt_append (pv 8) (pa_cons (pe_tup (pa_cons (pe_ix (show IxR _ (rIxL K) from ix_list) (pe_lst (pa_cons pe_str (pa_cons pe_str (pa_cons pe_str pa_nil)))) (pv 5) (fun _ _ => rfl)) (pa_cons (pv 10) (pa_cons (pv 6) (pa_cons (pv 7) (pa_cons (pe_ix (show IxR _ (rIxL K) from ix_list) (pe_op op_cat (pe_lst (pa_cons pe_non (pa_cons pe_non pa_nil))) (pv 3)) (pe_op op_mod (pe_callTy call_int1 (by rfl) mz_int (by decide +kernel) (pa_cons (pe_op op_fdiv (pv 9) pe_int) pa_nil)) (pe_op op_add (pe_callB (show CallR _ _ (rLenS K) from call_len_seq) (by rfl) mz_len PySem.boot_len (pa_cons (pv 3) pa_nil)) pe_int)) (fun _ _ => rfl)) pa_nil)))))) pa_nil))))))))
  (pss_cons (ps_set (i := 11) sc__law_book.nd rfl (Or.inl rfl) (pe_lst pa_nil))
  (pss_cons (ps_for PassesOwn.never rfl (pi_range1 (by rfl) mz_range (pa_cons (pe_op op_mod (pe_callTy call_int1 (by rfl) mz_int (by decide +kernel) (pa_cons (pe_ix (show IxR _ (rIxL K) from ix_list) (pv 0) (pe_op op_add (pv 1) pe_int) (fun _ _ => rfl)) pa_nil)) pe_int) pa_nil)) (pg_name (i := 5) sc__law_book.nd rfl (Or.inl rfl))
    (pss_cons (ps_asg (pe_d D__law_parted (hr.mono (by decide)) (pa_cons (pv 2) (pa_cons (pe_ix (show IxR _ (rIxL K) from ix_list) (pv 0) (pe_op op_add (pe_op op_add (pv 1) pe_int) (pv 5)) (fun _ _ => rfl)) pa_nil))) (show PG _ _ (gTup K 2 _) from pg_tup rfl (pgs_cons (pg_name (i := 6) sc__law_book.nd rfl (Or.inl rfl)) (pgs_cons (pg_name (i := 7) sc__law_book.nd rfl (Or.inl rfl)) pgs_nil))))
  (pss_one (ps_expr (show PE _ _ (tBM K "list" _ _ _) from pe_bm PySem.F.plainAttrs_list PySem.F.slot_list_append PySem.F.type_list_append mt_append (pv 11) (pa_cons (pe_tup (pa_cons (pe_ix (show IxR _ (rIxL K) from ix_list) (pe_lst (pa_cons pe_str (pa_cons pe_str pa_nil))) (pv 5) (fun _ _ => rfl)) (pa_cons (pv 6) (pa_cons (pv 7) (pa_cons (pe_ix (show IxR _ (rIxL K) from ix_list) (pe_op op_cat (pe_lst (pa_cons pe_non (pa_cons pe_str pa_nil))) (pv 3)) (pe_op op_mod (pe_callTy call_int1 (by rfl) mz_int (by decide +kernel) (pa_cons (pe_ix (show IxR _ (rIxL K) from ix_list) (pv 0) (pe_op op_add (pe_op op_add (pv 1) pe_int) (pv 5)) (fun _ _ => rfl)) pa_nil)) (pe_op op_add (pe_callB (show CallR _ _ (rLenS K) from call_len_seq) (by rfl) mz_len PySem.boot_len (pa_cons (pv 3) pa_nil)) pe_int)) (fun _ _ => rfl)) pa_nil))))) pa_nil))))))
  (pss_cons (ps_set (i := 12) sc__law_book.nd rfl (Or.inl rfl) (pe_lst pa_nil))
  (pss_cons (ps_if (pt_cmpR op_eq (pe_op op_mod (pe_callTy call_int1 (by rfl) mz_int (by decide +kernel) (pa_cons (pe_ix (show IxR _ (rIxL K) from ix_list) (pv 0) (pe_op op_add (pv 1) pe_int) (fun _ _ => rfl)) pa_nil)) pe_int) pe_int (by first | exact nomark _ | rfl))
    (pss_cons (ps_set (i := 13) sc__law_book.nd rfl (Or.inl rfl) (pe_lst pa_nil))
  (pss_cons (ps_for PassesOwn.never rfl (pi_range1 (by rfl) mz_range (pa_cons (pe_op op_add pe_int (pe_op op_mod (pe_callTy call_int1 (by rfl) mz_int (by decide +kernel) (pa_cons (pe_ix (show IxR _ (rIxL K) from ix_list) (pv 0) (pe_op op_add (pv 1) pe_int) (fun _ _ => rfl)) pa_nil)) pe_int)) pa_nil)) (pg_name (i := 5) sc__law_book.nd rfl (Or.inl rfl))
    (pss_cons (ps_set (i := 9) sc__law_book.nd rfl (Or.inr rfl) (pe_callTy call_int1 (by rfl) mz_int (by decide +kernel) (pa_cons (pe_ix (show IxR _ (rIxL K) from ix_list) (pv 0) (pe_op op_add (pe_op op_add (pv 1) pe_int) (pv 5)) (fun _ _ => rfl)) pa_nil)))
  (pss_one (ps_expr (show PE _ _ (tBM K "list" _ _ _) from pe_bm PySem.F.plainAttrs_list PySem.F.slot_list_append PySem.F.type_list_append mt_append (pv 13) (pa_cons (pe_tup (pa_cons (pe_op op_add pe_int (pe_op op_mod (pe_callTy call_int1 (by rfl) mz_int (by decide +kernel) (pa_cons (pv 9) pa_nil)) pe_int)) (pa_cons (pe_ix (show IxR _ (rIxT K) from ix_tup) (pe_ix (show IxR _ (rIxL K) from ix_list) (pv 8) (pe_op op_mod (pe_callTy call_int1 (by rfl) mz_int (by decide +kernel) (pa_cons (pe_op op_fdiv (pv 9) pe_int) pa_nil)) (pe_callB (show CallR _ _ (rLenS K) from call_len_seq) (by rfl) mz_len PySem.boot_len (pa_cons (pv 8) pa_nil))) (fun _ _ => rfl)) pe_int (fun _ _ => rfl)) pa_nil))) pa_nil))))))
  (pss_one (ps_set (i := 12) sc__law_book.nd rfl (Or.inl rfl) (pe_lst (pa_cons (pe_tup (pa_cons pe_str (pa_cons (pe_callTy (show CallR _ _ (rTupS K) from call_tuple_of) (by rfl) mz_tuple (by decide +kernel) (pa_cons (pv 13) pa_nil)) pa_nil))) pa_nil))))))
    pss_nil)
  (pss_one (ps_ret (pe_tup (pa_cons (pv 2) (pa_cons (pv 4) (pa_cons (pv 8) (pa_cons (pv 11) (pa_cons (pv 12) (pa_cons (pe_ix (show IxR _ (rIxL K) from ix_list) (pe_lst (pa_cons pe_non (pa_cons pe_int (pa_cons pe_int (pa_cons pe_int pa_nil))))) (pe_op op_mod (pe_callTy call_int1 (by rfl) mz_int (by decide +kernel) (pa_cons (pe_ix (show IxR _ (rIxL K) from ix_list) (pv 0) (pe_op op_add (pv 1) pe_int) (fun _ _ => rfl)) pa_nil)) pe_int) (fun _ _ => rfl)) pa_nil))))))))))))))))))), ?_⟩
    have get : ∀ {j : Nat}, j < ns.length → ∃ m : Nat, (ns.map V.int)[j]? = some (.int (m : Int)) := fun {j} hj => by
      have h1 := hS _ (List.getElem_mem hj)
      refine ⟨ns[j].toNat, ?_⟩
      rw [List.getElem?_map, List.getElem?_eq_getElem hj, Int.toNat_of_nonneg h1.1]
      rfl
    have nE : ∀ {σ : L2.St} {H4 : Hp} {tb : TE} {j m : Nat}, Ex H H4 → σ[0]? = some (some (.ref n)) → Ev tb σ H4 (.int (j : Int)) → (ns.map V.int)[j]? = some (.int (m : Int)) → Ev (tOp (rIxL K) (tVar 0) tb) σ H4 (.int (m : Int)) := fun e hs hb hm => ev_ixI (ev_var hs) hb (ex_l e hN) (atI_nat hm)
    have a1 : ∀ {σ : L2.St} {H4 : Hp} (c : Nat), σ[1]? = some (some (.int (at_ : Int))) → Ev (tOp (rI0 fun i j => V.int (i + j)) (tVar 1) (tC (.int (c : Int)))) σ H4 (.int ((at_ + c : Nat) : Int)) := fun c h1 => ev_is (ev_op (ev_var h1) ev_c rv_I0) (congrArg V.int (by push_cast; rfl))
    have a2 : ∀ {σ : L2.St} {H4 : Hp} (c i : Nat), σ[1]? = some (some (.int (at_ : Int))) → σ[5]? = some (some (.int (i : Int))) → Ev (tOp (rI0 fun i j => V.int (i + j)) (tOp (rI0 fun i j => V.int (i + j)) (tVar 1) (tC (.int (c : Int)))) (tVar 5)) σ H4 (.int ((at_ + c + i : Nat) : Int)) := fun c i h1 h5 => ev_is (ev_op (ev_op (ev_var h1) ev_c rv_I0) (ev_var h5) rv_I0) (congrArg V.int (by push_cast; rfl))
    obtain ⟨m0, hm0⟩ := get (j := at_) (by omega)
    obtain ⟨m1, hm1⟩ := get (j := at_ + 1) (by omega)
    obtain ⟨m5, hm5⟩ := get (j := at_ + 5) (by omega)
    obtain ⟨m12, hm12⟩ := get (j := at_ + 12) (by omega)
    obtain ⟨m17, hm17⟩ := get (j := at_ + 17) (by omega)
    obtain ⟨m18, hm18⟩ := get (j := at_ + 18) (by omega)
    obtain ⟨m22, hm22⟩ := get (j := at_ + 22) (by omega)
    -- holds
    refine q_asgL (xs := (bkHolds.take (2 + m0 % 2)).map V.str) (el_is (el_slN (xs := bkHolds.map V.str) (el_lst (ea_cons ev_c (ea_cons ev_c (ea_cons ev_c ea_nil))) (by decide)) eo_none (eo_some (i := ((2 + m0 % 2 : Nat) : Int)) (ev_is (ev_op ev_c (ev_op (ev_int (ea_cons (nE (j := at_) (Ex.refl _) rfl (ev_var rfl) hm0) ea_nil)) ev_c (rv_I (show (0 : Int) < 2 by decide))) rv_I0) (congrArg V.int (by push_cast; rfl))))) (by rw [cut_take, List.map_take])) fun ph H1 _ e1 hph => ?_
    have fewH : Few (bkHolds.take (2 + m0 % 2)) := few_take (fun x hx => gt_lits x (by simp only [List.mem_append]; exact .inl (.inl (.inl hx)))) (by omega)
    have neH : bkHolds.take (2 + m0 % 2) ≠ [] := fun h => by
      have := congrArg List.length h
      rw [List.length_take] at this
      simp [bkHolds] at this
    generalize bkHolds.take (2 + m0 % 2) = holds at hph fewH neH
    refine q_asgL (xs := (bkNames.take (1 + m1 % 3)).map V.str) (el_is (el_slN (xs := bkNames.map V.str) (el_lst (ea_cons ev_c (ea_cons ev_c (ea_cons ev_c ea_nil))) (by decide)) eo_none (eo_some (i := ((1 + m1 % 3 : Nat) : Int)) (ev_is (ev_op ev_c (ev_op (ev_int (ea_cons (nE (j := at_ + 1) e1 rfl (a1 1 rfl) hm1) ea_nil)) ev_c (rv_I (show (0 : Int) < 3 by decide))) rv_I0) (congrArg V.int (by push_cast; rfl))))) (by rw [cut_take, List.map_take])) fun pn H2 _ e2 hpn => ?_
    have fewN : Few (bkNames.take (1 + m1 % 3)) := few_take (fun x hx => gt_lits x (by simp only [List.mem_append]; exact .inl (.inl (.inr hx)))) (by omega)
    have safeN : Str.ofString "safe" ∈ bkNames.take (1 + m1 % 3) := by rw [Nat.add_comm]; exact List.mem_cons_self
    have posN : 0 < (bkNames.take (1 + m1 % 3)).length := List.length_pos_of_mem safeN
    generalize bkNames.take (1 + m1 % 3) = names at hpn fewN safeN posN
    have e12 := e1.trans e2
    have n3 := fewN.1
    -- modes
    refine q_asgL (xs := []) (el_lst ea_nil (by decide)) fun pm H3 npm e3 hpm => ?_
    refine q_forR1 (n := (names.length : Int)) (ea_cons (ev_is (ev_len (ev_var rfl) (sq_of (e3 _ _ hpn))) (by rw [List.length_map])) ea_nil) (by omega) (fun i σ' H' => ∃ (u5 u6 u7 : Option V) (zs : List V) (mds : List Md), σ' = [some (.ref n), some (.int (at_ : Int)), some (.ref ph), some (.ref pn), some (.ref pm), u5, u6, u7, none, none, none, none, none, none, none] ∧ H' pm = some (.lst zs) ∧ DpAll K H' zs (mds.map mdD) ∧ mds.map (fun m => m.1) = names.take i ∧ (∀ m ∈ mds, Few m.2.1 ∧ Few m.2.2) ∧ Ex H2 H') (fun H4 e4 => ⟨none, none, none, [], [], rfl, e4 _ _ hpm, .nil, rfl, fun _ h => (nomatch h), e3.trans e4⟩) ?ms ?md
    case ms =>
      rintro i σ' H4 hi ⟨u5, u6, u7, zs, mds, rfl, hpm4, dz, nm, ok, e4⟩
      have hi : i < names.length := by omega
      have lm : mds.length = i := by
        have := congrArg List.length nm
        rw [List.length_map, List.length_take] at this
        omega
      obtain ⟨k, hk⟩ := get (j := at_ + 2 + i) (by omega)
      refine q_unG2 (P := IsPair K) (evG_part (sq_of ((e2.trans e4) _ _ hph)) fewH (ev_var rfl) (nE (j := at_ + 2 + i) (e12.trans e4) rfl (a2 2 i rfl rfl) hk)) fun v H5 e5 hv => ?_
      obtain ⟨pp, po, pf, on, off, rfl, hpp, ho, hf, fo, ff⟩ := hv
      refine ⟨pp, _, _, rfl, hpp, ?_⟩
      refine s_appG (P := fun v H' => Dp K H' v (mdD (names.getD i Str.empty, on, off))) (e5 _ _ hpm4) (ev_var rfl) (evD_tup (eaD_cons (evD_str (ev_ixI (ev_var rfl) (ev_var rfl) (sq_of ((e4.trans e5) _ _ hpn)) (atI_nat (lit_at names i hi)))) (eaD_cons (Ev.gi (ev_var rfl) fun H' e => .tup (ex_t e ho) (dpa_texts on)) (eaD_cons (Ev.gi (ev_var rfl) fun H' e => .tup (ex_t e hf) (dpa_texts off)) eaD_nil))) (by simp)) (by rw [dpa_len dz, List.length_map]; omega) fun v H6 e6 hv => ?_
      have hpm6 := (e5.trans e6) _ _ hpm4
      refine ⟨_, _, _, zs ++ [v], mds ++ [(names.getD i Str.empty, on, off)], rfl, upd_same, ?_, ?_, ?_, Ex.mut ((e4.trans e5).trans e6) npm⟩
      · rw [List.map_append]
        exact dpa_app (dpa_mut hpm6 (noLs_map mdD noL_md mds) (dpa_ex (e5.trans e6) dz)) (.cons (dp_mut hpm6 (noL_md _) hv) .nil)
      · rw [List.map_append, nm, List.take_succ, List.getElem?_eq_getElem hi, List.getD_eq_getElem?_getD, List.getElem?_eq_getElem hi]
        rfl
      · intro m hm
        rcases List.mem_append.mp hm with h | h
        · exact ok m h
        · rw [List.mem_singleton.mp h]; exact ⟨fo, ff⟩
    case md =>
      rintro σ' H4 ⟨u5, u6, u7, zsm, mds, rfl, hpm4, dm, nm, okM, e4⟩
      rw [Int.toNat_natCast, List.take_of_length_le (Nat.le_refl _)] at nm
      have e24 := e12.trans e4
      have hph4 := (e2.trans e4) _ _ hph
      have hpn4 := e4 _ _ hpn
      -- commands
      refine q_asgL (xs := []) (el_lst ea_nil (by decide)) fun pc H5 npc e5 hpc => ?_
      refine q_forR1 (n := ((1 + m5 % 3 : Nat) : Int)) (ea_cons (ev_is (ev_op ev_c (ev_op (ev_int (ea_cons (nE (j := at_ + 5) (e24.trans e5) rfl (a1 5 rfl) hm5) ea_nil)) ev_c (rv_I (show (0 : Int) < 3 by decide))) rv_I0) (congrArg V.int (by push_cast; rfl))) ea_nil) (by omega) (fun i σ' H' => ∃ (u5 u6 u7 u9 u10 : Option V) (zs : List V) (cds : List Cd), σ' = [some (.ref n), some (.int (at_ : Int)), some (.ref ph), some (.ref pn), some (.ref pm), u5, u6, u7, some (.ref pc), u9, u10, none, none, none, none] ∧ H' pc = some (.lst zs) ∧ DpAll K H' zs (cds.map cdD) ∧ cds.length = i ∧ (∀ c ∈ cds, Gt 4 c.n ∧ Few c.lets ∧ Few c.on ∧ Few c.off ∧ TN names c.to) ∧ Ex H4 H') (fun H6 e6 => ⟨_, _, _, none, none, [], [], rfl, e6 _ _ hpc, .nil, rfl, fun _ h => (nomatch h), e5.trans e6⟩) ?cs ?cd
      case cs =>
        rintro i σ' H6 hi ⟨u5, u6, u7, u9, u10, zs, cds, rfl, hpc6, dz, lc, ok, e6⟩
        have hi : i < 3 := by omega
        obtain ⟨val, hval⟩ := get (j := at_ + 6 + i) (by omega)
        obtain ⟨k, hk⟩ := get (j := at_ + 9 + i) (by omega)
        have e26 := e24.trans e6
        refine q_asg (v := .int (val : Int)) (ev_int (ea_cons (nE (j := at_ + 6 + i) e26 rfl (a2 6 i rfl rfl) hval) ea_nil)) fun H7 e7 => ?_
        refine q_unG2 (P := IsPair K) (evG_part (sq_of ((e6.trans e7) _ _ hph4)) fewH (ev_var rfl) (nE (j := at_ + 9 + i) (e26.trans e7) rfl (a2 9 i rfl rfl) hk)) fun v H8 e8 hv => ?_
        obtain ⟨pp, po, pf, on, off, rfl, hpp, ho, hf, fo, ff⟩ := hv
        refine ⟨pp, _, _, rfl, hpp, ?_⟩
        have hpn8 := ((e6.trans e7).trans e8) _ _ hpn4
        refine q_asgG (P := fun v H' => ∃ p ys, v = .ref p ∧ H' p = some (.tup ((ys : List Str).map V.str)) ∧ Few ys) (evG_srt (xs := sel names fun i => decide (val / [1, 2, 4].getD i 1 % 2 = 0)) (el_is (el_lcR1 (n := (names.length : Int)) (fun i => decide (val / [1, 2, 4].getD i 1 % 2 = 0)) (fun i => V.str (names.getD i Str.empty)) (ea_cons (ev_is (ev_len (ev_var rfl) (sq_of hpn8)) (by rw [List.length_map])) ea_nil) (by omega) (fun _ => rfl) (fun j H9 e9 hj => ?tst) (fun j H9 e9 hj _ => ?el)) (by rw [Int.toNat_natCast]; have := given_sel names fun i => decide (val / [1, 2, 4].getD i 1 % 2 = 0); rwa [List.length_map] at this)) (few_sel fewN _)) fun v H9 e9 hv => ?_
        case tst =>
          obtain ⟨dd, hd, pd, ed⟩ : ∃ dd : Nat, ([.int 1, .int 2, .int 4] : List V)[j]? = some (.int (dd : Int)) ∧ (0 < dd ∧ dd ≤ 4) ∧ dd = [1, 2, 4].getD j 1 := by
            have hj : j < 3 := by omega
            match j, hj with
            | 0, _ => exact ⟨1, rfl, by omega, rfl⟩
            | 1, _ => exact ⟨2, rfl, by omega, rfl⟩
            | 2, _ => exact ⟨4, rfl, by omega, rfl⟩
          rw [← ed]
          exact et_is (et_test (ev_op (ev_op (ev_int (ea_cons (ev_op (ev_var rfl) (ev_ixN (el_lst (ea_cons ev_c (ea_cons ev_c (ea_cons ev_c ea_nil))) (by simp)) (ev_var rfl) (atI_nat hd)) (rv_I (by unfold CDiv; omega))) ea_nil)) ev_c (rv_I (show (0 : Int) < 2 by decide))) ev_c (rv_eq rfl))) (show decide (V.int ((val : Int) / (dd : Int) % 2) = V.int 0) = decide (val / dd % 2 = 0) from decide_eq_decide.mpr ⟨fun h => by injection h with h; omega, fun h => congrArg V.int (by omega)⟩)
        case el => exact ev_ixI (ev_var rfl) (ev_var rfl) (sq_of (e9 _ _ hpn8)) (atI_nat (lit_at names j (by omega)))
        obtain ⟨pl, lets, rfl, hpl, fl⟩ := hv
        obtain ⟨to, hto, tto⟩ := to_at [none, none] names (val / 8 % (names.length + 2)) (by have := Nat.mod_lt (val / 8) (show 0 < names.length + 2 by omega); simp only [List.length_cons, List.length_nil]; omega)
        have tto : TN names to := tto.imp (fun h => by simpa using h) id
        have hpn9 := e9 _ _ hpn8
        refine s_appG (P := fun v H' => Dp K H' v (cdD ⟨bkCmds.getD i Str.empty, lets, on, off, to⟩)) (((e7.trans e8).trans e9) _ _ hpc6) (ev_var rfl) (evD_tup (eaD_cons (evD_str (ev_ixN (xs := bkCmds.map V.str) (el_lst (ea_cons ev_c (ea_cons ev_c (ea_cons ev_c ea_nil))) (by decide)) (ev_var rfl) (atI_nat (lit_at bkCmds i hi)))) (eaD_cons (Ev.gi (ev_var rfl) fun H' e => .tup (st_of (e _ _ hpl)) (dpa_texts lets)) (eaD_cons (Ev.gi (ev_var rfl) fun H' e => .tup (ex_t (e9.trans e) ho) (dpa_texts on)) (eaD_cons (Ev.gi (ev_var rfl) fun H' e => .tup (ex_t (e9.trans e) hf) (dpa_texts off))
          (eaD_cons (Ev.gi (ev_ixN (i := ((val / 8 % (names.length + 2) : Nat) : Int)) (xs := [none, none].map oV ++ names.map V.str) (el_catB (el_lst (ea_cons ev_c (ea_cons ev_c ea_nil)) (by simp)) (ev_var rfl) hpn9 (by simp; omega)) (ev_is (ev_op (ev_int (ea_cons (ev_op (ev_var rfl) ev_c (rv_I (by unfold CDiv; omega))) ea_nil)) (ev_op (ev_len (ev_var rfl) (sq_of hpn9)) ev_c rv_I0) (rv_I (by rw [List.length_map]; omega))) (congrArg V.int (by rw [List.length_map]; push_cast; rfl))) (atI_nat hto)) fun _ _ => dp_oV to) eaD_nil))))) (by simp)) (by rw [dpa_len dz, List.length_map]; omega) fun v H10 e10 hv => ?_
        have hpc10 := (((e7.trans e8).trans e9).trans e10) _ _ hpc6
        refine ⟨_, _, _, _, _, zs ++ [v], cds ++ [⟨bkCmds.getD i Str.empty, lets, on, off, to⟩], rfl, upd_same, ?_, by rw [List.length_append, lc]; rfl, ?_, Ex.mut ((((e6.trans e7).trans e8).trans e9).trans e10) npc⟩
        · rw [List.map_append]
          exact dpa_app (dpa_mut hpc10 (noLs_map cdD noL_cd cds) (dpa_ex (((e7.trans e8).trans e9).trans e10) dz)) (.cons (dp_mut hpc10 (noL_cd _) hv) .nil)
        · intro c hc
          rcases List.mem_append.mp hc with h | h
          · exact ok c h
          · rw [List.mem_singleton.mp h]
            exact ⟨gt_lits _ (by simp only [List.mem_append]; exact .inl (.inr (getD_mem hi))), fl, fo, ff, tto⟩
      case cd =>
        rintro σ' H6 ⟨u5, u6, u7, u9, u10, zsc, cds, rfl, hpc6, dc, lc, okC, e6⟩
        rw [Int.toNat_natCast] at lc
        have e26 := e24.trans e6
        have hph6 := e6 _ _ hph4
        have hpn6 := e6 _ _ hpn4
        -- alarms
        refine q_asgL (xs := []) (el_lst ea_nil (by decide)) fun pa H7 npa e7 hpa => ?_
        refine q_forR1 (n := ((m12 % 3 : Nat) : Int)) (ea_cons (ev_is (ev_op (ev_int (ea_cons (nE (j := at_ + 12) (e26.trans e7) rfl (a1 12 rfl) hm12) ea_nil)) ev_c (rv_I (show (0 : Int) < 3 by decide))) (congrArg V.int (by push_cast; rfl))) ea_nil) (by omega) (fun i σ' H' => ∃ (u5 u6 u7 : Option V) (zs : List V) (ads : List Al), σ' = [some (.ref n), some (.int (at_ : Int)), some (.ref ph), some (.ref pn), some (.ref pm), u5, u6, u7, some (.ref pc), u9, u10, some (.ref pa), none, none, none] ∧ H' pa = some (.lst zs) ∧ DpAll K H' zs (ads.map alD) ∧ ads.length = i ∧ (∀ c ∈ ads, Gt 4 c.n ∧ Few c.on ∧ Few c.off ∧ TN names c.to) ∧ Ex H6 H') (fun H8 e8 => ⟨_, _, _, [], [], rfl, e8 _ _ hpa, .nil, rfl, fun _ h => (nomatch h), e7.trans e8⟩) ?as ?ad
        case as =>
          rintro i σ' H8 hi ⟨u5, u6, u7, zs, ads, rfl, hpa8, dz, la, ok, e8⟩
          have hi : i < 2 := by omega
          obtain ⟨k, hk⟩ := get (j := at_ + 13 + i) (by omega)
          obtain ⟨k2, hk2⟩ := get (j := at_ + 15 + i) (by omega)
          have e28 := e26.trans e8
          refine q_unG2 (P := IsPair K) (evG_part (sq_of (e8 _ _ hph6)) fewH (ev_var rfl) (nE (j := at_ + 13 + i) e28 rfl (a2 13 i rfl rfl) hk)) fun v H9 e9 hv => ?_
          obtain ⟨pp, po, pf, on, off, rfl, hpp, ho, hf, fo, ff⟩ := hv
          refine ⟨pp, _, _, rfl, hpp, ?_⟩
          obtain ⟨to, hto, tto⟩ := to_at [none, some (Str.ofString "safe")] names (k2 % (names.length + 2)) (by have := Nat.mod_lt k2 (show 0 < names.length + 2 by omega); simp only [List.length_cons, List.length_nil]; omega)
          have tto : TN names to := by
            rcases tto with h | h
            · rcases List.mem_cons.mp h with h | h
              · exact .inl h
              · exact .inr ⟨_, safeN, List.mem_singleton.mp h⟩
            · exact .inr h
          have hpn9 := (e8.trans e9) _ _ hpn6
          refine s_appG (P := fun v H' => Dp K H' v (alD ⟨bkAls.getD i Str.empty, on, off, to⟩)) (e9 _ _ hpa8) (ev_var rfl) (evD_tup (eaD_cons (evD_str (ev_ixN (xs := bkAls.map V.str) (el_lst (ea_cons ev_c (ea_cons ev_c ea_nil)) (by decide)) (ev_var rfl) (atI_nat (lit_at bkAls i hi)))) (eaD_cons (Ev.gi (ev_var rfl) fun H' e => .tup (ex_t e ho) (dpa_texts on)) (eaD_cons (Ev.gi (ev_var rfl) fun H' e => .tup (ex_t e hf) (dpa_texts off))
            (eaD_cons (Ev.gi (ev_ixN (i := ((k2 % (names.length + 2) : Nat) : Int)) (xs := [none, some (Str.ofString "safe")].map oV ++ names.map V.str) (el_catB (el_lst (ea_cons ev_c (ea_cons ev_c ea_nil)) (by simp)) (ev_var rfl) hpn9 (by simp; omega)) (ev_is (ev_op (ev_int (ea_cons (nE (j := at_ + 15 + i) (e28.trans e9) rfl (a2 15 i rfl rfl) hk2) ea_nil)) (ev_op (ev_len (ev_var rfl) (sq_of hpn9)) ev_c rv_I0) (rv_I (by rw [List.length_map]; omega))) (congrArg V.int (by rw [List.length_map]; push_cast; rfl))) (atI_nat hto)) fun _ _ => dp_oV to) eaD_nil)))) (by simp)) (by rw [dpa_len dz, List.length_map]; omega) fun v H10 e10 hv => ?_
          have hpa10 := (e9.trans e10) _ _ hpa8
          refine ⟨_, _, _, zs ++ [v], ads ++ [⟨bkAls.getD i Str.empty, on, off, to⟩], rfl, upd_same, ?_, by rw [List.length_append, la]; rfl, ?_, Ex.mut ((e8.trans e9).trans e10) npa⟩
          · rw [List.map_append]
            exact dpa_app (dpa_mut hpa10 (noLs_map alD noL_al ads) (dpa_ex (e9.trans e10) dz)) (.cons (dp_mut hpa10 (noL_al _) hv) .nil)
          · intro c hc
            rcases List.mem_append.mp hc with h | h
            · exact ok c h
            · rw [List.mem_singleton.mp h]
              exact ⟨gt_lits _ (by simp only [List.mem_append]; exact .inr (getD_mem hi)), fo, ff, tto⟩
        case ad =>
          rintro σ' H8 ⟨u5, u6, u7, zsa, ads, rfl, hpa8, da, la, okA, e8⟩
          rw [Int.toNat_natCast] at la
          have e28 := e26.trans e8
          have hpc8 := e8 _ _ hpc6
          -- rows
          refine q_asgL (xs := []) (el_lst ea_nil (by decide)) fun pr H9 _ e9 hpr => ?_
          refine q_join (Pm := fun σ' H' => ∃ (u5 u9 u13 : Option V) (pr : Addr) (zs : List V) (rws : List Rw), σ' = [some (.ref n), some (.int (at_ : Int)), some (.ref ph), some (.ref pn), some (.ref pm), u5, u6, u7, some (.ref pc), u9, u10, some (.ref pa), some (.ref pr), u13, none] ∧ H' pr = some (.lst zs) ∧ DpAll K H' zs (rws.map rwD) ∧ (rws.length ≤ 1 ∧ ∀ r ∈ rws, Gt 4 r.1 ∧ r.2 ≠ [] ∧ r.2.length ≤ 3 ∧ ∀ s ∈ r.2, 1 ≤ s.1 ∧ s.1 ≤ 3 ∧ ∃ c ∈ cds, c.n = s.2) ∧ Ex H8 H') ?rest fun N hN => ?mid
          case mid =>
            refine s_when (b := decide (m17 % 2 = 1)) (et_is (et_test (ev_op (ev_op (ev_int (ea_cons (nE (j := at_ + 17) (e28.trans e9) rfl (a1 17 rfl) hm17) ea_nil)) ev_c (rv_I (show (0 : Int) < 2 by decide))) ev_c (rv_eq rfl))) (show decide (V.int ((m17 : Int) % 2) = V.int 1) = decide (m17 % 2 = 1) from decide_eq_decide.mpr ⟨fun h => by injection h with h; omega, fun h => congrArg V.int (by omega)⟩)) (fun _ H10 e10 => ?_) fun _ H10 e10 => ?_
            · refine q_asgL (xs := []) (el_lst ea_nil (by decide)) fun ps H11 nps e11 hps => ?_
              have e8a := e9.trans e10
              refine q_forR1 (n := ((1 + m18 % 3 : Nat) : Int)) (ea_cons (ev_is (ev_op ev_c (ev_op (ev_int (ea_cons (nE (j := at_ + 18) ((e28.trans e8a).trans e11) rfl (a1 18 rfl) hm18) ea_nil)) ev_c (rv_I (show (0 : Int) < 3 by decide))) rv_I0) (congrArg V.int (by push_cast; rfl))) ea_nil) (by omega) (fun i σ' H' => ∃ (u5 u9 : Option V) (zs : List V) (sts : List (Nat × Str)), σ' = [some (.ref n), some (.int (at_ : Int)), some (.ref ph), some (.ref pn), some (.ref pm), u5, u6, u7, some (.ref pc), u9, u10, some (.ref pa), some (.ref pr), some (.ref ps), none] ∧ H' ps = some (.lst zs) ∧ DpAll K H' zs (sts.map stepD) ∧ sts.length = i ∧ (∀ s ∈ sts, 1 ≤ s.1 ∧ s.1 ≤ 3 ∧ ∃ c ∈ cds, c.n = s.2) ∧ Ex H10 H') (fun H12 e12 => ⟨_, _, [], [], rfl, e12 _ _ hps, .nil, rfl, fun _ h => (nomatch h), e11.trans e12⟩) ?ss ?sd
              case ss =>
                rintro i σ' H12 hi ⟨u5, u9, zs, sts, rfl, hps12, dz, ls, ok, e12'⟩
                obtain ⟨val, hval⟩ := get (j := at_ + 19 + i) (by omega)
                have e8c := e8a.trans e12'
                refine q_asg (v := .int (val : Int)) (ev_int (ea_cons (nE (j := at_ + 19 + i) (e28.trans e8c) rfl (a2 19 i rfl rfl) hval) ea_nil)) fun H13 e13 => ?_
                have e6d := (e8.trans e8c).trans e13
                have lz : zsc.length = cds.length := by rw [dpa_len dc, List.length_map]
                have hz : val / 3 % zsc.length < zsc.length := Nat.mod_lt _ (by omega)
                obtain ⟨c, pcc, zz, hc, hu, hpcc, hnm⟩ := name_at cdD Cd.n (fun c => ⟨_, rfl⟩) dc (List.getElem?_eq_getElem hz)
                refine s_appG (P := fun v H' => Dp K H' v (stepD (1 + val % 3, c.n))) (e13 _ _ hps12) (ev_var rfl) (evD_tup (eaD_cons (evD_int (ev_is (ev_op ev_c (ev_op (ev_int (ea_cons (ev_var rfl) ea_nil)) ev_c (rv_I (show (0 : Int) < 3 by decide))) rv_I0) (congrArg V.int (by push_cast; rfl)))) (eaD_cons (evD_str (ev_op (ev_ixI (i := ((val / 3 % zsc.length : Nat) : Int)) (ev_var rfl) (ev_is (ev_op (ev_int (ea_cons (ev_op (ev_var rfl) ev_c (rv_I (by unfold CDiv; omega))) ea_nil)) (ev_len (ev_var rfl) (sq_of (e6d _ _ hpc6))) (rv_I (by omega))) (congrArg V.int (by push_cast; rfl))) (sq_of (e6d _ _ hpc6)) (atI_nat ((List.getElem?_eq_getElem hz).trans (congrArg some hu)))) ev_c (rv_ixT (ex_t e6d hpcc) hnm))) eaD_nil)) (by simp)) (by rw [dpa_len dz, List.length_map]; omega) fun v H14 e14 hv => ?_
                have hps14 := (e13.trans e14) _ _ hps12
                refine ⟨_, _, zs ++ [v], sts ++ [(1 + val % 3, c.n)], rfl, upd_same, ?_, by rw [List.length_append, ls]; rfl, ?_, Ex.mut ((e12'.trans e13).trans e14) nps⟩
                · rw [List.map_append]
                  exact dpa_app (dpa_mut hps14 (noLs_map stepD noL_step sts) (dpa_ex (e13.trans e14) dz)) (.cons (dp_mut hps14 (noL_step _) hv) .nil)
                · intro s hs
                  rcases List.mem_append.mp hs with h | h
                  · exact ok s h
                  · rw [List.mem_singleton.mp h]
                    exact ⟨by show 1 ≤ 1 + val % 3; omega, by show 1 + val % 3 ≤ 3; omega, c, hc, rfl⟩
              case sd =>
                rintro σ' H12 ⟨u5, u9, zs, sts, rfl, hps12, dz, ls, ok, e12'⟩
                rw [Int.toNat_natCast] at ls
                refine s_asgG (evL_data (K := K) (ds := [rwD (Str.ofString "plan", sts)]) (eaD_cons (evD_tup (eaD_cons (evD_str ev_c) (eaD_cons (evD_tupS (ev_var rfl) hps12 dz) eaD_nil)) (by simp)) eaD_nil) (by simp)) fun v H13 e13 ⟨p, xs, hv, _, hp, hd⟩ => ?_
                subst hv
                refine hN _ _ ⟨_, _, _, p, xs, [(Str.ofString "plan", sts)], rfl, hp, hd, ⟨by simp, fun r hr => ?_⟩, (e8a.trans e12').trans e13⟩
                rw [List.mem_singleton.mp hr]
                refine ⟨show Gt 4 (Str.ofString "plan") from ⟨by decide +kernel, by decide +kernel⟩, fun h => ?_, by show sts.length ≤ 3; omega, ok⟩
                have h : sts = [] := h
                rw [h] at ls
                simp only [List.length_nil] at ls
                omega
            · exact hN _ _ ⟨_, _, none, pr, [], [], rfl, e10 _ _ hpr, .nil, ⟨by simp, fun _ h => (nomatch h)⟩, e9.trans e10⟩
          case rest =>
            rintro σ' H10 ⟨u5, u9, u13, pr, zsr, rws, rfl, hpr, dr, okR, e10⟩
            have e2a := e28.trans e10
            obtain ⟨lim, hlim⟩ : ∃ lim : Option Nat, ([.non, .int 2, .int 3, .int 4] : List V)[m22 % 4]? = some (lmV lim) := by
              have h : m22 % 4 = 0 ∨ m22 % 4 = 1 ∨ m22 % 4 = 2 ∨ m22 % 4 = 3 := by omega
              rcases h with h | h | h | h <;> rw [h]
              · exact ⟨none, rfl⟩
              · exact ⟨some 2, rfl⟩
              · exact ⟨some 3, rfl⟩
              · exact ⟨some 4, rfl⟩
            have e46 := e6.trans (e8.trans e10)
            refine s_retG (evD_tup (eaD_cons (Ev.gi (ev_var rfl) fun H' e => .lst (sq_of ((e46.trans e) _ _ hph4)) (dpa_texts holds)) (eaD_cons (Ev.gi (ev_var rfl) fun H' e => .lst (sq_of ((e46.trans e) _ _ hpm4)) (dpa_ex (e46.trans e) dm)) (eaD_cons (Ev.gi (ev_var rfl) fun H' e => .lst (sq_of (((e8.trans e10).trans e) _ _ hpc6)) (dpa_ex ((e8.trans e10).trans e) dc)) (eaD_cons (Ev.gi (ev_var rfl) fun H' e => .lst (sq_of ((e10.trans e) _ _ hpa8)) (dpa_ex (e10.trans e) da)) (eaD_cons (Ev.gi (ev_var rfl) fun H' e => .lst (sq_of (e _ _ hpr)) (dpa_ex e dr)) (eaD_cons (Ev.gi (ev_ixN (i := ((m22 % 4 : Nat) : Int)) (el_lst (ea_cons ev_c (ea_cons ev_c (ea_cons ev_c (ea_cons ev_c ea_nil)))) (by simp)) (ev_is (ev_op (ev_int (ea_cons (nE (j := at_ + 22) e2a rfl (a1 22 rfl) hm22) ea_nil)) ev_c (rv_I (show (0 : Int) < 4 by decide))) (congrArg V.int (by push_cast; rfl))) (atI_nat hlim)) fun H' _ => dp_lmV lim) eaD_nil)))))) (by simp)) fun v H11 e11 hv => ?_
            refine q v H11 ⟨⟨holds, mds, cds, ads, rws, lim⟩, hv, ?_⟩ (e2a.trans e11)
            have lmd : mds.length = names.length := by
              have := congrArg List.length nm
              rwa [List.length_map] at this
            refine ⟨fewH, ⟨fun h => ?_, by show mds.length ≤ 3; omega, fun m hm => ⟨?_, okM m hm⟩⟩, ⟨fun h => ?_, by show cds.length ≤ 3; omega, fun c hc => ?_⟩, ⟨by show ads.length ≤ 2; omega, fun c hc => ?_⟩, okR, neH⟩
            · have h : mds = [] := h
              rw [h] at lmd
              simp only [List.length_nil] at lmd
              omega
            · exact fewN.2 _ (by rw [← nm]; exact List.mem_map.mpr ⟨m, hm, rfl⟩)
            · have h : cds = [] := h
              rw [h] at lc
              simp only [List.length_nil] at lc
              omega
            · obtain ⟨h1, h2, h3, h4, h5⟩ := okC c hc
              exact ⟨h1, h2, h3, h4, h5.ok nm⟩
            · obtain ⟨h1, h2, h3, h4⟩ := okA c hc
              exact ⟨h1, h2, h3, h4.ok nm⟩

/-! ### all histories -/
theorem evL_P {σ : L2.St} {H : Hp} {tA : TA} {Ps : List (V → Hp → Prop)} (m : ∀ P ∈ Ps, Mono P) (h : EaP tA σ H Ps) (hl : Ps.length ≤ 100000) : EvG (tLst tA) σ H (fun v H' => ∃ p vs, v = .ref p ∧ H p = none ∧ H' p = some (.lst vs) ∧ AllP H' vs Ps) := fun H1 e Q q =>
  h H1 e _ fun vs H2 e2 hvs => ⟨sz_of (by rw [hvs.len]; exact hl), fun p np => q _ _ (e2.trans (Ex.new np)) ⟨p, vs, rfl, fresh_back (e.trans e2) np, upd_same, hvs.ex (Ex.new np) m⟩⟩
theorem noL_sg (s : Sg) : noL (sgD s) = true := by simp [sgD, noL, noLs, noL_tD, noL_oD]
def prD (st : Sg) (c : Nat) : PyData := .tuple [sgD st, .int (c : Int)]
theorem noL_pr (st : Sg) (c : Nat) : noL (prD st c) = true := by simp [prD, noL, noLs, noL_sg]
def IsPr (K : PySem.W.Frag) (b : Bk) : V → Hp → Prop := fun v H => ∃ st c, Dp K H v (prD st c) ∧ StOk b st
theorem IsPr.m {b : Bk} : Mono (IsPr K b) := fun _ _ _ e ⟨st, c, d, o⟩ => ⟨st, c, dp_ex e d, o⟩
theorem IsPr.mu {b : Bk} {x : V} {H : Hp} {p : Addr} {ys : List V} {o : HO} (h : H p = some (.lst ys)) (hx : IsPr K b x H) : IsPr K b x (upd H p o) := by
  obtain ⟨st, c, d, r⟩ := hx
  exact ⟨st, c, dp_mut h (noL_pr st c) d, r⟩
theorem IsPr.inv {b : Bk} {x : V} {H : Hp} (hx : IsPr K b x H) : ∃ p sv st c, x = .ref p ∧ SqT K H p [sv, .int ((c : Nat) : Int)] ∧ Dp K H sv (sgD st) ∧ StOk b st := by
  obtain ⟨st, c, d, r⟩ := hx
  obtain ⟨p, zs, rfl, hz, hzd⟩ := Dp.tup_inv d
  obtain ⟨z1, r1, rfl, k1, hzd⟩ := DpAll.cons_inv hzd
  obtain ⟨z2, r2, rfl, k2, hzd⟩ := DpAll.cons_inv hzd
  obtain rfl := DpAll.nil_inv hzd
  obtain rfl := Dp.int_inv k2
  exact ⟨p, z1, st, c, rfl, hz, k1, r⟩
/-- a history with the pairs at the ends of its ticks; its lists are not the list l -/
def IsRow (K : PySem.W.Frag) (b : Bk) (n : Nat) (l : Option Addr) : V → Hp → Prop := fun v H => ∃ p h pr hs xs, v = .ref p ∧ SqT K H p [.ref h, .ref pr] ∧ (some h ≠ l ∧ some pr ≠ l) ∧ H h = some (.lst hs) ∧ hs.length ≤ n ∧ H pr = some (.lst xs) ∧ xs.length = n + 1 ∧ ∀ x ∈ xs, IsPr K b x H
theorem IsRow.m {b : Bk} {n : Nat} {l : Option Addr} : Mono (IsRow K b n l) := fun _ _ _ e ⟨p, h, pr, hs, xs, e1, h1, ne, h2, l2, h3, l3, all⟩ => ⟨p, h, pr, hs, xs, e1, ex_t e h1, ne, e _ _ h2, l2, e _ _ h3, l3, fun x hx => IsPr.m _ _ _ e (all x hx)⟩
theorem IsRow.mu {b : Bk} {n : Nat} {l : Addr} {x : V} {H : Hp} {ys : List V} {o : HO} (hl : H l = some (.lst ys)) (hx : IsRow K b n (some l) x H) : IsRow K b n (some l) x (upd H l o) := by
  obtain ⟨p, h, pr, hs, xs, e1, h1, ⟨n1, n2⟩, h2, l2, h3, l3, all⟩ := hx
  exact ⟨p, h, pr, hs, xs, e1, sqt_mut hl h1, ⟨n1, n2⟩, by rw [upd_ne (fun e => n1 (by rw [e]))]; exact h2, l2, by rw [upd_ne (fun e => n2 (by rw [e]))]; exact h3, l3, fun x hx => IsPr.mu hl (all x hx)⟩
theorem IsRow.any {b : Bk} {n : Nat} {l : Option Addr} {x : V} {H : Hp} (hx : IsRow K b n l x H) : IsRow K b n none x H := by
  obtain ⟨p, h, pr, hs, xs, e1, h1, _, r⟩ := hx
  exact ⟨p, h, pr, hs, xs, e1, h1, ⟨fun e => (nomatch e), fun e => (nomatch e)⟩, r⟩
def IsO (K : PySem.W.Frag) (b : Bk) : V → Hp → Prop := fun v H => v = .non ∨ IsOrd K b v H
theorem IsO.m {b : Bk} : Mono (IsO K b) := fun _ _ _ e h => h.imp id (IsOrd.m _ _ _ e)
theorem IsO.mu {b : Bk} {x : V} {H : Hp} {p : Addr} {ys : List V} {o : HO} (h : H p = some (.lst ys)) (hx : IsO K b x H) : IsO K b x (upd H p o) := hx.imp id (IsOrd.mu _ _ _ _ _ h)
theorem IsO.d {b : Bk} {x : V} {H : Hp} (hx : IsO K b x H) : ∃ d, Dp K H x d := by
  rcases hx with rfl | ⟨o, d, _⟩
  · exact ⟨_, .non⟩
  · exact ⟨_, d⟩
/-- the lists while longer histories are made -/
structure Hs (K : PySem.W.Frag) (b : Bk) (n : Nat) (pl po pt : Addr) (ovs lts : List V) (H2 : Hp) (zs : List V) (H : Hp) : Prop where
  nt : pt ≠ pl
  no : po ≠ pl
  t : H pt = some (.lst lts) ∧ ∀ x ∈ lts, IsLotV K 2 x H
  o : H po = some (.lst ovs) ∧ ∀ x ∈ ovs, IsO K b x H
  l : H pl = some (.lst zs) ∧ ∀ z ∈ zs, IsRow K b n (some pl) z H
  np : H2 pl = none
  e : Ex H2 H
theorem Hs.ex {b : Bk} {n : Nat} {pl po pt : Addr} {ovs lts : List V} {H2 H H' : Hp} {zs : List V} (h : Hs K b n pl po pt ovs lts H2 zs H) (e : Ex H H') : Hs K b n pl po pt ovs lts H2 zs H' :=
  ⟨h.nt, h.no, ⟨e _ _ h.t.1, fun x hx => IsLotV.m _ _ _ e (h.t.2 x hx)⟩, ⟨e _ _ h.o.1, fun x hx => IsO.m _ _ _ e (h.o.2 x hx)⟩, ⟨e _ _ h.l.1, fun x hx => IsRow.m _ _ _ e (h.l.2 x hx)⟩, h.np, h.e.trans e⟩
theorem Hs.app {b : Bk} {n : Nat} {pl po pt : Addr} {ovs lts : List V} {H2 H : Hp} {zs : List V} {v : V} (h : Hs K b n pl po pt ovs lts H2 zs H) (hv : IsRow K b n (some pl) v H) : Hs K b n pl po pt ovs lts H2 (zs ++ [v]) (upd H pl (.lst (zs ++ [v]))) :=
  ⟨h.nt, h.no, ⟨by rw [upd_ne h.nt]; exact h.t.1, fun x hx => IsLotV.mu _ _ _ _ _ h.l.1 (h.t.2 x hx)⟩, ⟨by rw [upd_ne h.no]; exact h.o.1, fun x hx => IsO.mu h.l.1 (h.o.2 x hx)⟩, ⟨upd_same, fun x hx => by
    rcases List.mem_append.mp hx with hx | hx
    · exact IsRow.mu h.l.1 (h.l.2 x hx)
    · rw [List.mem_singleton.mp hx]; exact IsRow.mu h.l.1 hv⟩, h.np, Ex.mut h.e h.np⟩
/-- a longer row -/
theorem evG_row {σ : L2.St} {H : Hp} {t1 t2 t3 t4 t5 : TE} {b : Bk} {n : Nat} {pl h pr : Addr} {hs xs zs : List V} {lot ord pv : V} (hl : H pl = some (.lst zs)) (h1 : Ev t1 σ H (.ref h)) (hh : H h = some (.lst hs)) (lh : hs.length ≤ n) (h2 : Ev t2 σ H lot) (dl : ∃ d, Dp K H lot d) (h3 : Ev t3 σ H ord) (do_ : ∃ d, Dp K H ord d) (h4 : Ev t4 σ H (.ref pr)) (hp : H pr = some (.lst xs)) (lx : xs.length = n + 1) (all : ∀ x ∈ xs, IsPr K b x H) (h5 : Ev t5 σ H pv) (dp : IsPr K b pv H) (small : n ≤ 1000) :
    EvG (tTup (tCons (tOp rCat t1 (tLst (tCons (tTup (tCons t2 (tCons t3 tNil))) tNil))) (tCons (tOp rCat t4 (tLst (tCons t5 tNil))) tNil))) σ H (IsRow K b (n + 1) (some pl)) := by
  obtain ⟨d1, dl⟩ := dl
  obtain ⟨d2, do_⟩ := do_
  obtain ⟨st, c, dp, so⟩ := dp
  have fr : ∀ {H' : Hp} {q : Addr}, H q = none → some q ≠ some pl := fun hq e => by
    have e := Option.some.inj e
    subst e
    rw [hl] at hq; cases hq
  refine EvG.imp (evG_tup2 (P1 := fun v H' => ∃ q ys, v = .ref q ∧ some q ≠ some pl ∧ H' q = some (.lst ys) ∧ ys.length ≤ n + 1) (P2 := fun v H' => ∃ q ys, v = .ref q ∧ some q ≠ some pl ∧ H' q = some (.lst ys) ∧ ys.length = n + 1 + 1 ∧ ∀ x ∈ ys, IsPr K b x H')
    (EvG.imp (evG_catD (ds := [.tuple [d1, d2]]) h1 hh (EvG.imp (evL_data (eaD_cons (evD_tup (eaD_cons (Ev.gi h2 fun H' e => dp_ex e dl) (eaD_cons (Ev.gi h3 fun H' e => dp_ex e do_) eaD_nil)) (by simp)) eaD_nil) (by simp)) fun v H' _ ⟨p, ws, a, _, b, c⟩ => ⟨p, ws, a, b, c⟩) (by simp; omega)) fun v H' _ ⟨p, ws, e1, np, hp, dw⟩ => ⟨p, _, e1, fr (H' := H') np, hp, by rw [List.length_append, dpa_len dw]; simp; omega⟩) (fun v H1 H2 e ⟨q, ys, a, b, c, d⟩ => ⟨q, ys, a, b, e _ _ c, d⟩)
    (EvG.imp (evG_catD (ds := [prD st c]) h4 hp (EvG.imp (evL_data (eaD_cons (Ev.gi h5 fun H' e => dp_ex e dp) eaD_nil) (by simp)) fun v H' _ ⟨p, ws, a, _, b, c⟩ => ⟨p, ws, a, b, c⟩) (by simp; omega)) fun v H' e ⟨p, ws, e1, np, hp, dw⟩ => ⟨p, _, e1, fr (H' := H') np, hp, by rw [List.length_append, dpa_len dw, lx]; rfl, fun x hx => ?_⟩) (fun v H1 H2 e ⟨q, ys, a, b, c, d, f⟩ => ⟨q, ys, a, b, e _ _ c, d, fun x hx => IsPr.m _ _ _ e (f x hx)⟩)) fun v H' _ ⟨p, a, c, e1, _, hp, ⟨q1, ys1, f1, f2, f3, f4⟩, ⟨q2, ys2, g1, g2, g3, g4, g5⟩⟩ => ⟨p, q1, q2, ys1, ys2, e1, st_of (by rw [hp, f1, g1]), ⟨f2, g2⟩, f3, f4, g3, g4, g5⟩
  rcases List.mem_append.mp hx with h | h
  · exact IsPr.m _ _ _ e (all x h)
  · obtain ⟨y, r, rfl, d, dw⟩ := DpAll.cons_inv dw
    obtain rfl := DpAll.nil_inv dw
    rw [List.mem_singleton.mp h]
    exact ⟨st, c, d, so⟩
def spHist (K : PySem.W.Frag) : Sp := fun vs H Q _ => ∃ (bv sv : V) (aa : Addr) (b : Bk) (ss : List Sent) (ws : List Str) (now : Nat), vs = [bv, sv, .ref aa, .int (now : Int)] ∧ Dp K H bv (bkD b) ∧ BkOk b ∧ Dp K H sv (.list (ss.map snD)) ∧ (∀ s ∈ ss, OrdOk b s.1) ∧ SqT K H aa (ws.map V.str) ∧ Few ws ∧ ws.length ≤ 2 ∧ now ≤ 2 ∧
  ∀ p xs H', 0 < xs.length → xs.length ≤ 64 → (∀ x ∈ xs, IsRow K b now none x H') → Ex H H' → H' p = some (.lst xs) → Q (.ref p) H'
theorem pow8 {i : Nat} (h : i ≤ 2) : 8 ^ i ≤ 64 := by
  match i, h with
  | 0, _ => decide
  | 1, _ => decide
  | 2, _ => decide
theorem ok_hist (A : At K mg "_law_histories" s__law_histories) (mz_range : mg "range" = none) (mz_len : mg "len" = none) (mz_int : mg "int" = none) (D__law_first : Dfn P w K mg base 2 "_law_first" p__law_first (spFirst K)) (D__law_lots : Dfn P w K mg base 1 "_law_lots" p__law_lots (spLots K)) (D__law_tick : Dfn P w K mg base 3 "_law_tick" p__law_tick (spTick K)) : Dfn P w K mg base 4 "_law_histories" p__law_histories (spHist K) := by
  refine dfn_ok A sc__law_histories (fun _ _ _ _ _ _ us hl => match us, hl with | [_, _, _, _], _ => rfl) (fun vs H Q E h => ?_) (fun f cdv A outer s H vs Q E hr h => ?_)
  · obtain ⟨bv, sv, aa, b, ss, ws, now, rfl, _⟩ := h
    rfl
  · obtain ⟨bv, sv, aa, b, ss, ws, now, rfl, d, ok, ds, oks, haa, fw, lw, now2, q⟩ := h
    refine ⟨_, (pss_cons (ps_set (i := 4) sc__law_histories.nd rfl (Or.inl rfl) (pe_lst (pa_cons (pe_tup (pa_cons (pe_lst pa_nil) (pa_cons (pe_lst (pa_cons (pe_tup (pa_cons (pe_d D__law_first (hr.mono (by decide)) (pa_cons (pv 0) pa_nil)) (pa_cons pe_int pa_nil))) pa_nil)) pa_nil))) pa_nil)))
  (pss_cons (ps_for PassesOwn.never rfl (pi_range2 (by rfl) mz_range (pa_cons pe_int (pa_cons (pe_op op_add (pv 3) pe_int) pa_nil))) (pg_name (i := 5) sc__law_histories.nd rfl (Or.inl rfl))
    (pss_cons (ps_set (i := 6) sc__law_histories.nd rfl (Or.inl rfl) (pe_lst pa_nil))
  (pss_cons (ps_for PassesOwn.never rfl (show PI _ _ _ (iList K _) from pi_list (pv 4)) (show PG _ _ (gTup K 2 _) from pg_tup rfl (pgs_cons (pg_name (i := 7) sc__law_histories.nd rfl (Or.inl rfl)) (pgs_cons (pg_name (i := 8) sc__law_histories.nd rfl (Or.inl rfl)) pgs_nil)))
    (pss_cons (ps_asg (pe_ix (show IxR _ (rIxL K) from ix_list) (pv 8) (pe_un un_neg pe_int) (fun _ _ => rfl)) (show PG _ _ (gTup K 2 _) from pg_tup rfl (pgs_cons (pg_name (i := 9) sc__law_histories.nd rfl (Or.inl rfl)) (pgs_cons (pg_name (i := 10) sc__law_histories.nd rfl (Or.inl rfl)) pgs_nil))))
  (pss_cons (ps_set (i := 11) sc__law_histories.nd rfl (Or.inl rfl) (pe_lst (pa_cons pe_non pa_nil)))
  (pss_cons (ps_if (PW.pt (pw_and (pt_cmpR op_lt (pv 10) (pe_callB (show CallR _ _ (rLenS K) from call_len_seq) (by rfl) mz_len PySem.boot_len (pa_cons (pv 1) pa_nil)) (by first | exact nomark _ | rfl)) (pw_and1 (pt_cmpR op_le (pe_ix (show IxR _ (rIxT K) from ix_tup) (pe_ix (show IxR _ (rIxL K) from ix_list) (pv 1) (pv 10) (fun _ _ => rfl)) pe_int (fun _ _ => rfl)) (pv 5) (by first | exact nomark _ | rfl)))))
    (pss_one (ps_expr (show PE _ _ (tBM K "list" _ _ _) from pe_bm PySem.F.plainAttrs_list PySem.F.slot_list_append PySem.F.type_list_append mt_append (pv 11) (pa_cons (pe_ix (show IxR _ (rIxT K) from ix_tup) (pe_ix (show IxR _ (rIxL K) from ix_list) (pv 1) (pv 10) (fun _ _ => rfl)) pe_int (fun _ _ => rfl)) pa_nil))))
    pss_nil)
  (pss_one (ps_for PassesOwn.never rfl (show PI _ _ _ (iList K _) from pi_list (pe_d D__law_lots (hr.mono (by decide)) (pa_cons (pv 2) pa_nil))) (pg_name (i := 12) sc__law_histories.nd rfl (Or.inl rfl))
    (pss_one (ps_for PassesOwn.never rfl (show PI _ _ _ (iList K _) from pi_list (pv 11)) (pg_name (i := 13) sc__law_histories.nd rfl (Or.inl rfl))
    (pss_cons (ps_set (i := 14) sc__law_histories.nd rfl (Or.inl rfl) (pe_tup (pa_cons (pe_d D__law_tick (hr.mono (by decide)) (pa_cons (pv 0) (pa_cons (pv 9) (pa_cons (pv 12) (pa_cons (pv 13) pa_nil))))) (pa_cons (pe_op op_add (pv 10) (pe_callTy call_int1 (by rfl) mz_int (by decide +kernel) (pa_cons (pe_cmpR op_notN (pv 13) pe_non (by first | exact nomark _ | rfl)) pa_nil))) pa_nil))))
  (pss_one (ps_expr (show PE _ _ (tBM K "list" _ _ _) from pe_bm PySem.F.plainAttrs_list PySem.F.slot_list_append PySem.F.type_list_append mt_append (pv 6) (pa_cons (pe_tup (pa_cons (pe_op op_cat (pv 7) (pe_lst (pa_cons (pe_tup (pa_cons (pv 12) (pa_cons (pv 13) pa_nil))) pa_nil))) (pa_cons (pe_op op_cat (pv 8) (pe_lst (pa_cons (pv 14) pa_nil))) pa_nil))) pa_nil)))))))))))))
  (pss_one (ps_set (i := 4) sc__law_histories.nd rfl (Or.inl rfl) (pv 6))))))
  (pss_one (ps_ret (pv 4))))), ?_⟩
    obtain ⟨sa, svs, rfl, hsa, dsa⟩ := dp_lst_inv ds
    have lsv : svs.length = ss.length := by rw [dpa_len dsa, List.length_map]
    have one : ∀ {P : V → Hp → Prop}, Mono P → ∀ Q ∈ [P], Mono Q := fun m Q hQ => by rw [List.mem_singleton.mp hQ]; exact m
    refine q_asgG (P := fun v H' => ∃ p xs, v = .ref p ∧ H' p = some (.lst xs) ∧ xs.length = 1 ∧ ∀ x ∈ xs, IsRow K b 0 none x H') (EvG.imp (evL_P (Ps := [IsRow K b 0 none]) (one IsRow.m) (eaP_cons IsRow.m (EvG.imp (evG_tup2 (P1 := fun v H' => ∃ h, v = .ref h ∧ H' h = some (.lst [])) (EvG.imp (EvL.g (el_lst ea_nil (by decide))) fun v H' _ ⟨p, a, _, c⟩ => ⟨p, a, c⟩) (fun v H1 H2 e ⟨h, a, c⟩ => ⟨h, a, e _ _ c⟩) (P2 := fun v H' => ∃ pr xs, v = .ref pr ∧ H' pr = some (.lst xs) ∧ xs.length = 1 ∧ ∀ x ∈ xs, IsPr K b x H')
      (EvG.imp (evL_P (Ps := [IsPr K b]) (one IsPr.m) (eaP_cons IsPr.m (EvG.imp (evT_P (Ps := [IsSt K b, IsV (.int 0)]) ?mm (eaP_cons IsSt.m (evG_call (ea_cons (ev_var rfl) ea_nil) (SpFirst d ok)) (eaP_cons IsV.m (ea_one ev_c) eaP_nil)) (by simp)) ?pr) eaP_nil) (by simp)) ?li) (fun v H1 H2 e ⟨h, xs, a, c, l, f⟩ => ⟨h, xs, a, e _ _ c, l, fun x hx => IsPr.m _ _ _ e (f x hx)⟩)) ?ro) eaP_nil) (by simp)) ?rs) fun v H1 e1 hv => ?_
    case mm =>
      intro P hP
      simp only [List.mem_cons, List.not_mem_nil, or_false] at hP
      rcases hP with rfl | rfl
      · exact IsSt.m
      · exact IsV.m
    case pr =>
      rintro v H' _ ⟨p, vs, rfl, hp, all⟩
      cases all with | cons a1 all =>
      cases all with | cons a2 all =>
      cases all
      obtain rfl := a2
      obtain ⟨st, d1, o⟩ := a1
      exact ⟨st, 0, .tup (st_of hp) (.cons d1 (.cons (.int _) .nil)), o⟩
    case li =>
      rintro v H' _ ⟨p, vs, rfl, _, hp, all⟩
      cases all with | cons a1 all =>
      cases all
      exact ⟨p, _, rfl, hp, rfl, fun x hx => by rw [List.mem_singleton.mp hx]; exact a1⟩
    case ro =>
      rintro v H' _ ⟨p, a, c, rfl, _, hp, ⟨h, rfl, hh⟩, ⟨pr, xs, rfl, hpr, lx, all⟩⟩
      exact ⟨p, h, pr, [], xs, rfl, st_of hp, ⟨fun e => (nomatch e), fun e => (nomatch e)⟩, hh, Nat.le_refl _, hpr, lx, all⟩
    case rs =>
      rintro v H' _ ⟨p, vs, rfl, _, hp, all⟩
      cases all with | cons a1 all =>
      cases all
      exact ⟨p, _, rfl, hp, rfl, fun x hx => by rw [List.mem_singleton.mp hx]; exact a1⟩
    obtain ⟨p0, xs0, rfl, hp0, lx0, all0⟩ := hv
    refine q_forR2 (lo := 1) (n := ((now + 1 : Nat) : Int)) (ea_cons ev_c (ea_cons (ev_is (ev_op (ev_var rfl) ev_c rv_I0) (congrArg V.int (by push_cast; rfl))) ea_nil)) (by omega) (fun i σ' H' => ∃ (u5 u6 u7 u8 u9 u10 u11 u12 u13 u14 : Option V) (p : Addr) (xs : List V), σ' = [some bv, some (.ref sa), some (.ref aa), some (.int (now : Int)), some (.ref p), u5, u6, u7, u8, u9, u10, u11, u12, u13, u14] ∧ H' p = some (.lst xs) ∧ 0 < xs.length ∧ xs.length ≤ 8 ^ i ∧ (∀ x ∈ xs, IsRow K b i none x H') ∧ Ex H H') (fun H2 e2 => ⟨_, _, _, _, _, _, _, _, _, _, p0, xs0, rfl, e2 _ _ hp0, by omega, by omega, fun x hx => IsRow.m _ _ _ e2 (all0 x hx), e1.trans e2⟩) ?ns ?nd
    case nd =>
      rintro σ' H2 ⟨u5, u6, u7, u8, u9, u10, u11, u12, u13, u14, p, xs, rfl, hp, l0, l8, all, e2⟩
      have en : (((now + 1 : Nat) : Int) - 1).toNat = now := by omega
      rw [en] at l8 all
      exact s_ret (ev_var rfl) fun H3 e3 => q p xs H3 l0 (Nat.le_trans l8 (pow8 now2)) (fun x hx => IsRow.m _ _ _ e3 (all x hx)) (e2.trans e3) (e3 _ _ hp)
    case ns =>
      rintro i σ' H2 hi ⟨u5, u6, u7, u8, u9, u10, u11, u12, u13, u14, p, xs, rfl, hp, l0, l8, all, e2⟩
      have hi : i < now := by omega
      have l8' := pow8 (i := i) (by omega)
      refine q_asgL (xs := []) (el_lst ea_nil (by decide)) fun pl H3 npl e3 hpl => ?_
      refine q_forL (a := p) (xs := xs) (ev_var rfl) (sq_of (e3 _ _ hp)) (fun r σ' H' => ∃ (u7 u8 u9 u10 u11 u12 u13 u14 : Option V) (zs : List V), σ' = [some bv, some (.ref sa), some (.ref aa), some (.int (now : Int)), some (.ref p), some (.int (1 + (i : Int))), some (.ref pl), u7, u8, u9, u10, u11, u12, u13, u14] ∧ H' pl = some (.lst zs) ∧ zs.length ≤ 8 * r ∧ r ≤ zs.length ∧ (∀ z ∈ zs, IsRow K b (i + 1) (some pl) z H') ∧ Ex H2 H') (fun H4 e4 => ⟨_, _, _, _, _, _, _, _, [], rfl, e4 _ _ hpl, Nat.zero_le _, Nat.zero_le _, fun _ h => (nomatch h), e3.trans e4⟩) (fun _ σ' H' _ ⟨_, _, _, _, _, _, _, _, _, _, _, _, _, _, e⟩ => sq_of (e _ _ hp)) ?rs2 ?rd2
      case rd2 =>
        rintro σ' H4 ⟨u7, u8, u9, u10, u11, u12, u13, u14, zs, rfl, hpl4, lz, lz2, allz, e4⟩
        exact s_asg (ev_var rfl) fun H5 e5 => ⟨_, _, _, _, _, _, _, _, _, _, pl, zs, rfl, e5 _ _ hpl4, by omega, by rw [Nat.pow_succ]; omega, fun x hx => (IsRow.m _ _ _ e5 (allz x hx)).any, (e2.trans e4).trans e5⟩
      case rs2 =>
        rintro r x σ' H4 hx ⟨u7, u8, u9, u10, u11, u12, u13, u14, zs, rfl, hpl4, lz, lz2, allz, e4⟩
        have hr64 : r < 64 := by have := (List.getElem?_eq_some_iff.mp hx).1; omega
        obtain ⟨px, h, pq, hs, ys, rfl, hpx, _, hh, lh, hpq, ly, allp⟩ := all x (List.mem_of_getElem? hx)
        refine ⟨px, _, rfl, ex_t e4 hpx, rfl, _, _, rfl, _, _, rfl, rfl, ?_⟩
        -- the last pair
        obtain ⟨ys0, yl, eys⟩ : ∃ ys0 yl, ys = ys0 ++ [yl] := by
          rcases List.eq_nil_or_concat ys with h | ⟨a, c, h⟩
          · rw [h] at ly; simp at ly
          · exact ⟨a, c, by rw [h, List.concat_eq_append]⟩
        have hyl : IsPr K b yl H2 := allp yl (by rw [eys]; simp)
        obtain ⟨pp, sv, st, c, rfl, hpp, dst, ost⟩ := hyl.inv
        have atl : atI ys (-1) = some (.ref pp) := by rw [eys]; exact atI_last _ _
        refine q_unt2 (ev_ixI (ev_var rfl) (ev_un ev_c ru_neg) (sq_of (e4 _ _ hpq)) atl) (ex_t e4 hpp) fun H5 e5 => ?_
        refine q_asgL (xs := [.non]) (el_lst (ea_cons ev_c ea_nil) (by simp)) fun po H6 npo e6 hpo => ?_
        have e45 := e4.trans e5
        refine q_join (Pm := fun σ' H' => ∃ ovs, σ' = [some bv, some (.ref sa), some (.ref aa), some (.int (now : Int)), some (.ref p), some (.int (1 + (i : Int))), some (.ref pl), some (.ref h), some (.ref pq), some sv, some (.int ((c : Nat) : Int)), some (.ref po), u12, u13, u14] ∧ H' po = some (.lst ovs) ∧ 0 < ovs.length ∧ ovs.length ≤ 2 ∧ (∀ o ∈ ovs, IsO K b o H') ∧ Ex H5 H') ?rest fun N hN => ?mid
        case mid =>
          have e26 := e45.trans e6
          by_cases hc : c < ss.length
          · have hs1 : ss[c]? = some ss[c] := List.getElem?_eq_getElem hc
            have ms := oks _ (List.getElem_mem hc)
            generalize ss[c] = sc at hs1 ms
            obtain ⟨v, hv, dv⟩ := dpa_at _ _ _ _ dsa (show (ss.map snD)[c]? = some (snD sc) by rw [List.getElem?_map, hs1]; rfl)
            obtain ⟨a2, y2, rfl, hb2, all2⟩ := Dp.tup_inv dv
            obtain ⟨v1, r1, rfl, d1, all2⟩ := DpAll.cons_inv all2
            obtain ⟨v2, r2, rfl, d2, all2⟩ := DpAll.cons_inv all2
            obtain rfl := DpAll.nil_inv all2
            obtain rfl := Dp.int_inv d2
            have e6 := e2.trans e26
            have sE : ∀ {σ : L2.St} {H7 : Hp}, Ex H H7 → σ[1]? = some (some (.ref sa)) → σ[10]? = some (some (.int ((c : Nat) : Int))) → Ev (tOp (rIxL K) (tVar 1) (tVar 10)) σ H7 (.ref a2) := fun e h1 h10 => ev_ixI (ev_var h1) (ev_var h10) (ex_l e hsa) (atI_nat hv)
            refine s_when (b := decide (sc.2 ≤ 1 + i)) (et_is (et_and (a := true) (b := decide (sc.2 ≤ 1 + i)) (et_is (et_test (ev_op (ev_var rfl) (ev_len (ev_var rfl) (ex_l e6 hsa)) rv_I0)) (decide_eq_true (by omega))) fun _ => et_is (et_test (ev_op (ev_op (sE e6 rfl rfl) ev_c (rv_ixT (ex_t e6 hb2) rfl)) (ev_var rfl) rv_I0)) (decide_eq_decide.mpr (by omega))) (Bool.true_and _)) (fun _ H7 e7 => ?_) fun _ H7 e7 => ?_
            · refine s_app (v := v1) (e7 _ _ hpo) (ev_var rfl) (ev_op (sE (e6.trans e7) rfl rfl) ev_c (rv_ixT (ex_t (e6.trans e7) hb2) rfl)) (by simp) fun H8 e8 => ?_
              refine hN _ _ ⟨[.non] ++ [v1], rfl, upd_same, by simp, by simp, fun o ho => ?_, Ex.mut ((‹Ex H5 H6›.trans e7).trans e8) npo⟩
              rcases List.mem_append.mp ho with h | h
              · exact .inl (List.mem_singleton.mp h)
              · rw [List.mem_singleton.mp h]
                exact IsO.mu ((e7.trans e8) _ _ hpo) (.inr ⟨sc.1, dp_ex ((e6.trans e7).trans e8) d1, ms⟩)
            · exact hN _ _ ⟨[.non], rfl, e7 _ _ hpo, by simp, by simp, fun o ho => .inl (List.mem_singleton.mp ho), ‹Ex H5 H6›.trans e7⟩
          · refine s_when (b := false) (et_is (et_and (a := false) (b := false) (et_is (et_test (ev_op (ev_var rfl) (ev_len (ev_var rfl) (ex_l (e2.trans e26) hsa)) rv_I0)) (decide_eq_false (by omega))) fun h => Bool.noConfusion h) rfl) (fun h => Bool.noConfusion h) fun _ H7 e7 => ?_
            exact hN _ _ ⟨[.non], rfl, e7 _ _ hpo, by simp, by simp, fun o ho => .inl (List.mem_singleton.mp ho), e6.trans e7⟩
        case rest =>
          rintro σ' H7 ⟨ovs, rfl, hpo7, lo, lo2, allo, e57⟩
          have npl5 : pl ≠ po := fun e => by
            subst e
            rw [e5 _ _ hpl4] at npo; cases npo
          have e27 := e45.trans e57
          have e07 := e2.trans e27
          have hpl7 := (e5.trans e57) _ _ hpl4
          refine s_forG (R := fun pt lts H' => H7 pt = none ∧ 0 < lts.length ∧ lts.length ≤ 4 ∧ ∀ x ∈ lts, IsLotV K 2 x H') (fun H8 e8 Q qq => evG_call (P := fun v H' => ∃ p xs, v = .ref p ∧ H' p = some (.lst xs) ∧ H7 p = none ∧ 0 < xs.length ∧ xs.length ≤ 4 ∧ ∀ x ∈ xs, IsLotV K 2 x H') (ea_cons (ev_var rfl) ea_nil) (fun H9 e9 Q q E => ⟨aa, ws, rfl, ex_t (e07.trans e9) haa, fw, lw, fun p xs H' a b c n e h => q _ H' e ⟨p, xs, rfl, h, fresh_back e9 n, a, b, c⟩⟩) H8 e8 Q qq) (fun pt lts j σ' H' => ∃ (u12 u13 u14 : Option V) (zs' : List V), σ' = [some bv, some (.ref sa), some (.ref aa), some (.int (now : Int)), some (.ref p), some (.int (1 + (i : Int))), some (.ref pl), some (.ref h), some (.ref pq), some sv, some (.int ((c : Nat) : Int)), some (.ref po), u12, u13, u14] ∧ Hs K b (i + 1) pl po pt ovs lts H2 zs' H' ∧ lts.length ≤ 4 ∧ 0 < lts.length ∧ zs'.length ≤ 8 * r + 2 * j ∧ r + j ≤ zs'.length)
            (fun pt lts H8 e8 hpt ⟨npt, l4, l5, alll⟩ => ⟨_, _, _, zs, rfl, ⟨fun e => (by subst e; rw [hpl7] at npt; cases npt), fun e => npl5 e.symm, ⟨hpt, alll⟩, ⟨e8 _ _ hpo7, fun x hx => IsO.m _ _ _ e8 (allo x hx)⟩, ⟨e8 _ _ hpl7, fun x hx => IsRow.m _ _ _ ((e5.trans e57).trans e8) (allz x hx)⟩, npl, e27.trans e8⟩, l5, l4, by omega, by omega⟩) (fun pt lts j σ' H' _ ⟨_, _, _, _, _, hs, _⟩ => sq_of hs.t.1) ?ls ?ld
          case ld =>
            rintro pt lts σ' H8 ⟨u12, u13, u14, zs', rfl, hs8, l4, l0, z1, z2⟩
            exact ⟨_, _, _, _, _, _, _, _, zs', rfl, hs8.l.1, by omega, by omega, hs8.l.2, hs8.e⟩
          case ls =>
            rintro pt lts j lot σ' H8 hlot ⟨u12, u13, u14, zs', rfl, hs8, l4, l0, z1, z2⟩
            have hj4 : j < 4 := by have := (List.getElem?_eq_some_iff.mp hlot).1; omega
            have ilot := hs8.t.2 lot (List.mem_of_getElem? hlot)
            refine s_forLn (a := po) (xs := ovs) (ev_var rfl) (sq_of hs8.o.1) (fun k σ' H' => ∃ (u13 u14 : Option V) (zs2 : List V), σ' = [some bv, some (.ref sa), some (.ref aa), some (.int (now : Int)), some (.ref p), some (.int (1 + (i : Int))), some (.ref pl), some (.ref h), some (.ref pq), some sv, some (.int ((c : Nat) : Int)), some (.ref po), some lot, u13, u14] ∧ Hs K b (i + 1) pl po pt ovs lts H2 zs2 H' ∧ zs2.length = zs'.length + k) (fun H9 e9 => ⟨_, _, zs', rfl, hs8.ex e9, rfl⟩) (fun k σ' H' _ ⟨_, _, _, _, hs, _⟩ => sq_of hs.o.1) ?os ?od
            case od =>
              rintro σ' H9 ⟨u13, u14, zs2, rfl, hs9, lz9⟩
              exact ⟨_, _, _, zs2, rfl, hs9, l4, l0, by omega, by omega⟩
            case os =>
              rintro k ord σ' H9 hord ⟨u13, u14, zs2, rfl, hs9, lz9⟩
              have hk2 : k < 2 := by have := (List.getElem?_eq_some_iff.mp hord).1; omega
              have iord := hs9.o.2 ord (List.mem_of_getElem? hord)
              have ilot := hs9.t.2 lot (List.mem_of_getElem? hlot)
              have e09 := e2.trans hs9.e
              refine q_asgG (P := IsPr K b) (EvG.imp (evT_P (Ps := [IsSt K b, fun v _ => ∃ n : Nat, v = .int (n : Int)]) ?mm2 (eaP_cons IsSt.m (evG_call (ea_cons (ev_var rfl) (ea_cons (ev_var rfl) (ea_cons (ev_var rfl) (ea_cons (ev_var rfl) ea_nil)))) (SpTick (dp_ex e09 d) ok ⟨st, dp_ex hs9.e dst, ost⟩ ilot iord)) (eaP_cons (fun _ _ _ _ h => h) (Ev.gi (ev_op (ev_var rfl) (ev_intB (ea_cons (ev_op (ev_var rfl) ev_c rv_notN0) ea_nil)) rv_I0) fun _ _ => ⟨c + (if !decide (ord = .non) then 1 else 0), congrArg V.int (by split <;> simp)⟩) eaP_nil)) (by simp)) ?pr2) fun v H10 e10 hv => ?_
              case mm2 =>
                intro P hP
                simp only [List.mem_cons, List.not_mem_nil, or_false] at hP
                rcases hP with rfl | rfl
                · exact IsSt.m
                · exact fun _ _ _ _ h => h
              case pr2 =>
                rintro v H' _ ⟨p, vs, rfl, hp, all⟩
                cases all with | cons a1 all =>
                cases all with | cons a2 all =>
                cases all
                obtain ⟨n, rfl⟩ := a2
                obtain ⟨st, d1, o⟩ := a1
                exact ⟨st, n, .tup (st_of hp) (.cons d1 (.cons (.int _) .nil)), o⟩
              have hs10 := hs9.ex e10
              have e2a := hs10.e
              obtain ⟨yl, dyl, _⟩ := IsLotV.m _ _ _ e10 ilot
              refine s_appG (P := IsRow K b (i + 1) (some pl)) hs10.l.1 (ev_var rfl) (evG_row hs10.l.1 (ev_var rfl) (e2a _ _ hh) lh (ev_var rfl) ⟨_, dyl⟩ (ev_var rfl) (IsO.m _ _ _ e10 iord).d (ev_var rfl) (e2a _ _ hpq) ly (fun x hx => IsPr.m _ _ _ e2a (allp x hx)) (ev_var rfl) hv (by omega)) (by omega) fun v H11 e11 hrow => ?_
              exact ⟨_, _, zs2 ++ [v], rfl, (hs10.ex e11).app hrow, by rw [List.length_append, lz9]; rfl⟩

/-! ### frames of a drawn history -/
theorem s_setG {σ : L2.St} {H : Hp} {te ta tb : TE} {D : Ends} {l : Addr} {xs : List V} {j : Nat} {P : V → Hp → Prop} (hl : H l = some (.lst xs)) (h : EvG te σ H P) (ho : Ev ta σ H (.ref l)) (hi : Ev tb σ H (.int (j : Int))) (hj : j < xs.length) (k : ∀ v H1 H2, Ex H H1 → Ex H1 H2 → P v H1 → D.nx σ (upd H2 l (.lst (xs.set j v)))) :
    tAsg te (gSub ta tb rSetL) D σ H := h H (Ex.refl H) _ fun v H1 e1 pv => ho H1 e1 _ fun H2 e2 => hi H2 (e1.trans e2) _ fun H3 e3 =>
  ⟨l, xs, (j : Int), j, rfl, rfl, ((e1.trans e2).trans e3) l _ hl, ixN_nat hj, k v H1 H3 e1 (e2.trans e3) pv⟩
theorem q_unt4 {σ : L2.St} {H : Hp} {te : TE} {tz : TS} {D : Ends} {a : Addr} {i j l m : Nat} {x y z v : V} (h : Ev te σ H (.ref a)) (hs : SqT K H a [x, y, z, v]) (k : ∀ H1, Ex H H1 → tz D ((((σ.set i (some x)).set j (some y)).set l (some z)).set m (some v)) H1) :
    tSeq (tAsg te (gTup K 4 (gCons (gName i) (gCons (gName j) (gCons (gName l) (gCons (gName m) gNil)))))) tz D σ H :=
  h H (Ex.refl H) _ fun H1 e => ⟨a, _, rfl, ex_t e hs, rfl, _, _, rfl, _, _, rfl, _, _, rfl, _, _, rfl, rfl, k H1 e⟩
theorem noL_fr (f : Fr) : noL (frD f) = true := by simp [frD, noL, noLs, noL_tD]
theorem fr_inv {H : Hp} {v : V} {f : Fr} (d : Dp K H v (frD f)) : ∃ p ph, v = .ref p ∧ SqT K H p [.int (f.t : Int), .int (f.c : Int), .str f.m, .ref ph] ∧ SqT K H ph (f.on.map V.str) := by
  obtain ⟨p, zs, rfl, hz, hzd⟩ := Dp.tup_inv d
  obtain ⟨z1, r1, rfl, k1, hzd⟩ := DpAll.cons_inv hzd
  obtain ⟨z2, r2, rfl, k2, hzd⟩ := DpAll.cons_inv hzd
  obtain ⟨z3, r3, rfl, k3, hzd⟩ := DpAll.cons_inv hzd
  obtain ⟨z4, r4, rfl, k4, hzd⟩ := DpAll.cons_inv hzd
  obtain rfl := DpAll.nil_inv hzd
  obtain rfl := Dp.int_inv k1
  obtain rfl := Dp.int_inv k2
  obtain rfl := Dp.str_inv k3
  obtain ⟨ph, rfl, hp⟩ := texts_of_dp k4
  exact ⟨p, ph, rfl, hz, hp⟩
def spFrames (K : PySem.W.Frag) : Sp := fun vs H Q _ => ∃ (bv : V) (rp n : Addr) (b : Bk) (xs : List V) (ns : List Int) (at_ now : Nat), vs = [bv, .ref rp, .ref n, .int (at_ : Int), .int (now : Int)] ∧ Dp K H bv (bkD b) ∧ BkOk b ∧ H rp = some (.lst xs) ∧ 0 < xs.length ∧ (∀ x ∈ xs, IsRow K b now none x H) ∧ SqL K H n (ns.map V.int) ∧ Small ns ∧ at_ + 8 < ns.length ∧ now ≤ 2 ∧
  ∀ p zs (fs : List Fr) H', H p = none → H' p = some (.lst zs) → DpAll K H' zs (fs.map frD) → (∀ f ∈ fs, FrOk f) → fs.length ≤ 3 → Ex H H' → Q (.ref p) H'
theorem ok_frames (A : At K mg "_law_frames" s__law_frames) (mz_range : mg "range" = none) (mz_len : mg "len" = none) (mz_int : mg "int" = none) (mz_tuple : mg "tuple" = none) : Dfn P w K mg base 1 "_law_frames" p__law_frames (spFrames K) := by
  refine dfn_ok A sc__law_frames (fun _ _ _ _ _ _ us hl => match us, hl with | [_, _, _, _, _], _ => rfl) (fun vs H Q E h => ?_) (fun f cdv A outer s H vs Q E hr h => ?_)
  · obtain ⟨bv, rp, n, b, xs, ns, at_, now, rfl, _⟩ := h
    rfl
  · obtain ⟨bv, rp, n, b, xs, ns, at_, now, rfl, d, ok, hrp, lx, allr, hN, hS, hat, now2, q⟩ := h
    refine ⟨_, (pss_cons (ps_set (i := 5) sc__law_frames.nd rfl (Or.inl rfl) (pe_ix (show IxR _ (rIxT K) from ix_tup) (pe_ix (show IxR _ (rIxL K) from ix_list) (pv 1) (pe_op op_mod (pe_callTy call_int1 (by rfl) mz_int (by decide +kernel) (pa_cons (pe_op op_add (pe_op op_mul (pe_ix (show IxR _ (rIxL K) from ix_list) (pv 2) (pv 3) (fun _ _ => rfl)) pe_int) (pe_ix (show IxR _ (rIxL K) from ix_list) (pv 2) (pe_op op_add (pv 3) pe_int) (fun _ _ => rfl))) pa_nil)) (pe_callB (show CallR _ _ (rLenS K) from call_len_seq) (by rfl) mz_len PySem.boot_len (pa_cons (pv 1) pa_nil))) (fun _ _ => rfl)) pe_int (fun _ _ => rfl)))
  (pss_cons (ps_set (i := 6) sc__law_frames.nd rfl (Or.inl rfl) (pe_lst pa_nil))
  (pss_cons (ps_for PassesOwn.never rfl (pi_range1 (by rfl) mz_range (pa_cons (pe_op op_mod (pe_callTy call_int1 (by rfl) mz_int (by decide +kernel) (pa_cons (pe_ix (show IxR _ (rIxL K) from ix_list) (pv 2) (pe_op op_add (pv 3) pe_int) (fun _ _ => rfl)) pa_nil)) pe_int) pa_nil)) (pg_name (i := 7) sc__law_frames.nd rfl (Or.inl rfl))
    (pss_cons (ps_set (i := 8) sc__law_frames.nd rfl (Or.inl rfl) (pe_op op_mod (pe_callTy call_int1 (by rfl) mz_int (by decide +kernel) (pa_cons (pe_ix (show IxR _ (rIxL K) from ix_list) (pv 2) (pe_op op_add (pe_op op_add (pv 3) pe_int) (pv 7)) (fun _ _ => rfl)) pa_nil)) (pe_op op_add (pv 4) pe_int)))
  (pss_cons (ps_asg (pe_ix (show IxR _ (rIxL K) from ix_list) (pv 5) (pv 8) (fun _ _ => rfl)) (show PG _ _ (gTup K 2 _) from pg_tup rfl (pgs_cons (pg_name (i := 9) sc__law_frames.nd rfl (Or.inl rfl)) (pgs_cons (pg_name (i := 10) sc__law_frames.nd rfl (Or.inl rfl)) pgs_nil))))
  (pss_one (ps_expr (show PE _ _ (tBM K "list" _ _ _) from pe_bm PySem.F.plainAttrs_list PySem.F.slot_list_append PySem.F.type_list_append mt_append (pv 6) (pa_cons (pe_tup (pa_cons (pv 8) (pa_cons (pv 10) (pa_cons (pe_ix (show IxR _ (rIxT K) from ix_tup) (pv 9) pe_int (fun _ _ => rfl)) (pa_cons (pe_ix (show IxR _ (rIxT K) from ix_tup) (pv 9) pe_int (fun _ _ => rfl)) pa_nil))))) pa_nil)))))))
  (pss_cons (ps_if (PW.pt (pw_and (pt_cmpR op_gt (pe_callB (show CallR _ _ (rLenS K) from call_len_seq) (by rfl) mz_len PySem.boot_len (pa_cons (pv 6) pa_nil)) pe_int (by first | exact nomark _ | rfl)) (pw_and1 (pt_cmpR op_eq (pe_op op_mod (pe_callTy call_int1 (by rfl) mz_int (by decide +kernel) (pa_cons (pe_ix (show IxR _ (rIxL K) from ix_list) (pv 2) (pe_op op_add (pv 3) pe_int) (fun _ _ => rfl)) pa_nil)) pe_int) pe_int (by first | exact nomark _ | rfl)))))
    (pss_cons (ps_asg (pe_ix (show IxR _ (rIxL K) from ix_list) (pv 6) pe_int (fun _ _ => rfl)) (show PG _ _ (gTup K 4 _) from pg_tup rfl (pgs_cons (pg_name (i := 8) sc__law_frames.nd rfl (Or.inl rfl)) (pgs_cons (pg_name (i := 10) sc__law_frames.nd rfl (Or.inl rfl)) (pgs_cons (pg_name (i := 11) sc__law_frames.nd rfl (Or.inl rfl)) (pgs_cons (pg_name (i := 12) sc__law_frames.nd rfl (Or.inl rfl)) pgs_nil))))))
  (pss_cons (ps_set (i := 13) sc__law_frames.nd rfl (Or.inl rfl) (pe_op op_mod (pe_callTy call_int1 (by rfl) mz_int (by decide +kernel) (pa_cons (pe_ix (show IxR _ (rIxL K) from ix_list) (pv 2) (pe_op op_add (pv 3) pe_int) (fun _ _ => rfl)) pa_nil)) pe_int))
  (pss_one (ps_if (pt_cmpR op_eq (pv 13) pe_int (by first | exact nomark _ | rfl))
    (pss_one (ps_asg (pe_tup (pa_cons (pv 8) (pa_cons (pe_op op_add (pv 10) pe_int) (pa_cons (pv 11) (pa_cons (pv 12) pa_nil))))) (pg_sub (pv 6) pe_int set_list)))
    (pss_one (ps_if (pt_cmpR op_eq (pv 13) pe_int (by first | exact nomark _ | rfl))
    (pss_one (ps_asg (pe_tup (pa_cons (pv 8) (pa_cons (pv 10) (pa_cons (pe_ix (show IxR _ (rIxT K) from ix_tup) (pe_ix (show IxR _ (rIxL K) from ix_list) (pe_ix (show IxR _ (rIxT K) from ix_tup) (pv 0) pe_int (fun _ _ => rfl)) (pe_op op_mod (pe_callTy call_int1 (by rfl) mz_int (by decide +kernel) (pa_cons (pe_ix (show IxR _ (rIxL K) from ix_list) (pv 2) (pe_op op_add (pv 3) pe_int) (fun _ _ => rfl)) pa_nil)) (pe_callB (show CallR _ _ (rLenS K) from call_len_seq) (by rfl) mz_len PySem.boot_len (pa_cons (pe_ix (show IxR _ (rIxT K) from ix_tup) (pv 0) pe_int (fun _ _ => rfl)) pa_nil))) (fun _ _ => rfl)) pe_int (fun _ _ => rfl)) (pa_cons (pv 12) pa_nil))))) (pg_sub (pv 6) pe_int set_list)))
    (pss_one (ps_asg (pe_tup (pa_cons (pv 8) (pa_cons (pv 10) (pa_cons (pv 11) (pa_cons (pe_callTy (show CallR _ _ (rTupS K) from call_tuple_of) (by rfl) mz_tuple (by decide +kernel) (pa_cons (pe_lc (own := [("hold", 14)]) (g := gName 14) rfl sc__law_frames.nd (show PI _ _ _ (iTup K _) from pi_tup (pv 12)) (blkOk_by (N := N__law_frames) (sc := defScope s__law_frames) (by decide +kernel)) (fun _ _ _ _ _ => (pg_name (i := 14) sc__law_frames.nd rfl (Or.inl rfl))) (fun _ _ _ _ _ => (pts_one (pt_cmpR op_ne (pv 14) (pe_ix (show IxR _ (rIxL K) from ix_list) (pe_ix (show IxR _ (rIxT K) from ix_tup) (pv 0) pe_int (fun _ _ => rfl)) pe_int (fun _ _ => rfl)) (by first | exact nomark _ | rfl)))) (fun _ _ _ _ _ => (pv 14))) pa_nil)) pa_nil))))) (pg_sub (pv 6) pe_int set_list)))))))))
    pss_nil)
  (pss_one (ps_ret (pv 6))))))), ?_⟩
    obtain ⟨a, ah, am, ac, aa, ar, ms, cs, als, rs, lmv, rfl, pt⟩ := parts_inv d
    have get : ∀ {j : Nat}, j < ns.length → ∃ m : Nat, (ns.map V.int)[j]? = some (.int (m : Int)) := fun {j} hj => by
      have h1 := hS _ (List.getElem_mem hj)
      refine ⟨ns[j].toNat, ?_⟩
      rw [List.getElem?_map, List.getElem?_eq_getElem hj, Int.toNat_of_nonneg h1.1]
      rfl
    have nE : ∀ {σ : L2.St} {H4 : Hp} {tb : TE} {j m : Nat}, Ex H H4 → σ[2]? = some (some (.ref n)) → Ev tb σ H4 (.int (j : Int)) → (ns.map V.int)[j]? = some (.int (m : Int)) → Ev (tOp (rIxL K) (tVar 2) tb) σ H4 (.int (m : Int)) := fun e hs hb hm => ev_ixI (ev_var hs) hb (ex_l e hN) (atI_nat hm)
    have a1 : ∀ {σ : L2.St} {H4 : Hp} (c : Nat), σ[3]? = some (some (.int (at_ : Int))) → Ev (tOp (rI0 fun i j => V.int (i + j)) (tVar 3) (tC (.int (c : Int)))) σ H4 (.int ((at_ + c : Nat) : Int)) := fun c h1 => ev_is (ev_op (ev_var h1) ev_c rv_I0) (congrArg V.int (by push_cast; rfl))
    have a2 : ∀ {σ : L2.St} {H4 : Hp} (c i : Nat), σ[3]? = some (some (.int (at_ : Int))) → σ[7]? = some (some (.int (i : Int))) → Ev (tOp (rI0 fun i j => V.int (i + j)) (tOp (rI0 fun i j => V.int (i + j)) (tVar 3) (tC (.int (c : Int)))) (tVar 7)) σ H4 (.int ((at_ + c + i : Nat) : Int)) := fun c i h1 h5 => ev_is (ev_op (ev_op (ev_var h1) ev_c rv_I0) (ev_var h5) rv_I0) (congrArg V.int (by push_cast; rfl))
    obtain ⟨m0, hm0⟩ := get (j := at_) (by omega)
    obtain ⟨m1, hm1⟩ := get (j := at_ + 1) (by omega)
    obtain ⟨m2, hm2⟩ := get (j := at_ + 2) (by omega)
    obtain ⟨m6, hm6⟩ := get (j := at_ + 6) (by omega)
    obtain ⟨m7, hm7⟩ := get (j := at_ + 7) (by omega)
    obtain ⟨m8, hm8⟩ := get (j := at_ + 8) (by omega)
    have hk : (m0 * 31 + m1) % xs.length < xs.length := Nat.mod_lt _ lx
    have hrow : xs[(m0 * 31 + m1) % xs.length]? = some xs[(m0 * 31 + m1) % xs.length] := List.getElem?_eq_getElem hk
    obtain ⟨px, h0, pq, hs, ys, ex, hpx, _, _, _, hpq, ly, allp⟩ := allr _ (List.getElem_mem hk)
    rw [ex] at hrow
    refine q_asg (v := .ref pq) (ev_op (ev_ixI (i := (((m0 * 31 + m1) % xs.length : Nat) : Int)) (ev_var rfl) (ev_is (ev_op (ev_int (ea_cons (ev_op (ev_op (nE (j := at_) (Ex.refl _) rfl (ev_var rfl) hm0) ev_c (rv_I (C := CMul) (Or.inr ⟨by decide, by decide⟩))) (nE (j := at_ + 1) (Ex.refl _) rfl (a1 1 rfl) hm1) rv_I0) ea_nil)) (ev_len (ev_var rfl) (sq_of hrp)) (rv_I (by omega))) (congrArg V.int (by push_cast; rfl))) (sq_of hrp) (atI_nat hrow)) ev_c (rv_ixT hpx rfl)) fun H1 e1 => ?_
    refine q_asgL (xs := []) (el_lst ea_nil (by decide)) fun pf H2 npf e2 hpf => ?_
    refine q_forR1 (n := ((m2 % 4 : Nat) : Int)) (ea_cons (ev_is (ev_op (ev_int (ea_cons (nE (j := at_ + 2) (e1.trans e2) rfl (a1 2 rfl) hm2) ea_nil)) ev_c (rv_I (show (0 : Int) < 4 by decide))) (congrArg V.int (by push_cast; rfl))) ea_nil) (by omega) (fun i σ' H' => ∃ (u7 u8 u9 u10 : Option V) (zs : List V) (fs : List Fr), σ' = [some (.ref a), some (.ref rp), some (.ref n), some (.int (at_ : Int)), some (.int (now : Int)), some (.ref pq), some (.ref pf), u7, u8, u9, u10, none, none, none, none] ∧ H' pf = some (.lst zs) ∧ DpAll K H' zs (fs.map frD) ∧ fs.length = i ∧ (∀ f ∈ fs, FrOk f) ∧ Ex H1 H') (fun H3 e3 => ⟨none, none, none, none, [], [], rfl, e3 _ _ hpf, .nil, rfl, fun _ h => (nomatch h), e2.trans e3⟩) ?fs ?fd
    case fs =>
      rintro i σ' H3 hi ⟨u7, u8, u9, u10, zs, fs, rfl, hpf3, dz, lf, okf, e3⟩
      have hi : i < 3 := by omega
      obtain ⟨k, hk⟩ := get (j := at_ + 3 + i) (by omega)
      have e13 := e1.trans e3
      refine q_asg (v := .int ((k % (now + 1) : Nat) : Int)) (ev_is (ev_op (ev_int (ea_cons (nE (j := at_ + 3 + i) e13 rfl (a2 3 i rfl rfl) hk) ea_nil)) (ev_op (ev_var rfl) ev_c rv_I0) (rv_I (by omega))) (congrArg V.int (by push_cast; rfl))) fun H4 e4 => ?_
      have hy : k % (now + 1) < ys.length := by rw [ly]; exact Nat.mod_lt _ (by omega)
      obtain ⟨pp, sv, st, c, epp, hpp, dst, ost⟩ := (allp _ (List.getElem_mem hy)).inv
      have haty := List.getElem?_eq_getElem hy
      rw [epp] at haty
      obtain ⟨sa, ph, rfl, hsa, hph⟩ := st_inv dst
      have e14 := e13.trans e4
      refine q_unt2 (ev_ixI (ev_var rfl) (ev_var rfl) (sq_of (e14 _ _ hpq)) (atI_nat haty)) (ex_t e14 hpp) fun H5 e5 => ?_
      have e15 := e14.trans e5
      refine s_appG (P := fun v H' => Dp K H' v (frD ⟨k % (now + 1), c, st.m, st.on⟩)) ((e4.trans e5) _ _ hpf3) (ev_var rfl) (evD_tup (eaD_cons (evD_int (ev_var rfl)) (eaD_cons (evD_int (ev_var rfl)) (eaD_cons (evD_str (ev_op (ev_var rfl) ev_c (rv_ixT (ex_t e15 hsa) rfl))) (eaD_cons (Ev.gi (ev_op (ev_var rfl) ev_c (rv_ixT (ex_t e15 hsa) rfl)) fun H' e => .tup (ex_t (e15.trans e) hph) (dpa_texts st.on)) eaD_nil)))) (by simp)) (by rw [dpa_len dz, List.length_map]; omega) fun v H6 e6 hv => ?_
      have hpf6 := ((e4.trans e5).trans e6) _ _ hpf3
      refine ⟨_, _, _, _, zs ++ [v], fs ++ [⟨k % (now + 1), c, st.m, st.on⟩], rfl, upd_same, ?_, by rw [List.length_append, lf]; rfl, ?_, Ex.mut (((e3.trans e4).trans e5).trans e6) npf⟩
      · rw [List.map_append]
        exact dpa_app (dpa_mut hpf6 (noLs_map frD noL_fr fs) (dpa_ex ((e4.trans e5).trans e6) dz)) (.cons (dp_mut hpf6 (noL_fr _) hv) .nil)
      · intro f hf
        rcases List.mem_append.mp hf with h | h
        · exact okf f h
        · rw [List.mem_singleton.mp h]; exact ⟨ost.1, ost.2.1⟩
    case fd =>
      rintro σ' H3 ⟨u7, u8, u9, u10, zs, fs, rfl, hpf3, dz, lf, okf, e3⟩
      rw [Int.toNat_natCast] at lf
      have lz : zs.length = fs.length := by rw [dpa_len dz, List.length_map]
      have e13 := e1.trans e3
      refine q_join (Pm := fun σ' H' => ∃ (u7 u8 u9 u10 u11 u12 u13 : Option V) (zs : List V) (fs : List Fr), σ' = [some (.ref a), some (.ref rp), some (.ref n), some (.int (at_ : Int)), some (.int (now : Int)), some (.ref pq), some (.ref pf), u7, u8, u9, u10, u11, u12, u13, none] ∧ H' pf = some (.lst zs) ∧ DpAll K H' zs (fs.map frD) ∧ (∀ f ∈ fs, FrOk f) ∧ fs.length ≤ 3 ∧ Ex H1 H') ?rest fun N hN => ?mid
      case rest =>
        rintro σ' H4 ⟨u7, u8, u9, u10, u11, u12, u13, zs, fs, rfl, hpf4, dz, okf, lf, e4⟩
        exact s_ret (ev_var rfl) fun H5 e5 => q pf zs fs H5 (fresh_back e1 npf) (e5 _ _ hpf4) (dpa_ex e5 dz) okf lf ((e1.trans e4).trans e5)
      case mid =>
        have skip : ∀ H4, Ex H3 H4 → N [some (.ref a), some (.ref rp), some (.ref n), some (.int (at_ : Int)), some (.int (now : Int)), some (.ref pq), some (.ref pf), u7, u8, u9, u10, none, none, none, none] H4 := fun H4 e4 => hN _ _ ⟨_, _, _, _, _, _, _, zs, fs, rfl, e4 _ _ hpf3, dpa_ex e4 dz, okf, by omega, e3.trans e4⟩
        cases zs with
        | nil =>
          exact s_when (b := false) (et_is (et_and (a := false) (b := false) (et_is (et_test (ev_op (ev_len (ev_var rfl) (sq_of hpf3)) ev_c rv_I0)) (decide_eq_false (by simp))) fun h => Bool.noConfusion h) rfl) (fun h => Bool.noConfusion h) fun _ H4 e4 => skip H4 e4
        | cons z0 zr =>
          refine s_when (b := decide (m6 % 5 = 0)) (et_is (et_and (a := true) (b := decide (m6 % 5 = 0)) (et_is (et_test (ev_op (ev_len (ev_var rfl) (sq_of hpf3)) ev_c rv_I0)) (decide_eq_true (by rw [List.length_cons]; omega))) fun _ => et_is (et_test (ev_op (ev_op (ev_int (ea_cons (nE (j := at_ + 6) e13 rfl (a1 6 rfl) hm6) ea_nil)) ev_c (rv_I (show (0 : Int) < 5 by decide))) ev_c (rv_eq rfl))) (show decide (V.int ((m6 : Int) % 5) = V.int 0) = decide (m6 % 5 = 0) from decide_eq_decide.mpr ⟨fun h => by injection h with h; omega, fun h => congrArg V.int (by omega)⟩)) (Bool.true_and _)) (fun _ H4 e4 => ?_) fun _ H4 e4 => skip H4 e4
          cases fs with
          | nil => simp at lz
          | cons f0 fr =>
            have okf0 := okf f0 List.mem_cons_self
            obtain ⟨_, _, ez, d0, dr⟩ := DpAll.cons_inv dz
            obtain ⟨rfl, rfl⟩ := List.cons.inj ez
            obtain ⟨p0, ph0, rfl, hp0, hph0⟩ := fr_inv d0
            have e04 := e13.trans e4
            refine q_unt4 (ev_ixI (ev_var rfl) ev_c (sq_of (e4 _ _ hpf3)) (atI_nat (j := 0) rfl)) (ex_t e4 hp0) fun H5 e5 => ?_
            refine q_asg (v := .int ((m7 % 3 : Nat) : Int)) (ev_is (ev_op (ev_int (ea_cons (nE (j := at_ + 7) (e04.trans e5) rfl (a1 7 rfl) hm7) ea_nil)) ev_c (rv_I (show (0 : Int) < 3 by decide))) (congrArg V.int (by push_cast; rfl))) fun H6 e6 => ?_
            have e36 := (e4.trans e5).trans e6
            have e06 := (e04.trans e5).trans e6
            have hpf6 := e36 _ _ hpf3
            -- what every way ends with
            have fin : ∀ (f' : Fr) (v : V) (Ha Hb : Hp), FrOk f' → Ex H6 Ha → Ex Ha Hb → Dp K Ha v (frD f') → N [some (.ref a), some (.ref rp), some (.ref n), some (.int (at_ : Int)), some (.int (now : Int)), some (.ref pq), some (.ref pf), u7, some (.int (f0.t : Int)), u9, some (.int (f0.c : Int)), some (.str f0.m), some (.ref ph0), some (.int ((m7 % 3 : Nat) : Int)), none] (upd Hb pf (.lst ((V.ref p0 :: zr).set 0 v))) := fun f' v Ha Hb okf' ea eb dv => by
              have hpfb := (ea.trans eb) _ _ hpf6
              refine hN _ _ ⟨_, _, _, _, _, _, _, v :: zr, f' :: fr, rfl, upd_same, ?_, fun f hf => ?_, by simp only [List.length_cons] at lf ⊢; omega, Ex.mut ((e3.trans e36).trans (ea.trans eb)) npf⟩
              · exact .cons (dp_mut hpfb (noL_fr _) (dp_ex eb dv)) (dpa_mut hpfb (noLs_map frD noL_fr fr) (dpa_ex (e36.trans (ea.trans eb)) dr))
              · rcases List.mem_cons.mp hf with h | h
                · rw [h]; exact okf'
                · exact okf f (List.mem_cons_of_mem _ h)
            have dph : ∀ {H' : Hp}, Ex H6 H' → Dp K H' (.ref ph0) (tD f0.on) := fun e => .tup (ex_t (e36.trans e) hph0) (dpa_texts f0.on)
            refine s_if (b := decide (m7 % 3 = 0)) (et_is (et_test (ev_op (ev_var rfl) ev_c (rv_eq rfl))) (decide_eq_decide.mpr ⟨fun h => by injection h with h; omega, fun h => congrArg V.int (by omega)⟩)) (fun _ H7 e7 => ?_) fun hk0 H7 e7 => ?_
            · exact s_setG (P := fun v H' => Dp K H' v (frD ⟨f0.t, f0.c + 1, f0.m, f0.on⟩)) (j := 0) (e7 _ _ hpf6) (evD_tup (eaD_cons (evD_int (ev_var rfl)) (eaD_cons (evD_int (ev_is (ev_op (ev_var rfl) ev_c rv_I0) (congrArg V.int (by push_cast; rfl)))) (eaD_cons (evD_str (ev_var rfl)) (eaD_cons (Ev.gi (ev_var rfl) fun H' e => dph (e7.trans e)) eaD_nil)))) (by simp)) (ev_var rfl) ev_c (by simp) fun v Ha Hb ea eb hv => fin ⟨f0.t, f0.c + 1, f0.m, f0.on⟩ v Ha Hb okf0 (e7.trans ea) eb hv
            · refine s_if (b := decide (m7 % 3 = 1)) (et_is (et_test (ev_op (ev_var rfl) ev_c (rv_eq rfl))) (decide_eq_decide.mpr ⟨fun h => by injection h with h; omega, fun h => congrArg V.int (by omega)⟩)) (fun _ H8 e8 => ?_) fun hk1 H8 e8 => ?_
              · have lm : ms.length = b.modes.length := by rw [dpa_len pt.modes.2, List.length_map]
                have lm0 : 0 < ms.length := by rw [lm]; exact List.length_pos_iff.mpr ok.modes.1
                have hmk : m8 % ms.length < ms.length := Nat.mod_lt _ lm0
                obtain ⟨mm, pm, zz, hmm, hu, hpm, hnm⟩ := name_at mdD (fun m : Md => m.1) (fun m => ⟨_, rfl⟩) pt.modes.2 (List.getElem?_eq_getElem hmk)
                have e78 := e7.trans e8
                have e08 := e06.trans e78
                exact s_setG (P := fun v H' => Dp K H' v (frD ⟨f0.t, f0.c, mm.1, f0.on⟩)) (j := 0) (e78 _ _ hpf6) (evD_tup (eaD_cons (evD_int (ev_var rfl)) (eaD_cons (evD_int (ev_var rfl)) (eaD_cons (evD_str (ev_op (ev_ixI (i := ((m8 % ms.length : Nat) : Int)) (ev_op (ev_var rfl) ev_c (rv_ixT (ex_t e08 pt.top) rfl)) (ev_is (ev_op (ev_int (ea_cons (nE (j := at_ + 8) e08 rfl (a1 8 rfl) hm8) ea_nil)) (ev_len (ev_op (ev_var rfl) ev_c (rv_ixT (ex_t e08 pt.top) rfl)) (ex_l e08 pt.modes.1)) (rv_I (by omega))) (congrArg V.int (by push_cast; rfl))) (ex_l e08 pt.modes.1) (atI_nat ((List.getElem?_eq_getElem hmk).trans (congrArg some hu)))) ev_c (rv_ixT (ex_t e08 hpm) hnm))) (eaD_cons (Ev.gi (ev_var rfl) fun H' e => dph (e78.trans e)) eaD_nil)))) (by simp)) (ev_var rfl) ev_c (by simp) fun v Ha Hb ea eb hv => fin ⟨f0.t, f0.c, mm.1, f0.on⟩ v Ha Hb ⟨(ok.modes.2.2 mm hmm).1, okf0.2⟩ (e78.trans ea) eb hv
              · have e78 := e7.trans e8
                have e08 := e06.trans e78
                obtain ⟨x0, xr, ehs⟩ : ∃ x0 xr, b.holds = x0 :: xr := by
                  cases e : b.holds with
                  | nil => exact absurd e ok.hne
                  | cons x r => exact ⟨x, r, rfl⟩
                exact s_setG (P := fun v H' => Dp K H' v (frD ⟨f0.t, f0.c, f0.m, sel f0.on fun i => !decide (f0.on.getD i Str.empty = x0)⟩)) (j := 0) (e78 _ _ hpf6) (evD_tup (eaD_cons (evD_int (ev_var rfl)) (eaD_cons (evD_int (ev_var rfl)) (eaD_cons (evD_str (ev_var rfl)) (eaD_cons (evD_texts (eu_tupleN (el_is (el_lcU (xs := f0.on.map V.str) (fun i => !decide (f0.on.getD i Str.empty = x0)) (fun i => V.str (f0.on.getD i Str.empty)) (ev_var rfl) (ex_t (e36.trans e78) hph0) (by have := okf0.2.1; rw [List.length_map]; omega) (fun _ => rfl) (fun i u H9 e9 hu => by
                  obtain ⟨rfl, _⟩ := txt_at hu
                  exact et_is (et_test (ev_op (ev_var rfl) (ev_ixI (v := .str x0) (ev_op (ev_var rfl) ev_c (rv_ixT (ex_t (e08.trans e9) pt.top) rfl)) ev_c (ex_l (e08.trans e9) pt.holds) (by rw [ehs]; exact atI_nat (j := 0) rfl)) (rv_ne rfl))) (congrArg (!·) (decide_eq_decide.mpr ⟨fun h => by injection h, fun h => by rw [h]⟩))) (fun i u H9 e9 hu _ => by
                  obtain ⟨rfl, _⟩ := txt_at hu
                  exact ev_var rfl)) (given_sel _ _)))) eaD_nil)))) (by simp)) (ev_var rfl) ev_c (by simp) fun v Ha Hb ea eb hv => fin ⟨f0.t, f0.c, f0.m, sel f0.on fun i => !decide (f0.on.getD i Str.empty = x0)⟩ v Ha Hb ⟨okf0.1, few_sel okf0.2 _⟩ (e78.trans ea) eb hv

end
def spLaw (K : PySem.W.Frag) : Sp := fun vs H Q _ => ∃ (a : Addr) (ns : List Int), vs = [.ref a] ∧ SqL K H a (ns.map V.int) ∧ ns.length ≤ 63 ∧ ∀ H', Q (.bl true) H'
section
variable {P : Program} {w : World} {K : PySem.W.Frag} {mg : Str → Option Value} {base : Heap}
/-! ### the law -/
theorem SpNum {a : Addr} {xs : List Int} {m : Int} {H : Hp} (h : SqL K H a (xs.map V.int)) (hx : xs.length ≤ 63) (h0 : 0 ≤ m) (h1 : m ≤ 900) : SpP (spNumbers K) [.ref a, .int m] H (fun ys => ∃ ns : List Int, ys = ns.map V.int ∧ (ns.length : Int) = m ∧ Small ns) := fun H1 e Q q E => ⟨a, xs, m, rfl, ex_l e h, hx, h0, h1, fun ns p H' hl hS np e' hp => q _ p H' ⟨ns, rfl, hl, hS⟩ np e' hp⟩
theorem Short.lst {ds : List PyData} {k : Nat} (h : ShortA ds k) : Short (.list ds) k := ⟨by simp only [PyData.showable]; exact h.sh, by simp only [PyData.hasDict]; exact h.nd, by simp only [PyData.leavesShort]; exact h.ls, by simp only [PyData.weight]; exact h.wt⟩
theorem ord_few {b : Bk} {o : List Str} (ok : BkOk b) (h : OrdOk b o) : Few o := by
  rcases h with ⟨c, hc, rfl⟩ | ⟨r, hr, rfl⟩ | rfl
  · refine ⟨by simp, fun x hx => ?_⟩
    rcases List.mem_cons.mp hx with rfl | hx
    · exact ⟨by decide +kernel, by decide +kernel⟩
    · rw [List.mem_singleton.mp hx]; exact (ok.cmds.2.2 c hc).1
  · refine ⟨by simp, fun x hx => ?_⟩
    rcases List.mem_cons.mp hx with rfl | hx
    · exact ⟨by decide +kernel, by decide +kernel⟩
    · rw [List.mem_singleton.mp hx]; exact (ok.rows.2 r hr).1
  · refine ⟨by simp, fun x hx => ?_⟩
    rw [List.mem_singleton.mp hx]; exact ⟨by decide +kernel, by decide +kernel⟩
theorem sn_short {s : Sent} (h : Few s.1) (h2 : s.2 ≤ 11) : Short (snD s) 90 := (Short.tup (.cons (.tup (ShortA.texts h.2)) (.cons (.int (show s.2 < 10 ^ 18 by omega)) .nil))).mono (by
  have : s.1.length * (4 + 1) ≤ 3 * 5 := Nat.mul_le_mul_right 5 h.1
  omega)
theorem sns_short : ∀ {ss : List Sent}, (∀ s ∈ ss, Few s.1 ∧ s.2 ≤ 11) → ShortA (ss.map snD) (ss.length * 91)
  | [], _ => by simpa using ShortA.nil
  | x :: r, h => by
    have a := ShortA.cons (sn_short (h x (.head _)).1 (h x (.head _)).2) (sns_short fun y hy => h y (.tail _ hy))
    rw [List.length_cons, Nat.add_mul, Nat.one_mul, Nat.add_comm (r.length * 91)]
    exact a
theorem sn_lay {s : Sent} (h : Few s.1) : Lay (snD s) 2 := Lay.tuple (n := 1) (.cons (tD_sh h) (.cons (.int _) .nil))
theorem due_sh {ss : List Sent} {c t : Nat} (h : ∀ s ∈ ss, Few s.1) : SeqAt.shaped (.list (dueD ss c t)) = true := by
  refine (Lay.list (n := 3) ?_).sh
  unfold dueD
  cases e : ss[c]? with
  | none => exact .cons .none .nil
  | some s =>
    show LayA (if s.2 ≤ t then _ else _) 3
    split
    · exact .cons .none (.cons (tD_sh (h s (List.mem_of_getElem? e))) .nil)
    · exact .cons .none .nil
theorem due_len (ss : List Sent) (c t : Nat) : (dueD ss c t).length ≤ 2 := by
  unfold dueD
  split
  · exact (by decide : 1 ≤ 2)
  · split
    · exact Nat.le_refl 2
    · exact (by decide : 1 ≤ 2)
theorem ev_reprL {σ : L2.St} {H : Hp} {te : TE} {a : Addr} {d : PyData} {k n : Nat} (ha : Ev te σ H (.ref a)) (hd : Dp K H (.ref a) d) (sh : Short d k) (hk : k ≤ 800000) (ly : Lay d n) (hn : n ≤ 20) : Ev (tCB (rReprD K) (tCons te tNil)) σ H (.str d.shown) := fun H1 e Q q =>
  ha H1 e _ fun H2 e2 => ⟨.ref a, d, rfl, dp_ex (e.trans e2) hd, Or.inr ⟨_, rfl⟩, sh.sh, sh.nd, Nat.le_trans ly.2 hn, sh.fits hk, q H2 e2⟩
theorem fr_lay {f : Fr} (h : FrOk f) : Lay (frD f) 4 := Lay.tuple (n := 3) (.cons (.int _) (.cons (.int _) (.cons (.str h.1.1) (.cons (tD_sh h.2) .nil))))
def FrsP (K : PySem.W.Frag) (n : Nat) : V → Hp → Prop := fun v H => ∃ p zs fs, v = .ref p ∧ H p = some (.lst zs) ∧ DpAll K H zs ((fs : List Fr).map frD) ∧ (∀ f ∈ fs, FrOk f) ∧ fs.length ≤ n
theorem evG_catFr {σ : L2.St} {H : Hp} {ta tb : TE} {n m : Nat} (ha : EvG ta σ H (FrsP K n)) (hb : EvG tb σ H (FrsP K m)) (hz : n + m ≤ 100) : EvG (tOp rCat ta tb) σ H (FrsP K (n + m)) := fun H1 e Q q =>
  ha H1 e _ fun v H2 e2 ⟨p1, xs, f1, hv1, hp1, d1, o1, l1⟩ => hb H2 (e.trans e2) _ fun u H3 e3 ⟨p2, ys, f2, hv2, hp2, d2, o2, l2⟩ => by
    subst hv1 hv2
    refine ⟨p1, p2, xs, ys, rfl, rfl, e3 _ _ hp1, hp2, sz_of (by rw [dpa_len d1, dpa_len d2, List.length_map, List.length_map]; omega), fun l nl => q _ _ ((e2.trans e3).trans (Ex.new nl)) ⟨l, _, f1 ++ f2, rfl, upd_same, ?_, fun f hf => ?_, by rw [List.length_append]; omega⟩⟩
    · rw [List.map_append]
      exact dpa_app (dpa_ex (e3.trans (Ex.new nl)) d1) (dpa_ex (Ex.new nl) d2)
    · rcases List.mem_append.mp hf with h | h
      · exact o1 f h
      · exact o2 f h
theorem given_cons {α : Type} (n : Nat) (f : Nat → Bool) (g : Nat → α) : ((List.range (n + 1)).filter f).map g = (if f 0 = true then [g 0] else []) ++ ((List.range n).filter fun i => f (i + 1)).map fun i => g (i + 1) := by
  rw [List.range_succ_eq_map, List.filter_cons]
  have e : ((List.range n).map Nat.succ).filter f = ((List.range n).filter fun i => f (i + 1)).map Nat.succ := by
    rw [List.filter_map]; rfl
  rw [e]
  split
  · rw [List.map_cons, List.map_map]; rfl
  · rw [List.map_map]; rfl
theorem dpa_given {H : Hp} (P : Fr → Bool) (d : Fr) : ∀ (zs : List V) (fs : List Fr), DpAll K H zs (fs.map frD) → DpAll K H (given zs.length (fun i => P (fs.getD i d)) (fun i => zs.getD i .non)) ((fs.filter P).map frD)
  | _, [], h => by obtain rfl := DpAll.nil_inv h; exact .nil
  | _, f :: r, h => by
    obtain ⟨v, vr, rfl, h1, h2⟩ := DpAll.cons_inv h
    have ih := dpa_given P d vr r h2
    unfold given
    rw [List.length_cons, given_cons, List.filter_cons]
    show DpAll K H ((if P f = true then [v] else []) ++ given vr.length (fun i => P (r.getD i d)) (fun i => vr.getD i .non)) _
    cases P f with
    | true => exact .cons h1 ih
    | false => exact ih
theorem ev_opG {σ : L2.St} {H : Hp} {ta tb : TE} {r : V → V → Hp → VK → Prop} {x z : V} {P : V → Hp → Prop} (ha : Ev ta σ H x) (hb : EvG tb σ H P) (hr : ∀ v H1, Ex H H1 → P v H1 → RV r x v H1 z) : Ev (tOp r ta tb) σ H z := fun H1 e Q q =>
  ha H1 e _ fun H2 e2 => hb H2 (e.trans e2) _ fun v H3 e3 pv => hr v H3 ((e.trans e2).trans e3) pv H3 (Ex.refl _) Q fun H4 e4 => q H4 ((e2.trans e3).trans e4)
theorem ev_isBB {σ : L2.St} {H : Hp} {ta : TE} {c : Bool} (h : Ev ta σ H (.bl c)) : Ev (tCB (rIsi K) (tCons ta (tCons (tC (.ty "bool")) tNil))) σ H (.bl true) :=
  ev_cb (ea_cons h (ea_cons ev_c ea_nil)) fun H1 e _ q => ⟨_, _, .type "bool", .type "bool", true, rfl, .ty _, .base (.bl _), kit_ty (by decide +kernel), q H1 (Ex.refl H1)⟩
def GtP (g : Nat) : V → Hp → Prop := fun v _ => ∃ y : Str, v = .str y ∧ Gt g y
theorem ok_law {f : Addr} {fd : FuncData} (F : Fun K "law" "law" s_law f fd) (D__law_numbers : Dfn P w K mg base 2 "_law_numbers" p__law_numbers (spNumbers K)) (D__law_book : Dfn P w K mg base 2 "_law_book" p__law_book (spBook K)) (D__law_sent : Dfn P w K mg base 1 "_law_sent" p__law_sent (spSent K)) (D_may_take : Dfn P w K mg base 1 "may_take" p_may_take (spMay K))
    (D__law_may_come : Dfn P w K mg base 1 "_law_may_come" p__law_may_come (spCome K)) (D__law_histories : Dfn P w K mg base 4 "_law_histories" p__law_histories (spHist K)) (D__law_frames : Dfn P w K mg base 1 "_law_frames" p__law_frames (spFrames K)) (D_fits_frames : Dfn P w K mg base 1 "fits_frames" p_fits_frames (spFits K))
    (mz_int : mg "int" = none) (mz_range : mg "range" = none) (mz_len : mg "len" = none) (mz_list : mg "list" = none) (mz_bool : mg "bool" = none) (mz_all : mg "all" = none) (mz_isinstance : mg "isinstance" = none) (mz_repr : mg "repr" = none) : FnOkG P w K mg base 5 f fd ["script"] (spLaw K) := by
  refine okG F sc_law (fun vs H Q E h => ?_) (fun cdv A outer s H vs Q E hg hr h => ?_)
  · obtain ⟨a, ns, rfl, _⟩ := h
    rfl
  · obtain ⟨a, xs, rfl, hA, hx, q⟩ := h
    refine ⟨_, (pss_cons (ps_set (i := 1) sc_law.nd rfl (Or.inl rfl) (pe_d D__law_numbers (hr.mono (by decide)) (pa_cons (pv 0) (pa_cons pe_int pa_nil))))
  (pss_cons (ps_set (i := 2) sc_law.nd rfl (Or.inl rfl) (pe_d D__law_book (hr.mono (by decide)) (pa_cons (pv 1) (pa_cons pe_int pa_nil))))
  (pss_cons (ps_set (i := 3) sc_law.nd rfl (Or.inl rfl) (pe_d D__law_sent (hr.mono (by decide)) (pa_cons (pv 2) (pa_cons (pv 1) (pa_cons pe_int (pa_cons pe_int pa_nil))))))
  (pss_cons (ps_set (i := 4) sc_law.nd rfl (Or.inl rfl) (pe_callB (show CallR _ _ (rReprD K) from cr_reprD hg hr.units) (by rfl) mz_repr (by decide +kernel) (pa_cons (pv 3) pa_nil)))
  (pss_cons (ps_for PassesOwn.never rfl (pi_range1 (by rfl) mz_range (pa_cons (pe_op op_add (pe_callB (show CallR _ _ (rLenS K) from call_len_seq) (by rfl) mz_len PySem.boot_len (pa_cons (pv 3) pa_nil)) pe_int) pa_nil)) (pg_name (i := 5) sc_law.nd rfl (Or.inr rfl))
    (pss_one (ps_for PassesOwn.never rfl (pi_range2 (by rfl) mz_range (pa_cons pe_int (pa_cons pe_int pa_nil))) (pg_name (i := 6) sc_law.nd rfl (Or.inr rfl))
    (pss_cons (ps_set (i := 7) sc_law.nd rfl (Or.inl rfl) (pe_lst (pa_cons pe_non pa_nil)))
  (pss_cons (ps_if (PW.pt (pw_and (pt_cmpR op_lt (pv 5) (pe_callB (show CallR _ _ (rLenS K) from call_len_seq) (by rfl) mz_len PySem.boot_len (pa_cons (pv 3) pa_nil)) (by first | exact nomark _ | rfl)) (pw_and1 (pt_cmpR op_le (pe_ix (show IxR _ (rIxT K) from ix_tup) (pe_ix (show IxR _ (rIxL K) from ix_list) (pv 3) (pv 5) (fun _ _ => rfl)) pe_int (fun _ _ => rfl)) (pv 6) (by first | exact nomark _ | rfl)))))
    (pss_one (ps_expr (show PE _ _ (tBM K "list" _ _ _) from pe_bm PySem.F.plainAttrs_list PySem.F.slot_list_append PySem.F.type_list_append mt_append (pv 7) (pa_cons (pe_ix (show IxR _ (rIxT K) from ix_tup) (pe_ix (show IxR _ (rIxL K) from ix_list) (pv 3) (pv 5) (fun _ _ => rfl)) pe_int (fun _ _ => rfl)) pa_nil))))
    pss_nil)
  (pss_one (ps_for PassesOwn.never rfl (pi_range1 (by rfl) mz_range (pa_cons pe_int pa_nil)) (pg_name (i := 8) sc_law.nd rfl (Or.inl rfl))
    (pss_cons (ps_set (i := 9) sc_law.nd rfl (Or.inl rfl) (pe_d D_may_take (hr.mono (by decide)) (pa_cons (pv 3) (pa_cons (pv 5) (pa_cons (pv 6) pa_nil)))))
  (pss_cons (ps_if (PW.pt (pw_or (pt_not (pt_val (pe_callB (show CallR _ _ (rIsi K) from call_isi) (by rfl) mz_isinstance (by decide +kernel) (pa_cons (pv 9) (pa_cons (pe_bltn (v := .ty "list") (by rfl) mz_list (by first | exact PySem.boot_list | decide +kernel) rfl) pa_nil))))) (pw_or1 (pt_cmpR (show OpR _ _ (rNeD K) from (op_neD hr.units)) (pv 9) (pv 7) (by first | exact nomark _ | rfl)))))
    (pss_one (ps_ret pe_bl))
    pss_nil)
  (pss_one (ps_expr (show PE _ _ (tBM K "list" _ _ _) from pe_bm PySem.F.plainAttrs_list PySem.F.slot_list_append PySem.F.type_list_append mt_append (pv 9) (pa_cons pe_int pa_nil)))))))))))))
  (pss_cons (ps_set (i := 10) sc_law.nd rfl (Or.inl rfl) (pe_d D__law_histories (hr.mono (by decide)) (pa_cons (pv 2) (pa_cons (pv 3) (pa_cons (pe_d D__law_may_come (hr.mono (by decide)) (pa_cons (pv 2) (pa_cons (pe_ix (show IxR _ (rIxL K) from ix_list) (pv 1) pe_int (fun _ _ => rfl)) pa_nil))) (pa_cons pe_int pa_nil))))))
  (pss_cons (ps_set (i := 11) sc_law.nd rfl (Or.inl rfl) (pe_op op_cat (pe_d D__law_frames (hr.mono (by decide)) (pa_cons (pv 2) (pa_cons (pv 10) (pa_cons (pv 1) (pa_cons pe_int (pa_cons pe_int pa_nil)))))) (pe_d D__law_frames (hr.mono (by decide)) (pa_cons (pv 2) (pa_cons (pv 10) (pa_cons (pv 1) (pa_cons pe_int (pa_cons pe_int pa_nil))))))))
  (pss_cons (ps_set (i := 12) sc_law.nd rfl (Or.inl rfl) (pe_callTy (show CallR _ _ (rListS K) from call_list_of) (by rfl) mz_list (by decide +kernel) (pa_cons (pv 11) pa_nil)))
  (pss_cons (ps_for PassesOwn.never rfl (pi_range1 (by rfl) mz_range (pa_cons pe_int pa_nil)) (pg_name (i := 13) sc_law.nd rfl (Or.inl rfl))
    (pss_cons (ps_set (i := 14) sc_law.nd rfl (Or.inl rfl) (pe_ix (show IxR _ (rIxT K) from ix_tup) (pe_ix (show IxR _ (rIxL K) from ix_list) (pv 10) (pe_op op_mod (pe_callTy call_int1 (by rfl) mz_int (by decide +kernel) (pa_cons (pe_ix (show IxR _ (rIxL K) from ix_list) (pv 1) (pe_op op_add pe_int (pv 13)) (fun _ _ => rfl)) pa_nil)) (pe_callB (show CallR _ _ (rLenS K) from call_len_seq) (by rfl) mz_len PySem.boot_len (pa_cons (pv 10) pa_nil))) (fun _ _ => rfl)) pe_int (fun _ _ => rfl)))
  (pss_one (ps_for PassesOwn.never rfl (pi_range1 (by rfl) mz_range (pa_cons pe_int pa_nil)) (pg_name (i := 6) sc_law.nd rfl (Or.inr rfl))
    (pss_cons (ps_asg (pe_ix (show IxR _ (rIxL K) from ix_list) (pv 14) (pv 6) (fun _ _ => rfl)) (show PG _ _ (gTup K 2 _) from pg_tup rfl (pgs_cons (pg_name (i := 15) sc_law.nd rfl (Or.inr rfl)) (pgs_cons (pg_name (i := 5) sc_law.nd rfl (Or.inr rfl)) pgs_nil))))
  (pss_cons (ps_set (i := 9) sc_law.nd rfl (Or.inl rfl) (pe_d D_fits_frames (hr.mono (by decide)) (pa_cons (pv 15) (pa_cons (pv 5) (pa_cons (pv 6) (pa_cons (pv 12) pa_nil))))))
  (pss_cons (ps_setLc (i := 16) (own := [("frame", 17)]) (g := gName 17) rfl sc_law.nd rfl rfl (sw_true rfl rfl rfl (by decide +kernel)) (show PI _ _ _ (iList K _) from pi_list (pv 11)) (blkOk_by (N := N_law) (sc := defScope s_law) (by decide +kernel)) (fun _ _ _ _ _ => (pg_name (i := 17) sc_law.nd rfl (Or.inl rfl))) (fun _ _ _ _ _ => (pts_one (pt_cmpR op_eq (pe_ix (show IxR _ (rIxT K) from ix_tup) (pv 17) pe_int (fun _ _ => rfl)) (pv 6) (by first | exact nomark _ | rfl)))) (fun _ _ _ _ _ => (pv 17)))
  (pss_one (ps_if (PW.pt (pw_or (pt_not (pt_val (pe_callB (show CallR _ _ (rIsi K) from call_isi) (by rfl) mz_isinstance (by decide +kernel) (pa_cons (pv 9) (pa_cons (pe_bltn (v := .ty "bool") (by rfl) mz_bool (by first | exact PySem.boot_bool | decide +kernel) rfl) pa_nil))))) (pw_or1 (pt_cmpR (show OpR _ _ (rNeD K) from (op_neD hr.units)) (pv 9) (pe_callB (show CallR _ _ (rAll K) from (cr_all rfl)) (by rfl) mz_all (by decide +kernel) (pa_cons (pe_lc (own := [("frame", 17)]) (g := gName 17) (tt := tYes) rfl sc_law.nd (show PI _ _ _ (iList K _) from pi_list (pv 16)) (blkOk_by (N := N_law) (sc := defScope s_law) (by decide +kernel)) (fun _ _ _ _ _ => (pg_name (i := 17) sc_law.nd rfl (Or.inl rfl))) (fun _ _ _ _ _ => pts_nil) (fun _ _ _ _ _ => (pe_cmpR (show OpR _ _ (rEqD K) from (op_eqD hr.units)) (pv 17) (pe_tup (pa_cons (pv 6) (pa_cons (pv 5) (pa_cons (pe_ix (show IxR _ (rIxT K) from ix_tup) (pv 15) pe_int (fun _ _ => rfl)) (pa_cons (pe_ix (show IxR _ (rIxT K) from ix_tup) (pv 15) pe_int (fun _ _ => rfl)) pa_nil))))) (by first | exact nomark _ | rfl)))) pa_nil)) (by first | exact nomark _ | rfl)))))
    (pss_one (ps_ret pe_bl))
    pss_nil)))))))))
  (pss_one (ps_ret (pe_and (pe_cmpR op_eq (pe_callB (show CallR _ _ (rReprD K) from cr_reprD hg hr.units) (by rfl) mz_repr (by decide +kernel) (pa_cons (pv 3) pa_nil)) (pv 4) (by first | exact nomark _ | rfl)) (pe_one (pe_cmpR (show OpR _ _ (rEqD K) from (op_eqD hr.units)) (pv 12) (pv 11) (by first | exact nomark _ | rfl))))))))))))))), ?_⟩
    refine q_asgP (P := fun ys => ∃ ns : List Int, ys = ns.map V.int ∧ (ns.length : Int) = 90 ∧ Small ns) (evP_call (ea_cons (ev_var rfl) (ea_cons ev_c ea_nil)) (SpNum hA hx (by decide) (by decide))) fun ys n H1 hys nn e1 hn => ?_
    obtain ⟨ns, rfl, hl, hS⟩ := hys
    have hl : ns.length = 90 := by omega
    have get : ∀ {j : Nat}, j < 90 → ∃ m : Nat, (ns.map V.int)[j]? = some (.int (m : Int)) := fun {j} hj => by
      have hj : j < ns.length := by omega
      have h1 := hS _ (List.getElem_mem hj)
      refine ⟨ns[j].toNat, ?_⟩
      rw [List.getElem?_map, List.getElem?_eq_getElem hj, Int.toNat_of_nonneg h1.1]
      rfl
    have hN1 := sq_of (K := K) hn
    have nE : ∀ {σ : L2.St} {H4 : Hp} {tb : TE} {j m : Nat}, Ex H1 H4 → σ[1]? = some (some (.ref n)) → Ev tb σ H4 (.int (j : Int)) → (ns.map V.int)[j]? = some (.int (m : Int)) → Ev (tOp (rIxL K) (tVar 1) tb) σ H4 (.int (m : Int)) := fun e hs hb hm => ev_ixI (ev_var hs) hb (ex_l e hN1) (atI_nat hm)
    refine q_asgG (P := IsBk K) (evG_call (ea_cons (ev_var rfl) (ea_cons ev_c ea_nil)) fun H2 e2 Q q E => ⟨n, ns, 0, rfl, ex_l e2 hN1, hS, by omega, fun v H' h e => q v H' e h⟩) fun bv H2 e2 hb => ?_
    obtain ⟨b, db, ok⟩ := hb
    refine q_asgG (P := fun v H' => ∃ p zs ss, v = .ref p ∧ H' p = some (.lst zs) ∧ DpAll K H' zs ((ss : List Sent).map snD) ∧ ss.length ≤ 3 ∧ ∀ s ∈ ss, OrdOk b s.1 ∧ s.2 ≤ 11) (evG_call (ea_cons (ev_var rfl) (ea_cons (ev_var rfl) (ea_cons ev_c (ea_cons ev_c ea_nil)))) fun H3 e3 Q q E => ⟨bv, b, n, ns, 25, 3, rfl, dp_ex e3 db, ok, ex_l (e2.trans e3) hN1, hS, by decide, by omega, fun p zs ss H' dz l3 os _ e hp => q _ H' e ⟨p, zs, ss, rfl, hp, dz, l3, os⟩⟩) fun v H3 e3 hv => ?_
    obtain ⟨ps, svs, ss, rfl, hps, dsv, ls3, oss⟩ := hv
    have fews : ∀ s ∈ ss, Few s.1 := fun s hs => ord_few ok (oss s hs).1
    have dsent : Dp K H3 (.ref ps) (.list (ss.map snD)) := .lst (sq_of hps) dsv
    have lsv : svs.length = ss.length := by rw [dpa_len dsv, List.length_map]
    have rep : ∀ {σ : L2.St} {H' : Hp}, Ex H3 H' → σ[3]? = some (some (.ref ps)) → Ev (tCB (rReprD K) (tCons (tVar 3) tNil)) σ H' (.str (PyData.list (ss.map snD)).shown) := fun e h3 => ev_reprL (ev_var h3) (dp_ex e dsent) (Short.lst (sns_short fun s hs => ⟨fews s hs, (oss s hs).2⟩)) (by omega) (Lay.list (n := 2) (LayA.map fun s hs => sn_lay (fews s hs))) (by decide)
    refine q_asg (rep (Ex.refl _) rfl) fun H4 e4 => ?_
    generalize (PyData.list (ss.map snD)).shown = kept at rep
    have e14 := (e2.trans e3).trans e4
    have hsv : ∀ {H' : Hp}, Ex H3 H' → SqL K H' ps svs := fun e => sq_of (e _ _ hps)
    refine q_forR1 (n := ((ss.length + 1 : Nat) : Int)) (ea_cons (ev_is (ev_op (ev_len (ev_var rfl) (hsv e4)) ev_c rv_I0) (congrArg V.int (by rw [lsv]; push_cast; rfl))) ea_nil) (by omega) (fun i σ' H' => ∃ (u5 u6 u7 u8 u9 : Option V), σ' = [some (.ref a), some (.ref n), some bv, some (.ref ps), some (.str kept), u5, u6, u7, u8, u9, none, none, none, none, none, none, none, none] ∧ Ex H4 H') (fun H5 e5 => ⟨_, _, _, _, _, rfl, e5⟩) ?cs ?cd
    case cs =>
      rintro c σ' H5 hc ⟨u5, u6, u7, u8, u9, rfl, e5⟩
      refine s_forR2 (lo := 1) (n := 8) (ea_cons ev_c (ea_cons ev_c ea_nil)) (by omega) (fun i σ' H' => ∃ (u6 u7 u8 u9 : Option V), σ' = [some (.ref a), some (.ref n), some bv, some (.ref ps), some (.str kept), some (.int (c : Int)), u6, u7, u8, u9, none, none, none, none, none, none, none, none] ∧ Ex H4 H') (fun H6 e6 => ⟨_, _, _, _, rfl, e5.trans e6⟩) ?js (fun σ' H6 ⟨u6, u7, u8, u9, h, e6⟩ => ⟨_, _, _, _, _, h, e6⟩)
      rintro j σ' H6 hj ⟨u6, u7, u8, u9, rfl, e6⟩
      have e36 := e4.trans e6
      refine q_asgL (xs := [.non]) (el_lst (ea_cons ev_c ea_nil) (by simp)) fun pd H7 npd e7 hpd => ?_
      refine q_join (Pm := fun σ' H' => ∃ dvs, σ' = [some (.ref a), some (.ref n), some bv, some (.ref ps), some (.str kept), some (.int (c : Int)), some (.int (1 + (j : Int))), some (.ref pd), u8, u9, none, none, none, none, none, none, none, none] ∧ H' pd = some (.lst dvs) ∧ DpAll K H' dvs (dueD ss c (1 + j)) ∧ Ex H6 H') ?rest fun N hN => ?mid
      case mid =>
        have e37 := e36.trans e7
        by_cases hc2 : c < ss.length
        · have hs1 : ss[c]? = some ss[c] := List.getElem?_eq_getElem hc2
          generalize ss[c] = sc at hs1
          obtain ⟨v, hv, dv⟩ := dpa_at _ _ _ _ dsv (show (ss.map snD)[c]? = some (snD sc) by rw [List.getElem?_map, hs1]; rfl)
          obtain ⟨a2, y2, rfl, hb2, all2⟩ := Dp.tup_inv dv
          obtain ⟨v1, r1, rfl, d1, all2⟩ := DpAll.cons_inv all2
          obtain ⟨v2, r2, rfl, d2, all2⟩ := DpAll.cons_inv all2
          obtain rfl := DpAll.nil_inv all2
          obtain rfl := Dp.int_inv d2
          have sE : ∀ {σ : L2.St} {H8 : Hp}, Ex H3 H8 → σ[3]? = some (some (.ref ps)) → σ[5]? = some (some (.int (c : Int))) → Ev (tOp (rIxL K) (tVar 3) (tVar 5)) σ H8 (.ref a2) := fun e h1 h10 => ev_ixI (ev_var h1) (ev_var h10) (hsv e) (atI_nat hv)
          refine s_when (b := decide (sc.2 ≤ 1 + j)) (et_is (et_and (a := true) (b := decide (sc.2 ≤ 1 + j)) (et_is (et_test (ev_op (ev_var rfl) (ev_len (ev_var rfl) (hsv e37)) rv_I0)) (decide_eq_true (by omega))) fun _ => et_is (et_test (ev_op (ev_op (sE e37 rfl rfl) ev_c (rv_ixT (ex_t e37 hb2) rfl)) (ev_var rfl) rv_I0)) (decide_eq_decide.mpr (by omega))) (Bool.true_and _)) (fun hb H8 e8 => ?_) fun hb H8 e8 => ?_
          · have hb : sc.2 ≤ 1 + j := of_decide_eq_true hb
            refine s_app (v := v1) (e8 _ _ hpd) (ev_var rfl) (ev_op (sE (e37.trans e8) rfl rfl) ev_c (rv_ixT (ex_t (e37.trans e8) hb2) rfl)) (by simp) fun H9 e9 => ?_
            refine hN _ _ ⟨[.non] ++ [v1], rfl, upd_same, ?_, Ex.mut ((e7.trans e8).trans e9) npd⟩
            have e : dueD ss c (1 + j) = [.none, tD sc.1] := by unfold dueD; rw [hs1]; exact if_pos hb
            rw [e]
            exact .cons .non (.cons (dp_mut ((e8.trans e9) _ _ hpd) (noL_tD _) (dp_ex ((e37.trans e8).trans e9) d1)) .nil)
          · have hb : ¬ sc.2 ≤ 1 + j := of_decide_eq_false hb
            refine hN _ _ ⟨[.non], rfl, e8 _ _ hpd, ?_, e7.trans e8⟩
            have e : dueD ss c (1 + j) = [.none] := by unfold dueD; rw [hs1]; exact if_neg hb
            rw [e]
            exact .cons .non .nil
        · refine s_when (b := false) (et_is (et_and (a := false) (b := false) (et_is (et_test (ev_op (ev_var rfl) (ev_len (ev_var rfl) (hsv e37)) rv_I0)) (decide_eq_false (by omega))) fun h => Bool.noConfusion h) rfl) (fun h => Bool.noConfusion h) fun _ H8 e8 => ?_
          refine hN _ _ ⟨[.non], rfl, e8 _ _ hpd, ?_, e7.trans e8⟩
          have e : dueD ss c (1 + j) = [.none] := by unfold dueD; rw [List.getElem?_eq_none (by omega)]
          rw [e]
          exact .cons .non .nil
      case rest =>
        rintro σ' H8 ⟨dvs, rfl, hpd8, ddv, e68⟩
        have e38 := e36.trans e68
        refine s_forR1 (n := 2) (ea_cons ev_c ea_nil) (by omega) (fun i σ' H' => ∃ (u8 u9 : Option V), σ' = [some (.ref a), some (.ref n), some bv, some (.ref ps), some (.str kept), some (.int (c : Int)), some (.int (1 + (j : Int))), some (.ref pd), u8, u9, none, none, none, none, none, none, none, none] ∧ Ex H8 H') (fun H9 e9 => ⟨_, _, rfl, e9⟩) ?ts (fun σ' H9 ⟨u8, u9, h, e9⟩ => ⟨_, _, _, _, h, (e6.trans e68).trans e9⟩)
        rintro i σ' H9 hi ⟨u8, u9, rfl, e9⟩
        refine q_asgG (P := fun v H' => ∃ p xs, v = .ref p ∧ H9 p = none ∧ H' p = some (.lst xs) ∧ DpAll K H' xs (dueD ss c (1 + j))) (evG_call (ea_cons (ev_var rfl) (ea_cons (ev_var rfl) (ea_cons (ev_is (ev_var rfl) (congrArg V.int (show (1 + (j : Int)) = ((1 + j : Nat) : Int) by push_cast; rfl))) ea_nil))) fun H10 e10 Q q E => ⟨.ref ps, ss, c, 1 + j, rfl, dp_ex ((e38.trans e9).trans e10) dsent, fun p xs H' np e hp hd => q _ H' e ⟨p, xs, rfl, fresh_back e10 np, hp, hd⟩⟩) fun v H10 e10 hv => ?_
        obtain ⟨pt, txs, rfl, npt, hpt, dt⟩ := hv
        refine q_when (b := false) (et_is (et_or (a := false) (b := false) (et_is (et_not (et_B (ev_isL (ev_var rfl) hpt))) rfl) fun _ => et_test (ev_op (ev_var rfl) (ev_var rfl) (rv_neS (d := .list (dueD ss c (1 + j))) (.lst (sq_of hpt) dt) (.lst (sq_of ((e9.trans e10) _ _ hpd8)) (dpa_ex (e9.trans e10) ddv)) (due_sh fews)))) rfl) (fun h => Bool.noConfusion h) fun _ H11 e11 => ?_
        exact s_app (v := .int 0) (e11 _ _ hpt) (ev_var rfl) ev_c (by have := due_len ss c (1 + j); rw [dpa_len dt]; omega) fun H12 e12 => ⟨_, _, rfl, (e9.trans (Ex.mut ((e10.trans e11).trans e12) npt))⟩
    case cd =>
      rintro σ' H5 ⟨u5, u6, u7, u8, u9, rfl, e5⟩
      have e35 := e4.trans e5
      have e15 := (e2.trans e3).trans e35
      obtain ⟨m40, hm40⟩ := get (j := 40) (by decide)
      refine q_asgG (P := fun v H' => ∃ p xs, v = .ref p ∧ H' p = some (.lst xs) ∧ 0 < xs.length ∧ ∀ x ∈ xs, IsRow K b 2 none x H') (evG_callP (Ps := [IsV bv, IsV (.ref ps), fun v H' => ∃ p ys, v = .ref p ∧ H' p = some (.tup ((ys : List Str).map V.str)) ∧ Few ys ∧ ys.length ≤ 2, IsV (.int 2)]) (eaP_cons IsV.m (ea_one (ev_var rfl)) (eaP_cons IsV.m (ea_one (ev_var rfl)) (eaP_cons (fun _ _ _ e ⟨p, ys, a, b, c⟩ => ⟨p, ys, a, e _ _ b, c⟩) (evG_call (ea_cons (ev_var rfl) (ea_cons (nE (j := 40) e15 rfl ev_c hm40) ea_nil)) fun H6 e6 Q q E => ⟨bv, b, m40, rfl, dp_ex ((e3.trans e35).trans e6) db, ok, fun p ys H' f l e hp => q _ H' e ⟨p, ys, rfl, hp, f, l⟩⟩) (eaP_cons IsV.m (ea_one ev_c) eaP_nil)))) fun vs H6 e6 hv => ?hist) fun v H6 e6 hv => ?_
      case hist =>
        cases hv with | cons a1 hv =>
        cases hv with | cons a2 hv =>
        cases hv with | cons a3 hv =>
        cases hv with | cons a4 hv =>
        cases hv
        obtain rfl := a1
        obtain rfl := a2
        obtain rfl := a4
        obtain ⟨p, ys, rfl, hp, fy, ly⟩ := a3
        exact fun H7 e7 Q q E => ⟨_, _, p, b, ss, ys, 2, rfl, dp_ex (((e3.trans e35).trans e6).trans e7) db, ok, dp_ex ((e35.trans e6).trans e7) dsent, fun s hs => (oss s hs).1, st_of (e7 _ _ hp), fy, ly, by decide, fun p xs H' a _ c e h => q _ H' e ⟨p, xs, rfl, h, a, c⟩⟩
      obtain ⟨pr, rws, rfl, hpr, lr, allr⟩ := hv
      have e26 := (e3.trans e35).trans e6
      have frs : ∀ {σ : L2.St} {E : XK} (at_ : Nat), at_ ≤ 60 → σ[1]? = some (some (.ref n)) → σ[2]? = some (some bv) → σ[10]? = some (some (.ref pr)) → EvG (tCall (spFrames K) [] E (tCons (tVar 2) (tCons (tVar 10) (tCons (tVar 1) (tCons (tC (.int (at_ : Int))) (tCons (tC (.int 2)) tNil)))))) σ H6 (FrsP K 3) := fun at_ ha h1 h2 h10 => evG_call (ea_cons (ev_var h2) (ea_cons (ev_var h10) (ea_cons (ev_var h1) (ea_cons ev_c (ea_cons ev_c ea_nil))))) fun H7 e7 Q q E => ⟨bv, pr, n, b, rws, ns, at_, 2, rfl, dp_ex (e26.trans e7) db, ok, e7 _ _ hpr, lr, fun x hx => IsRow.m _ _ _ e7 (allr x hx), ex_l ((e2.trans e26).trans e7) hN1, hS, by omega, by decide, fun p zs fs H' _ hp dz okf l e => q _ H' e ⟨p, zs, fs, rfl, hp, dz, okf, l⟩⟩
      refine q_asgG (P := FrsP K 6) (evG_catFr (n := 3) (m := 3) (frs 45 (by decide) rfl rfl rfl) (frs 60 (by decide) rfl rfl rfl) (by decide)) fun v H7 e7 hv => ?_
      obtain ⟨pf, zs, fs, rfl, hpf, dz, okf, lf⟩ := hv
      have lz : zs.length = fs.length := by rw [dpa_len dz, List.length_map]
      refine q_asgL (el_list (ev_var rfl) (sq_of hpf)) fun ph H8 _ e8 hph => ?_
      have dhand : ∀ {H' : Hp}, Ex H8 H' → Dp K H' (.ref ph) (.list (fs.map frD)) := fun e => .lst (sq_of (e _ _ hph)) (dpa_ex (e8.trans e) dz)
      have dfrm : ∀ {H' : Hp}, Ex H8 H' → Dp K H' (.ref pf) (.list (fs.map frD)) := fun e => .lst (sq_of ((e8.trans e) _ _ hpf)) (dpa_ex (e8.trans e) dz)
      have e68 := e7.trans e8
      have e28 := e26.trans e68
      refine q_forR1 (n := 6) (ea_cons ev_c ea_nil) (by omega) (fun i σ' H' => ∃ (u5 u6 u7 u8 u9 u13 u14 u15 u16 : Option V), σ' = [some (.ref a), some (.ref n), some bv, some (.ref ps), some (.str kept), u5, u6, u7, u8, u9, some (.ref pr), some (.ref pf), some (.ref ph), u13, u14, u15, u16, none] ∧ Ex H8 H') (fun H9 e9 => ⟨_, _, _, _, _, _, _, _, _, rfl, e9⟩) ?ks ?kd
      case kd =>
        rintro σ' H9 ⟨u5, u6, u7, u8, u9, u13, u14, u15, u16, rfl, e9⟩
        exact s_ret (ev_is (ev_andV (a := true) (b := true) (ev_is (ev_op (rep (((e35.trans e6).trans e68).trans e9) rfl) (ev_var rfl) (rv_eq rfl)) (by rw [decide_eq_true rfl])) fun _ => ev_op (ev_var rfl) (ev_var rfl) (rv_eqS (dhand e9) (dfrm e9) (Lay.list (n := 4) (LayA.map fun f hf => fr_lay (okf f hf))).sh)) rfl) fun H' _ => q H'
      case ks =>
        rintro i σ' H9 hi ⟨u5, u6, u7, u8, u9, u13, u14, u15, u16, rfl, e9⟩
        have hi : i < 6 := by omega
        obtain ⟨m, hm⟩ := get (j := 80 + i) (by omega)
        have hk : m % rws.length < rws.length := Nat.mod_lt _ lr
        have hrow := List.getElem?_eq_getElem hk
        obtain ⟨px, h0, pq, hs, ys, ex, hpx, _, _, _, hpq, ly, allp⟩ := allr _ (List.getElem_mem hk)
        rw [ex] at hrow
        have e69 := e68.trans e9
        have e29 := e28.trans e9
        refine q_asg (v := .ref pq) (ev_op (ev_ixI (i := ((m % rws.length : Nat) : Int)) (ev_var rfl) (ev_is (ev_op (ev_int (ea_cons (nE (j := 80 + i) (e2.trans e29) rfl (ev_is (ev_op ev_c (ev_var rfl) rv_I0) (congrArg V.int (by push_cast; rfl))) hm) ea_nil)) (ev_len (ev_var rfl) (sq_of (e69 _ _ hpr))) (rv_I (by omega))) (congrArg V.int (by push_cast; rfl))) (sq_of (e69 _ _ hpr)) (atI_nat hrow)) ev_c (rv_ixT (ex_t e69 hpx) rfl)) fun H10 e10 => ?_
        refine s_forR1 (n := 3) (ea_cons ev_c ea_nil) (by omega) (fun j σ' H' => ∃ (u5 u6 u9 u15 u16 : Option V), σ' = [some (.ref a), some (.ref n), some bv, some (.ref ps), some (.str kept), u5, u6, u7, u8, u9, some (.ref pr), some (.ref pf), some (.ref ph), some (.int (i : Int)), some (.ref pq), u15, u16, none] ∧ Ex H8 H') (fun H11 e11 => ⟨_, _, _, _, _, rfl, (e9.trans e10).trans e11⟩) ?js2 (fun σ' H11 ⟨u5, u6, u9, u15, u16, h, e11⟩ => ⟨_, _, _, _, _, _, _, _, _, h, e11⟩)
        rintro j σ' H11 hj ⟨u5, u6, u9, u15, u16, rfl, e11⟩
        have hy : j < ys.length := by rw [ly]; omega
        obtain ⟨pp, sv, st, c, epp, hpp, dst, ost⟩ := (allp _ (List.getElem_mem hy)).inv
        have haty := List.getElem?_eq_getElem hy
        rw [epp] at haty
        obtain ⟨sa, pho, rfl, hsa, hpho⟩ := st_inv dst
        have e6b := e68.trans e11
        refine q_unt2 (ev_ixI (ev_var rfl) (ev_var rfl) (sq_of (e6b _ _ hpq)) (atI_nat haty)) (ex_t e6b hpp) fun H12 e12 => ?_
        have e6c := e6b.trans e12
        have e8c := e11.trans e12
        refine q_asgG (P := IsV (.bl (fitsV ⟨j, c, st.m, st.on⟩ fs))) (evG_call (ea_cons (ev_var rfl) (ea_cons (ev_var rfl) (ea_cons (ev_var rfl) (ea_cons (ev_var rfl) ea_nil)))) fun H13 e13 Q q E => ⟨.ref sa, .ref ph, st, c, j, fs, rfl, dp_ex (e6c.trans e13) dst, dhand (e8c.trans e13), ost.1, ost.2.1, okf, by omega, fun H' e => q _ H' e rfl⟩) fun v H13 e13 hv => ?_
        obtain rfl := hv
        have e8d := e8c.trans e13
        have e6d := e6c.trans e13
        have f0ok : FrOk ⟨j, c, st.m, st.on⟩ := ⟨ost.1, ost.2.1⟩
        refine q_asgL (xs := given zs.length (fun i => decide ((fs.getD i ⟨0, 0, Str.empty, []⟩).t = j)) (fun i => zs.getD i .non)) (el_lcL (fun i => decide ((fs.getD i ⟨0, 0, Str.empty, []⟩).t = j)) (fun i => zs.getD i .non) (ev_var rfl) (sq_of ((e8.trans e8d) _ _ hpf)) (by omega) (fun _ => rfl) (fun k x H14 e14 hx => ?tst) (fun k x H14 e14 hx _ => ?ee)) fun pw H14 npw e14 hpw => ?_
        case tst =>
          have hk : k < fs.length := by rw [← lz]; exact (List.getElem?_eq_some_iff.mp hx).1
          have hf1 : fs[k]? = some fs[k] := List.getElem?_eq_getElem hk
          generalize fs[k] = f1 at hf1
          have e : fs.getD k ⟨0, 0, Str.empty, []⟩ = f1 := by rw [List.getD_eq_getElem?_getD, hf1]; rfl
          obtain ⟨y, hy, dy⟩ := dpa_at _ _ _ _ dz (show (fs.map frD)[k]? = some (frD f1) by rw [List.getElem?_map, hf1]; rfl)
          rw [hx] at hy
          obtain rfl := Option.some.inj hy
          obtain ⟨p, ph1, rfl, hz, _⟩ := fr_inv dy
          rw [e]
          exact et_is (et_test (ev_op (ev_op (ev_var rfl) ev_c (rv_ixT (ex_t ((e8.trans e8d).trans e14) hz) rfl)) (ev_var rfl) (rv_eq rfl))) (show decide (V.int (f1.t : Int) = V.int (j : Int)) = decide (f1.t = j) from decide_eq_decide.mpr ⟨fun e => by injection e with e; omega, fun e => by rw [e]⟩)
        case ee =>
          rw [show zs.getD k .non = x by rw [List.getD_eq_getElem?_getD, hx]; rfl]
          exact ev_var rfl
        have down : DpAll K H14 (given zs.length (fun i => decide ((fs.getD i ⟨0, 0, Str.empty, []⟩).t = j)) (fun i => zs.getD i .non)) ((fs.filter fun f => decide (f.t = j)).map frD) := dpa_given (fun f => decide (f.t = j)) ⟨0, 0, Str.empty, []⟩ zs fs (dpa_ex ((e8.trans e8d).trans e14) dz)
        generalize given zs.length (fun i => decide ((fs.getD i ⟨0, 0, Str.empty, []⟩).t = j)) (fun i => zs.getD i .non) = own at hpw down
        have okw : ∀ f ∈ fs.filter (fun f => decide (f.t = j)), FrOk f := fun f hf => okf f (List.mem_filter.mp hf).1
        have lw : (fs.filter fun f => decide (f.t = j)).length ≤ 6 := Nat.le_trans (List.length_filter_le _ _) lf
        have efit : fitsV ⟨j, c, st.m, st.on⟩ fs = (fs.filter fun f => decide (f.t = j)).all fun f => PyData.eqv (frD f) (frD ⟨j, c, st.m, st.on⟩) := rfl
        rw [efit]
        generalize fs.filter (fun f => decide (f.t = j)) = fw at down okw lw
        have low : own.length = fw.length := by rw [dpa_len down, List.length_map]
        refine s_when (b := false) (et_is (et_or (a := false) (b := false) (et_is (et_not (et_B (ev_isBB (ev_var rfl)))) rfl) fun _ => et_is (et_test (ev_op (ev_var rfl) (ev_allL (bs := fw.map fun f => PyData.eqv (frD f) (frD ⟨j, c, st.m, st.on⟩)) (el_is (el_lcL (fun _ => true) (fun i => V.bl (PyData.eqv (frD (fw.getD i ⟨0, 0, Str.empty, []⟩)) (frD ⟨j, c, st.m, st.on⟩))) (ev_var rfl) (sq_of hpw) (by omega) (fun _ => rfl) (fun _ _ _ _ _ => fun H2 _ Q q => q H2 (Ex.refl H2)) (fun k x H15 e15 hx _ => ?el)) ?gv)) (rv_neS (d := .bool (fw.all fun f => PyData.eqv (frD f) (frD ⟨j, c, st.m, st.on⟩))) (.bl _) (by rw [List.all_map]; exact .bl _) (Lay.bool (n := 1) _).sh))) rfl) rfl) (fun h => Bool.noConfusion h) fun _ H15 e15 => ⟨_, _, _, _, _, rfl, (e8d.trans e14).trans e15⟩
        case el =>
          have hk : k < fw.length := by rw [← low]; exact (List.getElem?_eq_some_iff.mp hx).1
          have hf1 : fw[k]? = some fw[k] := List.getElem?_eq_getElem hk
          have ok1 := okw _ (List.getElem_mem hk)
          generalize fw[k] = f1 at hf1 ok1
          have e : fw.getD k ⟨0, 0, Str.empty, []⟩ = f1 := by rw [List.getD_eq_getElem?_getD, hf1]; rfl
          obtain ⟨y, hy, dy⟩ := dpa_at _ _ _ _ down (show (fw.map frD)[k]? = some (frD f1) by rw [List.getElem?_map, hf1]; rfl)
          rw [hx] at hy
          obtain rfl := Option.some.inj hy
          rw [e]
          refine ev_opG (P := fun v H' => Dp K H' v (frD ⟨j, c, st.m, st.on⟩)) (ev_var rfl) (evD_tup (eaD_cons (evD_int (ev_var rfl)) (eaD_cons (evD_int (ev_var rfl)) (eaD_cons (evD_str (ev_op (ev_var rfl) ev_c (rv_ixT (ex_t ((e6d.trans e14).trans e15) hsa) rfl))) (eaD_cons (Ev.gi (ev_op (ev_var rfl) ev_c (rv_ixT (ex_t ((e6d.trans e14).trans e15) hsa) rfl)) fun H' e' => .tup (ex_t (((e6d.trans e14).trans e15).trans e') hpho) (dpa_texts st.on)) eaD_nil)))) (by simp)) fun v H16 e16 hv => rv_eqD (dp_ex (e15.trans e16) dy) hv (fr_sh ok1) (fr_sh f0ok)
        case gv =>
          unfold given
          rw [low, filt_at (fun _ : Fr => true) (fun f => V.bl (PyData.eqv (frD f) (frD ⟨j, c, st.m, st.on⟩))), List.filter_eq_self.mpr (fun _ _ => rfl), List.map_map]
          rfl

end
theorem all_mk {l : PySem.W.OpenLaw} {w : World} {K : PySem.W.Frag} {h : Heap} {mg : Str → Option Value} {fa : Addr} (X : K.In h) (G : h.Ns mainGlobals mg) (hfa : mg "law" = some (.ref fa))
    {f0 f1 f2 f3 f4 f5 f6 f7 f8 f9 f10 f11 f12 f13 f14 f15 : Addr} {od0 an0 od1 an1 od2 an2 od3 an3 od4 an4 od5 an5 od6 an6 od7 an7 od8 an8 od9 an9 od10 an10 od11 an11 od12 an12 od13 an13 od14 an14 od15 an15 : Option Addr} {sl0 sl1 sl2 sl3 sl4 sl5 sl6 sl7 sl8 sl9 sl10 sl11 sl12 sl13 sl14 sl15 : Array (Option Value)} {oc0 kV0 dc0 pm0 cd0 ct0 oc1 kV1 dc1 pm1 cd1 ct1 oc2 kV2 dc2 pm2 cd2 ct2 oc3 kV3 dc3 pm3 cd3 ct3 oc4 kV4 dc4 pm4 cd4 ct4 oc5 kV5 dc5 pm5 cd5 ct5 oc6 kV6 dc6 pm6 cd6 ct6 oc7 kV7 dc7 pm7 cd7 ct7 oc8 kV8 dc8 pm8 cd8 ct8 oc9 kV9 dc9 pm9 cd9 ct9 oc10 kV10 dc10 pm10 cd10 ct10 oc11 kV11 dc11 pm11 cd11 ct11 oc12 kV12 dc12 pm12 cd12 ct12 oc13 kV13 dc13 pm13 cd13 ct13 oc14 kV14 dc14 pm14 cd14 ct14 oc15 kV15 dc15 pm15 cd15 ct15 : Value}
    (a0 : PySem.W.nsIn K mainGlobals "may_take" = some (some (.ref f0))) (l0 : K.lookup f0 = some ⟨oc0, od0, .func (PySem.W.fnOf "may_take" "may_take" (defArgs s_may_take) (defBody s_may_take) (defScope s_may_take) .none kV0 dc0 pm0 an0 cd0 ct0), sl0⟩) (c0 : PySem.W.codeIn K cd0 "may_take" = true) (k0 : PySem.W.keepIn K (.ref f0) = true)
    (a1 : PySem.W.nsIn K mainGlobals "fits_frames" = some (some (.ref f1))) (l1 : K.lookup f1 = some ⟨oc1, od1, .func (PySem.W.fnOf "fits_frames" "fits_frames" (defArgs s_fits_frames) (defBody s_fits_frames) (defScope s_fits_frames) .none kV1 dc1 pm1 an1 cd1 ct1), sl1⟩) (c1 : PySem.W.codeIn K cd1 "fits_frames" = true) (k1 : PySem.W.keepIn K (.ref f1) = true)
    (a2 : PySem.W.nsIn K mainGlobals "_law_row" = some (some (.ref f2))) (l2 : K.lookup f2 = some ⟨oc2, od2, .func (PySem.W.fnOf "_law_row" "_law_row" (defArgs s__law_row) (defBody s__law_row) (defScope s__law_row) .none kV2 dc2 pm2 an2 cd2 ct2), sl2⟩) (c2 : PySem.W.codeIn K cd2 "_law_row" = true) (k2 : PySem.W.keepIn K (.ref f2) = true)
    (a3 : PySem.W.nsIn K mainGlobals "_law_numbers" = some (some (.ref f3))) (l3 : K.lookup f3 = some ⟨oc3, od3, .func (PySem.W.fnOf "_law_numbers" "_law_numbers" (defArgs s__law_numbers) (defBody s__law_numbers) (defScope s__law_numbers) .none kV3 dc3 pm3 an3 cd3 ct3), sl3⟩) (c3 : PySem.W.codeIn K cd3 "_law_numbers" = true) (k3 : PySem.W.keepIn K (.ref f3) = true)
    (a4 : PySem.W.nsIn K mainGlobals "_law_book" = some (some (.ref f4))) (l4 : K.lookup f4 = some ⟨oc4, od4, .func (PySem.W.fnOf "_law_book" "_law_book" (defArgs s__law_book) (defBody s__law_book) (defScope s__law_book) .none kV4 dc4 pm4 an4 cd4 ct4), sl4⟩) (c4 : PySem.W.codeIn K cd4 "_law_book" = true) (k4 : PySem.W.keepIn K (.ref f4) = true)
    (a5 : PySem.W.nsIn K mainGlobals "_law_parted" = some (some (.ref f5))) (l5 : K.lookup f5 = some ⟨oc5, od5, .func (PySem.W.fnOf "_law_parted" "_law_parted" (defArgs s__law_parted) (defBody s__law_parted) (defScope s__law_parted) .none kV5 dc5 pm5 an5 cd5 ct5), sl5⟩) (c5 : PySem.W.codeIn K cd5 "_law_parted" = true) (k5 : PySem.W.keepIn K (.ref f5) = true)
    (a6 : PySem.W.nsIn K mainGlobals "_law_effect" = some (some (.ref f6))) (l6 : K.lookup f6 = some ⟨oc6, od6, .func (PySem.W.fnOf "_law_effect" "_law_effect" (defArgs s__law_effect) (defBody s__law_effect) (defScope s__law_effect) .none kV6 dc6 pm6 an6 cd6 ct6), sl6⟩) (c6 : PySem.W.codeIn K cd6 "_law_effect" = true) (k6 : PySem.W.keepIn K (.ref f6) = true)
    (a7 : PySem.W.nsIn K mainGlobals "_law_first" = some (some (.ref f7))) (l7 : K.lookup f7 = some ⟨oc7, od7, .func (PySem.W.fnOf "_law_first" "_law_first" (defArgs s__law_first) (defBody s__law_first) (defScope s__law_first) .none kV7 dc7 pm7 an7 cd7 ct7), sl7⟩) (c7 : PySem.W.codeIn K cd7 "_law_first" = true) (k7 : PySem.W.keepIn K (.ref f7) = true)
    (a8 : PySem.W.nsIn K mainGlobals "_law_command" = some (some (.ref f8))) (l8 : K.lookup f8 = some ⟨oc8, od8, .func (PySem.W.fnOf "_law_command" "_law_command" (defArgs s__law_command) (defBody s__law_command) (defScope s__law_command) .none kV8 dc8 pm8 an8 cd8 ct8), sl8⟩) (c8 : PySem.W.codeIn K cd8 "_law_command" = true) (k8 : PySem.W.keepIn K (.ref f8) = true)
    (a9 : PySem.W.nsIn K mainGlobals "_law_tick" = some (some (.ref f9))) (l9 : K.lookup f9 = some ⟨oc9, od9, .func (PySem.W.fnOf "_law_tick" "_law_tick" (defArgs s__law_tick) (defBody s__law_tick) (defScope s__law_tick) .none kV9 dc9 pm9 an9 cd9 ct9), sl9⟩) (c9 : PySem.W.codeIn K cd9 "_law_tick" = true) (k9 : PySem.W.keepIn K (.ref f9) = true)
    (a10 : PySem.W.nsIn K mainGlobals "_law_sent" = some (some (.ref f10))) (l10 : K.lookup f10 = some ⟨oc10, od10, .func (PySem.W.fnOf "_law_sent" "_law_sent" (defArgs s__law_sent) (defBody s__law_sent) (defScope s__law_sent) .none kV10 dc10 pm10 an10 cd10 ct10), sl10⟩) (c10 : PySem.W.codeIn K cd10 "_law_sent" = true) (k10 : PySem.W.keepIn K (.ref f10) = true)
    (a11 : PySem.W.nsIn K mainGlobals "_law_may_come" = some (some (.ref f11))) (l11 : K.lookup f11 = some ⟨oc11, od11, .func (PySem.W.fnOf "_law_may_come" "_law_may_come" (defArgs s__law_may_come) (defBody s__law_may_come) (defScope s__law_may_come) .none kV11 dc11 pm11 an11 cd11 ct11), sl11⟩) (c11 : PySem.W.codeIn K cd11 "_law_may_come" = true) (k11 : PySem.W.keepIn K (.ref f11) = true)
    (a12 : PySem.W.nsIn K mainGlobals "_law_lots" = some (some (.ref f12))) (l12 : K.lookup f12 = some ⟨oc12, od12, .func (PySem.W.fnOf "_law_lots" "_law_lots" (defArgs s__law_lots) (defBody s__law_lots) (defScope s__law_lots) .none kV12 dc12 pm12 an12 cd12 ct12), sl12⟩) (c12 : PySem.W.codeIn K cd12 "_law_lots" = true) (k12 : PySem.W.keepIn K (.ref f12) = true)
    (a13 : PySem.W.nsIn K mainGlobals "_law_histories" = some (some (.ref f13))) (l13 : K.lookup f13 = some ⟨oc13, od13, .func (PySem.W.fnOf "_law_histories" "_law_histories" (defArgs s__law_histories) (defBody s__law_histories) (defScope s__law_histories) .none kV13 dc13 pm13 an13 cd13 ct13), sl13⟩) (c13 : PySem.W.codeIn K cd13 "_law_histories" = true) (k13 : PySem.W.keepIn K (.ref f13) = true)
    (a14 : PySem.W.nsIn K mainGlobals "_law_frames" = some (some (.ref f14))) (l14 : K.lookup f14 = some ⟨oc14, od14, .func (PySem.W.fnOf "_law_frames" "_law_frames" (defArgs s__law_frames) (defBody s__law_frames) (defScope s__law_frames) .none kV14 dc14 pm14 an14 cd14 ct14), sl14⟩) (c14 : PySem.W.codeIn K cd14 "_law_frames" = true) (k14 : PySem.W.keepIn K (.ref f14) = true)
    (a15 : PySem.W.nsIn K mainGlobals "law" = some (some (.ref f15))) (l15 : K.lookup f15 = some ⟨oc15, od15, .func (PySem.W.fnOf "law" "law" (defArgs s_law) (defBody s_law) (defScope s_law) .none kV15 dc15 pm15 an15 cd15 ct15), sl15⟩) (c15 : PySem.W.codeIn K cd15 "law" = true) (k15 : PySem.W.keepIn K (.ref f15) = true)
    (z_abs : PySem.W.nsIn K mainGlobals "abs" = some none)
    (z_all : PySem.W.nsIn K mainGlobals "all" = some none)
    (z_bool : PySem.W.nsIn K mainGlobals "bool" = some none)
    (z_enumerate : PySem.W.nsIn K mainGlobals "enumerate" = some none)
    (z_int : PySem.W.nsIn K mainGlobals "int" = some none)
    (z_isinstance : PySem.W.nsIn K mainGlobals "isinstance" = some none)
    (z_len : PySem.W.nsIn K mainGlobals "len" = some none)
    (z_list : PySem.W.nsIn K mainGlobals "list" = some none)
    (z_max : PySem.W.nsIn K mainGlobals "max" = some none)
    (z_range : PySem.W.nsIn K mainGlobals "range" = some none)
    (z_repr : PySem.W.nsIn K mainGlobals "repr" = some none)
    (z_sorted : PySem.W.nsIn K mainGlobals "sorted" = some none)
    (z_tuple : PySem.W.nsIn K mainGlobals "tuple" = some none)
    : ∃ fd : FuncData, (∀ (s : Shared) (v : Value), BindsTo s fd ⟨[v], []⟩ [("script", v)]) ∧ ∀ base : Heap, K.In base → base.Ns mainGlobals mg → FnOkG l.prog w K mg base 5 fa fd ["script"] (spLaw K) := by
  have e := hfa.symm.trans (PySem.W.mg_of X G a15)
  cases e
  have mz_abs := PySem.W.mg_none_of X G z_abs
  have mz_all := PySem.W.mg_none_of X G z_all
  have mz_bool := PySem.W.mg_none_of X G z_bool
  have mz_enumerate := PySem.W.mg_none_of X G z_enumerate
  have mz_int := PySem.W.mg_none_of X G z_int
  have mz_isinstance := PySem.W.mg_none_of X G z_isinstance
  have mz_len := PySem.W.mg_none_of X G z_len
  have mz_list := PySem.W.mg_none_of X G z_list
  have mz_max := PySem.W.mg_none_of X G z_max
  have mz_range := PySem.W.mg_none_of X G z_range
  have mz_repr := PySem.W.mg_none_of X G z_repr
  have mz_sorted := PySem.W.mg_none_of X G z_sorted
  have mz_tuple := PySem.W.mg_none_of X G z_tuple
  refine ⟨PySem.W.fnOf "law" "law" (defArgs s_law) (defBody s_law) (defScope s_law) .none kV15 dc15 pm15 an15 cd15 ct15, fun s v => .of_eq rfl, fun base _ _ => ?_⟩
  have A_may_take : At K mg "may_take" s_may_take := ⟨_, _, fun_mk (st := s_may_take) l0 c0 k0, PySem.W.mg_of X G a0⟩
  have A_fits_frames : At K mg "fits_frames" s_fits_frames := ⟨_, _, fun_mk (st := s_fits_frames) l1 c1 k1, PySem.W.mg_of X G a1⟩
  have A__law_row : At K mg "_law_row" s__law_row := ⟨_, _, fun_mk (st := s__law_row) l2 c2 k2, PySem.W.mg_of X G a2⟩
  have A__law_numbers : At K mg "_law_numbers" s__law_numbers := ⟨_, _, fun_mk (st := s__law_numbers) l3 c3 k3, PySem.W.mg_of X G a3⟩
  have A__law_book : At K mg "_law_book" s__law_book := ⟨_, _, fun_mk (st := s__law_book) l4 c4 k4, PySem.W.mg_of X G a4⟩
  have A__law_parted : At K mg "_law_parted" s__law_parted := ⟨_, _, fun_mk (st := s__law_parted) l5 c5 k5, PySem.W.mg_of X G a5⟩
  have A__law_effect : At K mg "_law_effect" s__law_effect := ⟨_, _, fun_mk (st := s__law_effect) l6 c6 k6, PySem.W.mg_of X G a6⟩
  have A__law_first : At K mg "_law_first" s__law_first := ⟨_, _, fun_mk (st := s__law_first) l7 c7 k7, PySem.W.mg_of X G a7⟩
  have A__law_command : At K mg "_law_command" s__law_command := ⟨_, _, fun_mk (st := s__law_command) l8 c8 k8, PySem.W.mg_of X G a8⟩
  have A__law_tick : At K mg "_law_tick" s__law_tick := ⟨_, _, fun_mk (st := s__law_tick) l9 c9 k9, PySem.W.mg_of X G a9⟩
  have A__law_sent : At K mg "_law_sent" s__law_sent := ⟨_, _, fun_mk (st := s__law_sent) l10 c10 k10, PySem.W.mg_of X G a10⟩
  have A__law_may_come : At K mg "_law_may_come" s__law_may_come := ⟨_, _, fun_mk (st := s__law_may_come) l11 c11 k11, PySem.W.mg_of X G a11⟩
  have A__law_lots : At K mg "_law_lots" s__law_lots := ⟨_, _, fun_mk (st := s__law_lots) l12 c12 k12, PySem.W.mg_of X G a12⟩
  have A__law_histories : At K mg "_law_histories" s__law_histories := ⟨_, _, fun_mk (st := s__law_histories) l13 c13 k13, PySem.W.mg_of X G a13⟩
  have A__law_frames : At K mg "_law_frames" s__law_frames := ⟨_, _, fun_mk (st := s__law_frames) l14 c14 k14, PySem.W.mg_of X G a14⟩
  have F_law := fun_mk (st := s_law) l15 c15 k15
  have D_row : Dfn l.prog w K mg base 1 "_law_row" p__law_row spRow := ok_row A__law_row mz_abs mz_int mz_range
  have D_num : Dfn l.prog w K mg base 2 "_law_numbers" p__law_numbers (spNumbers K) := ok_numbers A__law_numbers D_row mz_len mz_max
  have D_may := ok_may (P := l.prog) (w := w) (base := base) A_may_take mz_len
  have D_fit := ok_fits (P := l.prog) (w := w) (base := base) A_fits_frames mz_all
  have D_part := ok_part (P := l.prog) (w := w) (base := base) A__law_parted mz_int mz_tuple mz_enumerate
  have D_eff := ok_eff (P := l.prog) (w := w) (base := base) A__law_effect mz_sorted mz_tuple
  have D_first := ok_first (P := l.prog) (w := w) (base := base) A__law_first D_eff
  have D_cmd := ok_cmd (P := l.prog) (w := w) (base := base) A__law_command D_eff
  have D_tick := ok_tick (P := l.prog) (w := w) (base := base) A__law_tick mz_len D_eff D_cmd
  have D_book := ok_book (P := l.prog) (w := w) (base := base) A__law_book mz_int mz_range mz_len mz_tuple mz_sorted D_part
  have D_sent := ok_sent (P := l.prog) (w := w) (base := base) A__law_sent mz_int mz_range mz_len
  have D_come := ok_come (P := l.prog) (w := w) (base := base) A__law_may_come mz_int mz_tuple mz_sorted mz_enumerate
  have D_lots := ok_lots (P := l.prog) (w := w) (base := base) A__law_lots
  have D_hist := ok_hist (P := l.prog) (w := w) (base := base) A__law_histories mz_range mz_len mz_int D_first D_lots D_tick
  have D_frm := ok_frames (P := l.prog) (w := w) (base := base) A__law_frames mz_range mz_len mz_int mz_tuple
  exact ok_law F_law D_num D_book D_sent D_may D_come D_hist D_frm D_fit mz_int mz_range mz_len mz_list mz_bool mz_all mz_isinstance mz_repr
end My_farword_k65_what_can_be_taken
open PySem PySem.W PyProof.Rows
set_option maxRecDepth 100000 in
set_option maxHeartbeats 0 in
theorem My_top : PySem.Challenge.rw_farword_k65_what_can_be_taken.Holds := by
  w_on; o_law; k_head; (case hw => w_witness2)
  k_fill
  refine My.walk_ofG (l := PySem.Challenge.rw_farword_k65_what_can_be_taken) (n := 63) (k := 5) (x := "script") (sp := fun w => My_farword_k65_what_can_be_taken.spLaw _) rfl (by decide) rfl ⟨rfl, by decide, by decide⟩ (fun w h Y => PySem.W.kIn_of Y) ?F (fun _ _ a ns hl _ hS => ⟨a, ns, rfl, hS, hl, fun _ => rfl⟩)
  case F =>
    intro w mg fa h KX G hmg
    refine' My_farword_k65_what_can_be_taken.all_mk KX G hmg ?a0 ?l0 ?c0 ?k0 ?a1 ?l1 ?c1 ?k1 ?a2 ?l2 ?c2 ?k2 ?a3 ?l3 ?c3 ?k3 ?a4 ?l4 ?c4 ?k4 ?a5 ?l5 ?c5 ?k5 ?a6 ?l6 ?c6 ?k6 ?a7 ?l7 ?c7 ?k7 ?a8 ?l8 ?c8 ?k8 ?a9 ?l9 ?c9 ?k9 ?a10 ?l10 ?c10 ?k10 ?a11 ?l11 ?c11 ?k11 ?a12 ?l12 ?c12 ?k12 ?a13 ?l13 ?c13 ?k13 ?a14 ?l14 ?c14 ?k14 ?a15 ?l15 ?c15 ?k15 ?z_abs ?z_all ?z_bool ?z_enumerate ?z_int ?z_isinstance ?z_len ?z_list ?z_max ?z_range ?z_repr ?z_sorted ?z_tuple
    (case a0 => k_is)
    (case l0 => k_is)
    (case c0 => k_is)
    (case k0 => k_is)
    (case a1 => k_is)
    (case l1 => k_is)
    (case c1 => k_is)
    (case k1 => k_is)
    (case a2 => k_is)
    (case l2 => k_is)
    (case c2 => k_is)
    (case k2 => k_is)
    (case a3 => k_is)
    (case l3 => k_is)
    (case c3 => k_is)
    (case k3 => k_is)
    (case a4 => k_is)
    (case l4 => k_is)
    (case c4 => k_is)
    (case k4 => k_is)
    (case a5 => k_is)
    (case l5 => k_is)
    (case c5 => k_is)
    (case k5 => k_is)
    (case a6 => k_is)
    (case l6 => k_is)
    (case c6 => k_is)
    (case k6 => k_is)
    (case a7 => k_is)
    (case l7 => k_is)
    (case c7 => k_is)
    (case k7 => k_is)
    (case a8 => k_is)
    (case l8 => k_is)
    (case c8 => k_is)
    (case k8 => k_is)
    (case a9 => k_is)
    (case l9 => k_is)
    (case c9 => k_is)
    (case k9 => k_is)
    (case a10 => k_is)
    (case l10 => k_is)
    (case c10 => k_is)
    (case k10 => k_is)
    (case a11 => k_is)
    (case l11 => k_is)
    (case c11 => k_is)
    (case k11 => k_is)
    (case a12 => k_is)
    (case l12 => k_is)
    (case c12 => k_is)
    (case k12 => k_is)
    (case a13 => k_is)
    (case l13 => k_is)
    (case c13 => k_is)
    (case k13 => k_is)
    (case a14 => k_is)
    (case l14 => k_is)
    (case c14 => k_is)
    (case k14 => k_is)
    (case a15 => k_is)
    (case l15 => k_is)
    (case c15 => k_is)
    (case k15 => k_is)
    (case z_abs => k_is)
    (case z_all => k_is)
    (case z_bool => k_is)
    (case z_enumerate => k_is)
    (case z_int => k_is)
    (case z_isinstance => k_is)
    (case z_len => k_is)
    (case z_list => k_is)
    (case z_max => k_is)
    (case z_range => k_is)
    (case z_repr => k_is)
    (case z_sorted => k_is)
    (case z_tuple => k_is)
theorem PySem.Challenge.cw_farword_k65_what_can_be_taken_holds : PySem.Challenge.rw_farword_k65_what_can_be_taken.Holds :=
  My_top
