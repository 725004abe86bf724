import PyProof.Rows.All
import Wide.All
import OpenK.AllK
import Wide.FinOn
import HandS.ForMost
import HandS.Evl
import HandS.IsInst
import HandS.WideBits
import HandS.Set
import PyProof.Rows.SetFrom
import PyProof.Rows.SortShellAny
import HandS.Strs
import HandS.Text
import PyProof.Rows.RegRepr
import HandS.NoneIn
import KE.KSortedM
import HandS.Zip
import HandS.Star
import HandS.StrMore
import HandS.TupSets
import KE.KeyNested
import HandS.Nested
import HandS.ClsMeth
import HandS.ExcInit
import HandS.FStr
import KE.KExcSuper
import KE.KSuperObj
import HandS.ForExc
import HandS.ExcField
import HandS.ExcIs
import KE.KIsAll
import KE.KTryMore
import KE.RegKIsAll
import KE.RegKSuper
import HandS.ExcValue
import HandS.Small
import HandS.List
import KE.KLam
import KE.SortKeyHeap
import HandS.Lambda
import HandS.SortKw
import KE.KDictList
import HandS.ListItems
import HandS.DictComp
import KE.KNestM
import HandS.Property
import HandS.Deep
import HandS.TryOnly
import PyProof.ReprRoads
import HandS.CallSlots
import HandS.Style
import HandS.TupAny
import HandS.Codes
import PySem.Challenge.RW_farword_k01_books_taken
set_option Elab.async false
set_option linter.all false
set_option maxRecDepth 100000
set_option maxHeartbeats 4000000
/-! ### Common ground of my proofs: a def as the law's text has it, what expressions evaluate to -/
namespace My
open PySem PySem.Spec PyProof.Rows L2 Evl

section
variable {P : Program} {w : World} {K : PySem.W.Frag} {mg : Str → Option Value} {base : Heap}
/-- the def st stands under its name -/
def At (K : PySem.W.Frag) (mg : Str → Option Value) (x : Str) (st : Stmt) : Prop := ∃ f fd, Fun K x x st f fd ∧ mg x = some (.ref f)
/-- a def of the module that keeps a promise -/
structure Dfn (P : Program) (w : World) (K : PySem.W.Frag) (mg : Str → Option Value) (base : Heap) (k : Nat) (x : Str) (ps : List Str) (sp : Sp) : Prop where
  ex : ∃ (f : Addr) (fd : FuncData), FnOk P w K mg base CX0 k f fd ps sp ∧ mg x = some (.ref f) ∧ PySem.W.keepIn K (.ref f) = true ∧ Binds K fd ps []
theorem dfn_ok {x : Str} {st : Stmt} {N ps : List Str} {k : Nat} {sp : Sp} (A : At K mg x st) (S : FnScope N ps (defScope st))
    (hb : ∀ (kV doc pm : Value) (an : Option Addr) (cdv ct : Value) (us : List Value), us.length = ps.length → bindArgs (PySem.W.fnOf x x (defArgs st) (defBody st) (defScope st) .none kV doc pm an cdv ct) ⟨us, []⟩ = pure (ps.zip us))
    (len : ∀ vs H Q E, sp vs H Q E → vs.length = ps.length)
    (hbody : ∀ (f : Addr) (cdv : Value) (A : Around) (outer : List Env) (s : Shared) (H : Hp) (vs : List V) (Q : VK) (E : XK), Room k (A.deeper (envOfC x (defScope st) s.heap.objs.size f cdv)) → sp vs H Q E →
      ∃ t, PSs (cxOf CX0 P w K mg base N x (defScope st) f cdv A outer s H E).nox (defBody st) t ∧ t { nx := fun _ H' => Q .non H', rt := Q } (start N vs) H) : Dfn P w K mg base (k + 1) x ps sp := by
  obtain ⟨f, fd, F, hm⟩ := A
  exact ⟨f, fd, F.ok S len (hbody f), hm, F.kp, F.binds hb⟩
theorem Dfn.mono {x : Str} {ps : List Str} {j k : Nat} {sp : Sp} (D : Dfn P w K mg base j x ps sp) (h : j ≤ k) : Dfn P w K mg base k x ps sp := by
  obtain ⟨f, fd, F, r⟩ := D.ex
  exact ⟨f, fd, F.mono h, r⟩
end
section
variable {X : Cx} {k : Nat} {x : Str} {ps : List Str} {sp : Sp} {e : Expr} {es : List Expr} {p pos : Pos} {t : TA}
theorem pe_d (D : Dfn X.prog X.w X.K X.mg X.base k x ps sp) (hr : Room k X.A) (ha : PA X (e :: es) t) (hg : Gl X x := by rfl) (hdb : (x == ("__debug__" : Str)) = false := by decide)
    (he : starEach (e :: es) X.env = (false, eval e X.env) :: starEach es X.env := by rfl) (hpl : (backTo pos (starEach es X.env)).any (·.1) = false := by rfl) : PE X (.Call (.Name x p) (e :: es) [] pos) (tCall sp [] E0 t) := by
  obtain ⟨f, fd, F, hm, hk, hb⟩ := D.ex
  exact pe_call F hr hg hm hk hb .nil pass0 ha hdb he hpl
end

section
variable {K : PySem.W.Frag} {σ : L2.St} {H H' : Hp} {ta tb te tx : TE} {t u : TT} {x y z v : V} {r : R2}
/-! ### what evaluates to what, more of it -/
theorem ev_abs {i : Int} (h : EvA (tCons te tNil) σ H [.int i]) : Ev (tCB (fun xs H Q => ∃ i, xs = [.int i] ∧ Q (.int (if i < 0 then -i else i)) H) (tCons te tNil)) σ H (.int (if i < 0 then -i else i)) :=
  ev_cb h fun H1 _ _ q => ⟨i, rfl, q H1 (Ex.refl H1)⟩
theorem ev_int {i : Int} {ta : TA} (h : EvA ta σ H [.int i]) : Ev (tCB (fun xs H Q => (∃ i, xs = [.int i] ∧ Q (.int i) H) ∨ ∃ k, xs = [.bl k] ∧ Q (.int (if k then 1 else 0)) H) ta) σ H (.int i) :=
  ev_cb h fun H1 _ _ q => Or.inl ⟨i, rfl, q H1 (Ex.refl H1)⟩
theorem ev_intB {k : Bool} {ta : TA} (h : EvA ta σ H [.bl k]) : Ev (tCB (fun xs H Q => (∃ i, xs = [.int i] ∧ Q (.int i) H) ∨ ∃ k, xs = [.bl k] ∧ Q (.int (if k then 1 else 0)) H) ta) σ H (.int (if k then 1 else 0)) :=
  ev_cb h fun H1 _ _ q => Or.inr ⟨k, rfl, q H1 (Ex.refl H1)⟩
theorem ev_ite {b : Bool} {v1 v2 : V} (h : EvT t σ H b) (h1 : Ev ta σ H v1) (h2 : Ev tb σ H v2) : Ev (tIf t ta tb) σ H (if b then v1 else v2) := by
  cases b with
  | true => exact ev_if h (fun _ => h1) fun e => Bool.noConfusion e
  | false => exact ev_if h (fun e => Bool.noConfusion e) fun _ => h2
theorem rv_chain {r r' : R2} {tc : TE} {b c : Bool} (ha : Ev ta σ H x) (hb : Ev tb σ H y) (hr : RV r x y H (.bl b)) (hc : b = true → Ev tc σ H z) (hr' : b = true → RV r' y z H (.bl c)) : Ev (tChain r r' ta tb tc) σ H (.bl (b && c)) := fun H1 e Q q =>
  ha H1 e _ fun H2 e2 => hb H2 (e.trans e2) _ fun H3 e3 => hr H3 ((e.trans e2).trans e3) _ fun H4 e4 => ⟨b, rfl, by
    cases b with
    | true =>
      have e5 := ((e.trans e2).trans e3).trans e4
      exact iteT (hc rfl H4 e5 _ fun H5 e6 => hr' rfl H5 (e5.trans e6) Q fun H6 e7 => q H6 ((((e2.trans e3).trans e4).trans e6).trans e7))
    | false => exact iteF (q H4 ((e2.trans e3).trans e4))⟩
/-- tuple(..) of a list or a tuple -/
def rTupS (K : PySem.W.Frag) : List V → Hp → VK → Prop := fun xs H Q => ∃ p ys, xs = [.ref p] ∧ ((SqL K H p ys ∧ ∀ l, H l = none → Q (.ref l) (upd H l (.tup ys))) ∨ (SqT K H p ys ∧ Q (.ref p) H))
def rTupT (K : PySem.W.Frag) : List V → Hp → VK → Prop := fun xs H Q => ∃ a ys, xs = [.ref a] ∧ SqT K H a ys ∧ Q (.ref a) H
/-- a list at an address evaluates to itself; a new list as a value somewhere -/
theorem EvL.any {xs : List V} (h : EvL te σ H xs) : ∀ H1, Ex H H1 → ∀ Q : VK, (∀ p H2, H2 p = some (.lst xs) → Ex H1 H2 → Q (.ref p) H2) → te σ H1 Q := fun H1 e Q q => h H1 e Q fun p H2 _ e2 h2 => q p H2 h2 e2
end
/-! ### new lists of which only a property is known -/
section
variable {K : PySem.W.Frag} {σ : L2.St} {H H' : Hp} {ta tb te tx tl : TE} {t u : TT} {x y z v : V} {r : R2} {D : Ends} {tu tw tz : TS} {g : TG}
def EvP (te : TE) (σ : L2.St) (H : Hp) (P : List V → Prop) : Prop := ∀ H1, Ex H H1 → ∀ Q : VK, (∀ xs p H2, P xs → H1 p = none → Ex H1 H2 → H2 p = some (.lst xs) → Q (.ref p) H2) → te σ H1 Q
def SpP (sp : Sp) (vs : List V) (H : Hp) (P : List V → Prop) : Prop := ∀ H1, Ex H H1 → ∀ Q : VK, (∀ xs p H2, P xs → H1 p = none → Ex H1 H2 → H2 p = some (.lst xs) → Q (.ref p) H2) → ∀ E : XK, sp vs H1 Q E
theorem evP_call {sp : Sp} {dvs vs : List V} {E : XK} {ta : TA} {P : List V → Prop} (h : EvA ta σ H vs) (hs : SpP sp (vs ++ dvs) H P) : EvP (tCall sp dvs E ta) σ H P := fun H1 e Q q =>
  h H1 e _ fun H2 e2 => hs H2 (e.trans e2) Q (fun xs p H3 hP hp e3 h3 => q xs p H3 hP (fresh_back e2 hp) (e2.trans e3) h3) E
theorem q_asgP {i : Nat} {P : List V → Prop} (h : EvP te σ H P) (k : ∀ xs p H1, P xs → H p = none → Ex H H1 → H1 p = some (.lst xs) → tz D (σ.set i (some (.ref p))) H1) : tSeq (tAsg te (gName i)) tz D σ H :=
  h H (Ex.refl H) _ fun xs p H1 hP hp e h1 => k xs p H1 hP hp e h1
theorem s_forP {P : List V → Prop} (h : EvP tl σ H P) (Pv : List V → Addr → Nat → L2.St → Hp → Prop) (h0 : ∀ xs p H1, P xs → H p = none → Ex H H1 → H1 p = some (.lst xs) → Pv xs p 0 σ H1)
    (hl : ∀ xs p i σ' H', i ≤ xs.length → Pv xs p i σ' H' → SqL K H' p xs) (hs : ∀ xs p i x σ' H', xs[i]? = some x → Pv xs p i σ' H' → g x σ' H' fun σ2 H2 => tu { D with nx := Pv xs p (i + 1), ct := Pv xs p (i + 1), bk := D.nx } σ2 H2)
    (hd : ∀ xs p σ' H', Pv xs p xs.length σ' H' → D.nx σ' H') : tFor (iList K tl) g tu D σ H :=
  h H (Ex.refl H) _ fun xs p H1 hP hp e h1 => ⟨p, rfl, ⟨xs, sq_of h1⟩, for_list (Pv xs p) (h0 xs p H1 hP hp e h1) (hl xs p) (hs xs p) (hd xs p)⟩
theorem cut_take (xs : List V) (k : Nat) : cutV xs none (some (k : Int)) = xs.take k := by
  unfold cutV
  rw [HT.sIx_none, HT.sIx_nat, List.drop_zero, Nat.sub_zero]
  by_cases h : k ≤ xs.length
  · rw [Nat.min_eq_left h]
  · rw [Nat.min_eq_right (by omega), List.take_of_length_le (Nat.le_refl _), List.take_of_length_le (by omega)]
theorem ev_max1 {i j : Int} {ta : TA} (h : EvA ta σ H [.int i, .int j]) : Ev (tCB (fun xs H Q => ∃ i j, xs = [.int i, .int j] ∧ Q (.int (if j > i then j else i)) H) ta) σ H (.int (if j > i then j else i)) :=
  ev_cb h fun H1 _ _ q => ⟨i, j, rfl, q H1 (Ex.refl H1)⟩
theorem ev_lenL {p : Addr} {xs : List V} (ha : Ev ta σ H (.ref p)) (h : SqL K H p xs) : Ev (tCB (rLenS K) (tCons ta tNil)) σ H (.int (xs.length : Int)) := fun H1 e Q q =>
  ha H1 e _ fun H2 e2 => ⟨p, xs, rfl, Or.inl (ex_l (e.trans e2) h), q H2 e2⟩
theorem int_at {ns : List Int} {i : Nat} {x : V} (h : (ns.map V.int)[i]? = some x) : ∃ n, ns[i]? = some n ∧ x = .int n := by
  rw [List.getElem?_map] at h
  cases e : ns[i]? with
  | none => rw [e] at h; cases h
  | some n => rw [e] at h; exact ⟨n, rfl, (Option.some.inj h).symm⟩
end
/-! ### data that are compared as wholes -/
def Lay (d : PyData) (n : Nat) : Prop := d.canLay0 = true ∧ d.depth ≤ n
def LayA (ds : List PyData) (n : Nat) : Prop := PyData.canLayAll0 ds = true ∧ PyData.depthAll ds ≤ n
theorem Lay.int (i : Int) {n : Nat} : Lay (.int i) n := ⟨by simp [PyData.canLay0], by simp [PyData.depth]⟩
theorem Lay.bool (b : Bool) {n : Nat} : Lay (.bool b) n := ⟨by simp [PyData.canLay0], by simp [PyData.depth]⟩
theorem Lay.str {x : Str} {n : Nat} (h : PyData.strOk x = true) : Lay (.str x) n := ⟨by simp [PyData.canLay0, h], by simp [PyData.depth]⟩
theorem Lay.none {n : Nat} : Lay .none n := ⟨by simp [PyData.canLay0], by simp [PyData.depth]⟩
theorem Lay.list {ds : List PyData} {n : Nat} (h : LayA ds n) : Lay (.list ds) (n + 1) := ⟨by simpa [PyData.canLay0] using h.1, by have := h.2; simp only [PyData.depth]; omega⟩
theorem Lay.tuple {ds : List PyData} {n : Nat} (h : LayA ds n) : Lay (.tuple ds) (n + 1) := ⟨by simpa [PyData.canLay0] using h.1, by have := h.2; simp only [PyData.depth]; omega⟩
theorem LayA.nil {n : Nat} : LayA [] n := ⟨by simp [PyData.canLayAll0], by simp [PyData.depthAll]⟩
theorem LayA.cons {d : PyData} {ds : List PyData} {n : Nat} (h : Lay d n) (h2 : LayA ds n) : LayA (d :: ds) n :=
  ⟨by simp [PyData.canLayAll0, h.1, h2.1], by have a := h.2; have b := h2.2; simp only [PyData.depthAll]; omega⟩
theorem LayA.map {α : Type} {f : α → PyData} {n : Nat} : ∀ {xs : List α}, (∀ x ∈ xs, Lay (f x) n) → LayA (xs.map f) n
  | [], _ => LayA.nil
  | _ :: xs, h => LayA.cons (h _ List.mem_cons_self) (LayA.map fun x hx => h x (List.mem_cons_of_mem _ hx))
theorem Lay.sh {d : PyData} {n : Nat} (h : Lay d n) (hn : n ≤ 64 := by decide) : SeqAt.shaped d = true := by
  unfold SeqAt.shaped
  rw [h.1, decide_eq_true (Nat.le_trans h.2 hn)]
  rfl
section
variable {K : PySem.W.Frag} {H H' : Hp}
mutual
theorem dp_ex (e : Ex H H') : ∀ {v : V} {d : PyData}, Dp K H v d → Dp K H' v d
  | _, _, .non => .non
  | _, _, .bl b => .bl b
  | _, _, .int i => .int i
  | _, _, .str x => .str x
  | _, _, .lst h a => .lst (ex_l e h) (dpa_ex e a)
  | _, _, .tup h a => .tup (ex_t e h) (dpa_ex e a)
theorem dpa_ex (e : Ex H H') : ∀ {vs : List V} {ds : List PyData}, DpAll K H vs ds → DpAll K H' vs ds
  | _, _, .nil => .nil
  | _, _, .cons h t => .cons (dp_ex e h) (dpa_ex e t)
end
theorem dpa_ints : ∀ ns : List Int, DpAll K H (ns.map V.int) (ns.map PyData.int)
  | [] => .nil
  | n :: r => .cons (.int n) (dpa_ints r)
theorem dp_ints {a : Addr} {ns : List Int} (h : SqL K H a (ns.map V.int)) : Dp K H (.ref a) (.list (ns.map PyData.int)) := .lst h (dpa_ints ns)
theorem dp_intsT {a : Addr} {ns : List Int} (h : SqT K H a (ns.map V.int)) : Dp K H (.ref a) (.tuple (ns.map PyData.int)) := .tup h (dpa_ints ns)
theorem lay_ints (ns : List Int) {n : Nat} : Lay (.list (ns.map PyData.int)) (n + 1) := .list (.map fun _ _ => .int _)
theorem lay_intsT (ns : List Int) {n : Nat} : Lay (.tuple (ns.map PyData.int)) (n + 1) := .tuple (.map fun _ _ => .int _)
theorem rv_neD {x y : V} {d e : PyData} (hx : Dp K H x d) (hy : Dp K H y e) (sd : SeqAt.shaped d = true) (se : SeqAt.shaped e = true) : RV (rNeD K) x y H (.bl (!PyData.eqv d e)) := fun H1 e1 Q q => ⟨d, e, dp_ex e1 hx, dp_ex e1 hy, sd, se, q H1 (Ex.refl H1)⟩
theorem rv_eqD {x y : V} {d e : PyData} (hx : Dp K H x d) (hy : Dp K H y e) (sd : SeqAt.shaped d = true) (se : SeqAt.shaped e = true) : RV (rEqD K) x y H (.bl (PyData.eqv d e)) := fun H1 e1 Q q => ⟨d, e, dp_ex e1 hx, dp_ex e1 hy, sd, se, q H1 (Ex.refl H1)⟩
theorem eqv_self {d : PyData} (h : SeqAt.shaped d = true) : PyData.eqv d d = true := SeqAt.eqv_refl d (SeqAt.canLay_of_shaped h)
/-- the same data: != is False, == is True -/
theorem rv_neS {x y : V} {d : PyData} (hx : Dp K H x d) (hy : Dp K H y d) (sd : SeqAt.shaped d = true) : RV (rNeD K) x y H (.bl false) := fun H1 e1 Q q => ⟨d, d, dp_ex e1 hx, dp_ex e1 hy, sd, sd, by rw [eqv_self sd]; exact q H1 (Ex.refl H1)⟩
theorem rv_eqS {x y : V} {d : PyData} (hx : Dp K H x d) (hy : Dp K H y d) (sd : SeqAt.shaped d = true) : RV (rEqD K) x y H (.bl true) := fun H1 e1 Q q => ⟨d, d, dp_ex e1 hx, dp_ex e1 hy, sd, sd, by rw [eqv_self sd]; exact q H1 (Ex.refl H1)⟩
end
/-! ### lists of ints: joined, filtered, looked into -/
section
variable {K : PySem.W.Frag} {σ : L2.St} {H H' : Hp} {ta tb te tx tl : TE} {t u : TT} {x y z v : V} {r : R2}
theorem el_cat {xs ys : List V} (ha : EvL ta σ H xs) (hb : EvL tb σ H ys) (hz : xs.length + ys.length ≤ 100000) : EvL (tOp rCat ta tb) σ H (xs ++ ys) := fun H1 e Q q =>
  ha H1 e _ fun p H2 np e2 hp => hb H2 (e.trans e2) _ fun p' H3 np' e3 hp' => ⟨p, p', xs, ys, rfl, rfl, e3 _ _ hp, hp', sz_of hz, fun l nl => q l _ (fresh_back (e2.trans e3) nl) ((e2.trans e3).trans (Ex.new nl)) upd_same⟩
theorem el_is {xs ys : List V} (h : EvL te σ H xs) (e : xs = ys) : EvL te σ H ys := by
  rw [← e]
  exact h
theorem inV_ints (i : Int) : ∀ ns : List Int, inV (.int i) (ns.map V.int) = decide (i ∈ ns)
  | [] => rfl
  | n :: r => by
    show ((n == i) || inV (.int i) (r.map V.int)) = decide (i ∈ n :: r)
    rw [inV_ints i r]
    by_cases h : n = i
    · subst h
      simp
    · have h2 : ¬ i = n := fun e => h e.symm
      simp [h, h2]
theorem flat_ints : ∀ ns : List Int, (ns.map V.int).all flatV = true
  | [] => rfl
  | n :: r => flat_ints r
theorem rv_inI {neg : Bool} {p : Addr} {i : Int} {ns : List Int} (h : SqL K H p (ns.map V.int)) : RV (rIn K neg) (.int i) (.ref p) H (.bl (if neg then !decide (i ∈ ns) else decide (i ∈ ns))) := by
  rw [← inV_ints]
  exact rv_inL h rfl (flat_ints ns)
theorem rv_isI {p : Addr} {i : Int} {ns : List Int} (h : SqL K H p (ns.map V.int)) : RV (rIn K false) (.int i) (.ref p) H (.bl (decide (i ∈ ns))) := rv_inI (neg := false) h
theorem rv_niI {p : Addr} {i : Int} {ns : List Int} (h : SqL K H p (ns.map V.int)) : RV (rIn K true) (.int i) (.ref p) H (.bl (!decide (i ∈ ns))) := rv_inI (neg := true) h
theorem given_ints (n : Nat) (f : Nat → Bool) (g : Nat → Int) : given n f (fun i => V.int (g i)) = (((List.range n).filter f).map g).map V.int := by
  unfold given
  rw [List.map_map]
  rfl
theorem given_eq {n : Nat} {f f' : Nat → Bool} {g g' : Nat → V} (hf : ∀ i, i < n → f i = f' i) (hg : ∀ i, i < n → f' i = true → g i = g' i) : given n f g = given n f' g' := by
  unfold given
  rw [List.filter_congr fun i hi => hf i (List.mem_range.mp hi)]
  exact List.map_congr_left fun i hi => hg i (List.mem_range.mp (List.mem_filter.mp hi).1) (List.mem_filter.mp hi).2
theorem ev_isL {p : Addr} {xs : List V} (ha : Ev ta σ H (.ref p)) (h : H p = some (.lst xs)) : Ev (tCB (rIsi K) (tCons ta (tCons (tC (.ty "list")) tNil))) σ H (.bl true) :=
  ev_cb (ea_cons ha (ea_cons ev_c ea_nil)) fun H1 e _ q => ⟨.ref p, .ty "list", .type "list", .type "list", true, rfl, .ty _, .base (.lst (e _ _ h)), kit_ty (by decide +kernel), q H1 (Ex.refl H1)⟩
theorem ev_allL {bs : List Bool} {ta : TE} (ha : EvL ta σ H (bs.map V.bl)) : Ev (tCB (rAll K) (tCons ta tNil)) σ H (.bl (bs.all id)) := fun H1 e Q q =>
  ha H1 e _ fun p H2 _ e2 hp => ⟨p, bs, rfl, sq_of hp, q H2 e2⟩
theorem ev_sumL {ns : List Int} {ta : TE} (ha : EvL ta σ H (ns.map V.int)) : Ev (tCB (rSum K) (tCons ta tNil)) σ H (.int ns.sum) := fun H1 e Q q =>
  ha H1 e _ fun p H2 _ e2 hp => ⟨p, ns, rfl, sq_of hp, q H2 e2⟩
/-- len of a new list -/
theorem ev_lenN2 {xs : List V} {ta : TE} (ha : EvL ta σ H xs) : Ev (tCB (rLenS K) (tCons ta tNil)) σ H (.int (xs.length : Int)) := fun H1 e Q q =>
  ha H1 e _ fun p H2 _ e2 h2 => ⟨p, xs, rfl, Or.inl (sq_of h2), q H2 e2⟩
/-- an item of a list that is made on the spot -/
theorem ev_ixN {xs : List V} {i : Int} (ha : EvL ta σ H xs) (hb : Ev tb σ H (.int i)) (hx : atI xs i = some v) : Ev (tOp (rIxL K) ta tb) σ H v :=
  ev_opL1 ha (fun H1 e => hb.mono e) fun p H1 hp _ => rv_ixL (sq_of hp) hx
theorem ev_ixI {p : Addr} {xs : List V} {i : Int} (ha : Ev ta σ H (.ref p)) (hb : Ev tb σ H (.int i)) (h : SqL K H p xs) (hx : atI xs i = some v) : Ev (tOp (rIxL K) ta tb) σ H v := ev_op ha hb (rv_ixL h hx)
end
/-! ### values of which only a property is known -/
section
variable {K : PySem.W.Frag} {σ : L2.St} {H H' : Hp} {ta tb te tx tl : TE} {t u : TT} {x y z v : V} {r : R2} {D : Ends} {tu tw tz : TS} {P : V → Hp → Prop}
def EvG (te : TE) (σ : L2.St) (H : Hp) (P : V → Hp → Prop) : Prop := ∀ H1, Ex H H1 → ∀ Q : VK, (∀ v H2, Ex H1 H2 → P v H2 → Q v H2) → te σ H1 Q
theorem q_asgG {i : Nat} (h : EvG te σ H P) (k : ∀ v H1, Ex H H1 → P v H1 → tz D (σ.set i (some v)) H1) : tSeq (tAsg te (gName i)) tz D σ H := h H (Ex.refl H) _ fun v H1 e p => k v H1 e p
theorem s_asgG {i : Nat} (h : EvG te σ H P) (k : ∀ v H1, Ex H H1 → P v H1 → D.nx (σ.set i (some v)) H1) : tAsg te (gName i) D σ H := h H (Ex.refl H) _ fun v H1 e p => k v H1 e p
theorem s_retG (h : EvG te σ H P) (k : ∀ v H1, Ex H H1 → P v H1 → D.rt v H1) : tRet te D σ H := h H (Ex.refl H) _ fun v H1 e p => k v H1 e p
theorem EvG.imp {P' : V → Hp → Prop} (h : EvG te σ H P) (i : ∀ v H1, Ex H H1 → P v H1 → P' v H1) : EvG te σ H P' := fun H1 e Q q => h H1 e Q fun v H2 e2 p => q v H2 e2 (i v H2 (e.trans e2) p)
theorem EvL.g {xs : List V} (h : EvL te σ H xs) : EvG te σ H (fun v H' => ∃ p, v = .ref p ∧ H p = none ∧ H' p = some (.lst xs)) := fun H1 e Q q => h H1 e Q fun p H2 np e2 hp => q _ H2 e2 ⟨p, rfl, fresh_back e np, hp⟩
theorem EvU.g {xs : List V} (h : EvU te σ H xs) : EvG te σ H (fun v H' => ∃ p, v = .ref p ∧ H p = none ∧ H' p = some (.tup xs)) := fun H1 e Q q => h H1 e Q fun p H2 np e2 hp => q _ H2 e2 ⟨p, rfl, fresh_back e np, hp⟩
theorem Ev.g (h : Ev te σ H v) : EvG te σ H (fun v' _ => v' = v) := fun H1 e Q q => h H1 e Q fun H2 e2 => q _ H2 e2 rfl
/-- a list, a tuple that is made of two values -/
theorem evG_lst2 {P1 P2 : V → Hp → Prop} (h1 : EvG ta σ H P1) (m1 : ∀ v H1 H2, Ex H1 H2 → P1 v H1 → P1 v H2) (h2 : ∀ v H1, Ex H H1 → P1 v H1 → EvG tb σ H1 P2) (m2 : ∀ v H1 H2, Ex H1 H2 → P2 v H1 → P2 v H2) :
    EvG (tLst (tCons ta (tCons tb tNil))) σ H (fun v H' => ∃ p a b, v = .ref p ∧ H p = none ∧ H' p = some (.lst [a, b]) ∧ P1 a H' ∧ P2 b H') := fun H1 e Q q =>
  h1 H1 e _ fun a H2 e2 p1 => h2 a H2 (e.trans e2) p1 H2 (Ex.refl _) _ fun b H3 e3 p2 => ⟨(by decide : 2 ≤ sizeLine), fun p np =>
    q _ _ ((e2.trans e3).trans (Ex.new np)) ⟨p, a, b, rfl, fresh_back ((e.trans e2).trans e3) np, upd_same, m1 _ _ _ (e3.trans (Ex.new np)) p1, m2 _ _ _ (Ex.new np) p2⟩⟩
/-- data, told as a whole, of a value -/
theorem opG {P1 P2 : V → Hp → Prop} (h1 : EvG ta σ H P1) (m1 : ∀ v H1 H2, Ex H1 H2 → P1 v H1 → P1 v H2) (h2 : EvG tb σ H P2) (hr : ∀ a b H1, Ex H H1 → P1 a H1 → P2 b H1 → RV r a b H1 z) : Ev (tOp r ta tb) σ H z := fun H1 e Q q =>
  h1 H1 e _ fun a H2 e2 p1 => h2 H2 (e.trans e2) _ fun b H3 e3 p2 => hr a b H3 ((e.trans e2).trans e3) (m1 _ _ _ e3 p1) p2 H3 (Ex.refl _) Q fun H4 e4 => q H4 ((e2.trans e3).trans e4)
end
/-! ### enumerate; bits; the truth of a value -/
/-- a test that is a value's truth -/
def tTr (K : PySem.W.Frag) (ta : TE) : TT := fun σ H Q => ta σ H fun x H' => ∃ k, TruV K x H' k ∧ Q k H'
section
variable {K : PySem.W.Frag} {σ : L2.St} {H H' : Hp} {ta tb te tx tl : TE} {t u tt : TT} {x y z v : V} {r : R2} {D : Ends} {tu tw tz : TS}
theorem et_truI {i : Int} (h : Ev ta σ H (.int i)) : EvT (tTr K ta) σ H (i != 0) := fun H1 e _ q => h H1 e _ fun H2 e2 => ⟨i != 0, rfl, q H2 e2⟩
theorem s_forE {xs : List V} {j1 j2 : Nat} (h : EvL tl σ H xs) (Pv : Addr → Nat → L2.St → Hp → Prop) (h0 : ∀ p H1, H p = none → Ex H H1 → H1 p = some (.lst xs) → Pv p 0 σ H1) (hl : ∀ p i σ' H', i ≤ xs.length → Pv p i σ' H' → SqL K H' p xs)
    (hs : ∀ p i x σ' H', xs[i]? = some x → Pv p i σ' H' → ∀ T, H' T = none → tu { D with nx := Pv p (i + 1), ct := Pv p (i + 1), bk := D.nx } ((σ'.set j1 (some (.int ((i : Nat) : Int)))).set j2 (some x)) (upd H' T (.tup [.int ((i : Nat) : Int), x])))
    (hd : ∀ p σ' H', Pv p xs.length σ' H' → D.nx σ' H') : tFor (iEnum K (tCons tl tNil)) (gTup K 2 (gCons (gName j1) (gCons (gName j2) gNil))) tu D σ H :=
  h H (Ex.refl H) _ fun p H1 np e h1 => ⟨p, xs, rfl, sq_of h1, fun i m σ' H' => m = xs.length - i ∧ i ≤ xs.length ∧ Pv p i σ' H', ⟨xs.length, by simp, Nat.zero_le _, h0 p H1 np e h1⟩, by
    rintro i m σ' H' ⟨rfl, hi, pp⟩
    have q := hl p i σ' H' hi pp
    by_cases hlt : i < xs.length
    · refine .inr ⟨⟨xs, xs[i], q, by simp [hlt]⟩, Pv p (i + 1), fun σ2 H2 p' => ⟨xs.length - (i + 1), by omega, rfl, hlt, p'⟩, fun v H2 y => ?_⟩
      obtain ⟨T, x, rfl, nT, rfl, hx⟩ := y
      exact ⟨T, _, rfl, st_of upd_same, rfl, _, _, rfl, _, _, rfl, rfl, hs p i x σ' H' (hx xs q) pp T nT⟩
    · have e : i = xs.length := by omega
      subst e
      exact .inl ⟨⟨xs, q, Nat.le_refl _⟩, hd p σ' H' pp⟩⟩
theorem q_forE {xs : List V} {j1 j2 : Nat} (h : EvL tl σ H xs) (Pv : Addr → Nat → L2.St → Hp → Prop) (h0 : ∀ p H1, H p = none → Ex H H1 → H1 p = some (.lst xs) → Pv p 0 σ H1) (hl : ∀ p i σ' H', i ≤ xs.length → Pv p i σ' H' → SqL K H' p xs)
    (hs : ∀ p i x σ' H', xs[i]? = some x → Pv p i σ' H' → ∀ T, H' T = none → tu { D with nx := Pv p (i + 1), ct := Pv p (i + 1), bk := tz D } ((σ'.set j1 (some (.int ((i : Nat) : Int)))).set j2 (some x)) (upd H' T (.tup [.int ((i : Nat) : Int), x])))
    (hd : ∀ p σ' H', Pv p xs.length σ' H' → tz D σ' H') : tSeq (tFor (iEnum K (tCons tl tNil)) (gTup K 2 (gCons (gName j1) (gCons (gName j2) gNil))) tu) tz D σ H :=
  s_forE (D := { D with nx := tz D }) h Pv h0 hl hs hd
/-- [e for i, x in enumerate(new list) if t] -/
theorem el_lcE {xs : List V} {j1 j2 : Nat} {vs : List Nat} (f : Nat → Bool) (g : Nat → V) (h : EvL tl σ H xs) (hz : xs.length ≤ 40000) (hw : ∀ x y, wipe (((wipe σ vs).set j1 (some x)).set j2 (some y)) vs = wipe σ vs)
    (ht : ∀ (i : Nat) (x : V) H1, Ex H H1 → xs[i]? = some x → EvT tt (((wipe σ vs).set j1 (some (.int (i : Int)))).set j2 (some x)) H1 (f i)) (he : ∀ (i : Nat) (x : V) H1, Ex H H1 → xs[i]? = some x → f i = true → Ev te (((wipe σ vs).set j1 (some (.int (i : Int)))).set j2 (some x)) H1 (g i)) :
    EvL (tLc (iEnum K (tCons tl tNil)) (gTup K 2 (gCons (gName j1) (gCons (gName j2) gNil))) tt te vs) σ H (given xs.length f g) := fun H0 e Q q => h H0 e _ fun a H1 na e1 hx => ⟨a, xs, rfl, sq_of hx, fun Dl hD => by
  refine ⟨fun i m H' => m = xs.length - i ∧ i ≤ xs.length ∧ Cw H1 f g Dl i H', ⟨xs.length, by simp, Nat.zero_le _, hD, Ex.new hD, upd_same⟩, ?_⟩
  rintro i m H' ⟨rfl, hi, pp⟩
  have qx : SqL K H' a xs := sq_of (pp.2.1 _ _ hx)
  by_cases hlt : i < xs.length
  · refine .inr ⟨⟨xs, xs[i], qx, by simp [hlt]⟩, Cw H1 f g Dl (i + 1), fun H2 p' => ⟨xs.length - (i + 1), by omega, rfl, hlt, p'⟩, fun v H2 y => ?_⟩
    obtain ⟨T, x, rfl, nT, rfl, hxx⟩ := y
    have hix := hxx xs qx
    have hDT : Dl ≠ T := ne_of_none pp.2.2 nT
    have pp2 : Cw H1 f g Dl i (upd H' T (.tup [.int ((i : Nat) : Int), x])) := ⟨pp.1, pp.2.1.trans (Ex.new nT), by rw [upd_ne hDT]; exact pp.2.2⟩
    exact ⟨T, _, rfl, st_of upd_same, rfl, _, _, rfl, _, _, rfl, rfl, hw _ _, cw_turn pp2 (by omega) (ht i x H1 (e.trans e1) hix) (fun hf => he i x H1 (e.trans e1) hix hf)⟩
  · have e' : i = xs.length := by omega
    subst e'
    exact .inl ⟨⟨xs, qx, Nat.le_refl _⟩, q Dl H' (fresh_back e1 pp.1) (e1.trans pp.2.1) pp.2.2⟩⟩
theorem bitI (n p : Nat) : Builtin.bitAnd ((n : Int) / 2 ^ ((p : Int)).toNat) 1 = ((n.testBit p).toNat : Int) := by
  have e1 : ((n : Int) / 2 ^ ((p : Int)).toNat) = ((n / 2 ^ p : Nat) : Int) := by
    rw [Int.toNat_natCast]
    simp
  have e2 := Bits.bitAnd_mask (x := ((n / 2 ^ p : Nat) : Int)) 1 (Int.natCast_nonneg _)
  rw [e1]
  have e3 : ((2 : Int) ^ 1 - 1) = 1 := by decide
  rw [e3] at e2
  rw [e2, Nat.testBit_eq_decide_div_mod_eq]
  have h := Nat.mod_two_eq_zero_or_one (n / 2 ^ p)
  show (((n / 2 ^ p : Nat) : Int) % 2) = _
  rcases h with h | h
  · rw [decide_eq_false (by omega)]; show _ = (0 : Int); omega
  · rw [decide_eq_true h]; show _ = (1 : Int); omega
/-- n >> p & 1 -/
theorem ev_bit {n p : Nat} (ha : Ev ta σ H (.int (n : Int))) (hb : Ev tb σ H (.int (p : Int))) :
    Ev (tOp (rI0 fun i j => .int (Builtin.bitAnd i j)) (tOp (rI (fun _ j => 0 ≤ j) fun i j => .int (i / 2 ^ j.toNat)) ta tb) (tC (.int 1))) σ H (.int ((n.testBit p).toNat : Int)) := by
  have h := ev_op (ev_op ha hb (rv_I (C := fun _ j => 0 ≤ j) (g := fun i j => .int (i / 2 ^ j.toNat)) (Int.natCast_nonneg p))) (ev_c (v := .int 1)) (rv_I0 (g := fun i j => .int (Builtin.bitAnd i j)))
  rw [bitI] at h
  exact h
theorem et_bit {n p : Nat} (ha : Ev ta σ H (.int (n : Int))) (hb : Ev tb σ H (.int (p : Int))) :
    EvT (tTr K (tOp (rI0 fun i j => .int (Builtin.bitAnd i j)) (tOp (rI (fun _ j => 0 ≤ j) fun i j => .int (i / 2 ^ j.toNat)) ta tb) (tC (.int 1)))) σ H (n.testBit p) := et_is (et_truI (ev_bit ha hb)) (by cases n.testBit p <;> rfl)
theorem xorI (a b : Nat) : Builtin.bitXor (a : Int) (b : Int) = ((a ^^^ b : Nat) : Int) := by rw [Bits.bitXor_pp (Int.natCast_nonneg _) (Int.natCast_nonneg _)]; rfl
theorem orI (a b : Nat) : Builtin.bitOr (a : Int) (b : Int) = ((a ||| b : Nat) : Int) := by rw [Bits.bitOr_pp (Int.natCast_nonneg _) (Int.natCast_nonneg _)]; rfl
theorem andI (a b : Nat) : Builtin.bitAnd (a : Int) (b : Int) = ((a &&& b : Nat) : Int) := by
  unfold Builtin.bitAnd
  rw [decide_eq_true (Int.natCast_nonneg a), decide_eq_true (Int.natCast_nonneg b)]
  rfl
theorem ev_xor {a b : Nat} (ha : Ev ta σ H (.int (a : Int))) (hb : Ev tb σ H (.int (b : Int))) : Ev (tOp (rI0 fun i j => .int (Builtin.bitXor i j)) ta tb) σ H (.int ((a ^^^ b : Nat) : Int)) := by
  have h := ev_op ha hb (rv_I0 (g := fun i j => .int (Builtin.bitXor i j)))
  rw [xorI] at h
  exact h
theorem ev_or {a b : Nat} (ha : Ev ta σ H (.int (a : Int))) (hb : Ev tb σ H (.int (b : Int))) : Ev (tOp (rI0 fun i j => .int (Builtin.bitOr i j)) ta tb) σ H (.int ((a ||| b : Nat) : Int)) := by
  have h := ev_op ha hb (rv_I0 (g := fun i j => .int (Builtin.bitOr i j)))
  rw [orI] at h
  exact h
theorem ev_and {a b : Nat} (ha : Ev ta σ H (.int (a : Int))) (hb : Ev tb σ H (.int (b : Int))) : Ev (tOp (rI0 fun i j => .int (Builtin.bitAnd i j)) ta tb) σ H (.int ((a &&& b : Nat) : Int)) := by
  have h := ev_op ha hb (rv_I0 (g := fun i j => .int (Builtin.bitAnd i j)))
  rw [andI] at h
  exact h
/-- a << p -/
theorem ev_shl {a p : Nat} (ha : Ev ta σ H (.int (a : Int))) (hb : Ev tb σ H (.int (p : Int))) (h1 : a < 2 ^ 64) (h2 : p ≤ 1000000) : Ev (tOp (rI CPow fun i j => .int (i * 2 ^ j.toNat)) ta tb) σ H (.int ((a * 2 ^ p : Nat) : Int)) := by
  have h := ev_op ha hb (rv_I (C := CPow) (g := fun i j => .int (i * 2 ^ j.toNat)) ⟨by omega, by omega, by omega⟩)
  have e : ((a : Int) * 2 ^ ((p : Int)).toNat) = ((a * 2 ^ p : Nat) : Int) := by rw [Int.toNat_natCast]; simp
  rw [e] at h
  exact h
theorem ev_bits {n : Nat} (ha : Ev ta σ H (.int (n : Int))) : Ev (tBits ta) σ H (.int ((Builtin.Int.intBits (n : Int) : Nat) : Int)) := fun H1 e Q q => ha H1 e _ fun H2 e2 => ⟨_, rfl, q H2 e2⟩
end
theorem bitsN (n : Nat) : Builtin.Int.intBits (n : Int) = if n = 0 then 0 else n.log2 + 1 := by
  unfold Builtin.Int.intBits
  by_cases h : n = 0
  · subst h; rfl
  · have h2 : ¬ ((n : Int) == 0) = true := by simp; exact h
    rw [if_neg h2, if_neg h]
    rfl
theorem bits_lt (n : Nat) : n < 2 ^ Builtin.Int.intBits (n : Int) := by
  rw [bitsN]
  split
  · subst_vars; decide
  · exact Nat.lt_log2_self
theorem bits_le {n k : Nat} (h : n < 2 ^ k) : Builtin.Int.intBits (n : Int) ≤ k := by
  rw [bitsN]
  split
  · exact Nat.zero_le _
  · rename_i h0
    have := (Nat.log2_lt h0).mpr h
    omega
end My
set_option Elab.async false
set_option linter.all false
set_option maxRecDepth 100000
set_option maxHeartbeats 2000000
/-! ### sets of keys of any kind that can be walked: made from a list or a tuple, their number, sorted -/
namespace My
open PySem PySem.Spec PyProof.Rows L2
theorem paired_perm {α β : Type} {R : α → β → Prop} {l l' : List α} (p : l.Perm l') : ∀ {ks : List β}, Paired R l ks → ∃ ks', Paired R l' ks' ∧ ks'.Perm ks := by
  induction p with
  | nil => exact fun h => ⟨_, h, .refl _⟩
  | cons x _ ih =>
    intro ks h
    cases h with
    | cons a r =>
      obtain ⟨ks', r', q⟩ := ih r
      exact ⟨_ :: ks', .cons a r', q.cons _⟩
  | swap x y l =>
    intro ks h
    cases h with
    | cons a r =>
      cases r with
      | cons b r => exact ⟨_, .cons b (.cons a r), .swap ..⟩
  | trans _ _ i1 i2 =>
    intro ks h
    obtain ⟨k1, r1, q1⟩ := i1 h
    obtain ⟨k2, r2, q2⟩ := i2 r1
    exact ⟨k2, r2, q2.trans q1⟩
theorem paired_len {α β : Type} {R : α → β → Prop} {l : List α} {ks : List β} (h : Paired R l ks) : l.length = ks.length := Paired.length h
theorem paired_mem {α β : Type} {R : α → β → Prop} : ∀ {l : List α} {ks : List β}, Paired R l ks → ∀ k ∈ ks, ∃ e ∈ l, R e k
  | _, _, .nil, _, none' => nomatch none'
  | _, _, .cons a r, k, h => by
    rcases List.mem_cons.mp h with rfl | later
    · exact ⟨_, List.mem_cons_self, a⟩
    · obtain ⟨e, he, q⟩ := paired_mem r k later
      exact ⟨e, List.mem_cons_of_mem _ he, q⟩
theorem paired_mem' {α β : Type} {R : α → β → Prop} : ∀ {l : List α} {ks : List β}, Paired R l ks → ∀ e ∈ l, ∃ k ∈ ks, R e k
  | _, _, .nil, _, none' => nomatch none'
  | _, _, .cons a r, k, h => by
    rcases List.mem_cons.mp h with rfl | later
    · exact ⟨_, List.mem_cons_self, a⟩
    · obtain ⟨e, he, q⟩ := paired_mem' r k later
      exact ⟨e, List.mem_cons_of_mem _ he, q⟩
section
variable {P : Program} {w : World} {κ : Type} [DecidableEq κ]
/-- at a the set of the keys ks; its table rises and can be walked -/
def Tab (kk : KeyKind P w κ) (h : Heap) (a : Addr) (ks : List κ) : Prop := ∃ (o : Obj) (es : Array (Int × Value)) (ep : Nat) (t : SetTable),
  (h.get? a = some o ∧ o.ExactSet ∧ o.data = .set es ep t) ∧ (ElemsOf kk es.toList ∧ ∃ kz : List κ, Paired (fun (e : Int × Value) k => kk.is k e.2 = true) es.toList kz ∧ kz.Perm ks) ∧ ks.Nodup ∧
  (es.size < scanBound ∧ t.fits es.size = true) ∧ Ris t.place.toList ∧ (w.params.followText "set-order" = true ∨ t.led = true)
variable {kk : KeyKind P w κ} {h h' : Heap} {a : Addr} {ks : List κ}
theorem Tab.at (R : Tab kk h a ks) (k : ∀ o, h.get? a = some o → h'.get? a = some o) : Tab kk h' a ks := by
  obtain ⟨o, es, ep, t, ⟨ho, r0⟩, r⟩ := R
  exact ⟨o, es, ep, t, ⟨k o ho, r0⟩, r⟩
theorem Tab.perm {kz : List κ} (R : Tab kk h a ks) (p : ks.Perm kz) : Tab kk h a kz := by
  obtain ⟨o, es, ep, t, r0, ⟨r1, ky, r2, r3⟩, r4, r5⟩ := R
  exact ⟨o, es, ep, t, r0, ⟨r1, ky, r2, r3.trans p⟩, p.nodup_iff.mp r4, r5⟩
theorem is_mem {l : List (Int × Value)} {kz : List κ} (r : Paired (fun (e : Int × Value) k => kk.is k e.2 = true) l kz) (k : κ) : k ∈ kz ↔ ∃ e ∈ l, kk.is k e.2 = true := by
  constructor
  · exact fun z => paired_mem r k z
  · rintro ⟨e, he, q⟩
    obtain ⟨k', hk, q'⟩ := paired_mem' r e he
    rw [kk.inj e.2 k k' q q']
    exact hk
theorem Tab.setOf (R : Tab kk h a ks) : h.SetOf kk a (fun k => decide (k ∈ ks)) ks.length := by
  obtain ⟨o, es, ep, t, ⟨ho, hx, hd⟩, ⟨he, kz, hp, pm⟩, nd, ⟨hb, hf⟩, _⟩ := R
  refine ⟨o, es, ep, t, ho, hx, hd, he, fun k => ?_, hb, hf, ?_⟩
  · rw [decide_eq_true_eq, ← pm.mem_iff]
    exact is_mem hp k
  · rw [← pm.length_eq, ← paired_len hp, Array.length_toList]
/-! adding a key -/
variable {A : Around} {E : Value → Shared → Prop} {s : Shared} {k : κ} {v : Value}
/-- the new entry stored, the table laid anew where it grows too full -/
theorem tab_store {G : Bool → Sem Unit} (hG : ∀ (y : Bool) (z : Shared) (R : Unit → Shared → Prop), R () z → wpAny (model P w) A (G y) R E z) {o : Obj} {l0 : Array (Int × Value)} {ep : Nat} {t0 : SetTable}
    (at0 : s.heap.get? a = some o ∧ o.ExactSet ∧ o.data = .set l0 ep t0) {l1 : Array (Int × Value)} {t1 : SetTable} {kz : List κ}
    (el : ElemsOf kk l1.toList) (kp : Paired (fun (e : Int × Value) k => kk.is k e.2 = true) l1.toList kz) (nd : kz.Nodup) (sz : l1.size < scanBound) (ft : t1.fits l1.size = true) (ri : Ris t1.place.toList)
    (ld : w.params.followText "set-order" = true ∨ t1.led = true) {y : Bool} {R : Option Bool → Shared → Prop} (hR : ∀ h', Heap.SameBut a s.heap h' → Tab kk h' a kz → R (some true) { s with heap := h' }) :
    wpAny (model P w) A (storeSet a l1 t1 >>= fun _ => if (!y && t1.tooFull) = true then (do G (relayAll t1 l1 (SetTable.grown l1.size)).2.2; storeSet a (relayAll t1 l1 (SetTable.grown l1.size)).1 (relayAll t1 l1 (SetTable.grown l1.size)).2.1; pure (some true)) else pure (some true)) R E s := by
  obtain ⟨ho, hx, hd⟩ := at0
  have new1 := L2.store_at (es' := l1) (t' := t1) ho hd
  have but1 := Heap.SameBut.update s.heap a (Obj.putSet l1 t1)
  refine wpAny_bind (wpAny_storeSet_of (es' := l1) (t' := t1) ho hd ?first (fits_of_scanBound sz))
  by_cases full : (!y && t1.tooFull) = true
  · rw [if_pos full]
    have q1 : (relayAll t1 l1 (SetTable.grown l1.size)).1.toList.Perm l1.toList := relayAll_perm ..
    have q2 : (relayAll t1 l1 (SetTable.grown l1.size)).2.1.fits (relayAll t1 l1 (SetTable.grown l1.size)).1.size = true := relayAll_fits ..
    have q3 : Ris (relayAll t1 l1 (SetTable.grown l1.size)).2.1.place.toList := relayAll_ris ..
    have q4 : (relayAll t1 l1 (SetTable.grown l1.size)).2.1.led = t1.led := relayAll_led ..
    have len : (relayAll t1 l1 (SetTable.grown l1.size)).1.size = l1.size := by have := q1.length_eq; rwa [Array.length_toList, Array.length_toList] at this
    obtain ⟨ky, kp2, pm⟩ := paired_perm q1.symm kp
    refine wpAny_bind (hG _ _ _ ?_); refine wpAny_bind (wpAny_storeSet_of new1 rfl ?_ (fits_of_scanBound (by rw [len]; exact sz)))
    refine wpAny_pure (hR _ (but1.trans (Heap.SameBut.update _ a _)) ⟨_, _, _, _, ⟨L2.store_at new1 rfl, hx, rfl⟩, ⟨fun e he => el e (q1.mem_iff.mp he), ky, kp2, pm⟩, nd, ⟨by rw [len]; exact sz, q2⟩, q3, ?_⟩)
    rw [q4]
    exact ld
  · rw [if_neg full]
    exact wpAny_pure (hR _ but1 ⟨_, _, _, _, ⟨new1, hx, rfl⟩, ⟨el, kz, kp, .refl _⟩, nd, ⟨sz, ft⟩, ri, ld⟩)
theorem tab_add {R : Bool → Shared → Prop} (T : Tab kk s.heap a ks) (room : ks.length + 1 < scanBound) (hk : kk.is k v = true) (sc : v.scannable = true)
    (hR : ∀ h', Heap.SameBut a s.heap h' → Tab kk h' a (if k ∈ ks then ks else k :: ks) → R (!decide (k ∈ ks)) { s with heap := h' }) : wpAny (model P w) A (setAddHashed a v (kk.hash k)) R E s := by
  obtain ⟨o, l0, ep, t0, ⟨ho, hx, hd⟩, ⟨el, kz, kp, pm⟩, nd, ⟨sz, ft⟩, ri, ld⟩ := T
  have n0 : l0.size = ks.length := by have := paired_len kp; rw [Array.length_toList] at this; rw [this, pm.length_eq]
  have whole : Tab kk s.heap a ks := ⟨o, l0, ep, t0, ⟨ho, hx, hd⟩, ⟨el, kz, kp, pm⟩, nd, ⟨sz, ft⟩, ri, ld⟩
  have scan : byScan v l0 = true := byScan_of sc sz el
  unfold setAddHashed setAddHashedIn; refine wpAny_holding (wpAny_bind (wpAny_setState_of ho hd ft ?_))
  simp only [scan, if_true]
  refine wpAny_bind ?_; unfold setAddByScan; refine wpAny_bind (wpAny_rule ?_)
  refine wpAny_bind (wpAny_setScan_of hk ho hd ft el ?_)
  cases look : List.findIdx? (fun e => kk.is k e.2) l0.toList with
  | some j =>
    obtain ⟨jl, pj, _⟩ := List.findIdx?_eq_some_iff_getElem.mp look
    have there : k ∈ ks := pm.mem_iff.mp ((is_mem kp k).mpr ⟨_, List.getElem_mem jl, pj⟩)
    have q := hR s.heap (Heap.SameBut.refl a s.heap) (by rw [if_pos there]; exact whole)
    rw [decide_eq_true there] at q
    exact wpAny_pure (wpAny_pure q)
  | none =>
    have gone : k ∉ ks := fun z => by
      obtain ⟨e, he, q⟩ := (is_mem kp k).mp (pm.mem_iff.mpr z)
      have := List.findIdx?_eq_none_iff.mp look e he
      rw [q] at this
      cases this
    rw [if_neg gone, decide_eq_false gone] at hR
    have w1 : (layNew t0 l0 (kk.hash k) v).1.toList.Perm (l0.toList ++ [(kk.hash k, v)]) := by rw [← Array.toList_push]; exact layNew_perm t0 l0 (kk.hash k) v
    have w2 : (layNew t0 l0 (kk.hash k) v).2.1.fits (layNew t0 l0 (kk.hash k) v).1.size = true := layNew_fits ..
    have w3 : Ris (layNew t0 l0 (kk.hash k) v).2.1.place.toList := layNew_ris _ _ _ _ ri
    have w4 : (layNew t0 l0 (kk.hash k) v).2.1.led = t0.led := layNew_led ..
    generalize layNew t0 l0 (kk.hash k) v = Z at w1 w2 w3 w4 ⊢
    obtain ⟨l1, t1, dummy, gave⟩ := Z
    dsimp only at w1 w2 w3 w4 ⊢
    have kp1 : Paired (fun (e : Int × Value) k => kk.is k e.2 = true) (l0.toList ++ [(kk.hash k, v)]) (kz ++ [k]) := Paired.snoc kp hk
    obtain ⟨ky, kp2, pm2⟩ := paired_perm w1.symm kp1
    have pm3 : ky.Perm (k :: ks) := pm2.trans ((List.perm_append_singleton k kz).trans (pm.cons k))
    have nd3 : ky.Nodup := pm3.nodup_iff.mpr (List.nodup_cons.mpr ⟨gone, nd⟩)
    have el3 : ElemsOf kk l1.toList := (ElemsOf.push el hk sc).perm w1
    have sz3 : l1.size < scanBound := by
      have := w1.length_eq
      rw [Array.length_toList, List.length_append, Array.length_toList] at this
      have e1 : [(kk.hash k, v)].length = 1 := rfl
      rw [e1, n0] at this
      rw [this]
      exact room
    have led3 : w.params.followText "set-order" = true ∨ t1.led = true := ld.imp id fun z => w4.trans z
    have fin : ∀ h', Heap.SameBut a s.heap h' → Tab kk h' a ky → R true { s with heap := h' } := fun h' sb T2 => hR h' sb (T2.perm pm3)
    refine wpAny_bind ?gate
    case gate =>
      cases gave <;> first | refine wpAny_pure ?_ | refine wpAny_rule ?_
      all_goals
        by_cases hp : t1.plain = true
        · rw [if_pos hp]
          refine wpAny_bind ?_
          rw [hashByValue_scannable 8 sc]
          refine wpAny_pure ?_
          cases pv : plainKind v
          · simp only [if_false, Bool.false_eq_true]
            refine tab_store (kz := ky) ?_ ⟨ho, hx, hd⟩ el3 kp2 nd3 sz3 (SetTable.fits_plain_off w2) w3 led3 fun h' sb T2 => ?_
            · intro y z R' q; cases y <;> first | exact wpAny_pure q | exact wpAny_rule q
            · exact wpAny_pure (fin h' sb T2)
          · simp only [if_true]
            refine tab_store (kz := ky) ?_ ⟨ho, hx, hd⟩ el3 kp2 nd3 sz3 w2 w3 led3 fun h' sb T2 => ?_
            · intro y z R' q; cases y <;> first | exact wpAny_pure q | exact wpAny_rule q
            · exact wpAny_pure (fin h' sb T2)
        · rw [if_neg hp]
          refine wpAny_bind (wpAny_pure ?_); simp only [if_true]
          refine tab_store (kz := ky) ?_ ⟨ho, hx, hd⟩ el3 kp2 nd3 sz3 w2 w3 led3 fun h' sb T2 => ?_
          · intro y z R' q; cases y <;> first | exact wpAny_pure q | exact wpAny_rule q
          · exact wpAny_pure (fin h' sb T2)
end
/-! keys met one after another -/
section
variable {P : Program} {w : World} {κ : Type} [DecidableEq κ]
def grow (ks : List κ) (k : κ) : List κ := if k ∈ ks then ks else k :: ks
def met (val : Nat → κ) : Nat → List κ
  | 0 => []
  | i + 1 => grow (met val i) (val i)
theorem met_le (val : Nat → κ) : ∀ i, (met val i).length ≤ i
  | 0 => Nat.le_refl _
  | i + 1 => by
    show (if _ then _ else _ : List κ).length ≤ _
    split
    · exact Nat.le_succ_of_le (met_le val i)
    · exact Nat.succ_le_succ (met_le val i)
theorem met_mem (val : Nat → κ) (k : κ) : ∀ i, k ∈ met val i ↔ ∃ j, j < i ∧ val j = k
  | 0 => by
    constructor
    · intro h; cases h
    · rintro ⟨j, h, _⟩; cases h
  | i + 1 => by
    have q : k ∈ met val (i + 1) ↔ k = val i ∨ k ∈ met val i := by
      show k ∈ (if _ then _ else _ : List κ) ↔ _
      split
      next c => exact ⟨.inr, fun z => z.elim (fun e => e ▸ c) id⟩
      next => exact List.mem_cons
    rw [q, met_mem val k i]
    constructor
    · rintro (rfl | ⟨j, a, b⟩)
      · exact ⟨i, Nat.lt_succ_self i, rfl⟩
      · exact ⟨j, Nat.lt_succ_of_lt a, b⟩
    · rintro ⟨j, a, b⟩
      rcases Nat.lt_succ_iff_lt_or_eq.mp a with c | rfl
      · exact .inr ⟨j, c, b⟩
      · exact .inl b.symm
theorem met_nodup (val : Nat → κ) : ∀ i, (met val i).Nodup
  | 0 => .nil
  | i + 1 => by
    show (if _ then _ else _ : List κ).Nodup
    split
    next => exact met_nodup val i
    next c => exact List.nodup_cons.mpr ⟨c, met_nodup val i⟩
variable {kk : KeyKind P w κ} {A : Around} {R : Result → Shared → Prop} {it S : Addr} {fp wr : List Addr} {G : Array GenState → Array GenState → Prop} {n : Nat} {V : Nat → Value → Prop} {St : Nat → Shared → Prop}
theorem tab_loop (W : WalksS P w A.in1 it fp wr G n V St) (free : S ∉ fp) (val : Nat → κ) (ok : ∀ i v, V i v → kk.is (val i) v = true ∧ v.scannable = true) (room : n + 1 < scanBound) :
    ∀ (left i : Nat) (s : Shared), i + left = n → St i s → Tab kk s.heap S (met val i) →
      (∀ z, Moved (S :: wr) G s z → Tab kk z.heap S (met val n) → R (.ok (.ret .none)) z) → codeAny (model P w) A (.builtin "set.update.loop" ⟨[.ref S, .ref it], []⟩) R s := by
  have out : S ∉ wr := fun h => free (W.sub _ h)
  have more : ∀ b ∈ wr, b ∈ S :: wr := fun _ h => .tail _ h
  intro left
  induction left with
  | zero =>
    intro i s e st T hR
    obtain rfl : i = n := e
    refine codeAny_builtin PyProof.Rows.F.entry_set_update_loop ?_; rw [Around.under_plainId PyProof.Rows.F.plain_set_update_loop _]
    show wpAny _ A.in1 (pyNext (.ref it) >>= _) _ _ s; refine wpAny_bind (W.done s _ _ st fun z m => ?_)
    exact wpAny_pure (hR z (m.mono more) (T.at fun o h => m.heap S o out h))
  | succ left ih =>
    intro i s e st T hR
    have lt : i < n := by omega
    refine codeAny_builtin PyProof.Rows.F.entry_set_update_loop ?_; rw [Around.under_plainId PyProof.Rows.F.plain_set_update_loop _]
    show wpAny _ A.in1 (pyNext (.ref it) >>= _) _ _ s; refine wpAny_bind (W.item i s _ _ lt st fun v z hv st2 m => ?_)
    obtain ⟨hk, sc⟩ := ok i v hv
    have T2 : Tab kk z.heap S (met val i) := T.at fun o h => m.heap S o out h
    show wpAny _ A.in1 (holding [v] (setAdd S v) >>= _) _ _ z
    refine wpAny_bind (wpAny_holding ?_); unfold setAdd; refine wpAny_holding (wpAny_bind (kk.pyHash hk ?_))
    refine tab_add (s := { z with toks := z.toks + 1 }) T2 (by have := met_le val i; omega) hk sc fun h2 sb T3 => ?_
    refine wpAny_pure ⟨plainId_quiet PyProof.Rows.F.plain_set_update_loop _, ih (i + 1) _ (by omega) (W.frame _ z _ _ st2 (Nat.le_succ _) fun b hb o q => ?_) T3 fun y my Ty => ?_⟩
    · exact (sb.2 b fun c : b = S => free (c ▸ hb)).trans q
    · refine hR y (Moved.trans W.gtrans ((m.mono more).then_heap (Nat.le_succ _) fun b o hb q => ?_) my) Ty
      exact (sb.2 b fun c : b = S => hb (c ▸ .head _)).trans q
end
end My
set_option Elab.async false
set_option linter.all false
set_option maxRecDepth 100000
set_option maxHeartbeats 3200000
namespace My
open PySem PySem.Spec PyProof.Rows L2
/-! ### set(a list), set(a tuple) -/
/-- what set(..) is given: an object at l whose items are walked from the first to the last -/
structure Fed (P : Program) (w : World) (l : Addr) (items : Array Value) (T U : String) (Is : Heap → Prop) : Prop where
  ns : isSubtype (.type T) (.type "set") = pure false
  nf : isSubtype (.type T) (.type "frozenset") = pure false
  nd : (Value.type T == Value.type "dict") = false
  obj : ∀ h, Is h → ∃ d n sl, h.get? l = some { cls := .type T, dict := d, data := .seq items n, slots := sl }
  keep : ∀ h h', Is h → (∀ o, h.get? l = some o → h'.get? l = some o) → Is h'
  iter : ∀ A E (z : Shared) Q, Is z.heap → Q (.ref z.heap.objs.size) { z with heap := z.heap.push { cls := .type U, data := .fields #[.ref l, .int 0 0] } } → wpAny (model P w) A (pyIter (.ref l)) Q E z
  walk : ∀ A I, A.handled = none → l ≠ I → ∃ St, Walks P w A I [I, l] [I] items.size (fun i v => items[i]? = some v) St ∧ ∀ h, Is h → h.get? I = some { cls := .type U, data := .fields #[.ref l, .int 0 0] } → St 0 h
theorem fed_list (P : Program) (w : World) (l : Addr) (items : Array Value) : Fed P w l items "list" "list_iterator" (fun h => h.IsList l items) where
  ns := PySem.F.sub_list_set
  nf := PySem.F.sub_list_frozenset
  nd := by decide
  obj := fun h ⟨⟨c, d, x, sl⟩, a, b, n, e⟩ => by dsimp only at b e; subst b; subst e; exact ⟨d, n, sl, a⟩
  keep := fun h h' ⟨o, a, r⟩ k => ⟨o, k o a, r⟩
  iter := fun A E z Q i q => wpAny_pyIter_list i q
  walk := fun A I hh ne => ⟨_, Walks.list hh I l ne items, fun h i e => ⟨⟨_, e, rfl, rfl⟩, i⟩⟩
theorem fed_tuple (P : Program) (w : World) (l : Addr) (items : Array Value) : Fed P w l items "tuple" "tuple_iterator" (fun h => h.IsTuple l items) where
  ns := PySem.F.sub_tuple_set
  nf := PySem.F.sub_tuple_frozenset
  nd := by decide
  obj := fun h ⟨⟨c, d, x, sl⟩, a, b, n, e⟩ => by dsimp only at b e; subst b; subst e; exact ⟨d, n, sl, a⟩
  keep := fun h h' ⟨o, a, r⟩ k => ⟨o, k o a, r⟩
  iter := fun A E z Q i q => wpAny_pyIter_tuple i q
  walk := fun A I hh ne => ⟨_, Walks.tuple hh I l ne items, fun h i e => ⟨⟨_, e, rfl, rfl⟩, i⟩⟩
section
variable {P : Program} {w : World} {κ : Type} [DecidableEq κ] {kk : KeyKind P w κ} {A : Around} {E : Value → Shared → Prop} {s : Shared}
/-- an empty set, made by a program that is led or follows the text -/
def bare (w : World) : Obj := { cls := .type "set", dict := none, data := .set #[] 0 (.fresh 0 0 (!w.params.followText "set-order")) }
theorem tab_bare {h : Heap} {a : Addr} (e : h.get? a = some (bare w)) : Tab kk h a [] := by
  refine ⟨_, _, _, _, ⟨e, ⟨rfl, rfl, rfl⟩, rfl⟩, ⟨fun e he => by simp at he, [], .nil, .refl _⟩, .nil, ⟨by decide, rfl⟩, .nil, ?_⟩
  show _ ∨ (!w.params.followText "set-order") = true; cases w.params.followText "set-order" <;> simp
theorem new_bare (a : Value) {R : Value → Shared → Prop} (h : R (.ref s.heap.objs.size) { s with heap := s.heap.push (bare w) }) : codeAny (model P w) A (.call (.builtin "set.__new__") ⟨[.type "set", a], []⟩) (wants R E) s := by
  refine codeAny_of_tree ?_; show wpAny _ A.in1 (do checkBuiltinCall "set.__new__" ⟨[.type "set", a], []⟩; again (.builtin "set.__new__" ⟨[.type "set", a], []⟩)) _ _ s
  refine wpAny_bind (wpAny_of_eq (PySem.F.newCall_set_1 a) (wpAny_pure ⟨plainId_quiet F.plain_set_new _, codeAny_builtin F.entry_set_new ?_⟩)); rw [Around.under_plainId F.plain_set_new _]
  unfold Builtin.«set.__new__» Builtin.Frozenset.newClass; have := sub_set_self; obtain ⟨hp, g, d, tk, os⟩ := s; dsimp only
  wp_walk
  refine wpAny_askSetting (wpAny_pure ?_); dsimp only; simp only [newObj]
  exact wpAny_bind (wpAny_alloc (wpAny_pure (wpAny_pure h)))
theorem call_fed {l : Addr} {items : Array Value} {T U : String} {Is : Heap → Prop} (F0 : Fed P w l items T U Is) (hh : A.handled = none) (here : Is s.heap) (val : Nat → κ)
    (ok : ∀ i v, items[i]? = some v → kk.is (val i) v = true ∧ v.scannable = true) (room : items.size + 1 < scanBound) {Q : Value → Shared → Prop}
    (hQ : ∀ h' tk, Tab kk h' s.heap.objs.size (met val items.size) → (∀ b o, b < s.heap.objs.size → s.heap.get? b = some o → h'.get? b = some o) → Q (.ref s.heap.objs.size) { s with heap := h', toks := tk }) : wpAny (model P w) A (call (.type "set") [.ref l]) Q E s := by
  obtain ⟨c, tl, hmro⟩ := PySem.F.called_set.mro; have made := PySem.F.called_set.made; have sub := PySem.F.called_set.sub; have h1 := PySem.F.called_set.notType; have h2 := PySem.F.called_set.canCreate; have ct := PySem.F.typeCall_set_1 (.ref l)
  refine wpAny_call (codeAny_of_tree ?_); show wpAny _ _ (callAny (.type "set") _) _ _ _
  refine wpAny_pure ⟨Code.quiet_builtin _ (by decide +kernel), codeAny_builtin PySem.F.entry_type_call ?_⟩; rw [Around.under_plain (weight_type_call_type "set" [.ref l] []) rfl]
  repeat (any_goals first | assumption | wp_step)
  refine codeAny_mono (new_bare (.ref l) (E := E) (R := fun x z => x = .ref s.heap.objs.size ∧ z = { s with heap := s.heap.push (bare w) }) ⟨rfl, rfl⟩) fun r z hr => ?_
  cases r with
  | error e => exact hr
  | ok fl =>
    cases fl with
    | ret x =>
      obtain ⟨rfl, rfl⟩ := hr
      have aS : (s.heap.push (bare w)).get? s.heap.objs.size = some (bare w) := Heap.get?_push_size _ rfl
      have hT : Shared.TypeIs { s with heap := s.heap.push (bare w) } (.ref s.heap.objs.size) "set" := ⟨_, aS, rfl⟩
      have li := PySem.F.called_set.init.lookup; have bi := PySem.F.called_set.init.bind (.ref s.heap.objs.size)
      repeat (any_goals first | assumption | wp_step)
      refine codeAny_mono (codeAny_call_builtin (R := wants (fun r z => r = .none ∧ ∃ h' tk, z = { s with heap := h', toks := tk } ∧ Tab kk h' s.heap.objs.size (met val items.size) ∧ ∀ b o, b < s.heap.objs.size → s.heap.get? b = some o → h'.get? b = some o) E)
        PySem.F.called_set.init.plain PySem.F.entry_set_init (check_set_init_1 hT ?_)) fun r2 z2 hr2 => ?_
      · have Is1 : Is (s.heap.push (bare w)) := F0.keep _ _ here fun o e => Heap.get?_push_of_some _ e
        obtain ⟨d, n, sl, at0⟩ := F0.obj _ Is1
        obtain ⟨_, _, _, at1⟩ := F0.obj _ here
        have q1 := F0.ns; have q2 := F0.nf; have q3 := F0.nd
        unfold Builtin.«set.__init__» noKeywords Builtin.Frozenset.updateFrom; generalize hPI : pyIter = PI
        wp_walk
        subst hPI
        refine F0.iter _ _ _ _ Is1 ?_
        refine wpAny_bind (wpAny_runValue ?_); have lS : l < s.heap.objs.size := Heap.lt_size at1
        have hz : (s.heap.push (bare w)).objs.size = s.heap.objs.size + 1 := Heap.size_push ..
        have ne : l ≠ (s.heap.push (bare w)).objs.size := by rw [hz]; exact Nat.ne_of_lt (Nat.lt_succ_of_lt lS)
        have free : s.heap.objs.size ∉ [(s.heap.push (bare w)).objs.size, l] := by
          rw [hz]; intro c
          rcases List.mem_cons.mp c with c | c
          · exact Nat.ne_of_lt (Nat.lt_succ_self _) c
          · exact Nat.ne_of_gt lS (List.mem_singleton.mp c)
        obtain ⟨St, W, st0⟩ := F0.walk A.in1.in1.in1 (s.heap.push (bare w)).objs.size (by simp [hh]) ne
        refine tab_loop (kk := kk) W.toS free val ok room items.size 0 _ (Nat.zero_add _) (st0 _ (F0.keep _ _ Is1 fun o e => Heap.get?_push_of_some _ e) (Heap.get?_push_size _ rfl)) (tab_bare (Heap.get?_push_of_some _ aS)) ?_
        intro z m Tz
        obtain ⟨h', g', d', tk', os'⟩ := z
        obtain rfl : g' = s.gens := m.gens
        obtain rfl : d' = s.drawn := m.drawn
        obtain rfl : os' = s.os := m.os
        show wpAny _ _ _ _ _ _; refine wpAny_pure ?_; show wpAny _ _ (ret Value.none) _ _ _
        refine wpAny_pure ⟨rfl, h', tk', rfl, Tz, fun b o hb e => ?_⟩
        refine m.heap b o ?_ (Heap.get?_push_of_some _ (Heap.get?_push_of_some _ e))
        rw [hz]; intro c
        rcases List.mem_cons.mp c with c | c
        · exact Nat.ne_of_lt hb c
        · exact Nat.ne_of_lt (Nat.lt_succ_of_lt hb) (List.mem_singleton.mp c)
      · cases r2 with
        | error e => exact hr2
        | ok fl2 =>
          cases fl2 with
          | ret r =>
            obtain ⟨rfl, h', tk, rfl, T2, k2⟩ := hr2
            repeat (any_goals first | assumption | wp_step)
            exact hQ _ _ T2 k2
          | _ => exact hr2.elim
    | _ => exact hr.elim
end
end My
set_option Elab.async false
set_option linter.all false
set_option maxRecDepth 100000
set_option maxHeartbeats 3200000
namespace My
open PySem PySem.Spec PyProof.Rows L2
/-! ### a set of texts: len, sorted -/
section
variable {P : Program} {w : World} {A : Around} {E : Value → Shared → Prop} {s : Shared} {a : Addr} {ks : List Str}
theorem texts_of : ∀ {l : List (Int × Value)} {kz : List Str}, Paired (fun (e : Int × Value) k => (PySem.strKind P w).is k e.2 = true) l kz → Paired (fun (v : Value) k => ∃ t, v = .str k t) (l.map (·.2)) kz
  | _, _, .nil => .nil
  | _, _, .cons q r => .cons (Value.isStrOf_shape q) (texts_of r)
theorem strs_of : ∀ {l : List Value} {kz : List Str}, Paired (fun (v : Value) k => ∃ t, v = .str k t) l kz → StrsAre l kz
  | _, _, .nil => .nil
  | _, _, .cons ⟨t, q⟩ r => by rw [q]; exact .cons _ t (strs_of r)
/-- sorted(a set of texts) -/
theorem sorted_tab (T : Tab (PySem.strKind P w) s.heap a ks) (hh : A.handled = none) {Q : Value → Shared → Prop}
    (hQ : ∀ z p (out : Array Value) c ys, (∀ b o, s.heap.get? b = some o → z.heap.get? b = some o) → z.gens = s.gens → z.os = s.os → s.heap.objs.size ≤ p → z.heap.get? p = some (seqObj "list" out c) →
      StrsAre out.toList ys → ys.Perm ks → sortedS ys = true → Q (.ref p) z) : wpAny (model P w) A (call (.builtin "sorted") [.ref a]) Q E s := by
  obtain ⟨o, es, ep, t, ⟨ho, hx, hd⟩, ⟨el, kz, kp, pm⟩, nd, ⟨sz, ft⟩, ri, ld⟩ := T
  refine Calls.call_function_entry kind_sorted plain_sorted entry_sorted (args_sorted1 _) ?_; unfold Builtin.«sorted»
  refine wpAny_bind (m := checkCount "sorted" 1 1 _) (wpAny_pure ?_); refine wpAny_bind (collect_set (A := A.in1) hh ⟨o, ho, hx.1, hd⟩ ft sz ri ld fun z vs k1 hz g1 o1 pv => ?_)
  obtain ⟨kv, pv2, pv3⟩ := paired_perm pv.symm (texts_of kp)
  have hS : StrsAre vs kv := strs_of pv2
  have room : vs.length ≤ sizeLine := by rw [pv.length_eq, List.length_map, Array.length_toList]; exact fits_of_scanBound sz
  refine wpAny_bind (wpAny_newList ?_ room)
  have at1 : (z.heap.push (seqObj "list" vs.toArray 0)).get? z.heap.objs.size = some (seqObj "list" vs.toArray 0) := Heap.get?_push_size _ rfl
  refine wpAny_bind (wpAny_holding (wpAny_call_entry slot_list_sort ⟨_, at1, rfl⟩ entry_list_sort
    (list_sort_treeKAny strKind_oneLt at1 hS.keysOf (fun _ _ _ e => keyKind_strs (by rw [← e]; exact hS)) room fun st' q1 q2 => ⟨_, rfl, ?_⟩) (args_list_sort _)))
  obtain ⟨ys, r1, r2, r3⟩ := sorted_out_str hS q1 q2
  obtain ⟨c, hc⟩ := sortedHeap_at (vs := vs) (out := (arrOf st').map (·.2)) at1
  refine wpAny_pure ⟨_, rfl, hQ _ z.heap.objs.size _ c ys (fun b u e => ?_) g1 o1 hz hc r1 (r2.trans (pv3.trans pm)) r3⟩
  have q := k1 b u e
  have lt := Heap.lt_size q
  show (sortedHeap (z.heap.push (seqObj "list" vs.toArray 0)) z.heap.objs.size vs _).get? b = some u
  rw [sortedHeap_old (Nat.ne_of_lt lt) (by rw [size_push']; exact Nat.lt_succ_of_lt lt)]; exact Heap.get?_push_of_some _ q
end
/-- len(a set) -/
theorem len_tab {P : Program} {w : World} {κ : Type} [DecidableEq κ] {kk : KeyKind P w κ} {A : Around} {E : Value → Shared → Prop} {s : Shared} {a : Addr} {ks : List κ} (T : Tab kk s.heap a ks) {Q : Value → Shared → Prop}
    (hQ : Q (.int (ks.length : Nat) (s.toks + 1)) { s with toks := s.toks + 1 + 1 }) : wpAny (model P w) A (call (.builtin "len") [.ref a]) Q E s := by
  obtain ⟨o, es, ep, t, ⟨ho, hx, hd⟩, ⟨el, kz, kp, pm⟩, nd, ⟨sz, ft⟩, ri, ld⟩ := T
  have e : es.size = ks.length := by rw [← pm.length_eq, ← paired_len kp, Array.length_toList]
  refine call_len_set ho hx hd ft (by have q := fits_of_scanBound sz; rw [sizeLine_eq] at q; omega) ?_
  rw [e]
  exact hQ
end My
set_option Elab.async false
set_option linter.all false
set_option maxRecDepth 100000
set_option maxHeartbeats 3200000
namespace My
open PySem PySem.Spec PyProof.Rows L2
section
variable {X : Cx}
def TabO {κ : Type} [DecidableEq κ] (X : Cx) (kk : PySem.KeyKind X.prog X.w κ) (a : Addr) (ks : List κ) : HO := .ext fun h => Tab kk h a ks
theorem tabO_new {κ : Type} [DecidableEq κ] {kk : PySem.KeyKind X.prog X.w κ} {H : Hp} {h : Heap} {a : Addr} {ks : List κ} (T : Tab kk h a ks) : ObjOk X.prog X.w H h a (TabO X kk a ks) := by
  have ⟨o, _, _, _, ⟨ho, _⟩, _⟩ := T
  exact ⟨T, ⟨o, ho⟩, fun _ _ p k => Tab.at p k⟩
theorem tabO_get {κ : Type} [DecidableEq κ] {kk : PySem.KeyKind X.prog X.w κ} {pins : List (Addr × Obj)} {σ : L2.St} {H : Hp} {s : Shared} {a : Addr} {ks : List κ} (I : Inv X pins σ H s) (e : H a = some (TabO X kk a ks)) : Tab kk s.heap a ks := (I.hok a _ e).1
/-- set(a list or a tuple of texts) -/
def rSetTx (X : Cx) : List V → Hp → VK → Prop := fun vs H Q => ∃ l, ∃ xs : List Str, vs = [V.ref l] ∧ (SqL X.K H l (xs.map V.str) ∨ SqT X.K H l (xs.map V.str)) ∧ xs.length + 1 < scanBound ∧
  ∀ p (ks : List Str), ks.Nodup → (∀ k, k ∈ ks ↔ k ∈ xs) → H p = none → Q (.ref p) (upd H p (TabO X (PySem.strKind X.prog X.w) p ks))
theorem cr_setTx (hc : X.calm = true) : CallR X (.type "set") (rSetTx X) := by
  intro pins s σ H vs us Q I r h; obtain ⟨l, xs, rfl, hs, room, q⟩ := h
  rw [Vals.ref1 r]
  have fin : ∀ (its : List Value), Vals (xs.map V.str) its → ∀ h' tk, Tab (PySem.strKind X.prog X.w) h' s.heap.objs.size (met (fun i => xs.getD i Str.empty) its.toArray.size) →
      (∀ b o, b < s.heap.objs.size → s.heap.get? b = some o → h'.get? b = some o) → EP X pins σ Q (.ref s.heap.objs.size) { s with heap := h', toks := tk } := fun its rv h' tk T k => by
    have e : its.toArray.size = xs.length := by rw [List.size_toArray, ← rv.length, List.length_map]
    rw [e] at T
    refine ⟨.ref _, upd H s.heap.objs.size (TabO X (PySem.strKind X.prog X.w) s.heap.objs.size _), I.laid (t' := tk) (fun b u z => k b u (Heap.lt_size z) z) (Nat.le_refl _) (tabO_new T), rfl, q _ _ (met_nodup _ _) (fun y => ?_) (I.hok.fresh (Nat.le_refl _))⟩
    rw [met_mem, List.mem_iff_getElem]
    constructor
    · rintro ⟨j, lt, z⟩
      exact ⟨j, lt, by rw [← z, List.getD_eq_getElem?_getD, List.getElem?_eq_getElem lt]; rfl⟩
    · rintro ⟨j, lt, z⟩
      exact ⟨j, lt, by rw [← z, List.getD_eq_getElem?_getD, List.getElem?_eq_getElem lt]; rfl⟩
  have ok : ∀ (its : List Value), Vals (xs.map V.str) its → ∀ i v, its.toArray[i]? = some v → (PySem.strKind X.prog X.w).is (xs.getD i Str.empty) v = true ∧ v.scannable = true := fun its rv i v e => by
    obtain ⟨t, rfl⟩ := SS.strs_at (strsAre_of rv) i v (by rw [← e]; simp)
    exact ⟨strKind_is .., rfl⟩
  have len : ∀ (its : List Value), Vals (xs.map V.str) its → its.toArray.size + 1 < scanBound := fun its rv => by rw [List.size_toArray, ← rv.length, List.length_map]; exact room
  rcases hs with hs | hs
  · obtain ⟨its, rv, pl, hz⟩ := I.list hs
    exact call_fed (fed_list ..) (I.ok.hd hc) pl.isList _ (ok its rv) (len its rv) (fin its rv)
  · obtain ⟨its, rv, pl, hz⟩ := I.tuple hs
    exact call_fed (fed_tuple ..) (I.ok.hd hc) pl _ (ok its rv) (len its rv) (fin its rv)
/-- len(a set) -/
def rLenTab {κ : Type} [DecidableEq κ] (X : Cx) (kk : PySem.KeyKind X.prog X.w κ) : List V → Hp → VK → Prop := fun vs H Q => ∃ a ks, vs = [V.ref a] ∧ H a = some (TabO X kk a ks) ∧ Q (.int (ks.length : Nat)) H
theorem cr_lenTab {κ : Type} [DecidableEq κ] {kk : PySem.KeyKind X.prog X.w κ} : CallR X (.builtin "len") (rLenTab X kk) := by
  intro pins s σ H vs us Q I r h; obtain ⟨a, ks, rfl, e, q⟩ := h
  rw [Vals.ref1 r]
  exact len_tab (tabO_get I e) ⟨.int _, H, I.tok _, ⟨_, rfl⟩, q⟩
/-- sorted(a set of texts) -/
def rSortTab (X : Cx) : List V → Hp → VK → Prop := fun vs H Q => ∃ a ks, vs = [V.ref a] ∧ H a = some (TabO X (PySem.strKind X.prog X.w) a ks) ∧
  ∀ ys p, ys.Perm ks → sortedS ys = true → H p = none → Q (.ref p) (upd H p (.lst (ys.map V.str)))
theorem cr_sortTab (hc : X.calm = true) : CallR X (.builtin "sorted") (rSortTab X) := by
  intro pins s σ H vs us Q I r h; obtain ⟨a, ks, rfl, e, q⟩ := h
  rw [Vals.ref1 r]
  have T := tabO_get I e
  have small : ks.length ≤ sizeLine := by
    obtain ⟨o, es, ep, t, _, ⟨_, kz, kp, pm⟩, _, ⟨sz, _⟩, _⟩ := T
    rw [← pm.length_eq, ← paired_len kp, Array.length_toList]
    exact fits_of_scanBound sz
  refine sorted_tab T (I.ok.hd hc) fun z p out c ys k g o hp hg hS pm so => ?_
  have hn : H p = none := I.hok.fresh hp; have J : Inv X pins σ (upd H p (.lst (ys.map V.str))) { s with heap := z.heap, gens := z.gens, drawn := z.drawn, toks := z.toks } :=
    I.call (ch := []) (Un.laid k hp hn) (I.hok.laid k hp ⟨by rw [List.length_map, pm.length_eq]; exact small, out.toList, c, vals_of_strs hS, hg⟩) (by rw [g]; exact I.bare) (fun _ z => nomatch z)
  have e : z = { s with heap := z.heap, gens := z.gens, drawn := z.drawn, toks := z.toks } := by
    obtain ⟨_, _, _, _, _⟩ := z
    obtain ⟨_, _, _, _, _⟩ := s
    cases o
    rfl
  rw [e]
  exact ⟨.ref p, _, J, rfl, q ys p pm so hn⟩
end
end My
set_option Elab.async false
set_option linter.all false
set_option maxRecDepth 100000
set_option maxHeartbeats 400000
namespace My
open PySem PySem.Spec PyProof.Rows L2 Evl
/-! ### texts: comprehensions over their signs -/
section
variable {K : PySem.W.Frag} {σ : L2.St} {H : Hp} {tt : TT} {te : TE}
theorem el_lcS {x : Str} {tl : TE} {j : Nat} {vs : List Nat} (f : Nat → Bool) (g : Nat → V) (h : Ev tl σ H (.str x)) (hz : x.cps.size ≤ 40000) (hw : ∀ y, wipe ((wipe σ vs).set j (some y)) vs = wipe σ vs)
    (ht : ∀ (i c : Nat) H1, Ex H H1 → x.cps[i]? = some c → EvT tt ((wipe σ vs).set j (some (.str ⟨#[c]⟩))) H1 (f i)) (he : ∀ (i c : Nat) H1, Ex H H1 → x.cps[i]? = some c → f i = true → Ev te ((wipe σ vs).set j (some (.str ⟨#[c]⟩))) H1 (g i)) :
    EvL (tLc (iStr tl) (gName j) tt te vs) σ H (given x.cps.size f g) := fun H0 e Q q => h H0 e _ fun H1 e1 => ⟨x, rfl, fun Dl hD => by
  refine ⟨fun i m H' => m = x.cps.size - i ∧ i ≤ x.cps.size ∧ Cw H1 f g Dl i H', ⟨x.cps.size, by simp, Nat.zero_le _, hD, Ex.new hD, upd_same⟩, ?_⟩
  rintro i m H' ⟨rfl, hi, pp⟩
  by_cases hlt : i < x.cps.size
  · refine .inr ⟨hlt, Cw H1 f g Dl (i + 1), fun H2 p' => ⟨x.cps.size - (i + 1), by omega, rfl, hlt, p'⟩, fun v H2 y => ?_⟩
    obtain ⟨rfl, c, hc, rfl⟩ := y
    exact ⟨hw _, cw_turn pp (by omega) (ht i c H1 (e.trans e1) hc) (fun hf => he i c H1 (e.trans e1) hc hf)⟩
  · have e' : i = x.cps.size := by omega
    subst e'
    exact .inl ⟨Nat.le_refl _, q Dl H' (fresh_back e1 pp.1) (e1.trans pp.2.1) pp.2.2⟩⟩
theorem el_lcU {a : Addr} {xs : List V} {tl : TE} {j : Nat} {vs : List Nat} (f : Nat → Bool) (g : Nat → V) (h : Ev tl σ H (.ref a)) (hx : SqT K H a xs) (hz : xs.length ≤ 40000) (hw : ∀ y, wipe ((wipe σ vs).set j (some y)) vs = wipe σ vs)
    (ht : ∀ (i : Nat) (x : V) H1, Ex H H1 → xs[i]? = some x → EvT tt ((wipe σ vs).set j (some x)) H1 (f i)) (he : ∀ (i : Nat) (x : V) H1, Ex H H1 → xs[i]? = some x → f i = true → Ev te ((wipe σ vs).set j (some x)) H1 (g i)) :
    EvL (tLc (iTup K tl) (gName j) tt te vs) σ H (given xs.length f g) := fun H0 e Q q => h H0 e _ fun H1 e1 => ⟨a, rfl, ⟨xs, ex_t (e.trans e1) hx⟩, fun Dl hD =>
  lc_tup (xs := xs) (Cw H1 f g Dl) ⟨hD, Ex.new hD, upd_same⟩ (fun i H' _ p => ex_t ((e.trans e1).trans p.2.1) hx) (fun i x H' hi p => ⟨hw x, cw_turn p (by have := (List.getElem?_eq_some_iff.mp hi).1; omega) (ht i x H1 (e.trans e1) hi) (fun hf => he i x H1 (e.trans e1) hi hf)⟩) (fun H' p => q Dl H' (fresh_back e1 p.1) (e1.trans p.2.1) p.2.2)⟩
theorem dpa_texts : ∀ xs : List Str, DpAll K H (xs.map V.str) (xs.map PyData.str)
  | [] => .nil
  | x :: r => .cons (.str x) (dpa_texts r)
end
theorem eqv_texts : ∀ xs ys : List Str, PyData.eqvAll (xs.map PyData.str) (ys.map PyData.str) = decide (xs = ys)
  | [], [] | [], _ :: _ | _ :: _, [] => by simp [PyData.eqvAll]
  | x :: r, y :: t => by
    rw [List.map_cons, List.map_cons, PyData.eqvAll, eqv_texts r t, PyData.eqv]
    by_cases e : x = y <;> by_cases e2 : r = t <;> simp [e, e2]
theorem lay_texts (xs : List Str) (h : ∀ x ∈ xs, PyData.strOk x = true) {n : Nat} : Lay (.list (xs.map PyData.str)) (n + 1) := .list (.map fun x hx => .str (h x hx))
theorem dp_texts {K : PySem.W.Frag} {H : Hp} {a : Addr} {xs : List Str} (h : SqL K H a (xs.map V.str)) : Dp K H (.ref a) (.list (xs.map PyData.str)) := .lst h (dpa_texts xs)
theorem eqv_list_texts (xs ys : List Str) : PyData.eqv (.list (xs.map PyData.str)) (.list (ys.map PyData.str)) = decide (xs = ys) := by rw [PyData.eqv, eqv_texts]
/-- sorted(set(a tuple of texts)) -/
theorem evG_sortSet {X : Cx} {σ : L2.St} {H : Hp} {ta : TA} {a : Addr} {xs : List Str} (h : EvA ta σ H [.ref a]) (hA : SqT X.K H a (xs.map V.str)) (room : xs.length + 1 < scanBound) :
    EvG (tCB (rSortTab X) (tCons (tCB (rSetTx X) ta) tNil)) σ H (fun v H' => ∃ p ys, v = .ref p ∧ H' p = some (.lst (ys.map V.str)) ∧ ys.Nodup ∧ (∀ k, k ∈ ys ↔ k ∈ xs) ∧ sortedS ys = true) := fun H1 e Q q =>
  h H1 e _ fun H2 e2 => ⟨a, xs, rfl, .inr (ex_t (e.trans e2) hA), room, fun p ks nd mem np =>
    ⟨p, ks, rfl, upd_same, fun ys l pm so nl => q _ _ ((e2.trans (Ex.new np)).trans (Ex.new nl)) ⟨l, ys, rfl, upd_same, pm.nodup_iff.mpr nd, fun k => pm.mem_iff.trans (mem k), so⟩⟩⟩
/-! texts that rise -/
theorem rise_eq {α : Type} {r : α → α → Prop} (ir : ∀ x, ¬ r x x) (tr : ∀ x y z, r x y → r y z → r x z) : ∀ xs ys : List α, xs.Pairwise r → ys.Pairwise r → (∀ k, k ∈ xs ↔ k ∈ ys) → xs = ys
  | [], [], _, _, _ => rfl
  | [], y :: _, _, _, h => nomatch (h y).mpr (.head _)
  | x :: _, [], _, _, h => nomatch (h x).mp (.head _)
  | x :: xs, y :: ys, hx, hy, h => by
    obtain ⟨x1, x2⟩ := List.pairwise_cons.mp hx
    obtain ⟨y1, y2⟩ := List.pairwise_cons.mp hy
    have e : x = y := by
      rcases List.mem_cons.mp ((h x).mp (.head _)) with e | a
      · exact e
      · rcases List.mem_cons.mp ((h y).mpr (.head _)) with e | b
        · exact e.symm
        · exact (ir x (tr _ _ _ (x1 y b) (y1 x a))).elim
    subst e
    refine congrArg (x :: ·) (rise_eq ir tr xs ys x2 y2 fun k => ⟨fun z => ?_, fun z => ?_⟩)
    · rcases List.mem_cons.mp ((h k).mp (.tail _ z)) with rfl | a
      · exact (ir _ (x1 _ z)).elim
      · exact a
    · rcases List.mem_cons.mp ((h k).mpr (.tail _ z)) with rfl | a
      · exact (ir _ (y1 _ z)).elim
      · exact a
theorem lt_ir : ∀ l : List Nat, ltCps l l = false
  | [] => rfl
  | a :: l => by rw [ltCps]; simp [lt_ir l]
theorem lt_tr : ∀ x y z : List Nat, ltCps x y = true → ltCps y z = true → ltCps x z = true
  | [], _, [], _, h => by rename_i y _; cases y <;> simp [ltCps] at h
  | [], _, _ :: _, _, _ => by simp [ltCps]
  | _ :: _, [], _, h, _ => by simp [ltCps] at h
  | _ :: _, _ :: _, [], _, h => by simp [ltCps] at h
  | a :: x, b :: y, c :: z, h1, h2 => by
    simp only [ltCps, Bool.or_eq_true, Bool.and_eq_true, decide_eq_true_eq, beq_iff_eq] at h1 h2 ⊢
    have := lt_tr x y z
    rcases h1 with h1 | ⟨h1, g1⟩ <;> rcases h2 with h2 | ⟨h2, g2⟩
    · exact .inl (by omega)
    · exact .inl (by omega)
    · exact .inl (by omega)
    · exact .inr ⟨by omega, this g1 g2⟩
theorem lt_or : ∀ x y : List Nat, ltCps x y = false → x ≠ y → ltCps y x = true
  | [], [], _, h => absurd rfl h
  | [], _ :: _, h, _ => by simp [ltCps] at h
  | _ :: _, [], _, _ => by simp [ltCps]
  | a :: x, b :: y, h, n => by
    have := lt_or x y
    simp only [ltCps, Bool.or_eq_true, Bool.and_eq_true, decide_eq_true_eq, beq_iff_eq, Bool.or_eq_false_iff, Bool.and_eq_false_imp, decide_eq_false_iff_not] at h ⊢
    rcases Nat.lt_trichotomy a b with c | c | c
    · exact absurd c h.1
    · subst c
      exact .inr ⟨rfl, this (h.2 rfl) fun e => n (by rw [e])⟩
    · exact .inl c
def Rises (xs : List Str) : Prop := xs.Pairwise fun a b => ltCps a.cps.toList b.cps.toList = true
instance (xs : List Str) : Decidable (Rises xs) := by unfold Rises; infer_instance
theorem rises_of : ∀ ys : List Str, ys.Nodup → sortedS ys = true → Rises ys := by
  have key : ∀ (ys : List Str) (p : Str), (p :: ys).Nodup → risingS p ys = true → Rises (p :: ys) := by
    intro ys
    induction ys with
    | nil => exact fun p _ _ => List.pairwise_cons.mpr ⟨fun _ h => (nomatch h), .nil⟩
    | cons y r ih =>
      intro p nd h
      have nd1 := List.nodup_cons.mp nd
      have h2 : ((!ltCps y.cps.toList p.cps.toList) && risingS y r) = true := h
      rw [Bool.and_eq_true, Bool.not_eq_true'] at h2
      have rr := ih y nd1.2 h2.2
      have py : ltCps p.cps.toList y.cps.toList = true := lt_or _ _ h2.1 fun e => nd1.1 (by
        have : y = p := by
          obtain ⟨a⟩ := y
          obtain ⟨b⟩ := p
          exact congrArg _ (Array.toList_inj.mp e)
        rw [this]; exact .head _)
      refine List.pairwise_cons.mpr ⟨fun z hz => ?_, rr⟩
      rcases List.mem_cons.mp hz with rfl | later
      · exact py
      · exact lt_tr _ _ _ py ((List.pairwise_cons.mp rr).1 z later)
  intro ys nd h
  cases ys with
  | nil => exact .nil
  | cons y r => exact key r y nd h
theorem rises_iff {xs ys : List Str} (nd : ys.Nodup) (m : ∀ k, k ∈ ys ↔ k ∈ xs) (so : sortedS ys = true) : decide (xs = ys) = decide (Rises xs) := by
  have r := rises_of ys nd so
  refine decide_eq_decide.mpr ⟨fun e => e ▸ r, fun h => rise_eq (r := fun a b : Str => ltCps a.cps.toList b.cps.toList = true) (fun x c => ?_) (fun x y z => lt_tr _ _ _) xs ys h r fun k => (m k).symm⟩
  have c2 := lt_ir x.cps.toList
  rw [c] at c2
  cases c2
end My
set_option Elab.async false
set_option linter.all false
set_option maxRecDepth 100000
set_option maxHeartbeats 1000000
/-! ### names, numbers and words as texts -/
namespace My
open PySem PySem.Spec L2
/-- the signs of names -/
def signs : Str := Str.ofString "abcdefghijklmnopqrstuvwxyz0123456789"
def isName (x : Str) : Bool := decide (1 ≤ x.length ∧ x.length ≤ 12) && x.cps.toList.all fun c => decide (c ∈ signs.cps.toList)
def digs : Str := Str.ofString "0123456789"
def numSigns (w : Str) (most : Nat) : Bool := decide (1 ≤ w.length ∧ w.length ≤ most) && w.cps.toList.all fun c => decide (c ∈ digs.cps.toList)
def nought (w : Str) : Bool := decide (1 < w.length) && decide (w.cps.toList[0]? = some 48)
def numOf (w : Str) : Int := (NumText.digitsVal w.cps.toList : Nat)
def rdNum (w : Str) (most : Nat) : Option Int := if numSigns w most && !nought w then some (numOf w) else none
def num (n : Int) : Str := Str.ofString (toString n)
theorem digs_iff (c : Nat) : c ∈ digs.cps.toList ↔ 48 ≤ c ∧ c ≤ 57 := by
  have e : digs.cps.toList = [48, 49, 50, 51, 52, 53, 54, 55, 56, 57] := by decide +kernel
  rw [e]
  simp only [List.mem_cons, List.not_mem_nil, or_false]
  omega
theorem allDigs {w : Str} (h : (w.cps.toList.all fun c => decide (c ∈ digs.cps.toList)) = true) : NumText.AllDigits w.cps.toList := by
  intro c hc
  have := of_decide_eq_true (List.all_eq_true.mp h c hc)
  exact (digs_iff c).mp this
theorem numSigns_int {w : Str} {most : Nat} (h : numSigns w most = true) (hm : most ≤ 4300) : intText? w = some (numOf w) := by
  unfold numSigns at h
  rw [Bool.and_eq_true, decide_eq_true_eq] at h
  have ne : w.cps.toList ≠ [] := fun e => by
    have : w.length = w.cps.toList.length := by rw [Array.length_toList]; rfl
    rw [e] at this
    have := h.1.1
    simp_all
  exact intText_digits (allDigs h.2) ne (by omega)
theorem numL_head : ∀ n : Nat, 1 ≤ n → (TL.numL n)[0]? ≠ some 48 := by
  intro n
  induction n using Nat.strongRecOn with
  | ind n ih =>
    intro h
    by_cases h10 : n < 10
    · rw [TL.numL_lt h10]
      simp
      omega
    · rw [TL.numL_step (by omega)]
      have hne := TL.numL_ne (n / 10)
      have hp : 0 < (TL.numL (n / 10)).length := List.length_pos_iff.mpr hne
      rw [List.getElem?_append_left hp]
      exact ih (n / 10) (by omega) (by omega)
theorem num_tl (n : Nat) : (num (n : Int)).cps.toList = TL.numL n := TL.tl_num n
theorem num_len (n : Nat) : (num (n : Int)).length = (TL.numL n).length := by
  rw [← num_tl, Array.length_toList]; rfl
theorem rdNum_num {n k : Nat} (hk : 0 < k) (h : n < 10 ^ k) : rdNum (num (n : Int)) k = some (n : Int) := by
  have l1 : 1 ≤ (TL.numL n).length := List.length_pos_iff.mpr (TL.numL_ne n)
  have l2 := TL.numL_len hk h
  have a : numSigns (num (n : Int)) k = true := by
    unfold numSigns
    rw [Bool.and_eq_true, decide_eq_true_eq, num_len]
    refine ⟨⟨l1, l2⟩, List.all_eq_true.mpr fun c hc => decide_eq_true ((digs_iff c).mpr ?_)⟩
    rw [num_tl] at hc
    exact TL.numL_digits n c hc
  have b : nought (num (n : Int)) = false := by
    unfold nought
    rw [num_len, num_tl]
    by_cases h1 : 1 < (TL.numL n).length
    · have : 1 ≤ n := by
        rcases Nat.lt_or_ge n 10 with h10 | h10
        · rw [TL.numL_lt h10] at h1; simp at h1
        · omega
      rw [decide_eq_false (numL_head n this), Bool.and_false]
    · rw [decide_eq_false h1, Bool.false_and]
  unfold rdNum
  rw [a, b, Bool.not_false, Bool.true_and, if_pos rfl]
  unfold numOf
  rw [num_tl, TL.numL_val]
theorem signs_no32 : (32 : Nat) ∉ signs.cps.toList := by decide +kernel
theorem name_no32 {x : Str} (h : isName x = true) : (32 : Nat) ∉ TL.tl x := fun hc => by
  unfold isName at h
  rw [Bool.and_eq_true] at h
  exact signs_no32 (of_decide_eq_true (List.all_eq_true.mp h.2 32 hc))
theorem num_no32 (n : Nat) : (32 : Nat) ∉ TL.tl (num (n : Int)) := by
  show (32 : Nat) ∉ (num (n : Int)).cps.toList
  rw [num_tl]
  exact TL.numL_free (Or.inl (by decide))
/-- a blank -/
def blank : Str := Str.ofString " "
theorem split_words {ws : List Str} (h : ws ≠ []) (hw : ∀ w ∈ ws, (32 : Nat) ∉ TL.tl w) : Txt.split (Txt.join blank ws) blank = ws :=
  TL.split_join (s := 32) (S := []) (by decide +kernel) (by decide +kernel) h hw
end My
set_option Elab.async false
set_option linter.all false
set_option maxRecDepth 100000
set_option maxHeartbeats 1000000
/-! ### letters: their words, what a row of words is the letter of -/
namespace My
open PySem PySem.Spec PyProof.Rows L2 Evl
/-- a lot: names that rise -/
def isLot (xs : List Str) : Bool := xs.all isName && decide (Rises xs)
def sOrder : Str := Str.ofString "order"
def sFrame : Str := Str.ofString "frame"
def sDo : Str := Str.ofString "do"
def sRun : Str := Str.ofString "run"
def sStop : Str := Str.ofString "stop"
inductive Lt where
  | ord (n : Int) (ws : List Str)
  | frm (t c : Int) (m : Str) (on : List Str)
def isOrd : List Str → Bool
  | [a] => decide (a = sStop)
  | [a, b] => (decide (a = sDo) || decide (a = sRun)) && isName b
  | _ => false
def ltD : Lt → PyData
  | .ord n ws => .tuple [.str sOrder, .int n, .tuple (ws.map .str)]
  | .frm t c m on => .tuple [.str sFrame, .int t, .int c, .str m, .tuple (on.map .str)]
def optD : Option Lt → PyData
  | none => .none
  | some l => ltD l
def rdOl : List Str → Option Lt
  | [] => none
  | w :: r => match rdNum w 18 with
    | none => none
    | some n => if isOrd r then some (.ord n r) else none
def rdFl : List Str → Option Lt
  | t :: c :: m :: on => match rdNum t 18, rdNum c 18 with
    | some t, some c => if isName m && isLot on then some (.frm t c m on) else none
    | _, _ => none
  | _ => none
def rdWs : List Str → Option Lt
  | [] => none
  | w :: r => if w = sOrder then rdOl r else if w = sFrame then rdFl r else none
def wds : Lt → List Str
  | .ord n ws => sOrder :: num n :: ws
  | .frm t c m on => sFrame :: num t :: num c :: m :: on
def LtOk : Lt → Prop
  | .ord n ws => (∃ k : Nat, n = k ∧ k < 10 ^ 18) ∧ isOrd ws = true
  | .frm t c m on => (∃ k : Nat, t = k ∧ k < 10 ^ 18) ∧ (∃ k : Nat, c = k ∧ k < 10 ^ 18) ∧ isName m = true ∧ isLot on = true
def fmt (l : Lt) : Str := Txt.join blank (wds l)
def rd (x : Str) : Option Lt := rdWs (Txt.split x blank)
theorem rd_wds {l : Lt} (h : LtOk l) : rdWs (wds l) = some l := by
  cases l with
  | ord n ws =>
    obtain ⟨⟨k, rfl, hk⟩, ho⟩ := h
    unfold wds rdWs rdOl
    dsimp only
    rw [if_pos rfl, rdNum_num (k := 18) (by decide) hk]
    dsimp only
    rw [ho, if_pos rfl]
  | frm t c m on =>
    obtain ⟨⟨k, rfl, hk⟩, ⟨j, rfl, hj⟩, hm, ho⟩ := h
    unfold wds rdWs rdFl
    dsimp only
    rw [if_neg (by decide +kernel : ¬ sFrame = sOrder), if_pos rfl, rdNum_num (k := 18) (by decide) hk, rdNum_num (k := 18) (by decide) hj]
    dsimp only
    rw [hm, ho]
    rfl
theorem isOrd_no32 : ∀ {ws : List Str}, isOrd ws = true → ∀ w ∈ ws, (32 : Nat) ∉ TL.tl w
  | [a], h, w, hw => by
    have e : a = sStop := of_decide_eq_true h
    rw [List.mem_singleton.mp hw, e]
    decide +kernel
  | [a, b], h, w, hw => by
    unfold isOrd at h
    rw [Bool.and_eq_true, Bool.or_eq_true, decide_eq_true_eq, decide_eq_true_eq] at h
    rcases List.mem_cons.mp hw with rfl | hw
    · rcases h.1 with e | e <;> rw [e] <;> decide +kernel
    · rw [List.mem_singleton.mp hw]
      exact name_no32 h.2
  | [], h, _, _ => by cases h
  | _ :: _ :: _ :: _, h, _, _ => by cases h
theorem wds_no32 {l : Lt} (h : LtOk l) : ∀ w ∈ wds l, (32 : Nat) ∉ TL.tl w := by
  cases l with
  | ord n ws =>
    obtain ⟨⟨k, rfl, hk⟩, ho⟩ := h
    intro w hw
    rcases List.mem_cons.mp hw with rfl | hw
    · decide +kernel
    rcases List.mem_cons.mp hw with rfl | hw
    · exact num_no32 k
    · exact isOrd_no32 ho w hw
  | frm t c m on =>
    obtain ⟨⟨k, rfl, hk⟩, ⟨j, rfl, hj⟩, hm, ho⟩ := h
    unfold isLot at ho
    rw [Bool.and_eq_true] at ho
    intro w hw
    rcases List.mem_cons.mp hw with rfl | hw
    · decide +kernel
    rcases List.mem_cons.mp hw with rfl | hw
    · exact num_no32 k
    rcases List.mem_cons.mp hw with rfl | hw
    · exact num_no32 j
    rcases List.mem_cons.mp hw with rfl | hw
    · exact name_no32 hm
    · exact name_no32 (List.all_eq_true.mp ho.1 w hw)
theorem rd_fmt {l : Lt} (h : LtOk l) : rd (fmt l) = some l := by
  unfold rd fmt
  rw [split_words (by cases l <;> exact List.cons_ne_nil _ _) (wds_no32 h)]
  exact rd_wds h
theorem fmt_inj {l m : Lt} (hl : LtOk l) (hm : LtOk m) (e : fmt l = fmt m) : l = m := by
  have a := rd_fmt hl
  rw [e, rd_fmt hm] at a
  exact (Option.some.inj a).symm
end My
set_option Elab.async false
set_option linter.all false
set_option maxRecDepth 100000
set_option maxHeartbeats 2000000
/-! ### a def whose caller is within no repr: what repr of data tells -/
namespace My
open PySem PySem.Spec PyProof.Rows L2 Evl
section
variable {P : Program} {w : World} {K : PySem.W.Frag} {mg : Str → Option Value} {base : Heap}
structure FnOkG (P : Program) (w : World) (K : PySem.W.Frag) (mg : Str → Option Value) (base : Heap) (k : Nat) (f : Addr) (fd : FuncData) (ps : List Str) (sp : Sp) : Prop where
  len : ∀ vs H Q E, sp vs H Q E → vs.length = ps.length
  run : ∀ (A : Around) (outer : List Env) (s : Shared) (H : Hp) (args : Args) (us : List Value) (vs : List V) (Q : VK) (E : XK), A.guards = some [] → Room k A → Env0 P w K mg base A outer s H → BindsTo s fd args (ps.zip us) → Vals vs us → sp vs H Q E →
    codeAny (model P w) A (Code.call (.ref f) args) (CR CX0 outer P w H s Q E) s
theorem okG {x qual : Str} {st : Stmt} {f : Addr} {fd : FuncData} {N ps : List Str} {k : Nat} {sp : Sp} (F : Fun K x qual st f fd) (S : FnScope N ps (defScope st)) (len : ∀ vs H Q E, sp vs H Q E → vs.length = ps.length)
    (hbody : ∀ (cdv : Value) (A : Around) (outer : List Env) (s : Shared) (H : Hp) (vs : List V) (Q : VK) (E : XK), A.guards = some [] → Room k (A.deeper (envOfC qual (defScope st) s.heap.objs.size f cdv)) → sp vs H Q E →
      ∃ t, PSs (cxOf CX0 P w K mg base N qual (defScope st) f cdv A outer s H E).nox (defBody st) t ∧ t { nx := fun _ H' => Q .non H', rt := Q } (start N vs) H) : FnOkG P w K mg base (k + 1) f fd ps sp := by
  refine ⟨len, fun A outer s H args us vs Q E hg hr e0 hb r hsp => ?_⟩
  obtain ⟨oc, od, kV, doc, pm, an, cdv, ct, osl, rfl, lk, hcd⟩ := F.ex
  have hl := len vs H Q E hsp
  have KX : K.In s.heap := e0.mod.kin.keeps fun b o e => (e0.bs b o e).1
  have lim : s.heap.NoLimit := e0.mod.nolimit.keeps fun b o e => (e0.bs b o e).1
  refine codeAny_call_function hr.depth (KX _ _ lk) rfl S.co S.gen rfl (PySem.W.codeRec_of KX hcd) (hb (model P w) A.in1 _ _ (wpAny_newFunctionEnv_cells S.kind (fun ⟨n, v⟩ hy => ?_) fun env he s1 x => ?_))
  · rcases S.par n (List.of_mem_zip hy).1 with q | q
    · exact Or.inl q
    · exact Or.inr ⟨q, PySem.W.cellsFrom_some _ _ [] (Or.inl q)⟩
  subst he
  refine ⟨lim.keeps x.toInCall.keep, codeAny_func ?_⟩
  obtain ⟨t, ht, hq⟩ := hbody cdv A outer s H vs Q E hg (hr.deeper _) hsp
  have I := inv_start (CX := CX0) (E := E) (qual := qual) (scope := defScope st) (f := f) (cd := cdv) S hr.hd e0 hl r x
  refine wpAny_mono (ht.nox.run [] s1 (start N vs) H _ I hq) (fun fl s' hs => ?_) fun e s' hs => hs
  have fin : ∀ {σ' : L2.St} {H' : Hp} {v : V} {u : Value}, L2.Inv (cxOf CX0 P w K mg base N qual (defScope st) f cdv A outer s H E) [] σ' H' s' → L2.RelV v u → Q v H' → CE outer P w H s Q u s' :=
    fun {σ' H' v u} J rv q => ⟨v, H', J.os, J.bare, J.base, J.hok, rv, q⟩
  cases fl with
  | ret u =>
    obtain ⟨v, σ', H', J, rv, q⟩ := hs
    exact fin J rv q
  | next =>
    obtain ⟨σ', H', J, q⟩ := hs
    exact fin (v := V.non) (u := Value.none) J rfl q
  | brk =>
    obtain ⟨_, _, _, q⟩ := hs
    exact False.elim q
  | cont =>
    obtain ⟨_, _, _, q⟩ := hs
    exact False.elim q
theorem law_callG {mb : Str → Option Value} {k : Nat} {fa a : Addr} {fd : FuncData} {x : Str} {sp : Sp} {s : Shared} {vs : List Value} {ns : List Int} (KX : K.In s.heap) (hns : s.heap.Ns mainGlobals mg) (hb : s.heap.Ns builtinsNs mb)
    (hbb : ∀ y : Str, y ≠ ("__name__" : Str) → mb y = bootBuiltins y) (hlim : s.heap.NoLimit) (hg : s.gens = #[]) (ha : s.heap.get? a = some { cls := .type "list", data := .seq vs.toArray }) (hi : IntsAre vs ns) (hl : ns.length ≤ sizeLine)
    (hr : Room k callerA) (F : ∀ base : Heap, K.In base → base.Ns mainGlobals mg → FnOkG P w K mg base k fa fd [x] sp) (hbind : ∀ (s : Shared) (u : Value), BindsTo s fd ⟨[u], []⟩ [(x, u)])
    (hsp : ∀ H : Hp, Only H → SqL K H a (ns.map V.int) → sp [.ref a] H (fun v _ => v = .bl true) fun _ _ _ => False) :
    codeAny (model P w) callerA (.call (.ref fa) ⟨[.ref a], []⟩) (fun r s' => r = .ok (.ret (.bool true)) ∧ OldK s.heap s'.heap ∧ s'.os = s.os ∧ AllBare s'.gens) s := by
  have rv := vals_ints hi
  have lenV := IntsAre.length hi
  have core : ∀ H : Hp, Only H → SqL K H a (ns.map V.int) → HOk P w H s.heap → (∀ b : Addr, H b ≠ none → b = a) → (H a ≠ none → K.lookup a = none) →
      codeAny (model P w) callerA (.call (.ref fa) ⟨[.ref a], []⟩) (fun r s' => r = .ok (.ret (.bool true)) ∧ OldK s.heap s'.heap ∧ s'.os = s.os ∧ AllBare s'.gens) s := by
    intro H hO hS hok hA hK
    have noA : ∀ {b : Addr} {o : Obj} {es ep}, s.heap.get? b = some o → o.data = .dict es ep → H b = none := by
      intro b o es ep e d
      cases q : H b with
      | none => rfl
      | some u =>
        have hba := hA b (by rw [q]; exact fun z => nomatch z)
        subst hba
        rw [ha] at e
        cases e
        cases d
    have nsK : ∀ {b : Addr} {m : Str → Option Value}, s.heap.Ns b m → (hidT s.heap H).Ns b m := by
      rintro b m ⟨o, es, ep, e, d, r⟩
      exact ⟨o, es, ep, hidT_get e (noA e d), d, r⟩
    have hKb : K.In (hidT s.heap H) := by
      intro b o e
      refine hidT_get (KX b o e) ?_
      cases q : H b with
      | none => rfl
      | some u =>
        have hba := hA b (by rw [q]; exact fun z => nomatch z)
        subst hba
        have := hK (by rw [q]; exact fun z => nomatch z)
        rw [this] at e
        cases e
    have hM : L2.Mod K mg (hidT s.heap H) := ⟨hKb, nsK hns, ⟨mb, nsK hb, hbb⟩, by obtain ⟨mc, h1, h2⟩ := hlim; exact ⟨mc, nsK h1, h2⟩⟩
    have e0 : Env0 P w K mg (hidT s.heap H) callerA [] s H := ⟨rfl, hM, fun b o e => of_hidT e, Nat.le_of_eq (hidT_size s.heap H), trivial, fun b hb => absurd hb List.not_mem_nil, hok, AllBare.of_eq hg⟩
    refine codeAny_mono ((F _ hKb (nsK hns)).run callerA [] s H ⟨[.ref a], []⟩ [.ref a] [.ref a] (fun v _ => v = .bl true) (fun _ _ _ => False) rfl hr e0 (hbind s (.ref a)) (.cons (show L2.RelV (V.ref a) (Value.ref a) from rfl) .nil) (hsp H hO hS)) fun r s' h => ?_
    cases r with
    | error e => exact False.elim h
    | ok fl =>
      cases fl with
      | ret u =>
        obtain ⟨v, H', os, bare, un, hok', r', q⟩ := h
        subst q
        obtain rfl : u = .bool true := r'
        refine ⟨rfl, OldK.of_keep fun b o e => ?_, os, bare⟩
        cases q : H b with
        | none => exact un.keep b o e q List.not_mem_nil List.not_mem_nil
        | some u =>
          rcases hO b with z | ⟨ob, xs, z⟩
          · rw [z] at q; cases q
          · have z2 := un.frzs b ob (.lst xs) z
            obtain ⟨e1, _⟩ := hok b _ z
            obtain ⟨e2, _⟩ := hok' b _ z2
            rw [e] at e1
            cases e1
            exact e2
      | _ => exact False.elim h
  cases hk : K.lookup a with
  | none =>
    refine core (fun b => if b = a then some (.frz { cls := .type "list", data := .seq vs.toArray } (.lst (ns.map V.int))) else none) (fun b => ?_) (Or.inl (Or.inr ⟨_, if_pos rfl⟩)) (fun b u z => ?_) (fun b z => ?_) fun _ => hk
    · by_cases hb : b = a
      · exact Or.inr ⟨_, _, if_pos hb⟩
      · exact Or.inl (if_neg hb)
    · by_cases hb : b = a
      · have z' := (if_pos hb).symm.trans z
        cases z'
        subst hb
        exact ⟨ha, by rw [List.length_map]; exact hl, vs, 0, rv, ha⟩
      · have z' := (if_neg hb).symm.trans z
        cases z'
    · by_cases hb : b = a
      · exact hb
      · exact absurd (if_neg hb) z
  | some o =>
    have e := KX a o hk
    rw [ha] at e
    cases e
    refine core (fun _ => none) (fun _ => Or.inl rfl) (Or.inr ⟨_, vs.toArray, 0, hk, rfl, rfl, rfl, by rw [List.size_toArray, lenV]; exact hl, rv⟩) (fun b u z => nomatch z) (fun b z => absurd rfl z) fun z => absurd rfl z
theorem walk_ofG {l : PySem.W.OpenLaw} {n k : Nat} {q : Program} {loose : List Str} {XP : (Str → Option Value) → Heap → Prop} {YP : World → Heap → Prop} {d : DefRec} {K : Params → PySem.W.Frag} {sp : World → Sp} {x : Str} (hn : l.most = some n) (hn2 : n ≤ sizeLine) (hdf : d.params.defaults = [])
    (hr : Room k callerA) (hY : ∀ w h, YP w h → (K w.params).In h)
    (F : ∀ (w : World) (mg : Str → Option Value) (fa : Addr) (h : Heap), (K w.params).In h → h.Ns mainGlobals mg → mg d.name = some (.ref fa) → ∃ fd : FuncData, (∀ (s : Shared) (u : Value), BindsTo s fd ⟨[u], []⟩ [(x, u)]) ∧
      ∀ base : Heap, (K w.params).In base → base.Ns mainGlobals mg → FnOkG l.prog w (K w.params) mg base k fa fd [x] (sp w))
    (hsp : ∀ (w : World) (H : Hp) (a : Addr) (ns : List Int), ns.length ≤ n → Only H → SqL (K w.params) H a (ns.map V.int) → sp w [.ref a] H (fun v _ => v = .bl true) fun _ _ _ => False) : PySem.W.WalkO q loose XP YP l.row.toRowW d [] fun f vs => call f vs :=
  Att.attach_call hn hdf fun w s₀ s₁ mg mb fa o pm cd doc a vs ns G Y ho hd hcd hmg hobj hints hlen hg => by
    have KX := hY w s₁.heap Y
    obtain ⟨fd, hb, hF⟩ := F w mg fa s₁.heap KX G.T.g hmg
    exact law_callG KX G.T.g G.T.b G.T.builtins G.T.nolimit hg hobj hints (Nat.le_trans hlen hn2) hr hF hb fun H hO hS => hsp w H a ns hlen hO hS
end
/-- repr of data -/
def rReprD (K : PySem.W.Frag) : List V → Hp → VK → Prop := fun vs H Q => ∃ x d, vs = [x] ∧ Dp K H x d ∧ (x = .non ∨ ∃ a, x = .ref a) ∧ d.showable = true ∧ d.hasDict = false ∧ d.depth ≤ 20 ∧ d.shown.length ≤ sizeLine ∧ Q (.str d.shown) H
theorem cr_reprD {X : Cx} (hg : X.A.guards = some []) (hu : X.A.units + 64 < cLine) : CallR X (.builtin "repr") (rReprD X.K) := by
  intro pins s σ H vs us Q I r h
  obtain ⟨x, d, rfl, hd, hx, sh, nd, dp, sz, q⟩ := h
  cases r with
  | cons rx rr =>
    cases rr
    rcases hx with rfl | ⟨a, rfl⟩
    · cases rx
      cases hd
      exact P.repr_of_none ⟨.str _, H, I.tok _, ⟨_, rfl⟩, q⟩
    · cases rx
      obtain ⟨as, hr⟩ := Dp.reads I d _ _ hd rfl
      exact repr_of_reads' hr sh (fun z => by rw [nd] at z; cases z) hg (by omega) (fun _ _ z => z) (fun h' u tk k => ⟨.str _, H, I.kept k, ⟨_, rfl⟩, q⟩) sz
end My
set_option Elab.async false
set_option linter.all false
set_option maxRecDepth 100000
set_option maxHeartbeats 1000000
/-! ### a, *b = a list: the star stands last -/
namespace My
open PySem PySem.Spec PyProof.Rows L2 Evl
theorem paired_drop {α β : Type} {R : α → β → Prop} : ∀ (i : Nat) {xs : List α} {ys : List β}, Paired R xs ys → Paired R (xs.drop i) (ys.drop i)
  | 0, _, _, h => h
  | _ + 1, _, _, .nil => .nil
  | i + 1, _, _, .cons _ h => paired_drop i h
theorem paired_take {α β : Type} {R : α → β → Prop} : ∀ (i : Nat) {xs : List α} {ys : List β}, Paired R xs ys → Paired R (xs.take i) (ys.take i)
  | 0, _, _, _ => .nil
  | _ + 1, _, _, .nil => .nil
  | i + 1, _, _, .cons a h => .cons a (paired_take i h)
theorem paired_app {α β : Type} {R : α → β → Prop} : ∀ {xs : List α} {ys : List β} {xs2 : List α} {ys2 : List β}, Paired R xs ys → Paired R xs2 ys2 → Paired R (xs ++ xs2) (ys ++ ys2)
  | _, _, _, _, .nil, h => h
  | _, _, _, _, .cons a r, h => .cons a (paired_app r h)
theorem un_starL {prog : Program} {w : World} {A : Around} {E : Value → Shared → Prop} {s : Shared} {l : Addr} {items : Array Value} {i : Nat} {Q : List Value → Shared → Prop} (hh : A.handled = none) (hl : s.heap.IsList l items)
    (hi : i ≤ items.size) (hz : items.size ≤ sizeLine) (hQ : ∀ (h' : Heap) (tk : Nat), (∀ b o, s.heap.get? b = some o → h'.get? b = some o) →
      Q (items.toList.take i ++ [.ref h'.objs.size]) { s with heap := h'.push { cls := .type "list", data := .seq (items.toList.drop i).toArray }, toks := tk }) :
    wpAny (model prog w) A (unpackItems (.ref l) (i + 1) (some i)) Q E s := by
  have hlt : l < s.heap.objs.size := by obtain ⟨o, ho, _⟩ := hl; exact Heap.lt_size ho
  have hne : l ≠ s.heap.objs.size := Nat.ne_of_lt hlt
  unfold unpackItems notIterableAtAll
  refine wpAny_bind (wpAny_bind (wpAny_specialOf (Heap.IsList.typeIs hl) slot_list_iter.lookup (wpAny_pure ?_)))
  simp only [Bool.false_eq_true, if_false]
  refine wpAny_bind (wpAny_holding (wpAny_pyIter_list hl ?_))
  refine wpAny_bind (wpAny_holding (W.kun_draw (items := items) hne i 0 _ _ ⟨_, Heap.get?_push_size _ rfl, rfl, rfl⟩ (Heap.IsList.push hl _) (by omega) fun h' hit sb => ?_))
  have hlen : (List.take i (List.drop 0 items.toList)).length = i := by rw [List.drop_zero, List.length_take, Array.length_toList]; omega
  rw [if_neg (by rw [hlen]; omega)]
  have hit2 : h'.IsListIter s.heap.objs.size l i := by rw [Nat.zero_add] at hit; exact hit
  have hl2 : h'.IsList l items := Heap.IsList.extBut (Heap.IsList.push hl _) (Heap.SameBut.extBut sb) hne
  have sz1 : s.heap.objs.size < h'.objs.size := by obtain ⟨o, ho, _⟩ := hit2; exact Heap.lt_size ho
  refine wpAny_bind (wpAny_holding (W.kun_collect (ax := l) (Or.inr (Or.inr (Or.inl rfl))) (Walks.list (by simp [hh]) _ l hne items) (fun j u hu => by obtain ⟨⟨o, ho, hc, _⟩, _⟩ := hu; exact ⟨o, ho, hc⟩) hi ⟨hit2, hl2⟩ sz1 (Nat.lt_trans hlt sz1) (fun h2 tk k2 => ?_) hz))
  have e0 : i + 1 - 1 - i = 0 := by omega
  dsimp only
  rw [e0, if_neg (by omega), Nat.sub_zero, List.take_of_length_le (Nat.le_refl _), List.drop_of_length_le (Nat.le_refl _)]
  refine wpAny_bind (wpAny_newList (wpAny_pure ?_) (by rw [List.length_drop, Array.length_toList]; omega))
  rw [List.drop_zero, List.append_nil]
  refine hQ h2 tk fun b o e => ?_
  have lt := Heap.lt_size e
  have e1 : (s.heap.push ({ cls := .type "list_iterator", data := .fields #[.ref l, .int 0 0] } : Obj)).get? b = some o := Heap.get?_push_of_some _ e
  have hb : b ≠ s.heap.objs.size := Nat.ne_of_lt lt
  exact k2 b o hb ((sb.2 b hb).trans e1)
abbrev unstar (es : List Expr) : List Expr := es.map fun e => match e with | .Starred v _ => v | e => e
def gStar (K : PySem.W.Frag) (i : Nat) (t : TGs) : TG := fun v σ H Q => ∃ a xs, v = .ref a ∧ SqL K H a xs ∧ i ≤ xs.length ∧ ∀ p, H p = none → t (xs.take i ++ [.ref p]) σ (upd H p (.lst (xs.drop i))) Q
theorem pg_star {X : Cx} {pos : Pos} {es : List Expr} {k i : Nat} {t : TGs} (hc : X.calm = true) (h : PGs X (unstar es) t) (he : (assignEach es X.env).map (·.2) = (assignEach (unstar es) X.env).map (·.2) := by rfl)
    (hn : (assignEach es X.env).length = i + 1 := by rfl) (hst : List.findIdx? (fun x => x.1) (assignEach es X.env) = some i := by rfl) : PG X (.Tuple es k pos) (gStar X.K i t) where
  run := fun pins s σ H v u Q I r hw => by
    obtain ⟨a, xs, rfl, hq, hi, hw⟩ := hw
    cases r
    obtain ⟨its, rv, pl, hz⟩ := I.list hq
    have el : xs.length = its.length := rv.length
    rw [assign_Tuple]
    refine wpAny_bind (wpAny_standAt ?_)
    unfold unpack
    rw [hn, hst, he]
    refine wpAny_bind (wpAny_holding (un_starL (I.ok.hd hc) pl.isList (by rw [List.size_toArray, ← el]; exact hi) (by rw [List.size_toArray, ← el]; exact hz) fun h' tk k => ?_))
    have I1 := I.kept (t' := tk) k
    have hn1 : H h'.objs.size = none := I1.hok.fresh (Nat.le_refl _)
    have rv2 : Vals (xs.drop i) (its.drop i) := (paired_drop i rv)
    have rv1 : Vals (xs.take i) (its.take i) := (paired_take i rv)
    have rv3 : Vals (xs.take i ++ [V.ref h'.objs.size]) (its.take i ++ [Value.ref h'.objs.size]) := paired_app rv1 (.cons (show L2.RelV (V.ref h'.objs.size) (Value.ref h'.objs.size) from rfl) .nil)
    exact h.run pins _ σ _ _ _ Q (I1.laid (t' := tk) (a := h'.objs.size) (o := .lst (xs.drop i)) (fun b u e => Heap.get?_push_of_some _ e) (Nat.le_refl _) ⟨by rw [List.length_drop]; omega, its.drop i, 0, rv2, Heap.get?_push_size _ rfl⟩) rv3 (hw _ hn1)
end My
set_option Elab.async false
set_option linter.all false
set_option maxRecDepth 100000
set_option maxHeartbeats 1000000
/-! ### the parts of a text between blanks -/
namespace My
open PySem PySem.Spec PyProof.Rows L2 Evl
theorem spl_mem : ∀ (L acc : List Nat), (∀ p ∈ TL.spl [32] 0 acc L, (∀ c ∈ p, c ∈ acc ∨ c ∈ L) ∧ p.length ≤ acc.length + L.length) ∧ (TL.spl [32] 0 acc L) ≠ [] ∧ (TL.spl [32] 0 acc L).length ≤ L.length + 1 := by
  intro L
  induction L with
  | nil =>
    intro acc
    rw [TL.spl_nil]
    refine ⟨fun p hp => ?_, List.cons_ne_nil _ _, by simp⟩
    rw [List.mem_singleton.mp hp]
    exact ⟨fun c hc => Or.inl hc, by simp⟩
  | cons c r ih =>
    intro acc
    cases hpre : TL.pre [32] (c :: r) with
    | true =>
      rw [TL.spl_hit hpre, show [32].length - 1 = 0 from rfl]
      obtain ⟨h1, h2, h3⟩ := ih []
      refine ⟨fun p hp => ?_, List.cons_ne_nil _ _, by simp only [List.length_cons]; omega⟩
      rcases List.mem_cons.mp hp with rfl | hp
      · exact ⟨fun c hc => Or.inl hc, by omega⟩
      · obtain ⟨a, b⟩ := h1 p hp
        refine ⟨fun d hd => ?_, by simp only [List.length_cons, List.length_nil] at b ⊢; omega⟩
        rcases a d hd with z | z
        · cases z
        · exact Or.inr (.tail _ z)
    | false =>
      rw [TL.spl_miss hpre]
      obtain ⟨h1, h2, h3⟩ := ih (acc ++ [c])
      refine ⟨fun p hp => ?_, h2, by simp only [List.length_cons]; omega⟩
      obtain ⟨a, b⟩ := h1 p hp
      refine ⟨fun d hd => ?_, by simp only [List.length_cons, List.length_append, List.length_nil] at b ⊢; omega⟩
      rcases a d hd with z | z
      · rcases List.mem_append.mp z with z | z
        · exact Or.inl z
        · rw [List.mem_singleton.mp z]; exact Or.inr (.head _)
      · exact Or.inr (.tail _ z)
/-- a text that can be laid, of at most n signs -/
def Gt (n : Nat) (x : Str) : Prop := PyData.strOk x = true ∧ x.length ≤ n
theorem Gt.mono {m n : Nat} {x : Str} (h : Gt m x) (l : m ≤ n) : Gt n x := ⟨h.1, Nat.le_trans h.2 l⟩
theorem strOk_iff (x : Str) : PyData.strOk x = true ↔ ∀ c ∈ TL.tl x, c < 1114112 := by
  unfold PyData.strOk TL.tl
  rw [Array.all_eq_true_iff_forall_mem]
  simp only [decide_eq_true_eq, Array.mem_toList_iff]
theorem split_ok {x : Str} {n : Nat} (h : Gt n x) : Txt.split x blank ≠ [] ∧ (Txt.split x blank).length ≤ n + 1 ∧ ∀ p ∈ Txt.split x blank, Gt n p := by
  have e := TL.split_spl x blank (by decide +kernel) (TL.kind_ok (by decide +kernel))
  rw [show TL.tl blank = [32] by decide +kernel] at e
  obtain ⟨h1, h2, h3⟩ := spl_mem (TL.tl x) []
  rw [← e] at h1 h2 h3
  have hl := TL.len_tl x
  refine ⟨fun z => h2 (by rw [z]; rfl), by rw [List.length_map] at h3; have := h.2; omega, fun p hp => ?_⟩
  obtain ⟨a, b⟩ := h1 _ (List.mem_map_of_mem hp)
  refine ⟨(strOk_iff p).mpr fun c hc => ?_, by rw [TL.len_tl p]; have := h.2; simp only [List.length_nil] at b; omega⟩
  rcases a c hc with z | z
  · cases z
  · exact (strOk_iff x).mp h.1 c z
end My
set_option linter.all false
/-! ### coded words: the mathematics -/
namespace My
/-- what comes by adding without carrying -/
def sx (l : List Nat) : Nat := l.foldl (· ^^^ ·) 0
theorem sx_from : ∀ (l : List Nat) (a : Nat), l.foldl (· ^^^ ·) a = a ^^^ sx l
  | [], a => by show a = a ^^^ 0; rw [Nat.xor_zero]
  | b :: r, a => by
    show r.foldl (· ^^^ ·) (a ^^^ b) = a ^^^ r.foldl (· ^^^ ·) (0 ^^^ b)
    rw [sx_from r, sx_from r, Nat.zero_xor, Nat.xor_assoc]
theorem sx_cons (a : Nat) (l : List Nat) : sx (a :: l) = a ^^^ sx l := by
  show l.foldl (· ^^^ ·) (0 ^^^ a) = _
  rw [Nat.zero_xor, sx_from]
theorem sx_append (l r : List Nat) : sx (l ++ r) = sx l ^^^ sx r := by
  unfold sx
  rw [List.foldl_append, sx_from r]
  rfl
theorem sx_one (a : Nat) : sx [a] = a := by rw [sx_cons]; exact Nat.xor_zero a
/-- places flipped, one after another -/
def flip (r : Nat) (ps : List Nat) : Nat := ps.foldl (fun r p => r ^^^ 2 ^ p) r
theorem flip_append (r : Nat) (a b : List Nat) : flip r (a ++ b) = flip (flip r a) b := by unfold flip; rw [List.foldl_append]
theorem tb_flip1 (r p q : Nat) : (r ^^^ 2 ^ p).testBit q = (r.testBit q ^^ decide (p = q)) := by rw [Nat.testBit_xor, Nat.testBit_two_pow]
/-- bits up to m -/
def bs (m n : Nat) : List Nat := (List.range m).filter fun p => n.testBit p
theorem bs_succ (m n : Nat) : bs (m + 1) n = bs m n ++ (if n.testBit m then [m] else []) := by
  unfold bs
  rw [List.range_succ, List.filter_append]
  by_cases h : n.testBit m = true
  · rw [if_pos h, List.filter_cons, if_pos h]; rfl
  · rw [if_neg h, List.filter_cons, if_neg h]; rfl
theorem bs_congr {m a b : Nat} (h : ∀ q, q < m → a.testBit q = b.testBit q) : bs m a = bs m b := by
  unfold bs
  exact List.filter_congr fun q hq => h q (List.mem_range.mp hq)
def spotN (m n : Nat) : Nat := sx (bs m n)
def parB (m n : Nat) : Bool := decide ((bs m n).length % 2 = 1)
theorem spot_succ (m n : Nat) : spotN (m + 1) n = spotN m n ^^^ (if n.testBit m then m else 0) := by
  unfold spotN
  rw [bs_succ, sx_append]
  split
  · rw [sx_one]
  · rfl
theorem par_succ (m n : Nat) : parB (m + 1) n = (parB m n ^^ n.testBit m) := by
  unfold parB
  rw [bs_succ, List.length_append]
  cases h : n.testBit m with
  | true =>
    rw [if_pos rfl]
    show decide (((bs m n).length + 1) % 2 = 1) = _
    by_cases e : (bs m n).length % 2 = 1
    · rw [decide_eq_true e, decide_eq_false (by omega)]; rfl
    · rw [decide_eq_false e, decide_eq_true (by omega)]; rfl
  | false =>
    rw [if_neg (by decide)]
    show decide (((bs m n).length + 0) % 2 = 1) = _
    rw [Nat.add_zero, Bool.xor_false]
theorem flip_low {m n p : Nat} (h : m ≤ p) : bs m (n ^^^ 2 ^ p) = bs m n := bs_congr fun q hq => by
  rw [tb_flip1, decide_eq_false (by omega), Bool.xor_false]
theorem spot_flip1 {m n p : Nat} (hp : p < m) : spotN m (n ^^^ 2 ^ p) = spotN m n ^^^ p := by
  induction m with
  | zero => omega
  | succ m ih =>
    rw [spot_succ, spot_succ, tb_flip1]
    by_cases e : p = m
    · subst e
      have h : spotN p (n ^^^ 2 ^ p) = spotN p n := by unfold spotN; rw [flip_low (Nat.le_refl _)]
      rw [h, decide_eq_true rfl]
      cases n.testBit p with
      | true =>
        show spotN p n ^^^ 0 = (spotN p n ^^^ p) ^^^ p
        rw [Nat.xor_assoc, Nat.xor_self]
      | false =>
        show spotN p n ^^^ p = (spotN p n ^^^ 0) ^^^ p
        rw [Nat.xor_zero]
    · rw [ih (by omega), decide_eq_false e, Bool.xor_false, Nat.xor_assoc, Nat.xor_assoc, Nat.xor_comm p]
theorem par_flip1 {m n p : Nat} (hp : p < m) : parB m (n ^^^ 2 ^ p) = !parB m n := by
  induction m with
  | zero => omega
  | succ m ih =>
    rw [par_succ, par_succ, tb_flip1]
    by_cases e : p = m
    · subst e
      have h : parB p (n ^^^ 2 ^ p) = parB p n := by unfold parB; rw [flip_low (Nat.le_refl _)]
      rw [h, decide_eq_true rfl]
      cases parB p n <;> cases n.testBit p <;> rfl
    · rw [ih (by omega), decide_eq_false e, Bool.xor_false]
      cases parB m n <;> cases n.testBit m <;> rfl
theorem spot_flip {m : Nat} : ∀ {ps : List Nat} {n : Nat}, (∀ p ∈ ps, p < m) → spotN m (flip n ps) = spotN m n ^^^ sx ps
  | [], n, _ => by show spotN m n = spotN m n ^^^ 0; rw [Nat.xor_zero]
  | p :: r, n, h => by
    show spotN m (flip (n ^^^ 2 ^ p) r) = _
    rw [spot_flip (fun q hq => h q (List.mem_cons_of_mem _ hq)), spot_flip1 (h p List.mem_cons_self), sx_cons, Nat.xor_assoc]
theorem par_flip {m : Nat} : ∀ {ps : List Nat} {n : Nat}, (∀ p ∈ ps, p < m) → parB m (flip n ps) = (parB m n ^^ decide (ps.length % 2 = 1))
  | [], n, _ => by show parB m n = _; simp
  | p :: r, n, h => by
    show parB m (flip (n ^^^ 2 ^ p) r) = _
    rw [par_flip (fun q hq => h q (List.mem_cons_of_mem _ hq)), par_flip1 (h p List.mem_cons_self), List.length_cons]
    by_cases e : r.length % 2 = 1
    · rw [decide_eq_true e, decide_eq_false (by omega)]; cases parB m n <;> rfl
    · rw [decide_eq_false e, decide_eq_true (by omega)]; cases parB m n <;> rfl
theorem bs_zero (m : Nat) : bs m 0 = [] := by
  unfold bs
  rw [List.filter_eq_nil_iff]
  intro q _
  simp
theorem spot_zero (m : Nat) : spotN m 0 = 0 := by unfold spotN; rw [bs_zero]; rfl
theorem par_zero (m : Nat) : parB m 0 = false := by unfold parB; rw [bs_zero]; rfl
/-! sums of powers -/
def rowOf (ps : List Nat) : Nat := (ps.map (2 ^ ·)).sum
theorem xor_mod2 (r s : Nat) : (r ^^^ s) % 2 = (r + s) % 2 := by
  have h : (r ^^^ s).testBit 0 = (r.testBit 0 ^^ s.testBit 0) := Nat.testBit_xor ..
  rw [Nat.testBit_zero, Nat.testBit_zero, Nat.testBit_zero] at h
  by_cases a : r % 2 = 1 <;> by_cases b : s % 2 = 1 <;> by_cases c : (r ^^^ s) % 2 = 1 <;> simp [a, b, c] at h <;> omega
theorem xor_add : ∀ (p r : Nat), r.testBit p = false → r ^^^ 2 ^ p = r + 2 ^ p
  | 0, r, h => by
    have h1 : r % 2 = 0 := by
      rw [Nat.testBit_zero] at h
      have := of_decide_eq_false h
      omega
    have a := Nat.xor_div_two (a := r) (b := 1)
    have b := xor_mod2 r 1
    have c : r / 2 ^^^ 1 / 2 = r / 2 := by
      show r / 2 ^^^ 0 = r / 2
      rw [Nat.xor_zero]
    rw [c] at a
    show r ^^^ 1 = r + 1
    omega
  | p + 1, r, h => by
    rw [Nat.testBit_succ] at h
    have ih := xor_add p (r / 2) h
    have a := Nat.xor_div_two (a := r) (b := 2 ^ (p + 1))
    have b := xor_mod2 r (2 ^ (p + 1))
    have e : 2 ^ (p + 1) / 2 = 2 ^ p := by rw [Nat.pow_succ]; omega
    have e2 : 2 ^ (p + 1) = 2 * 2 ^ p := by rw [Nat.pow_succ]; omega
    rw [e, ih] at a
    omega
theorem flip_sum : ∀ {ps : List Nat} {r : Nat}, ps.Nodup → (∀ p ∈ ps, r.testBit p = false) → flip r ps = r + rowOf ps
  | [], r, _, _ => rfl
  | p :: ps, r, nd, h => by
    have hn := List.nodup_cons.mp nd
    show flip (r ^^^ 2 ^ p) ps = r + (2 ^ p + rowOf ps)
    rw [flip_sum hn.2, xor_add p r (h p List.mem_cons_self), Nat.add_assoc]
    intro q hq
    rw [tb_flip1, h q (List.mem_cons_of_mem _ hq), decide_eq_false (by rintro rfl; exact hn.1 hq)]
    rfl
theorem flip_row {ps : List Nat} (nd : ps.Nodup) : flip 0 ps = rowOf ps := by
  rw [flip_sum nd (fun p _ => by simp), Nat.zero_add]
theorem tb_flip_nd : ∀ {ps : List Nat} {r q : Nat}, ps.Nodup → (flip r ps).testBit q = (r.testBit q ^^ decide (q ∈ ps))
  | [], r, q, _ => by show r.testBit q = _; simp
  | p :: ps, r, q, nd => by
    have hn := List.nodup_cons.mp nd
    show (flip (r ^^^ 2 ^ p) ps).testBit q = _
    rw [tb_flip_nd hn.2, tb_flip1]
    by_cases e : p = q
    · subst e
      rw [decide_eq_true rfl, decide_eq_false hn.1, decide_eq_true List.mem_cons_self]
      cases r.testBit p <;> rfl
    · rw [decide_eq_false e]
      have : (q ∈ p :: ps) ↔ q ∈ ps := by
        rw [List.mem_cons]
        exact ⟨fun h => h.elim (fun z => absurd z.symm e) id, Or.inr⟩
      rw [Bool.xor_false, decide_eq_decide.mpr this]
theorem bs_mem {m n q : Nat} : q ∈ bs m n ↔ q < m ∧ n.testBit q = true := by
  unfold bs
  rw [List.mem_filter, List.mem_range]
theorem bs_nodup (m n : Nat) : (bs m n).Nodup := List.Nodup.sublist List.filter_sublist List.nodup_range
theorem tb_row {ps : List Nat} {q : Nat} (nd : ps.Nodup) : (rowOf ps).testBit q = decide (q ∈ ps) := by
  rw [← flip_row nd, tb_flip_nd nd]
  simp
theorem row_bs {m n : Nat} (h : n < 2 ^ m) : rowOf (bs m n) = n := by
  refine Nat.eq_of_testBit_eq fun q => ?_
  rw [tb_row (bs_nodup m n)]
  by_cases hq : q < m
  · cases e : n.testBit q with
    | true => exact decide_eq_true (bs_mem.mpr ⟨hq, e⟩)
    | false => exact decide_eq_false fun z => by rw [(bs_mem.mp z).2] at e; cases e
  · rw [Nat.testBit_lt_two_pow (Nat.lt_of_lt_of_le h (Nat.pow_le_pow_right (by decide) (by omega)))]
    exact decide_eq_false fun z => hq (bs_mem.mp z).1
theorem row_lt {m : Nat} {ps : List Nat} (nd : ps.Nodup) (h : ∀ p ∈ ps, p < m) : rowOf ps < 2 ^ m := by
  refine Nat.lt_pow_two_of_testBit _ fun q hq => ?_
  rw [tb_row nd]
  exact decide_eq_false fun z => by have := h q z; omega
theorem bs_more {m k n : Nat} (h : n < 2 ^ m) (hk : m ≤ k) : bs k n = bs m n := by
  induction k with
  | zero => have : m = 0 := by omega
            subst this; rfl
  | succ k ih =>
    by_cases e : m = k + 1
    · rw [e]
    · rw [bs_succ, ih (by omega), Nat.testBit_lt_two_pow (Nat.lt_of_lt_of_le h (Nat.pow_le_pow_right (by decide) (by omega)))]
      simp
theorem bs_any {m k n : Nat} (h : n < 2 ^ m) (hk : n < 2 ^ k) : bs k n = bs m n := by
  by_cases e : m ≤ k
  · exact bs_more h e
  · exact (bs_more hk (by omega)).symm
/-- the digits of the sum of powers -/
theorem bs_filter {m : Nat} (f : Nat → Bool) : bs m (rowOf ((List.range m).filter f)) = (List.range m).filter f := by
  unfold bs
  refine List.filter_congr fun q hq => ?_
  rw [tb_row (List.Nodup.sublist List.filter_sublist List.nodup_range)]
  cases e : f q with
  | true => exact decide_eq_true (List.mem_filter.mpr ⟨hq, e⟩)
  | false => exact decide_eq_false fun z => by rw [(List.mem_filter.mp z).2] at e; cases e
theorem xor0 {a b : Nat} (h : a ^^^ b = 0) : a = b := by
  have e : a = (a ^^^ b) ^^^ b := by rw [Nat.xor_assoc, Nat.xor_self, Nat.xor_zero]
  rw [h, Nat.zero_xor] at e
  exact e
end My
set_option Elab.async false
set_option linter.all false
set_option maxRecDepth 100000
set_option maxHeartbeats 400000
/-! ### coded words: places, data places, the word of a value -/
namespace My
open PySem PySem.Spec PyProof.Rows L2 Evl
def rOf (b : Nat) : Nat := if b ≤ 4 then 3 else if b ≤ 11 then 4 else if b ≤ 26 then 5 else 6
def pl (b : Nat) : Nat := b + rOf b + 1
theorem rOf_le (b : Nat) : rOf b ≤ 6 := by unfold rOf; split <;> (try split) <;> (try split) <;> omega
theorem pow_lt {b t : Nat} (h4 : 4 ≤ b) (h32 : b ≤ 32) (ht : t ≤ 6) : ((1 : Int) * 2 ^ ((t : Int)).toNat < (b : Int) + (t : Int) + 1) ↔ t < rOf b := by
  have e : ((t : Int)).toNat = t := Int.toNat_natCast t
  rw [e]
  have h : t = 0 ∨ t = 1 ∨ t = 2 ∨ t = 3 ∨ t = 4 ∨ t = 5 ∨ t = 6 := by omega
  unfold rOf
  rcases h with rfl | rfl | rfl | rfl | rfl | rfl | rfl <;> (split <;> (try split) <;> (try split) <;> simp <;> omega)
def isPw (i : Nat) : Bool := i == 0 || i == 1 || i == 2 || i == 4 || i == 8 || i == 16 || i == 32
def ckN (b : Nat) : List Nat := (List.range (pl b)).filter isPw
def dtN (b : Nat) : List Nat := (List.range (pl b)).filter (fun i => !isPw i)
def iL (l : List Nat) : List Int := l.map fun (n : Nat) => (n : Int)
theorem pl_le {b : Nat} (h32 : b ≤ 32) : pl b ≤ 39 := by
  have := rOf_le b
  unfold pl
  omega
theorem pw_and : ∀ i, i < 40 → (decide (V.int (Builtin.bitAnd ((i : Nat) : Int) ((i : Int) - 1)) = V.int 0)) = isPw i := by decide +kernel
def lcN (b : Nat) : List Nat := 0 :: (List.range (rOf b)).map (2 ^ ·)
theorem lc_ck : ∀ b, b < 33 → 4 ≤ b → lcN b = ckN b := by decide +kernel
theorem ck_mem : ∀ b, b < 33 → 4 ≤ b → ∀ i, i < pl b → (decide ((i : Int) ∈ iL (ckN b))) = isPw i := by decide +kernel
theorem ck_len : ∀ b, b < 33 → 4 ≤ b → b + (ckN b).length = pl b := by decide +kernel
theorem dt_by (b : Nat) (h4 : 4 ≤ b) (h32 : b ≤ 32) : given (pl b) (fun i => !decide ((i : Int) ∈ iL (ckN b))) (fun i => V.int (i : Int)) = (iL (dtN b)).map V.int := by
  rw [given_eq (f' := fun i => !isPw i) (g' := fun i => V.int (i : Int)) (fun i hi => by rw [ck_mem b (by omega) h4 i hi]) (fun _ _ _ => rfl), given_ints]
  rfl

/-! ### data places by their numbers -/
def dt (b i : Nat) : Nat := (dtN b).getD i 0
theorem dt_len : ∀ b, b < 33 → 4 ≤ b → (dtN b).length = b := by decide +kernel
theorem dt_nodup (b : Nat) : (dtN b).Nodup := List.Nodup.sublist List.filter_sublist List.nodup_range
theorem ck_nodup (b : Nat) : (ckN b).Nodup := List.Nodup.sublist List.filter_sublist List.nodup_range
theorem dt_at {b i : Nat} (h4 : 4 ≤ b) (h32 : b ≤ 32) (h : i < b) : (dtN b)[i]? = some (dt b i) := by
  have hl := dt_len b (by omega) h4
  unfold dt
  rw [List.getD_eq_getElem?_getD, List.getElem?_eq_getElem (by omega)]
  rfl
theorem dt_mem {b i : Nat} (h4 : 4 ≤ b) (h32 : b ≤ 32) (h : i < b) : dt b i < pl b ∧ isPw (dt b i) = false := by
  have hm := List.mem_of_getElem? (dt_at h4 h32 h)
  unfold dtN at hm
  have hm := List.mem_filter.mp hm
  exact ⟨List.mem_range.mp hm.1, by have := hm.2; simpa using this⟩
theorem dt_inj {b i j : Nat} (h4 : 4 ≤ b) (h32 : b ≤ 32) (hi : i < b) (hj : j < b) (e : dt b i = dt b j) : i = j :=
  nd_ix (dt_nodup b) (dt_at h4 h32 hi) (by rw [e]; exact dt_at h4 h32 hj)
def onesN (b v : Nat) : List Nat := (bs b v).map (dt b)
theorem map_nodup {α β : Type} {f : α → β} : ∀ {l : List α}, l.Nodup → (∀ a ∈ l, ∀ c ∈ l, f a = f c → a = c) → (l.map f).Nodup
  | [], _, _ => List.nodup_nil
  | a :: r, nd, h => by
    have hn := List.nodup_cons.mp nd
    refine List.nodup_cons.mpr ⟨fun z => ?_, map_nodup hn.2 fun x hx y hy => h x (List.mem_cons_of_mem _ hx) y (List.mem_cons_of_mem _ hy)⟩
    obtain ⟨c, hc, e⟩ := List.mem_map.mp z
    have := h c (List.mem_cons_of_mem _ hc) a List.mem_cons_self e
    subst this
    exact hn.1 hc
theorem ones_nodup {b k v : Nat} (h4 : 4 ≤ b) (h32 : b ≤ 32) (hk : k ≤ b) : ((bs k v).map (dt b)).Nodup :=
  map_nodup (bs_nodup k v) fun x hx y hy e => dt_inj h4 h32 (by have := (bs_mem.mp hx).1; omega) (by have := (bs_mem.mp hy).1; omega) e
theorem ones_lt {b k v : Nat} (h4 : 4 ≤ b) (h32 : b ≤ 32) (hk : k ≤ b) : ∀ p ∈ (bs k v).map (dt b), p < pl b ∧ isPw p = false := fun p hp => by
  obtain ⟨i, hi, rfl⟩ := List.mem_map.mp hp
  exact dt_mem h4 h32 (by have := (bs_mem.mp hi).1; omega)
def cod0 (b v : Nat) : Nat := flip 0 (onesN b v)
def cksN (b s : Nat) : List Nat := (ckN b).filter fun p => (s &&& p) != 0
def cod1 (b v : Nat) : Nat := flip (cod0 b v) (cksN b (spotN (pl b) (cod0 b v)))
def cod (b v : Nat) : Nat := flip (cod1 b v) (if parB (pl b) (cod1 b v) then [0] else [])
theorem cks_lt (b s : Nat) : ∀ p ∈ cksN b s, p < pl b ∧ isPw p = true := fun p hp => by
  unfold cksN ckN at hp
  have h := List.mem_filter.mp (List.mem_filter.mp hp).1
  exact ⟨List.mem_range.mp h.1, h.2⟩
theorem cks_nodup (b s : Nat) : (cksN b s).Nodup := List.Nodup.sublist List.filter_sublist (ck_nodup b)
theorem cks_pos (b s : Nat) : 0 ∉ cksN b s := fun h => by
  unfold cksN at h
  have h := (List.mem_filter.mp h).2
  simp at h
/-- the check places of a spot add up to it -/
theorem cks_sx : ∀ r, r < 7 → 3 ≤ r → ∀ s, s < 2 ^ r → sx ((0 :: (List.range r).map (2 ^ ·)).filter fun p => (s &&& p) != 0) = s := by decide +kernel
theorem pl_pow {b : Nat} (h4 : 4 ≤ b) (h32 : b ≤ 32) : pl b ≤ 2 ^ rOf b := by
  have h : ∀ b, b < 33 → 4 ≤ b → pl b ≤ 2 ^ rOf b := by decide +kernel
  exact h b (by omega) h4
theorem sx_lt {r : Nat} : ∀ {l : List Nat}, (∀ p ∈ l, p < 2 ^ r) → sx l < 2 ^ r
  | [], _ => Nat.two_pow_pos r
  | a :: l, h => by
    rw [sx_cons]
    exact Nat.xor_lt_two_pow (h a List.mem_cons_self) (sx_lt fun p hp => h p (List.mem_cons_of_mem _ hp))
theorem spot_lt {b n : Nat} (h4 : 4 ≤ b) (h32 : b ≤ 32) : spotN (pl b) n < 2 ^ rOf b := sx_lt fun p hp => Nat.lt_of_lt_of_le (bs_mem.mp hp).1 (pl_pow h4 h32)
theorem cks_spot {b s : Nat} (h4 : 4 ≤ b) (h32 : b ≤ 32) (hs : s < 2 ^ rOf b) : sx (cksN b s) = s := by
  unfold cksN
  rw [← lc_ck b (by omega) h4]
  have h3 : 3 ≤ rOf b := by unfold rOf; split <;> (try split) <;> (try split) <;> omega
  exact cks_sx (rOf b) (by have := rOf_le b; omega) h3 s hs
theorem flip_lt {m : Nat} : ∀ {ps : List Nat} {n : Nat}, n < 2 ^ m → (∀ p ∈ ps, p < m) → flip n ps < 2 ^ m
  | [], _, h, _ => h
  | p :: r, n, h, hp => flip_lt (ps := r) (Nat.xor_lt_two_pow h (Nat.pow_lt_pow_right (by decide) (hp p List.mem_cons_self))) fun q hq => hp q (List.mem_cons_of_mem _ hq)
theorem pl_pos {b : Nat} : 0 < pl b := by unfold pl; omega
theorem or_xor {r p : Nat} (h : r.testBit p = false) : r ||| 2 ^ p = r ^^^ 2 ^ p := by
  refine Nat.eq_of_testBit_eq fun q => ?_
  rw [Nat.testBit_or, Nat.testBit_xor, Nat.testBit_two_pow]
  by_cases e : p = q
  · subst e
    rw [h, decide_eq_true rfl]
    rfl
  · rw [decide_eq_false e]
    cases r.testBit q <;> rfl
section
variable {b v : Nat} (h4 : 4 ≤ b) (h32 : b ≤ 32)
include h4 h32
theorem cod0_lt : cod0 b v < 2 ^ pl b := flip_lt (Nat.two_pow_pos _) fun p hp => (ones_lt h4 h32 (Nat.le_refl _) p hp).1
theorem cod1_lt : cod1 b v < 2 ^ pl b := flip_lt (cod0_lt h4 h32) fun p hp => (cks_lt _ _ p hp).1
theorem cod_lt : cod b v < 2 ^ pl b := flip_lt (cod1_lt h4 h32) fun p hp => by
  split at hp
  · rw [List.mem_singleton.mp hp]; exact pl_pos
  · cases hp
theorem cod1_spot : spotN (pl b) (cod1 b v) = 0 := by
  unfold cod1
  rw [spot_flip fun p hp => (cks_lt _ _ p hp).1, cks_spot h4 h32 (spot_lt h4 h32), Nat.xor_self]
theorem cod_spot : spotN (pl b) (cod b v) = 0 := by
  unfold cod
  rw [spot_flip, cod1_spot h4 h32]
  · split <;> rfl
  · intro p hp
    split at hp
    · rw [List.mem_singleton.mp hp]; exact pl_pos
    · cases hp
theorem cod_par : parB (pl b) (cod b v) = false := by
  unfold cod
  rw [par_flip]
  · cases parB (pl b) (cod1 b v) <;> rfl
  · intro p hp
    split at hp
    · rw [List.mem_singleton.mp hp]; exact pl_pos
    · cases hp
theorem cod1_bit0 : (cod1 b v).testBit 0 = false := by
  unfold cod1 cod0
  rw [tb_flip_nd (cks_nodup _ _), tb_flip_nd (show (onesN b v).Nodup from ones_nodup h4 h32 (Nat.le_refl _)), decide_eq_false (cks_pos _ _), decide_eq_false]
  · simp
  · intro z
    have := (ones_lt h4 h32 (Nat.le_refl _) 0 z).2
    cases this
/-- the word's end: the parity into the place 0 -/
theorem cod_end : cod1 b v ||| ((bs 40 (cod1 b v)).length &&& 1) = cod b v := by
  have hl : bs 40 (cod1 b v) = bs (pl b) (cod1 b v) := bs_more (cod1_lt h4 h32) (by have := pl_le h32; omega)
  rw [hl, Nat.and_one_is_mod]
  unfold cod parB
  rcases Nat.mod_two_eq_zero_or_one (bs (pl b) (cod1 b v)).length with h | h
  · rw [h]
    show cod1 b v ||| 0 = cod1 b v
    exact Nat.or_zero _
  · rw [h]
    show cod1 b v ||| 2 ^ 0 = cod1 b v ^^^ 2 ^ 0
    exact or_xor (cod1_bit0 h4 h32)
/-- the data places of the word -/
theorem cod_data {i : Nat} (hi : i < b) : (cod b v).testBit (dt b i) = v.testBit i := by
  have hd := dt_mem h4 h32 hi
  have hn : (if parB (pl b) (cod1 b v) then [0] else []).Nodup := by split <;> simp
  unfold cod
  rw [tb_flip_nd hn]
  unfold cod1 cod0
  rw [tb_flip_nd (cks_nodup _ _), tb_flip_nd (show (onesN b v).Nodup from ones_nodup h4 h32 (Nat.le_refl _))]
  have a1 : dt b i ∉ (if parB (pl b) (cod1 b v) then [0] else []) := by
    intro z
    split at z
    · rw [List.mem_singleton.mp z] at hd; exact Bool.noConfusion hd.2
    · cases z
  have a2 : dt b i ∉ cksN b (spotN (pl b) (flip 0 (onesN b v))) := fun z => by rw [(cks_lt _ _ _ z).2] at hd; exact Bool.noConfusion hd.2
  unfold cod1 cod0 at a1
  rw [decide_eq_false a1, decide_eq_false a2]
  have a3 : (dt b i ∈ onesN b v) ↔ v.testBit i = true := by
    constructor
    · intro z
      obtain ⟨j, hj, e⟩ := List.mem_map.mp z
      have hj := bs_mem.mp hj
      have := dt_inj h4 h32 hj.1 hi e
      subst this
      exact hj.2
    · exact fun z => List.mem_map.mpr ⟨i, bs_mem.mpr ⟨hi, z⟩, rfl⟩

  cases e : v.testBit i with
  | true => rw [decide_eq_true (a3.mpr e)]; simp
  | false => rw [decide_eq_false (fun z => by rw [a3.mp z] at e; cases e)]; simp
end
def valN (b n : Nat) : Nat := rowOf ((List.range b).filter fun i => n.testBit (dt b i))
theorem val_cod {b v : Nat} (h4 : 4 ≤ b) (h32 : b ≤ 32) (hv : v < 2 ^ b) : valN b (cod b v) = v := by
  unfold valN
  rw [List.filter_congr (q := fun i => v.testBit i) fun i hi => cod_data h4 h32 (List.mem_range.mp hi)]
  exact row_bs hv
/-! ### promises -/
def spPlaces : Sp := fun vs H Q _ => ∃ b : Nat, vs = [.int (b : Int)] ∧ 4 ≤ b ∧ b ≤ 32 ∧ ∀ H', Ex H H' → Q (.int ((pl b : Nat) : Int)) H'
theorem SpPlaces {H : Hp} {b : Nat} (h4 : 4 ≤ b) (h32 : b ≤ 32) : SpV spPlaces ([.int (b : Int)] ++ []) H (.int ((pl b : Nat) : Int)) := fun H1 e Q q E => ⟨b, rfl, h4, h32, q⟩
def spList (f : Nat → List Nat) : Sp := fun vs H Q _ => ∃ b : Nat, vs = [.int (b : Int)] ∧ 4 ≤ b ∧ b ≤ 32 ∧ ∀ p H', H p = none → Ex H H' → H' p = some (.lst ((iL (f b)).map V.int)) → Q (.ref p) H'
theorem SpList {f : Nat → List Nat} {H : Hp} {b : Nat} (h4 : 4 ≤ b) (h32 : b ≤ 32) : SpL (spList f) ([.int (b : Int)] ++ []) H ((iL (f b)).map V.int) := fun H1 e Q q E => ⟨b, rfl, h4, h32, q⟩

def spDiff : Sp := fun vs H Q _ => ∃ a c : Nat, vs = [.int (a : Int), .int (c : Int)] ∧ a < 2 ^ 40 ∧ c < 2 ^ 40 ∧ ∀ p H', H p = none → Ex H H' → H' p = some (.lst ((iL (bs 40 (a ^^^ c))).map V.int)) → Q (.ref p) H'
theorem SpDiff {H : Hp} {a c : Nat} (ha : a < 2 ^ 40) (hc : c < 2 ^ 40) : SpL spDiff ([.int (a : Int), .int (c : Int)] ++ []) H ((iL (bs 40 (a ^^^ c))).map V.int) := fun H1 e Q q E => ⟨a, c, rfl, ha, hc, q⟩
def spOnes : Sp := fun vs H Q _ => ∃ n : Nat, vs = [.int (n : Int)] ∧ n < 2 ^ 40 ∧ ∀ H', Ex H H' → Q (.int (((bs 40 n).length : Nat) : Int)) H'
theorem SpOnes {H : Hp} {n : Nat} (hn : n < 2 ^ 40) : SpV spOnes ([.int (n : Int)] ++ []) H (.int (((bs 40 n).length : Nat) : Int)) := fun H1 e Q q E => ⟨n, rfl, hn, q⟩
def spSpot : Sp := fun vs H Q _ => ∃ b n : Nat, vs = [.int (b : Int), .int (n : Int)] ∧ 4 ≤ b ∧ b ≤ 32 ∧ n < 2 ^ 40 ∧ ∀ H', Ex H H' → Q (.int ((spotN (pl b) n : Nat) : Int)) H'
theorem SpSpot {H : Hp} {b n : Nat} (h4 : 4 ≤ b) (h32 : b ≤ 32) (hn : n < 2 ^ 40) : SpV spSpot ([.int (b : Int), .int (n : Int)] ++ []) H (.int ((spotN (pl b) n : Nat) : Int)) := fun H1 e Q q E => ⟨b, n, rfl, h4, h32, hn, q⟩
def spFlip (K : PySem.W.Frag) : Sp := fun vs H Q _ => ∃ (n : Nat) (a : Addr) (ps : List Nat), vs = [.int (n : Int), .ref a] ∧ SqL K H a ((iL ps).map V.int) ∧ (∀ p ∈ ps, p < 64) ∧ ∀ H', Ex H H' → Q (.int ((flip n ps : Nat) : Int)) H'
theorem SpFlip {K : PySem.W.Frag} {H : Hp} {n : Nat} {a : Addr} {ps : List Nat} (h : SqL K H a ((iL ps).map V.int)) (hp : ∀ p ∈ ps, p < 64) : SpV (spFlip K) ([.int (n : Int), .ref a] ++ []) H (.int ((flip n ps : Nat) : Int)) := fun H1 e Q q E => ⟨n, a, ps, rfl, ex_l e h, hp, q⟩
def spCod : Sp := fun vs H Q _ => ∃ b v : Nat, vs = [.int (b : Int), .int (v : Int)] ∧ 4 ≤ b ∧ b ≤ 32 ∧ v < 2 ^ b ∧ ∀ H', Ex H H' → Q (.int ((cod b v : Nat) : Int)) H'
theorem SpCod {H : Hp} {b v : Nat} (h4 : 4 ≤ b) (h32 : b ≤ 32) (hn : v < 2 ^ b) : SpV spCod ([.int (b : Int), .int (v : Int)] ++ []) H (.int ((cod b v : Nat) : Int)) := fun H1 e Q q E => ⟨b, v, rfl, h4, h32, hn, q⟩
def spVal : Sp := fun vs H Q _ => ∃ b n : Nat, vs = [.int (b : Int), .int (n : Int)] ∧ 4 ≤ b ∧ b ≤ 32 ∧ ∀ H', Ex H H' → Q (.int ((valN b n : Nat) : Int)) H'
theorem SpVal {H : Hp} {b n : Nat} (h4 : 4 ≤ b) (h32 : b ≤ 32) : SpV spVal ([.int (b : Int), .int (n : Int)] ++ []) H (.int ((valN b n : Nat) : Int)) := fun H1 e Q q E => ⟨b, n, rfl, h4, h32, q⟩
/-- the state of a row -/
def stV (b n : Nat) : List V := if parB (pl b) n then (if spotN (pl b) n < pl b then [.str "one", .int ((spotN (pl b) n : Nat) : Int)] else [.str "more", .non]) else (if spotN (pl b) n = 0 then [.str "clean", .non] else [.str "more", .non])
def spState : Sp := fun vs H Q _ => ∃ b n : Nat, vs = [.int (b : Int), .int (n : Int)] ∧ 4 ≤ b ∧ b ≤ 32 ∧ n < 2 ^ pl b ∧ ∀ p H', H p = none → Ex H H' → H' p = some (.tup (stV b n)) → Q (.ref p) H'
def SpU (sp : Sp) (vs : List V) (H : Hp) (xs : List V) : Prop := ∀ H1, Ex H H1 → ∀ Q : VK, (∀ p H2, H1 p = none → Ex H1 H2 → H2 p = some (.tup xs) → Q (.ref p) H2) → ∀ E : XK, sp vs H1 Q E
theorem eu_call {σ : L2.St} {H : Hp} {sp : Sp} {dvs vs xs : List V} {E : XK} {ta : TA} (h : EvA ta σ H vs) (hs : SpU sp (vs ++ dvs) H xs) : EvU (tCall sp dvs E ta) σ H xs := fun H1 e Q q =>
  h H1 e _ fun H2 e2 => hs H2 (e.trans e2) Q (fun p H3 hp e3 h3 => q p H3 (fresh_back e2 hp) (e2.trans e3) h3) E
theorem SpState {H : Hp} {b n : Nat} (h4 : 4 ≤ b) (h32 : b ≤ 32) (hn : n < 2 ^ pl b) : SpU spState ([.int (b : Int), .int (n : Int)] ++ []) H (stV b n) := fun H1 e Q q E => ⟨b, n, rfl, h4, h32, hn, q⟩
theorem eu_ite {σ : L2.St} {H : Hp} {t : TT} {ta tb : TE} {b : Bool} {xs ys : List V} (h : EvT t σ H b) (h1 : EvU ta σ H xs) (h2 : EvU tb σ H ys) : EvU (tIf t ta tb) σ H (if b then xs else ys) := fun H1 e Q q => h H1 e _ fun H2 e2 => by
  cases b with
  | true => exact iteT (h1 H2 (e.trans e2) Q fun p H3 np e3 hp => q p H3 (fresh_back e2 np) (e2.trans e3) hp)
  | false => exact iteF (h2 H2 (e.trans e2) Q fun p H3 np e3 hp => q p H3 (fresh_back e2 np) (e2.trans e3) hp)
theorem eu_is {σ : L2.St} {H : Hp} {te : TE} {xs ys : List V} (h : EvU te σ H xs) (e : xs = ys) : EvU te σ H ys := by
  rw [← e]
  exact h
/-- a call whose second argument is a list made on the spot -/
theorem ev_callL2 {σ : L2.St} {H : Hp} {sp : Sp} {dvs ys : List V} {E : XK} {ta tb : TE} {x z : V} (ha : Ev ta σ H x) (hb : EvL tb σ H ys) (hs : ∀ p H1, Ex H H1 → H1 p = some (.lst ys) → SpV sp ([x, .ref p] ++ dvs) H1 z) : Ev (tCall sp dvs E (tCons ta (tCons tb tNil))) σ H z := fun H1 e Q q =>
  ha H1 e _ fun H2 e2 => hb H2 (e.trans e2) _ fun p H3 np e3 hp => hs p H3 ((e.trans e2).trans e3) hp H3 (Ex.refl _) Q (fun H4 e4 => q H4 ((e2.trans e3).trans e4)) E
theorem ev_callL1 {σ : L2.St} {H : Hp} {sp : Sp} {dvs ys : List V} {E : XK} {tb : TE} {z : V} (hb : EvL tb σ H ys) (hs : ∀ p H1, Ex H H1 → H1 p = some (.lst ys) → SpV sp ([.ref p] ++ dvs) H1 z) : Ev (tCall sp dvs E (tCons tb tNil)) σ H z := fun H1 e Q q =>
  hb H1 e _ fun p H3 np e3 hp => hs p H3 (e.trans e3) hp H3 (Ex.refl _) Q (fun H4 e4 => q H4 (e3.trans e4)) E
theorem iL_at {l : List Nat} {i : Nat} {x : V} (h : ((iL l).map V.int)[i]? = some x) : ∃ n, l[i]? = some n ∧ x = .int (n : Int) := by
  obtain ⟨k, hk, rfl⟩ := int_at h
  unfold iL at hk
  rw [List.getElem?_map] at hk
  cases e : l[i]? with
  | none => rw [e] at hk; cases hk
  | some n => rw [e] at hk; exact ⟨n, rfl, by rw [← Option.some.inj hk]⟩
theorem at_iL {l : List Nat} {i n : Nat} (h : l[i]? = some n) : ((iL l).map V.int)[i]? = some (.int (n : Int)) := by
  unfold iL
  rw [List.getElem?_map, List.getElem?_map, h]
  rfl
theorem iL_len (l : List Nat) : ((iL l).map V.int).length = l.length := by unfold iL; rw [List.length_map, List.length_map]
theorem iL_app (l r : List Nat) : (iL (l ++ r)).map V.int = (iL l).map V.int ++ (iL r).map V.int := by unfold iL; rw [List.map_append, List.map_append]
theorem given_iL (n : Nat) (f : Nat → Bool) : given n f (fun i => V.int ((i : Nat) : Int)) = (iL ((List.range n).filter f)).map V.int := given_ints n f _
theorem mem_iL {l : List Nat} {n : Nat} : ((n : Int) ∈ iL l) ↔ n ∈ l := by
  unfold iL
  rw [List.mem_map]
  constructor
  · rintro ⟨m, hm, e⟩
    have : m = n := by omega
    exact this ▸ hm
  · exact fun h => ⟨n, h, rfl⟩
theorem sum_iL : ∀ l : List Nat, (iL l).sum = ((l.sum : Nat) : Int)
  | [] => rfl
  | n :: r => by
    show ((n : Int) :: iL r).sum = _
    rw [List.sum_cons, sum_iL r, List.sum_cons]
    omega
/-- [e for place in list if t], the list's items known as numbers -/
theorem el_lcL' {K : PySem.W.Frag} {σ : L2.St} {H : Hp} {tl te : TE} {tt : TT} {j : Nat} {vs : List Nat} {l : List Nat} (f : Nat → Bool) (g : Nat → Nat) (h : EvL tl σ H ((iL l).map V.int)) (hz : l.length ≤ 40000) (hw : ∀ x, wipe ((wipe σ vs).set j (some x)) vs = wipe σ vs)
    (ht : ∀ (m : Nat), m ∈ l → ∀ H1, Ex H H1 → EvT tt ((wipe σ vs).set j (some (.int (m : Int)))) H1 (f m)) (he : ∀ (m : Nat), m ∈ l → ∀ H1, Ex H H1 → f m = true → Ev te ((wipe σ vs).set j (some (.int (m : Int)))) H1 (.int ((g m : Nat) : Int))) :
    EvL (tLc (iList K tl) (gName j) tt te vs) σ H ((iL ((l.filter f).map g)).map V.int) := by
  have key : ∀ l : List Nat, given l.length (fun i => f (l.getD i 0)) (fun i => V.int ((g (l.getD i 0) : Nat) : Int)) = (iL ((l.filter f).map g)).map V.int := by
    intro l
    unfold given
    have h1 : ((List.range l.length).filter (fun i => f (l.getD i 0))).map (fun i => l.getD i 0) = l.filter f := by
      have h2 : (List.range l.length).map (fun i => l.getD i 0) = l := by
        refine List.ext_getElem (by simp) fun i h1 h2 => ?_
        simp [List.getD_eq_getElem?_getD, List.getElem?_eq_getElem h2]
      have h3 : l.filter f = ((List.range l.length).map (fun i => l.getD i 0)).filter f := by rw [h2]
      rw [h3, List.filter_map]
      rfl
    rw [← h1]
    unfold iL
    rw [List.map_map, List.map_map, List.map_map]
    rfl
  have hd : ∀ {i : Nat} {m : Nat}, l[i]? = some m → l.getD i 0 = m := fun {i m} e => by rw [List.getD_eq_getElem?_getD, e]; rfl
  rw [← key l]
  have r := el_lcNL (K := K) (tl := tl) (j := j) (vs := vs) (t := tt) (te := te) (fun i => f (l.getD i 0)) (fun i => V.int ((g (l.getD i 0) : Nat) : Int)) h (by rw [iL_len]; exact hz) hw (fun i x H1 e1 hi => by
    obtain ⟨m, hm, rfl⟩ := iL_at hi
    rw [hd hm]
    exact ht m (List.mem_of_getElem? hm) H1 e1) (fun i x H1 e1 hi hf => by
    obtain ⟨m, hm, rfl⟩ := iL_at hi
    rw [hd hm] at hf ⊢
    exact he m (List.mem_of_getElem? hm) H1 e1 hf)
  rw [iL_len] at r
  exact r
/-- .. over a list that stands somewhere -/
theorem el_lcA' {K : PySem.W.Frag} {σ : L2.St} {H : Hp} {tl te : TE} {tt : TT} {j : Nat} {vs : List Nat} {l : List Nat} {a : Addr} (f : Nat → Bool) (g : Nat → Nat) (h : Ev tl σ H (.ref a)) (hx : SqL K H a ((iL l).map V.int)) (hz : l.length ≤ 40000) (hw : ∀ x, wipe ((wipe σ vs).set j (some x)) vs = wipe σ vs)
    (ht : ∀ (m : Nat), m ∈ l → ∀ H1, Ex H H1 → EvT tt ((wipe σ vs).set j (some (.int (m : Int)))) H1 (f m)) (he : ∀ (m : Nat), m ∈ l → ∀ H1, Ex H H1 → f m = true → Ev te ((wipe σ vs).set j (some (.int (m : Int)))) H1 (.int ((g m : Nat) : Int))) :
    EvL (tLc (iList K tl) (gName j) tt te vs) σ H ((iL ((l.filter f).map g)).map V.int) := by
  have key : ∀ l : List Nat, given l.length (fun i => f (l.getD i 0)) (fun i => V.int ((g (l.getD i 0) : Nat) : Int)) = (iL ((l.filter f).map g)).map V.int := by
    intro l
    unfold given
    have h1 : ((List.range l.length).filter (fun i => f (l.getD i 0))).map (fun i => l.getD i 0) = l.filter f := by
      have h2 : (List.range l.length).map (fun i => l.getD i 0) = l := by
        refine List.ext_getElem (by simp) fun i h1 h2 => ?_
        simp [List.getD_eq_getElem?_getD, List.getElem?_eq_getElem h2]
      have h3 : l.filter f = ((List.range l.length).map (fun i => l.getD i 0)).filter f := by rw [h2]
      rw [h3, List.filter_map]
      rfl
    rw [← h1]
    unfold iL
    rw [List.map_map, List.map_map, List.map_map]
    rfl
  have hd : ∀ {i : Nat} {m : Nat}, l[i]? = some m → l.getD i 0 = m := fun {i m} e => by rw [List.getD_eq_getElem?_getD, e]; rfl
  rw [← key l]
  have r := el_lcL (K := K) (tl := tl) (j := j) (vs := vs) (t := tt) (te := te) (fun i => f (l.getD i 0)) (fun i => V.int ((g (l.getD i 0) : Nat) : Int)) h hx (by rw [iL_len]; exact hz) hw (fun i x H1 e1 hi => by
    obtain ⟨m, hm, rfl⟩ := iL_at hi
    rw [hd hm]
    exact ht m (List.mem_of_getElem? hm) H1 e1) (fun i x H1 e1 hi hf => by
    obtain ⟨m, hm, rfl⟩ := iL_at hi
    rw [hd hm] at hf ⊢
    exact he m (List.mem_of_getElem? hm) H1 e1 hf)
  rw [iL_len] at r
  exact r
/-! ### what the law's own defs tell -/
def spDigits : Sp := fun vs H Q _ => ∃ n : Nat, vs = [.int (n : Int)] ∧ n < 2 ^ 64 ∧ ∀ p H', H p = none → Ex H H' → H' p = some (.lst ((iL (bs 64 n)).map V.int)) → Q (.ref p) H'
theorem SpDigits {H : Hp} {n : Nat} (hn : n < 2 ^ 64) : SpL spDigits ([.int (n : Int)] ++ []) H ((iL (bs 64 n)).map V.int) := fun H1 e Q q E => ⟨n, rfl, hn, q⟩
def spRowOf (K : PySem.W.Frag) : Sp := fun vs H Q _ => ∃ (a : Addr) (ps : List Nat), vs = [.ref a] ∧ SqL K H a ((iL ps).map V.int) ∧ (∀ p ∈ ps, p ≤ 40) ∧ ps.length ≤ 1000 ∧ ∀ H', Ex H H' → Q (.int ((rowOf ps : Nat) : Int)) H'
theorem SpRowOf {K : PySem.W.Frag} {H : Hp} {a : Addr} {ps : List Nat} (h : SqL K H a ((iL ps).map V.int)) (hp : ∀ p ∈ ps, p ≤ 40) (hl : ps.length ≤ 1000) : SpV (spRowOf K) ([.ref a] ++ []) H (.int ((rowOf ps : Nat) : Int)) := fun H1 e Q q E => ⟨a, ps, rfl, ex_l e h, hp, hl, q⟩
def spLspot : Sp := fun vs H Q _ => ∃ n : Nat, vs = [.int (n : Int)] ∧ n < 2 ^ 64 ∧ ∀ H', Ex H H' → Q (.int ((spotN 64 n : Nat) : Int)) H'
theorem SpLspot {H : Hp} {n : Nat} (hn : n < 2 ^ 64) : SpV spLspot ([.int (n : Int)] ++ []) H (.int ((spotN 64 n : Nat) : Int)) := fun H1 e Q q E => ⟨n, rfl, hn, q⟩
def spLvalue (K : PySem.W.Frag) : Sp := fun vs H Q _ => ∃ (a : Addr) (ns : List Int) (i b : Nat), vs = [.ref a, .int (i : Int), .int (b : Int)] ∧ SqL K H a (ns.map V.int) ∧ (∀ n ∈ ns, 0 ≤ n ∧ n < 1009) ∧ i + 3 < ns.length ∧ 4 ≤ b ∧ b ≤ 32 ∧ ∀ (v : Nat) H', v < 2 ^ b → Ex H H' → Q (.int (v : Int)) H'
/-- the digits of a sum without carrying -/
theorem tb_sx (k : Nat) : ∀ l : List Nat, (sx l).testBit k = decide ((l.filter fun p => p.testBit k).length % 2 = 1)
  | [] => by show (0 : Nat).testBit k = _; simp
  | a :: r => by
    rw [sx_cons, Nat.testBit_xor, tb_sx k r, List.filter_cons]
    cases e : a.testBit k with
    | true =>
      rw [if_pos rfl, List.length_cons]
      by_cases h : (r.filter fun p => p.testBit k).length % 2 = 1
      · rw [decide_eq_true h, decide_eq_false (by omega)]; rfl
      · rw [decide_eq_false h, decide_eq_true (by omega)]; rfl
    | false =>
      rw [if_neg (by decide)]
      simp
theorem spot64 {m n : Nat} (h : n < 2 ^ m) (hm : m ≤ 64) : spotN 64 n = spotN m n := by unfold spotN; rw [bs_more h hm]
theorem row_ext {b : Nat} (l : List Nat) : rowOf l = (l.map (2 ^ ·)).sum := rfl
/-- the two ways to the check places that are turned -/
theorem cks_eq {b s : Nat} (h4 : 4 ≤ b) (h32 : b ≤ 32) (hs : s < 64) : (ckN b).filter (fun c => decide (0 < c) && decide (s / c % 2 = 1)) = cksN b s := by
  have h : ∀ c, c < 40 → isPw c = true → ∀ s, s < 64 → (decide (0 < c) && decide (s / c % 2 = 1)) = ((s &&& c) != 0) := by decide +kernel
  unfold cksN
  refine List.filter_congr fun c hc => ?_
  have hc := List.mem_filter.mp hc
  have := pl_le h32
  exact h c (by have := List.mem_range.mp hc.1; omega) hc.2 s hs
/-- the word, as the law makes it -/
theorem cod_law {b v : Nat} (h4 : 4 ≤ b) (h32 : b ≤ 32) :
    rowOf ((onesN b v ++ cksN b (spotN (pl b) (cod0 b v))) ++ (if (onesN b v ++ cksN b (spotN (pl b) (cod0 b v))).length % 2 = 1 then [0] else [])) = cod b v := by
  have dis : ∀ x ∈ onesN b v, x ∉ cksN b (spotN (pl b) (cod0 b v)) := fun x hx hy => by
    have a := (ones_lt h4 h32 (Nat.le_refl _) x hx).2
    rw [(cks_lt _ _ x hy).2] at a
    cases a
  have nd : (onesN b v ++ cksN b (spotN (pl b) (cod0 b v))).Nodup := List.nodup_append.mpr ⟨ones_nodup h4 h32 (Nat.le_refl _), cks_nodup _ _, fun a ha c hc e => dis a ha (e ▸ hc)⟩
  have n0 : 0 ∉ onesN b v ++ cksN b (spotN (pl b) (cod0 b v)) := fun z => by
    rcases List.mem_append.mp z with z | z
    · have := (ones_lt h4 h32 (Nat.le_refl _) 0 z).2; cases this
    · exact cks_pos _ _ z
  have lt : ∀ p ∈ onesN b v ++ cksN b (spotN (pl b) (cod0 b v)), p < pl b := fun p hp => by
    rcases List.mem_append.mp hp with z | z
    · exact (ones_lt h4 h32 (Nat.le_refl _) p z).1
    · exact (cks_lt _ _ p z).1
  have f1 : flip 0 (onesN b v ++ cksN b (spotN (pl b) (cod0 b v))) = cod1 b v := by rw [flip_append]; rfl
  have par : parB (pl b) (cod1 b v) = decide ((onesN b v ++ cksN b (spotN (pl b) (cod0 b v))).length % 2 = 1) := by
    rw [← f1, par_flip lt, par_zero, Bool.false_xor]
  rw [← flip_row]
  · rw [flip_append, f1]
    unfold cod
    rw [par]
    by_cases h : (onesN b v ++ cksN b (spotN (pl b) (cod0 b v))).length % 2 = 1
    · rw [if_pos h, if_pos (decide_eq_true h)]
    · rw [if_neg h, if_neg (by rw [decide_eq_false h]; decide)]
  · split
    · exact List.nodup_append.mpr ⟨nd, by simp, fun a ha c hc e => by rw [List.mem_singleton.mp hc] at e; exact n0 (e ▸ ha)⟩
    · rw [List.append_nil]; exact nd
/-- xs + [..], xs a list that stands somewhere -/
theorem el_catA {σ : L2.St} {H : Hp} {ta tb : TE} {p : Addr} {xs ys : List V} (ha : Ev ta σ H (.ref p)) (hp : H p = some (.lst xs)) (hb : EvL tb σ H ys) (hz : xs.length + ys.length ≤ 100000) : EvL (tOp rCat ta tb) σ H (xs ++ ys) := fun H1 e Q q =>
  ha H1 e _ fun H2 e2 => hb H2 (e.trans e2) _ fun p' H3 np' e3 hp' => ⟨p, p', xs, ys, rfl, rfl, ((e.trans e2).trans e3) _ _ hp, hp', sz_of hz, fun l nl => q l _ (fresh_back (e2.trans e3) nl) ((e2.trans e3).trans (Ex.new nl)) upd_same⟩
theorem bs_len (m n : Nat) : (bs m n).length ≤ m := by
  have := List.length_filter_le (fun p => n.testBit p) (List.range m)
  rw [List.length_range] at this
  exact this
theorem ck_le (b : Nat) : (ckN b).length ≤ pl b := by
  have := List.length_filter_le isPw (List.range (pl b))
  rw [List.length_range] at this
  exact this
theorem cks_len (b s : Nat) : (cksN b s).length ≤ pl b := Nat.le_trans (List.length_filter_le _ _) (ck_le b)
def spLcod : Sp := spCod
/-! ### flips of words -/
theorem flip_xor : ∀ (l : List Nat) (n : Nat), flip n l = n ^^^ flip 0 l
  | [], n => by show n = n ^^^ 0; rw [Nat.xor_zero]
  | p :: r, n => by
    show flip (n ^^^ 2 ^ p) r = n ^^^ flip (0 ^^^ 2 ^ p) r
    rw [flip_xor r (n ^^^ 2 ^ p), flip_xor r (0 ^^^ 2 ^ p), Nat.zero_xor, Nat.xor_assoc]
theorem xor_flip (n : Nat) (l : List Nat) : n ^^^ flip n l = flip 0 l := by rw [flip_xor, ← Nat.xor_assoc, Nat.xor_self, Nat.zero_xor]
theorem flip_bs {n x m : Nat} (h : x < 2 ^ m) : flip n (bs m x) = n ^^^ x := by rw [flip_xor, flip_row (bs_nodup m x), row_bs h]
theorem bs_flip {m : Nat} {l : List Nat} (nd : l.Nodup) : bs m (flip 0 l) = (List.range m).filter fun q => decide (q ∈ l) := by
  unfold bs
  refine List.filter_congr fun q _ => ?_
  rw [tb_flip_nd nd]
  simp
theorem bs_flip1 : ∀ p, p < 40 → bs 40 (flip 0 [p]) = [p] := by decide +kernel
theorem bs_sorted (m n : Nat) : (iL (bs m n)).Pairwise (· ≤ ·) := by
  unfold iL bs
  rw [List.pairwise_map]
  have h : (List.range m).Pairwise (fun (a b : Nat) => (a : Int) ≤ (b : Int)) := List.Pairwise.imp (fun {a b} (h : a < b) => by omega) List.pairwise_lt_range
  exact h.filter _
theorem bs_perm {p q : Nat} (h : p ≠ q) (hp : p < 40) (hq : q < 40) : (bs 40 (flip 0 [p, q])).Perm [p, q] := by
  have nd : [p, q].Nodup := by simp [h]
  rw [bs_flip nd]
  refine (List.perm_ext_iff_of_nodup (List.Nodup.sublist List.filter_sublist List.nodup_range) nd).mpr fun a => ?_
  rw [List.mem_filter, List.mem_range, decide_eq_true_eq]
  constructor
  · exact fun z => z.2
  · intro z
    refine ⟨?_, z⟩
    rcases List.mem_cons.mp z with rfl | z
    · exact hp
    · rw [List.mem_singleton.mp z]; exact hq
/-- sorted([p, q]) -/
theorem ev_sort2 {K : PySem.W.Frag} {σ : L2.St} {H : Hp} {ta : TE} {p q : Nat} (ha : EvL ta σ H [.int (p : Int), .int (q : Int)]) (h : p ≠ q) (hp : p < 40) (hq : q < 40) : EvL (tCB (rSorted K) (tCons ta tNil)) σ H ((iL (bs 40 (flip 0 [p, q]))).map V.int) := fun H1 e Q k =>
  ha H1 e _ fun l H2 nl e2 hl => ⟨l, [(p : Int), (q : Int)], rfl, sq_of hl, (by show 2 < 64; decide), fun ns' s pm so ns => by
    have e3 : ns' = iL (bs 40 (flip 0 [p, q])) := PySem.W.ksm_same (pm.trans ((bs_perm h hp hq).symm.map (fun n : Nat => (n : Int)))) so (bs_sorted _ _)
    subst e3
    exact k s _ (fresh_back e2 ns) (e2.trans (Ex.new ns)) upd_same⟩
def menV (b n : Nat) : V := if parB (pl b) n then (if spotN (pl b) n < pl b then .int ((flip n [spotN (pl b) n] : Nat) : Int) else .non) else (if spotN (pl b) n = 0 then .int (n : Int) else .non)
theorem stV_cases (b n : Nat) : (stV b n = [.str "one", .int ((spotN (pl b) n : Nat) : Int)] ∧ menV b n = .int ((flip n [spotN (pl b) n] : Nat) : Int) ∧ spotN (pl b) n < pl b) ∨ (stV b n = [.str "more", .non] ∧ menV b n = .non) ∨ (stV b n = [.str "clean", .non] ∧ menV b n = .int (n : Int)) := by
  unfold stV menV
  split
  · split
    · exact Or.inl ⟨rfl, rfl, by assumption⟩
    · exact Or.inr (Or.inl ⟨rfl, rfl⟩)
  · split
    · exact Or.inr (Or.inr ⟨rfl, rfl⟩)
    · exact Or.inr (Or.inl ⟨rfl, rfl⟩)
def spMended : Sp := fun vs H Q _ => ∃ b n : Nat, vs = [.int (b : Int), .int (n : Int)] ∧ 4 ≤ b ∧ b ≤ 32 ∧ n < 2 ^ pl b ∧ ∀ H', Ex H H' → Q (menV b n) H'
theorem SpMended {H : Hp} {b n : Nat} (h4 : 4 ≤ b) (h32 : b ≤ 32) (hn : n < 2 ^ pl b) : SpV spMended ([.int (b : Int), .int (n : Int)] ++ []) H (menV b n) := fun H1 e Q q E => ⟨b, n, rfl, h4, h32, hn, q⟩
theorem rv_isN {H : Hp} {x : V} : RV (fun x y H Q => y = .non ∧ Q (.bl (decide (x = .non))) H) x .non H (.bl (decide (x = .non))) := fun H1 _ _ q => ⟨rfl, q H1 (Ex.refl H1)⟩
theorem rv_notN {H : Hp} {x : V} : RV (fun x y H Q => y = .non ∧ Q (.bl (!decide (x = .non))) H) x .non H (.bl (!decide (x = .non))) := fun H1 _ _ q => ⟨rfl, q H1 (Ex.refl H1)⟩
theorem two_out (f s : Nat) (h : f ≠ s) : ∀ m, ((List.range m).filter fun i => !decide (i = f ∨ i = s)).length + (if f < m then 1 else 0) + (if s < m then 1 else 0) = m
  | 0 => rfl
  | m + 1 => by
    have ih := two_out f s h m
    rw [List.range_succ, List.filter_append, List.length_append, List.filter_cons]
    by_cases a : m = f <;> by_cases c : m = s
    · omega
    · subst a
      rw [decide_eq_true (Or.inl rfl), if_neg (by decide)]
      simp only [List.filter_nil, List.length_nil]
      split at ih <;> split at ih <;> split <;> split <;> omega
    · subst c
      rw [decide_eq_true (Or.inr rfl), if_neg (by decide)]
      simp only [List.filter_nil, List.length_nil]
      split at ih <;> split at ih <;> split <;> split <;> omega
    · rw [decide_eq_false (by omega), if_pos (by decide)]
      simp only [List.filter_nil, List.length_cons, List.length_nil]
      split at ih <;> split at ih <;> split <;> split <;> omega
/-- four flips, three of them at different places, give another row -/
theorem flip4_ne {n f s t u : Nat} (h1 : f ≠ s) (h2 : f ≠ t) (h3 : s ≠ t) : flip n [f, s, t, u] ≠ n := fun e => by
  have b1 : (flip n [f, s, t, u]).testBit f = n.testBit f := by rw [e]
  have b2 : (flip n [f, s, t, u]).testBit s = n.testBit s := by rw [e]
  have r : ∀ q, (flip n [f, s, t, u]).testBit q = ((((n.testBit q ^^ decide (f = q)) ^^ decide (s = q)) ^^ decide (t = q)) ^^ decide (u = q)) := fun q => by
    show ((((n ^^^ 2 ^ f) ^^^ 2 ^ s) ^^^ 2 ^ t) ^^^ 2 ^ u).testBit q = _
    rw [tb_flip1, tb_flip1, tb_flip1, tb_flip1]
  rw [r] at b1 b2
  rw [decide_eq_true rfl, decide_eq_false h1.symm, decide_eq_false h2.symm] at b1
  rw [decide_eq_false h1, decide_eq_true rfl, decide_eq_false h3.symm] at b2
  have u1 : u = f := by
    by_cases c : u = f
    · exact c
    · rw [decide_eq_false c] at b1
      cases n.testBit f <;> simp at b1
  have u2 : u = s := by
    by_cases c : u = s
    · exact c
    · rw [decide_eq_false c] at b2
      cases n.testBit s <;> simp at b2
  exact h1 (u1.symm.trans u2)
theorem flip6 (n f s t : Nat) : flip n [f, s, f, t, t, t] = flip n [s, t] := by
  refine Nat.eq_of_testBit_eq fun q => ?_
  show ((((((n ^^^ 2 ^ f) ^^^ 2 ^ s) ^^^ 2 ^ f) ^^^ 2 ^ t) ^^^ 2 ^ t) ^^^ 2 ^ t).testBit q = ((n ^^^ 2 ^ s) ^^^ 2 ^ t).testBit q
  simp only [tb_flip1]
  cases n.testBit q <;> cases decide (f = q) <;> cases decide (s = q) <;> cases decide (t = q) <;> rfl
/-! ### comparisons that find the same -/
theorem et_stNe {K : PySem.W.Frag} {σ : L2.St} {H : Hp} {t1 t2 : TE} {s : Str} {y : V} {d : PyData} (h1 : EvU t1 σ H [.str s, y]) (h2 : EvU t2 σ H [.str s, y]) (hd : ∀ H, Dp K H y d) (ly : Lay d 3) (hs : PyData.strOk s = true) : EvT (tTest (tOp (rNeD K) t1 t2)) σ H false :=
  et_test (ev_opUU h1 h2 fun p p' H1 hp hp' _ => rv_neS (d := .tuple [.str s, d]) (.tup (st_of hp) (.cons (.str _) (.cons (hd _) .nil))) (.tup (st_of hp') (.cons (.str _) (.cons (hd _) .nil))) (Lay.tuple (n := 3) (.cons (.str hs) (.cons ly .nil))).sh)
theorem et_lsNe {K : PySem.W.Frag} {σ : L2.St} {H : Hp} {t1 t2 : TE} {l : List Int} (h1 : EvL t1 σ H (l.map V.int)) (h2 : EvL t2 σ H (l.map V.int)) : EvT (tTest (tOp (rNeD K) t1 t2)) σ H false :=
  et_test (ev_opLL h1 h2 fun p p' H1 hp hp' _ => rv_neS (dp_ints (sq_of hp)) (dp_ints (sq_of hp')) (lay_ints l (n := 3)).sh)
theorem et_lsNeA {K : PySem.W.Frag} {σ : L2.St} {H : Hp} {t1 t2 : TE} {l : List Int} {p q : Addr} (h1 : Ev t1 σ H (.ref p)) (hp : SqL K H p (l.map V.int)) (h2 : Ev t2 σ H (.ref q)) (hq : SqL K H q (l.map V.int)) : EvT (tTest (tOp (rNeD K) t1 t2)) σ H false :=
  et_test (ev_op h1 h2 (rv_neS (dp_ints hp) (dp_ints hq) (lay_ints l (n := 3)).sh))
theorem et_eq {σ : L2.St} {H : Hp} {t1 t2 : TE} {x y : V} (h1 : Ev t1 σ H x) (h2 : Ev t2 σ H y) (hs : scal x y = true) : EvT (tTest (tOp rEq t1 t2)) σ H (decide (x = y)) := et_test (ev_op h1 h2 (rv_eq hs))
theorem et_ne {σ : L2.St} {H : Hp} {t1 t2 : TE} {x y : V} (h1 : Ev t1 σ H x) (h2 : Ev t2 σ H y) (hs : scal x y = true) : EvT (tTest (tOp rNe t1 t2)) σ H (!decide (x = y)) := et_test (ev_op h1 h2 (rv_ne hs))
/-- != of two that are the same -/
theorem et_neS {σ : L2.St} {H : Hp} {t1 t2 : TE} {x y : V} (h1 : Ev t1 σ H x) (h2 : Ev t2 σ H y) (hs : scal x y = true) (e : x = y) : EvT (tTest (tOp rNe t1 t2)) σ H false := et_is (et_ne h1 h2 hs) (by rw [decide_eq_true e]; rfl)
/-- a or b, both false -/
theorem et_or0 {σ : L2.St} {H : Hp} {t u : TT} (h1 : EvT t σ H false) (h2 : EvT u σ H false) : EvT (tOr t u) σ H false := et_or (a := false) (b := false) h1 fun _ => h2
theorem lst1 {σ : L2.St} {H : Hp} {ta : TE} {x : V} (h : Ev ta σ H x) : EvL (tLst (tCons ta tNil)) σ H [x] := el_lst (ea_cons h ea_nil) (by show 1 ≤ 100000; decide)
theorem lst2 {σ : L2.St} {H : Hp} {ta tb : TE} {x y : V} (h : Ev ta σ H x) (h2 : Ev tb σ H y) : EvL (tLst (tCons ta (tCons tb tNil))) σ H [x, y] := el_lst (ea_cons h (ea_cons h2 ea_nil)) (by show 2 ≤ 100000; decide)
theorem lst3 {σ : L2.St} {H : Hp} {ta tb tc : TE} {x y z : V} (h : Ev ta σ H x) (h2 : Ev tb σ H y) (h3 : Ev tc σ H z) : EvL (tLst (tCons ta (tCons tb (tCons tc tNil)))) σ H [x, y, z] := el_lst (ea_cons h (ea_cons h2 (ea_cons h3 ea_nil))) (by show 3 ≤ 100000; decide)
theorem tup2 {σ : L2.St} {H : Hp} {ta tb : TE} {x y : V} (h : Ev ta σ H x) (h2 : Ev tb σ H y) : EvU (tTup (tCons ta (tCons tb tNil))) σ H [x, y] := eu_tup (ea_cons h (ea_cons h2 ea_nil)) (by show 2 ≤ 100000; decide)
/-- t[i], the tuple made on the spot -/
theorem ev_opU0 {K : PySem.W.Frag} {σ : L2.St} {H : Hp} {ta tb : TE} {xs : List V} {i : Int} {v : V} (ha : EvU ta σ H xs) (hb : Ev tb σ H (.int i)) (hx : atI xs i = some v) : Ev (tOp (rIxT K) ta tb) σ H v := fun H1 e Q q =>
  ha H1 e _ fun p H2 _ e2 hp => hb H2 (e.trans e2) _ fun H3 e3 => ⟨p, xs, i, v, rfl, rfl, st_of (e3 _ _ hp), hx, q H3 (e2.trans e3)⟩
/-! ### words far apart -/
theorem spot_xor {m a c : Nat} (hc : c < 2 ^ m) : spotN m (a ^^^ c) = spotN m a ^^^ spotN m c := by
  have e : a ^^^ c = flip a (bs m c) := (flip_bs hc).symm
  rw [e, spot_flip fun p hp => (bs_mem.mp hp).1]
  rfl
theorem par_xor {m a c : Nat} (hc : c < 2 ^ m) : parB m (a ^^^ c) = (parB m a ^^ parB m c) := by
  have e : a ^^^ c = flip a (bs m c) := (flip_bs hc).symm
  rw [e, par_flip fun p hp => (bs_mem.mp hp).1]
  rfl
theorem far {b u v : Nat} (h4 : 4 ≤ b) (h32 : b ≤ 32) (hu : u < 2 ^ b) (hv : v < 2 ^ b) (h : u ≠ v) : 4 ≤ (bs 40 (cod b u ^^^ cod b v)).length := by
  have hpl := pl_le h32
  have cu := cod_lt (v := u) h4 h32
  have cv := cod_lt (v := v) h4 h32
  have hx : cod b u ^^^ cod b v < 2 ^ pl b := Nat.xor_lt_two_pow cu cv
  have hs : spotN (pl b) (cod b u ^^^ cod b v) = 0 := by rw [spot_xor cv, cod_spot h4 h32, cod_spot h4 h32]; rfl
  have hp : parB (pl b) (cod b u ^^^ cod b v) = false := by rw [par_xor cv, cod_par h4 h32, cod_par h4 h32]; rfl
  rw [bs_more hx (by omega)]
  have hne : bs (pl b) (cod b u ^^^ cod b v) ≠ [] := fun z => by
    have e := row_bs hx
    rw [z] at e
    have e2 := xor0 e.symm
    have e3 := val_cod h4 h32 hu
    rw [e2, val_cod h4 h32 hv] at e3
    exact h e3.symm
  have nd := bs_nodup (pl b) (cod b u ^^^ cod b v)
  unfold spotN at hs
  unfold parB at hp
  have hp := of_decide_eq_false hp
  revert hne nd hs hp
  generalize bs (pl b) (cod b u ^^^ cod b v) = l
  intro hs hne nd hp
  match l, hs, hp, hne, nd with
  | [], _, _, hne, _ => exact absurd rfl hne
  | [a], _, hp, _, _ => exact absurd (show [a].length % 2 = 1 from rfl) hp
  | [a, c], hs, _, _, nd =>
    rw [sx_cons, sx_one] at hs
    have := xor0 hs
    subst this
    exact absurd nd (by simp)
  | [a, c, d], _, hp, _, _ => exact absurd (show [a, c, d].length % 2 = 1 by simp) hp
  | a :: c :: d :: e :: r, _, _, _, _ => simp
/-- [e for i, x in enumerate(xs) if t], xs a list that stands somewhere -/
theorem el_lcEA {K : PySem.W.Frag} {σ : L2.St} {H : Hp} {tl te : TE} {tt : TT} {q : Addr} {xs : List V} {j1 j2 : Nat} {vs : List Nat} (f : Nat → Bool) (g : Nat → V) (h : Ev tl σ H (.ref q)) (hq : SqL K H q xs) (hz : xs.length ≤ 40000) (hw : ∀ x y, wipe (((wipe σ vs).set j1 (some x)).set j2 (some y)) vs = wipe σ vs)
    (ht : ∀ (i : Nat) (x : V) H1, Ex H H1 → xs[i]? = some x → EvT tt (((wipe σ vs).set j1 (some (.int (i : Int)))).set j2 (some x)) H1 (f i)) (he : ∀ (i : Nat) (x : V) H1, Ex H H1 → xs[i]? = some x → f i = true → Ev te (((wipe σ vs).set j1 (some (.int (i : Int)))).set j2 (some x)) H1 (g i)) :
    EvL (tLc (iEnum K (tCons tl tNil)) (gTup K 2 (gCons (gName j1) (gCons (gName j2) gNil))) tt te vs) σ H (given xs.length f g) := fun H0 e Q k => h H0 e _ fun H1 e1 => ⟨q, xs, rfl, ex_l (e.trans e1) hq, fun Dl hD => by
  refine ⟨fun i m H' => m = xs.length - i ∧ i ≤ xs.length ∧ Cw H1 f g Dl i H', ⟨xs.length, by simp, Nat.zero_le _, hD, Ex.new hD, upd_same⟩, ?_⟩
  rintro i m H' ⟨rfl, hi, pp⟩
  have qx : SqL K H' q xs := ex_l ((e.trans e1).trans pp.2.1) hq
  by_cases hlt : i < xs.length
  · refine .inr ⟨⟨xs, xs[i], qx, by simp [hlt]⟩, Cw H1 f g Dl (i + 1), fun H2 p' => ⟨xs.length - (i + 1), by omega, rfl, hlt, p'⟩, fun v H2 y => ?_⟩
    obtain ⟨T, x, rfl, nT, rfl, hxx⟩ := y
    have hix := hxx xs qx
    have hDT : Dl ≠ T := ne_of_none pp.2.2 nT
    have pp2 : Cw H1 f g Dl i (upd H' T (.tup [.int ((i : Nat) : Int), x])) := ⟨pp.1, pp.2.1.trans (Ex.new nT), by rw [upd_ne hDT]; exact pp.2.2⟩
    exact ⟨T, _, rfl, st_of upd_same, rfl, _, _, rfl, _, _, rfl, rfl, hw _ _, cw_turn pp2 (by omega) (ht i x H1 (e.trans e1) hix) (fun hf => he i x H1 (e.trans e1) hix hf)⟩
  · have e' : i = xs.length := by omega
    subst e'
    exact .inl ⟨⟨xs, qx, Nat.le_refl _⟩, k Dl H' (fresh_back e1 pp.1) (e1.trans pp.2.1) pp.2.2⟩⟩
/-- [..] + ys, ys a list that stands somewhere -/
theorem el_catB {σ : L2.St} {H : Hp} {ta tb : TE} {p : Addr} {xs ys : List V} (ha : EvL ta σ H xs) (hb : Ev tb σ H (.ref p)) (hp : H p = some (.lst ys)) (hz : xs.length + ys.length ≤ 100000) : EvL (tOp rCat ta tb) σ H (xs ++ ys) := fun H1 e Q q =>
  ha H1 e _ fun p' H2 np' e2 hp' => hb H2 (e.trans e2) _ fun H3 e3 => ⟨p', p, xs, ys, rfl, rfl, e3 _ _ hp', ((e.trans e2).trans e3) _ _ hp, sz_of hz, fun l nl => q l _ (fresh_back (e2.trans e3) nl) ((e2.trans e3).trans (Ex.new nl)) upd_same⟩
/-- all but two objects are kept -/
def Kp (a b : Addr) (H H' : Hp) : Prop := ∀ c o, c ≠ a → c ≠ b → H c = some o → H' c = some o
theorem Kp.refl (a b : Addr) (H : Hp) : Kp a b H H := fun _ _ _ _ h => h
theorem Kp.ex {a b : Addr} {H H1 H2 : Hp} (k : Kp a b H H1) (e : Ex H1 H2) : Kp a b H H2 := fun c o h1 h2 h => e _ _ (k c o h1 h2 h)
theorem Kp.ua {a b : Addr} {H H1 : Hp} {o : HO} (k : Kp a b H H1) : Kp a b H (upd H1 a o) := fun c u h1 h2 h => by rw [upd_ne h1]; exact k c u h1 h2 h
theorem Kp.ub {a b : Addr} {H H1 : Hp} {o : HO} (k : Kp a b H H1) : Kp a b H (upd H1 b o) := fun c u h1 h2 h => by rw [upd_ne h2]; exact k c u h1 h2 h
def spCount : Sp := fun vs H Q _ => ∃ b : Nat, vs = [.int (b : Int)] ∧ 4 ≤ b ∧ b ≤ 32 ∧ ∀ p H', H p = none → Ex H H' → H' p = some (.tup [.int ((2 ^ b : Nat) : Int), .int (((2 ^ b : Nat) : Int) * ((pl b : Nat) : Int)), .int (((2 ^ pl b : Nat) : Int) - ((2 ^ b : Nat) : Int) - ((2 ^ b : Nat) : Int) * ((pl b : Nat) : Int))]) → Q (.ref p) H'
theorem SpCount {H : Hp} {b : Nat} (h4 : 4 ≤ b) (h32 : b ≤ 32) : SpU spCount ([.int (b : Int)] ++ []) H [.int ((2 ^ b : Nat) : Int), .int (((2 ^ b : Nat) : Int) * ((pl b : Nat) : Int)), .int (((2 ^ pl b : Nat) : Int) - ((2 ^ b : Nat) : Int) - ((2 ^ b : Nat) : Int) * ((pl b : Nat) : Int))] := fun H1 e Q q E => ⟨b, rfl, h4, h32, q⟩
def kd (n : Nat) : Nat := if parB 8 n then (if spotN 8 n < 8 then 1 else 2) else (if spotN 8 n = 0 then 0 else 2)
def kds (i j : Nat) : Nat := ((List.range i).filter fun n => decide (kd n = j)).length
theorem kds_succ (i j : Nat) : kds (i + 1) j = kds i j + (if kd i = j then 1 else 0) := by
  unfold kds
  rw [List.range_succ, List.filter_append, List.length_append, List.filter_cons]
  by_cases h : kd i = j
  · rw [if_pos (decide_eq_true h), if_pos h]; rfl
  · rw [if_neg (by rw [decide_eq_false h]; decide), if_neg h]; rfl
theorem kds_all : kds 256 0 = 16 ∧ kds 256 1 = 128 ∧ kds 256 2 = 112 := by decide +kernel
theorem stV_kd (n : Nat) : ∃ y, stV 4 n = [(if kd n = 0 then .str "clean" else if kd n = 1 then .str "one" else .str "more"), y] := by
  have h8 : pl 4 = 8 := by decide
  unfold stV kd
  rw [h8]
  split <;> split <;> exact ⟨_, rfl⟩
theorem kd_lt (n : Nat) : kd n = 0 ∨ kd n = 1 ∨ kd n = 2 := by
  unfold kd
  split <;> split <;> omega
theorem cmul_nat {n : Nat} {j : Int} (h : n < 2 ^ 64) : CMul (n : Int) j := Or.inl ⟨by omega, by omega⟩
theorem p64 {b : Nat} (h : b ≤ 40) : 2 ^ b < 2 ^ 64 := Nat.pow_lt_pow_right (by decide) (by omega)
/-! ### lists whose items have a property -/
def EaA (ta : TA) (σ : L2.St) (H : Hp) (k : Nat) (P : V → Hp → Prop) : Prop := ∀ H1, Ex H H1 → ∀ Q : List V → Hp → Prop, (∀ vs H2, Ex H1 H2 → vs.length = k → (∀ x ∈ vs, P x H2) → Q vs H2) → ta σ H1 Q
theorem eaA_nil {σ : L2.St} {H : Hp} {P : V → Hp → Prop} : EaA tNil σ H 0 P := fun H1 _ _ q => q [] H1 (Ex.refl H1) rfl fun _ z => nomatch z
theorem eaA_cons {σ : L2.St} {H : Hp} {ta : TE} {tr : TA} {k : Nat} {P : V → Hp → Prop} (m : ∀ v H1 H2, Ex H1 H2 → P v H1 → P v H2) (h : EvG ta σ H P) (hr : EaA tr σ H k P) : EaA (tCons ta tr) σ H (k + 1) P := fun H1 e _ q =>
  h H1 e _ fun v H2 e2 pv => hr H2 (e.trans e2) _ fun vs H3 e3 hl pr => q _ H3 (e2.trans e3) (by rw [List.length_cons, hl]) fun x hx => by
    rcases List.mem_cons.mp hx with rfl | hx
    · exact m _ _ _ e3 pv
    · exact pr x hx
theorem evG_lstA {σ : L2.St} {H : Hp} {ta : TA} {k : Nat} {P : V → Hp → Prop} (m : ∀ v H1 H2, Ex H1 H2 → P v H1 → P v H2) (h : EaA ta σ H k P) (hk : k ≤ 100000) : EvG (tLst ta) σ H (fun v H' => ∃ p xs, v = .ref p ∧ H' p = some (.lst xs) ∧ H p = none ∧ xs.length = k ∧ ∀ x ∈ xs, P x H') := fun H1 e Q q =>
  h H1 e _ fun vs H2 e2 hl pv => ⟨sz_of (by omega), fun p np => q _ _ (e2.trans (Ex.new np)) ⟨p, vs, rfl, upd_same, fresh_back (e.trans e2) np, hl, fun x hx => m _ _ _ (Ex.new np) (pv x hx)⟩⟩
theorem s_forG {K : PySem.W.Frag} {σ : L2.St} {H : Hp} {tl : TE} {g : TG} {tu : TS} {D : Ends} {R : Addr → List V → Hp → Prop} (h : EvG tl σ H (fun v H1 => ∃ p xs, v = .ref p ∧ H1 p = some (.lst xs) ∧ R p xs H1)) (Pv : Addr → List V → Nat → L2.St → Hp → Prop) (h0 : ∀ p xs H1, Ex H H1 → H1 p = some (.lst xs) → R p xs H1 → Pv p xs 0 σ H1)
    (hl : ∀ p xs i σ' H', i ≤ xs.length → Pv p xs i σ' H' → SqL K H' p xs) (hs : ∀ p xs i x σ' H', xs[i]? = some x → Pv p xs i σ' H' → g x σ' H' fun σ2 H2 => tu { D with nx := Pv p xs (i + 1), ct := Pv p xs (i + 1), bk := D.nx } σ2 H2)
    (hd : ∀ p xs σ' H', Pv p xs xs.length σ' H' → D.nx σ' H') : tFor (iList K tl) g tu D σ H :=
  h H (Ex.refl H) _ fun v H1 e ⟨p, xs, ev, hp, r⟩ => ⟨p, ev, ⟨xs, sq_of hp⟩, for_list (Pv p xs) (h0 p xs H1 e hp r) (hl p xs) (hs p xs) (hd p xs)⟩
theorem q_unp2 {K : PySem.W.Frag} {σ : L2.St} {H : Hp} {te : TE} {tz : TS} {D : Ends} {i j : Nat} {x y : V} (h : EvU te σ H [x, y]) (k : ∀ H1, Ex H H1 → tz D ((σ.set i (some x)).set j (some y)) H1) : tSeq (tAsg te (gTup K 2 (gCons (gName i) (gCons (gName j) gNil)))) tz D σ H :=
  h H (Ex.refl H) _ fun p H1 _ e hp => ⟨p, _, rfl, st_of hp, rfl, _, _, rfl, _, _, rfl, rfl, k H1 e⟩
/-- [..].index(y) -/
theorem ev_idx {K : PySem.W.Frag} {σ : L2.St} {H : Hp} {ta tb : TE} {ys : List V} {y z : V} {j : Nat} (ha : EvL ta σ H ys) (hb : Ev tb σ H y) (fy : flatV y = true) (fa : ys.all flatV = true) (hz : ys[j]? = some z) (he : eqV z y = true) (hn : ∀ (m : Nat) (z' : V), m < j → ys[m]? = some z' → eqV z' y = false) :
    Ev (tBM K "list" (rIndex K) ta (tCons tb tNil)) σ H (.int (j : Int)) := fun H1 e Q q =>
  ha H1 e _ fun p H2 _ e2 hp => ⟨Or.inl ⟨rfl, _, sq_of hp⟩, hb H2 (e.trans e2) _ fun H3 e3 => ⟨p, ys, y, j, z, rfl, rfl, sq_of (e3 _ _ hp), fy, fa, hz, he, hn, q H3 (e2.trans e3)⟩⟩
theorem eu_tupA {K : PySem.W.Frag} {σ : L2.St} {H : Hp} {ta : TE} {p : Addr} {xs : List V} (ha : Ev ta σ H (.ref p)) (h : SqL K H p xs) : EvU (tCB (rTupS K) (tCons ta tNil)) σ H xs := fun H1 e Q q =>
  ha H1 e _ fun H2 e2 => ⟨p, xs, rfl, Or.inl ⟨ex_l (e.trans e2) h, fun l nl => q l _ (fresh_back e2 nl) (e2.trans (Ex.new nl)) upd_same⟩⟩
/-! ### values known as data -/
section
variable {K : PySem.W.Frag} {σ : L2.St} {H : Hp} {ta tb te : TE} {r : R2}
def EvD (K : PySem.W.Frag) (te : TE) (σ : L2.St) (H : Hp) (d : PyData) : Prop := EvG te σ H (fun v H' => Dp K H' v d)
theorem Ev.d {v : V} {d : PyData} (h : Ev te σ H v) (hd : ∀ H, Dp K H v d) : EvD K te σ H d := fun H1 e Q q => h H1 e Q fun H2 e2 => q v H2 e2 (hd H2)
theorem Ev.dAt {v : V} {d : PyData} (h : Ev te σ H v) (hd : Dp K H v d) : EvD K te σ H d := fun H1 e Q q => h H1 e Q fun H2 e2 => q v H2 e2 (dp_ex (e.trans e2) hd)
theorem EvU.d {xs : List V} {ds : List PyData} (h : EvU te σ H xs) (hd : ∀ H, DpAll K H xs ds) : EvD K te σ H (.tuple ds) := fun H1 e Q q => h H1 e Q fun p H2 _ e2 hp => q _ H2 e2 (.tup (st_of hp) (hd H2))
theorem evG_tup2 {P1 P2 : V → Hp → Prop} (h1 : EvG ta σ H P1) (m1 : ∀ v H1 H2, Ex H1 H2 → P1 v H1 → P1 v H2) (h2 : EvG tb σ H P2) (m2 : ∀ v H1 H2, Ex H1 H2 → P2 v H1 → P2 v H2) :
    EvG (tTup (tCons ta (tCons tb tNil))) σ H (fun v H' => ∃ p a c, v = .ref p ∧ H p = none ∧ H' p = some (.tup [a, c]) ∧ P1 a H' ∧ P2 c H') := fun H1 e Q q =>
  h1 H1 e _ fun a H2 e2 p1 => h2 H2 (e.trans e2) _ fun c H3 e3 p2 => ⟨(by decide : 2 ≤ sizeLine), fun p np =>
    q _ _ ((e2.trans e3).trans (Ex.new np)) ⟨p, a, c, rfl, fresh_back ((e.trans e2).trans e3) np, upd_same, m1 _ _ _ (e3.trans (Ex.new np)) p1, m2 _ _ _ (Ex.new np) p2⟩⟩
theorem evD_tup2 {d1 d2 : PyData} (h1 : EvD K ta σ H d1) (h2 : EvD K tb σ H d2) : EvD K (tTup (tCons ta (tCons tb tNil))) σ H (.tuple [d1, d2]) :=
  (evG_tup2 h1 (fun _ _ _ e h => dp_ex e h) h2 (fun _ _ _ e h => dp_ex e h)).imp fun v H1 _ ⟨p, a, c, ev, _, hp, d1, d2⟩ => by
    subst ev
    exact .tup (st_of hp) (.cons d1 (.cons d2 .nil))
theorem et_neD {d : PyData} (h1 : EvD K ta σ H d) (h2 : EvD K tb σ H d) (sh : SeqAt.shaped d = true) : EvT (tTest (tOp (rNeD K) ta tb)) σ H false :=
  et_test (opG h1 (fun _ _ _ e h => dp_ex e h) h2 fun a c H1 _ da dc => rv_neS da dc sh)
theorem evG_op {P1 P2 P : V → Hp → Prop} (h1 : EvG ta σ H P1) (m1 : ∀ v H1 H2, Ex H1 H2 → P1 v H1 → P1 v H2) (h2 : EvG tb σ H P2) (hr : ∀ a c H1, Ex H H1 → P1 a H1 → P2 c H1 → ∀ Q : VK, (∀ v H2, Ex H1 H2 → P v H2 → Q v H2) → r a c H1 Q) : EvG (tOp r ta tb) σ H P := fun H1 e Q q =>
  h1 H1 e _ fun a H2 e2 p1 => h2 H2 (e.trans e2) _ fun c H3 e3 p2 => hr a c H3 ((e.trans e2).trans e3) (m1 _ _ _ e3 p1) p2 Q fun v H4 e4 p => q v H4 ((e2.trans e3).trans e4) p
theorem el_rep1 {x : V} {c : Bool} (ha : EvL ta σ H [x]) (hb : Ev tb σ H (.int (if c then 1 else 0))) : EvL (tOp rRep ta tb) σ H (if c then [x] else []) := fun H1 e Q q =>
  ha H1 e _ fun p H2 np e2 hp => hb H2 (e.trans e2) _ fun H3 e3 => ⟨p, _, [x], rfl, rfl, e3 _ _ hp, by split <;> decide, by split <;> decide, by split <;> first | (show 1 ≤ sizeLine; decide) | (show 0 ≤ sizeLine; decide), fun l nl => by
    refine q l _ (fresh_back (e2.trans e3) nl) ((e2.trans e3).trans (Ex.new nl)) ?_
    rw [upd_same]
    cases c <;> rfl⟩
theorem ev_lenSet {ns : List Int} {p : Addr} (ha : Ev ta σ H (.ref p)) (h : SqL K H p (ns.map V.int)) (nd : ns.Nodup) (hl : ns.length ≤ 4000) : Ev (RZ.tLenSetI K ta) σ H (.int ((ns.length : Nat) : Int)) := fun H1 e Q q =>
  ha H1 e _ fun H2 e2 => ⟨p, ns, rfl, ex_l (e.trans e2) h, nd, hl, q H2 e2⟩
end
/-! ### all rows and all words -/
def wordsN (b : Nat) : List Nat := (List.range (2 ^ b)).map (cod b)
theorem pw_bit : ∀ p, p < 40 → isPw p = true → ∀ k, k < 6 → p.testBit k = true → p = 2 ^ k := by decide +kernel
theorem pw_form : ∀ p, p < 40 → isPw p = true → p = 0 ∨ ∃ k, k < 6 ∧ p = 2 ^ k := by decide +kernel
theorem len1 {α : Type} {q : α} : ∀ {l : List α}, l.Nodup → q ∈ l → (∀ p ∈ l, p = q) → l.length = 1
  | [], _, h, _ => nomatch h
  | [a], _, _, _ => rfl
  | a :: c :: r, nd, _, h => by
    have h1 := h a List.mem_cons_self
    have h2 := h c (List.mem_cons_of_mem _ List.mem_cons_self)
    rw [h1, h2] at nd
    exact absurd List.mem_cons_self (List.nodup_cons.mp nd).1
theorem no_pow {l : List Nat} (nd : l.Nodup) (hp : ∀ p ∈ l, p < 40 ∧ isPw p = true) (hs : sx l = 0) : ∀ p ∈ l, p = 0 := fun p h => by
  rcases pw_form p (hp p h).1 (hp p h).2 with h0 | ⟨k, hk, e⟩
  · exact h0
  · have t := tb_sx k l
    rw [hs] at t
    have e1 : (l.filter fun p => p.testBit k).length = 1 := by
      refine len1 (q := p) (List.Nodup.sublist List.filter_sublist nd) (List.mem_filter.mpr ⟨h, by rw [e, Nat.testBit_two_pow]; simp⟩) fun z hz => ?_
      have hz := List.mem_filter.mp hz
      rw [e]
      exact pw_bit z (hp z hz.1).1 (hp z hz.1).2 k hk hz.2
    rw [e1] at t
    simp at t
theorem is_word {b n : Nat} (h4 : 4 ≤ b) (h32 : b ≤ 32) (hn : n < 2 ^ pl b) : n ∈ wordsN b ↔ (spotN (pl b) n = 0 ∧ parB (pl b) n = false) := by
  have hpl := pl_le h32
  constructor
  · intro h
    obtain ⟨v, _, rfl⟩ := List.mem_map.mp h
    exact ⟨cod_spot h4 h32, cod_par h4 h32⟩
  · rintro ⟨hs, hp⟩
    have hv : valN b n < 2 ^ b := row_lt (List.Nodup.sublist List.filter_sublist List.nodup_range) fun p hp => List.mem_range.mp (List.mem_filter.mp hp).1
    refine List.mem_map.mpr ⟨valN b n, List.mem_range.mpr hv, ?_⟩
    have cl := cod_lt (v := valN b n) h4 h32
    have hx : n ^^^ cod b (valN b n) < 2 ^ pl b := Nat.xor_lt_two_pow hn cl
    have sx0 : sx (bs (pl b) (n ^^^ cod b (valN b n))) = 0 := by
      show spotN _ _ = 0
      rw [spot_xor cl, hs, cod_spot h4 h32]; rfl
    have px : parB (pl b) (n ^^^ cod b (valN b n)) = false := by rw [par_xor cl, hp, cod_par h4 h32]; rfl
    have pw : ∀ p ∈ bs (pl b) (n ^^^ cod b (valN b n)), p < 40 ∧ isPw p = true := fun p hp => by
      have hm := bs_mem.mp hp
      refine ⟨by omega, ?_⟩
      cases e : isPw p with
      | true => rfl
      | false =>
        have hd : p ∈ dtN b := List.mem_filter.mpr ⟨List.mem_range.mpr hm.1, by rw [e]; rfl⟩
        obtain ⟨i, hi, ei⟩ := List.getElem_of_mem hd
        have hib : i < b := by have := dt_len b (by omega) h4; omega
        have ed : dt b i = p := by
          have := dt_at h4 h32 hib
          rw [List.getElem?_eq_getElem hi, ei] at this
          exact (Option.some.inj this).symm
        have t := hm.2
        rw [← ed, Nat.testBit_xor, cod_data h4 h32 hib] at t
        unfold valN at t
        rw [tb_row (List.Nodup.sublist List.filter_sublist List.nodup_range)] at t
        have iff : (i ∈ (List.range b).filter fun i => n.testBit (dt b i)) ↔ n.testBit (dt b i) = true := by
          rw [List.mem_filter, List.mem_range]
          exact ⟨fun z => z.2, fun z => ⟨hib, z⟩⟩
        cases c : n.testBit (dt b i) with
        | true => rw [c, decide_eq_true (iff.mpr c)] at t; cases t
        | false => rw [c, decide_eq_false (fun z => by rw [iff.mp z] at c; cases c)] at t; cases t
    have all0 := no_pow (bs_nodup _ _) pw sx0
    have nil : bs (pl b) (n ^^^ cod b (valN b n)) = [] := by
      have nd := bs_nodup (pl b) (n ^^^ cod b (valN b n))
      unfold parB at px
      have px := of_decide_eq_false px
      cases h : bs (pl b) (n ^^^ cod b (valN b n)) with
      | nil => rfl
      | cons a r =>
        rw [h] at nd px all0
        have := len1 (q := 0) nd (by rw [← all0 a List.mem_cons_self]; exact List.mem_cons_self) all0
        rw [this] at px
        exact absurd rfl px
    have e := row_bs hx
    rw [nil] at e
    exact (xor0 e.symm).symm
/-- what is due of a row -/
def dueD (b n : Nat) : PyData := if parB (pl b) n then (if spotN (pl b) n < pl b then .tuple [.tuple [.str "one", .int ((spotN (pl b) n : Nat) : Int)], .int ((flip n [spotN (pl b) n] : Nat) : Int)] else .tuple [.tuple [.str "more", .none], .none])
  else (if spotN (pl b) n = 0 then .tuple [.tuple [.str "clean", .none], .int (n : Int)] else .tuple [.tuple [.str "more", .none], .none])
def stD (b n : Nat) : PyData := if parB (pl b) n then (if spotN (pl b) n < pl b then .tuple [.str "one", .int ((spotN (pl b) n : Nat) : Int)] else .tuple [.str "more", .none]) else (if spotN (pl b) n = 0 then .tuple [.str "clean", .none] else .tuple [.str "more", .none])
def meD (b n : Nat) : PyData := if parB (pl b) n then (if spotN (pl b) n < pl b then .int ((flip n [spotN (pl b) n] : Nat) : Int) else .none) else (if spotN (pl b) n = 0 then .int (n : Int) else .none)
theorem due_eq (b n : Nat) : dueD b n = .tuple [stD b n, meD b n] := by
  unfold dueD stD meD
  split <;> split <;> rfl
theorem due_sh (b n : Nat) : SeqAt.shaped (dueD b n) = true := by
  have s1 : PyData.strOk ("one" : Str) = true := by decide +kernel
  have s2 : PyData.strOk ("more" : Str) = true := by decide +kernel
  have s3 : PyData.strOk ("clean" : Str) = true := by decide +kernel
  unfold dueD
  split <;> split
  · exact (Lay.tuple (n := 4) (.cons (.tuple (n := 3) (.cons (.str s1) (.cons (.int _) .nil))) (.cons (.int _) .nil))).sh
  · exact (Lay.tuple (n := 4) (.cons (.tuple (n := 3) (.cons (.str s2) (.cons .none .nil))) (.cons .none .nil))).sh
  · exact (Lay.tuple (n := 4) (.cons (.tuple (n := 3) (.cons (.str s3) (.cons .none .nil))) (.cons (.int _) .nil))).sh
  · exact (Lay.tuple (n := 4) (.cons (.tuple (n := 3) (.cons (.str s2) (.cons .none .nil))) (.cons .none .nil))).sh
theorem st_dp {K : PySem.W.Frag} (b n : Nat) : ∃ ds, stD b n = .tuple ds ∧ ∀ H, DpAll K H (stV b n) ds := by
  unfold stD stV
  split <;> split
  · exact ⟨_, rfl, fun H => .cons (.str _) (.cons (.int _) .nil)⟩
  · exact ⟨_, rfl, fun H => .cons (.str _) (.cons .non .nil)⟩
  · exact ⟨_, rfl, fun H => .cons (.str _) (.cons .non .nil)⟩
  · exact ⟨_, rfl, fun H => .cons (.str _) (.cons .non .nil)⟩
theorem me_dp {K : PySem.W.Frag} (b n : Nat) (H : Hp) : Dp K H (menV b n) (meD b n) := by
  unfold meD menV
  split <;> split
  · exact .int _
  · exact .non
  · exact .int _
  · exact .non
/-- a place turned in a list of places -/
def togg (l : List Nat) (p : Nat) : List Nat := l.filter (fun m => !decide (m = p)) ++ (if p ∉ l then [p] else [])
theorem togg_nodup {l : List Nat} {p : Nat} (nd : l.Nodup) : (togg l p).Nodup := by
  unfold togg
  refine List.nodup_append.mpr ⟨List.Nodup.sublist List.filter_sublist nd, by split <;> simp, fun a ha c hc e => ?_⟩
  split at hc
  · rename_i h
    rw [List.mem_singleton.mp hc] at e
    exact h (e ▸ (List.mem_filter.mp ha).1)
  · cases hc
theorem togg_mem {l : List Nat} {p q : Nat} : q ∈ togg l p ↔ ((q ∈ l ∧ q ≠ p) ∨ (q = p ∧ p ∉ l)) := by
  unfold togg
  rw [List.mem_append, List.mem_filter]
  by_cases h : p ∈ l
  · rw [if_neg (fun z => z h)]
    constructor
    · rintro (⟨a, c⟩ | z)
      · exact Or.inl ⟨a, fun e => by rw [decide_eq_true e] at c; cases c⟩
      · cases z
    · rintro (⟨a, c⟩ | ⟨_, z⟩)
      · exact Or.inl ⟨a, by rw [decide_eq_false c]; rfl⟩
      · exact absurd h z
  · rw [if_pos h]
    constructor
    · rintro (⟨a, c⟩ | z)
      · exact Or.inl ⟨a, fun e => by rw [decide_eq_true e] at c; cases c⟩
      · exact Or.inr ⟨List.mem_singleton.mp z, h⟩
    · rintro (⟨a, c⟩ | ⟨e, _⟩)
      · exact Or.inl ⟨a, by rw [decide_eq_false c]; rfl⟩
      · rw [e]; exact Or.inr (List.mem_singleton.mpr rfl)
theorem togg_row {l : List Nat} {p : Nat} (nd : l.Nodup) : rowOf (togg l p) = rowOf l ^^^ 2 ^ p := by
  refine Nat.eq_of_testBit_eq fun q => ?_
  rw [tb_row (togg_nodup nd), tb_flip1, tb_row nd]
  by_cases h : q ∈ l <;> by_cases e : p = q
  · subst e
    rw [decide_eq_true h, decide_eq_true rfl, decide_eq_false]
    · rfl
    · intro z
      rcases togg_mem.mp z with z | z
      · exact z.2 rfl
      · exact z.2 h
  · rw [decide_eq_true h, decide_eq_false e, decide_eq_true (togg_mem.mpr (Or.inl ⟨h, fun z => e z.symm⟩))]
    rfl
  · subst e
    rw [decide_eq_false h, decide_eq_true rfl, decide_eq_true (togg_mem.mpr (Or.inr ⟨rfl, h⟩))]
    rfl
  · rw [decide_eq_false h, decide_eq_false e, decide_eq_false]
    · rfl
    · intro z
      rcases togg_mem.mp z with z | z
      · exact h z.1
      · exact e z.1.symm
theorem togg_len {l : List Nat} {p : Nat} : (togg l p).length ≤ l.length + 1 := by
  unfold togg
  rw [List.length_append]
  have := List.length_filter_le (fun m => !decide (m = p)) l
  split
  · show _ + 1 ≤ _; omega
  · show _ + 0 ≤ _; omega
theorem togg_iL (l : List Nat) (p : Nat) : (iL (l.filter (fun m => !decide (V.int (m : Int) = V.int (p : Int))))).map V.int ++ (if (!decide ((p : Int) ∈ iL l)) = true then [V.int (p : Int)] else []) = (iL (togg l p)).map V.int := by
  unfold togg
  rw [iL_app]
  congr 1
  · congr 2
    refine List.filter_congr fun m _ => ?_
    congr 1
    refine decide_eq_decide.mpr ⟨fun z => ?_, fun z => by rw [z]⟩
    injection z with z
    omega
  · by_cases h : p ∈ l
    · rw [decide_eq_true (mem_iL.mpr h), if_neg (by decide), if_neg (fun z => z h)]; rfl
    · rw [decide_eq_false (fun z => h (mem_iL.mp z)), if_pos (by decide), if_pos h]; rfl
def spLstate (K : PySem.W.Frag) : Sp := fun vs H Q _ => ∃ (wa : Addr) (b n : Nat), vs = [.ref wa, .int ((pl b : Nat) : Int), .int (n : Int)] ∧ 4 ≤ b ∧ b ≤ 7 ∧ n < 2 ^ pl b ∧ SqL K H wa ((iL (wordsN b)).map V.int) ∧ ∀ x H', Dp K H' x (dueD b n) → Ex H H' → Q x H'
theorem s_appG {K : PySem.W.Frag} {σ : L2.St} {H : Hp} {ta te : TE} {D : Ends} {l : Addr} {xs : List V} {P : V → Hp → Prop} (hl : H l = some (.lst xs)) (ha : Ev ta σ H (.ref l)) (h : EvG te σ H P) (hz : xs.length < 100000) (k : ∀ v H1, Ex H H1 → P v H1 → D.nx σ (upd H1 l (.lst (xs ++ [v])))) :
    tDrop (tBM K "list" rAppend ta (tCons te tNil)) D σ H := ha H (Ex.refl H) _ fun H1 e1 =>
  ⟨Or.inl ⟨rfl, xs, sq_of (e1 l _ hl)⟩, h H1 e1 _ fun v H2 e2 pv => ⟨l, xs, v, rfl, rfl, e2 l _ (e1 l _ hl), sz_lt hz, k v H2 (e1.trans e2) pv⟩⟩
end My
set_option Elab.async false
set_option linter.all false
set_option maxRecDepth 100000
set_option maxHeartbeats 1000000
/-! ### values of which a property is known: calls, choices; lists with a star -/
namespace My
open PySem PySem.Spec PyProof.Rows L2 Evl
section
variable {K : PySem.W.Frag} {σ : L2.St} {H : Hp} {ta tb te : TE} {t u : TT} {D : Ends} {tz tu : TS} {P : V → Hp → Prop}
def SpG (sp : Sp) (vs : List V) (H : Hp) (P : V → Hp → Prop) : Prop := ∀ H1, Ex H H1 → ∀ Q : VK, (∀ v H2, Ex H1 H2 → P v H2 → Q v H2) → ∀ E : XK, sp vs H1 Q E
theorem evG_call {sp : Sp} {dvs vs : List V} {E : XK} {tA : TA} (h : EvA tA σ H vs) (hs : SpG sp (vs ++ dvs) H P) : EvG (tCall sp dvs E tA) σ H P := fun H1 e Q q =>
  h H1 e _ fun H2 e2 => hs H2 (e.trans e2) Q (fun v H3 e3 p => q v H3 (e2.trans e3) p) E
theorem evG_callL {sp : Sp} {dvs xs : List V} {E : XK} (h : EvL te σ H xs) (hs : ∀ p H1, H1 p = some (.lst xs) → Ex H H1 → SpG sp ([.ref p] ++ dvs) H1 P) : EvG (tCall sp dvs E (tCons te tNil)) σ H P := fun H1 e Q q =>
  h H1 e _ fun p H2 _ e2 hp => hs p H2 hp (e.trans e2) H2 (Ex.refl _) Q (fun v H3 e3 p => q v H3 (e2.trans e3) p) E
theorem evG_if {b : Bool} (h : EvT t σ H b) (h1 : b = true → EvG ta σ H P) (h2 : b = false → EvG tb σ H P) : EvG (tIf t ta tb) σ H P := fun H1 e Q q => h H1 e _ fun H2 e2 => by
  cases b with
  | true => exact iteT (h1 rfl H2 (e.trans e2) Q fun v H3 e3 p => q v H3 (e2.trans e3) p)
  | false => exact iteF (h2 rfl H2 (e.trans e2) Q fun v H3 e3 p => q v H3 (e2.trans e3) p)
theorem EvU.gi {xs : List V} (h : EvU te σ H xs) (i : ∀ p H1, Ex H H1 → H1 p = some (.tup xs) → P (.ref p) H1) : EvG te σ H P := fun H1 e Q q => h H1 e Q fun p H2 _ e2 hp => q _ H2 e2 (i p H2 (e.trans e2) hp)
theorem EvL.gi {xs : List V} (h : EvL te σ H xs) (i : ∀ p H1, Ex H H1 → H1 p = some (.lst xs) → P (.ref p) H1) : EvG te σ H P := fun H1 e Q q => h H1 e Q fun p H2 _ e2 hp => q _ H2 e2 (i p H2 (e.trans e2) hp)
theorem Ev.gi {v : V} (h : Ev te σ H v) (i : ∀ H1, Ex H H1 → P v H1) : EvG te σ H P := fun H1 e Q q => h H1 e Q fun H2 e2 => q _ H2 e2 (i H2 (e.trans e2))
/-- tuple(a list) -/
theorem eu_tupleL {p : Addr} {xs : List V} (ha : Ev ta σ H (.ref p)) (h : SqL K H p xs) : EvU (tCB (rTupS K) (tCons ta tNil)) σ H xs := fun H1 e Q q =>
  ha H1 e _ fun H2 e2 => ⟨p, xs, rfl, Or.inl ⟨ex_l (e.trans e2) h, fun l nl => q l _ (fresh_back e2 nl) (e2.trans (Ex.new nl)) upd_same⟩⟩
theorem eu_tupleN {xs : List V} (h : EvL ta σ H xs) : EvU (tCB (rTupS K) (tCons ta tNil)) σ H xs := fun H1 e Q q =>
  h H1 e _ fun p H2 _ e2 hp => ⟨p, xs, rfl, Or.inl ⟨sq_of hp, fun l nl => q l _ (fresh_back e2 nl) (e2.trans (Ex.new nl)) upd_same⟩⟩
/-- list(a tuple) -/
theorem el_listU {p : Addr} {xs : List V} (ha : Ev ta σ H (.ref p)) (h : SqT K H p xs) : EvL (tCB (rListS K) (tCons ta tNil)) σ H xs := fun H1 e Q q =>
  ha H1 e _ fun H2 e2 => ⟨p, xs, rfl, Or.inr (ex_t (e.trans e2) h), fun l nl => q l _ (fresh_back e2 nl) (e2.trans (Ex.new nl)) upd_same⟩
/-- word, *words = .. -/
theorem q_star {i j : Nat} {x : V} {xs : List V} (h : EvL te σ H (x :: xs)) (k : ∀ p H1, Ex H H1 → H1 p = some (.lst xs) → tz D ((σ.set i (some x)).set j (some (.ref p))) H1) : tSeq (tAsg te (gStar K 1 (gCons (gName i) (gCons (gName j) gNil)))) tz D σ H :=
  h H (Ex.refl H) _ fun p0 H1 np e h1 => ⟨p0, _, rfl, sq_of h1, by simp, fun p nn => ⟨_, _, rfl, _, _, rfl, rfl, k p _ (e.trans (Ex.new nn)) upd_same⟩⟩
/-- a, b = a list -/
theorem q_unl2 {i j : Nat} {x y : V} (h : EvL te σ H [x, y]) (k : ∀ H1, Ex H H1 → tz D ((σ.set i (some x)).set j (some y)) H1) : tSeq (tAsg te (gUnl K 2 (gCons (gName i) (gCons (gName j) gNil)))) tz D σ H :=
  h H (Ex.refl H) _ fun p H1 np e h1 => ⟨p, _, rfl, sq_of h1, rfl, _, _, rfl, _, _, rfl, rfl, k H1 e⟩
/-- names from a tuple -/
theorem q_unt3 {a : Addr} {i j l : Nat} {x y z : V} (h : Ev te σ H (.ref a)) (hs : SqT K H a [x, y, z]) (k : ∀ H1, Ex H H1 → tz D (((σ.set i (some x)).set j (some y)).set l (some z)) H1) : tSeq (tAsg te (gTup K 3 (gCons (gName i) (gCons (gName j) (gCons (gName l) gNil))))) tz D σ H :=
  h H (Ex.refl H) _ fun H1 e => ⟨a, _, rfl, ex_t e hs, rfl, _, _, rfl, _, _, rfl, _, _, rfl, rfl, k H1 e⟩
theorem q_unt5 {a : Addr} {i j l m n : Nat} {x y z v w : V} (h : Ev te σ H (.ref a)) (hs : SqT K H a [x, y, z, v, w]) (k : ∀ H1, Ex H H1 → tz D (((((σ.set i (some x)).set j (some y)).set l (some z)).set m (some v)).set n (some w)) H1) :
    tSeq (tAsg te (gTup K 5 (gCons (gName i) (gCons (gName j) (gCons (gName l) (gCons (gName m) (gCons (gName n) gNil))))))) tz D σ H :=
  h H (Ex.refl H) _ fun H1 e => ⟨a, _, rfl, ex_t e hs, rfl, _, _, rfl, _, _, rfl, _, _, rfl, _, _, rfl, _, _, rfl, rfl, k H1 e⟩
theorem ea_star {p : Addr} {xs ys : List V} {tA : TA} (h : Ev te σ H (.ref p)) (hs : SqT K H p xs ∨ SqL K H p xs) (h2 : EvA tA σ H ys) : EvA (StX.tStar K te tA) σ H (xs ++ ys) := fun H1 e Q q =>
  h H1 e _ fun H2 e2 => ⟨p, xs, rfl, hs.imp (ex_t (e.trans e2)) (ex_l (e.trans e2)), h2 H2 (e.trans e2) _ fun H3 e3 => q H3 (e2.trans e3)⟩
/-- text.split(" ") -/
theorem el_split {x : Str} {r : V → List V → Hp → VK → Prop} (hr : ∀ H1 Q, (∀ p, H1 p = none → Q (.ref p) (upd H1 p (.lst ((Txt.split x blank).map V.str)))) → r (.str x) [.str blank] H1 Q) (h : Ev ta σ H (.str x)) (h2 : Ev tb σ H (.str blank)) : EvL (tBM K "str" r ta (tCons tb tNil)) σ H ((Txt.split x blank).map V.str) := fun H1 e Q q =>
  h H1 e _ fun H2 e2 => ⟨rfl, h2 H2 (e.trans e2) _ fun H3 e3 => hr H3 _ fun p np => q p _ (fresh_back (e2.trans e3) np) ((e2.trans e3).trans (Ex.new np)) upd_same⟩
/-- " ".join(a list) -/
theorem ev_joinN {b : Str} {ys : List Str} {r : V → List V → Hp → VK → Prop} (hr : ∀ p H1 Q, H1 p = some (.lst (ys.map V.str)) → Q (.str (Txt.join b ys)) H1 → r (.str b) [.ref p] H1 Q) (h : Ev ta σ H (.str b)) (h2 : EvL tb σ H (ys.map V.str)) : Ev (tBM K "str" r ta (tCons tb tNil)) σ H (.str (Txt.join b ys)) := fun H1 e Q q =>
  h H1 e _ fun H2 e2 => ⟨rfl, h2 H2 (e.trans e2) _ fun p H3 _ e3 hp => hr p H3 _ hp (q H3 (e2.trans e3))⟩
theorem ev_joinL {b : Str} {p : Addr} {ys : List Str} {r : V → List V → Hp → VK → Prop} (hr : ∀ H1 Q, Ex H H1 → Q (.str (Txt.join b ys)) H1 → r (.str b) [.ref p] H1 Q) (h : Ev ta σ H (.str b)) (h2 : Ev tb σ H (.ref p)) : Ev (tBM K "str" r ta (tCons tb tNil)) σ H (.str (Txt.join b ys)) := fun H1 e Q q =>
  h H1 e _ fun H2 e2 => ⟨rfl, h2 H2 (e.trans e2) _ fun H3 e3 => hr H3 _ ((e.trans e2).trans e3) (q H3 (e2.trans e3))⟩
end
theorem Dp.tup_inv {K : PySem.W.Frag} {H : Hp} {v : V} {ds : List PyData} (h : Dp K H v (.tuple ds)) : ∃ a xs, v = .ref a ∧ SqT K H a xs ∧ DpAll K H xs ds := by
  cases h with
  | tup hs hd => exact ⟨_, _, rfl, hs, hd⟩
theorem Dp.str_inv {K : PySem.W.Frag} {H : Hp} {v : V} {x : Str} (h : Dp K H v (.str x)) : v = .str x := by cases h; rfl
theorem Dp.int_inv {K : PySem.W.Frag} {H : Hp} {v : V} {x : Int} (h : Dp K H v (.int x)) : v = .int x := by cases h; rfl
theorem DpAll.cons_inv {K : PySem.W.Frag} {H : Hp} {vs : List V} {d : PyData} {ds : List PyData} (h : DpAll K H vs (d :: ds)) : ∃ v r, vs = v :: r ∧ Dp K H v d ∧ DpAll K H r ds := by
  cases h with
  | cons a b => exact ⟨_, _, rfl, a, b⟩
theorem DpAll.nil_inv {K : PySem.W.Frag} {H : Hp} {vs : List V} (h : DpAll K H vs []) : vs = [] := by cases h; rfl
theorem DpAll.texts_inv {K : PySem.W.Frag} {H : Hp} : ∀ {vs : List V} {xs : List Str}, DpAll K H vs (xs.map .str) → vs = xs.map V.str
  | _, [], h => DpAll.nil_inv h
  | _, x :: xs, h => by
    obtain ⟨v, r, rfl, a, b⟩ := DpAll.cons_inv h
    rw [Dp.str_inv a, DpAll.texts_inv b]
    rfl
end My
set_option Elab.async false
set_option linter.all false
set_option maxRecDepth 100000
set_option maxHeartbeats 1000000
/-! ### drawn names; texts repeated, cut; lots by their neighbours -/
namespace My
open PySem PySem.Spec PyProof.Rows L2 Evl
def rMulS : R2 := fun x y H Q => ∃ (a : Str) (n : Int), x = .str a ∧ y = .int n ∧ MulOk a n ∧ Q (.str (Txt.mul a n)) H
theorem op_mulS {X : Cx} : OpR X (binaryOp .Mult) rMulS := by
  intro pins s σ H x y u v Q I rx ry h
  obtain ⟨a, n, rfl, rfl, ok, q⟩ := h
  obtain ⟨t, rfl⟩ := rx
  obtain ⟨t2, rfl⟩ := ry
  exact SB.mul ok fun t' k => ⟨.str _, H, I.tok _, ⟨_, rfl⟩, q⟩
theorem tl_cut_to (x : Str) (k : Nat) : TL.tl (cutS x none (some (k : Int))) = (TL.tl x).take k := by
  show TL.tl ⟨_⟩ = _
  rw [TL.tl_mk, HT.sIx_none, HT.sIx_nat, List.drop_zero, Nat.sub_zero]
  show List.take (min k x.length) (TL.tl x) = _
  rw [TL.len_tl]
  by_cases h : k ≤ (TL.tl x).length
  · rw [Nat.min_eq_left h]
  · rw [Nat.min_eq_right (by omega), List.take_of_length_le (Nat.le_refl _), List.take_of_length_le (by omega)]
theorem tl_cut_from (x : Str) (k : Nat) : TL.tl (cutS x (some (k : Int)) none) = (TL.tl x).drop k := by
  show TL.tl ⟨_⟩ = _
  rw [TL.tl_mk, HT.sIx_none, HT.sIx_nat]
  show List.take (x.length - min k x.length) (List.drop (min k x.length) (TL.tl x)) = _
  rw [TL.len_tl]
  by_cases h : k ≤ (TL.tl x).length
  · rw [Nat.min_eq_left h, List.take_of_length_le (by rw [List.length_drop]; omega)]
  · rw [Nat.min_eq_right (by omega), List.drop_of_length_le (Nat.le_refl _), List.drop_of_length_le (by omega), List.take_nil]
/-! the drawn names -/
def sgL : List Nat := signs.cps.toList
def al (i : Nat) : Nat := sgL.getD (i % 36) 0
theorem sgL_len : sgL.length = 36 := by decide +kernel
theorem sgL_nodup : sgL.Nodup := by decide +kernel
theorem al_mem (i : Nat) : al i ∈ sgL := by
  unfold al
  have h : i % 36 < sgL.length := by rw [sgL_len]; exact Nat.mod_lt _ (by decide)
  rw [List.getD_eq_getElem?_getD, List.getElem?_eq_getElem h]
  exact List.getElem_mem h
theorem al_inj {i j : Nat} (h : al i = al j) : i % 36 = j % 36 := by
  unfold al at h
  have h1 : i % 36 < sgL.length := by rw [sgL_len]; exact Nat.mod_lt _ (by decide)
  have h2 : j % 36 < sgL.length := by rw [sgL_len]; exact Nat.mod_lt _ (by decide)
  rw [List.getD_eq_getElem?_getD, List.getElem?_eq_getElem h1, List.getD_eq_getElem?_getD, List.getElem?_eq_getElem h2] at h
  have pw := List.pairwise_iff_getElem.mp sgL_nodup
  rcases Nat.lt_trichotomy (i % 36) (j % 36) with lt | e | gt
  · exact absurd h (pw _ _ h1 h2 lt)
  · exact e
  · exact absurd h.symm (pw _ _ h2 h1 gt)
def baseL (n : Nat) : List Nat := (List.range (n % 12)).map fun k => al (n + 7 * k * k)
def ownL (n k : Nat) : List Nat := if (n / 144 + k) % 3 = 0 then (baseL n).drop 1 else baseL n
def spN (n k : Nat) : Nat := min (n / 12 % ((baseL n).length + 1)) (ownL n k).length
def nmL (n k : Nat) : List Nat := (ownL n k).take (spN n k) ++ [al (n / 11 + 5 * k)] ++ (ownL n k).drop (spN n k)
def nm (n k : Nat) : Str := ⟨(nmL n k).toArray⟩
theorem baseL_len (n : Nat) : (baseL n).length ≤ 11 := by
  unfold baseL
  rw [List.length_map, List.length_range]
  have := Nat.mod_lt n (show 12 > 0 by decide)
  omega
theorem baseL_mem (n : Nat) : ∀ c ∈ baseL n, c ∈ sgL := by
  intro c hc
  unfold baseL at hc
  obtain ⟨k, _, rfl⟩ := List.mem_map.mp hc
  exact al_mem _
theorem ownL_mem (n k : Nat) : ∀ c ∈ ownL n k, c ∈ sgL := by
  intro c hc
  unfold ownL at hc
  split at hc
  · exact baseL_mem n c (List.mem_of_mem_drop hc)
  · exact baseL_mem n c hc
theorem ownL_len (n k : Nat) : (ownL n k).length ≤ 11 := by
  have := baseL_len n
  unfold ownL
  split
  · rw [List.length_drop]; omega
  · exact this
theorem nmL_len (n k : Nat) : (nmL n k).length = (ownL n k).length + 1 := by
  unfold nmL
  rw [List.length_append, List.length_append, List.length_take, List.length_drop, List.length_singleton]
  have : spN n k ≤ (ownL n k).length := Nat.min_le_right _ _
  omega
theorem nmL_mem (n k : Nat) : ∀ c ∈ nmL n k, c ∈ sgL := by
  intro c hc
  unfold nmL at hc
  rcases List.mem_append.mp hc with hc | hc
  · rcases List.mem_append.mp hc with hc | hc
    · exact ownL_mem n k c (List.mem_of_mem_take hc)
    · rw [List.mem_singleton.mp hc]; exact al_mem _
  · exact ownL_mem n k c (List.mem_of_mem_drop hc)
theorem tl_nm (n k : Nat) : TL.tl (nm n k) = nmL n k := TL.tl_mk _
theorem nm_len (n k : Nat) : (nm n k).length = (ownL n k).length + 1 := by rw [TL.len_tl, tl_nm, nmL_len]
theorem nm_name (n k : Nat) : isName (nm n k) = true := by
  unfold isName
  rw [Bool.and_eq_true, decide_eq_true_eq]
  have := nm_len n k
  have := ownL_len n k
  refine ⟨by omega, List.all_eq_true.mpr fun c hc => decide_eq_true ?_⟩
  have e : c ∈ TL.tl (nm n k) := hc
  rw [tl_nm] at e
  exact nmL_mem n k c e
theorem isName_gt {x : Str} (h : isName x = true) : Gt 12 x := by
  unfold isName at h
  rw [Bool.and_eq_true, decide_eq_true_eq] at h
  refine ⟨(strOk_iff x).mpr fun c hc => ?_, h.1.2⟩
  have := of_decide_eq_true (List.all_eq_true.mp h.2 c hc)
  have all : ∀ c ∈ sgL, c < 1114112 := by decide +kernel
  exact all c this
theorem nm_inj {n k j : Nat} (hk : k < 9) (hj : j < 9) (h : nm n k = nm n j) : k = j := by
  have e : nmL n k = nmL n j := by rw [← tl_nm, ← tl_nm, h]
  have el : (ownL n k).length = (ownL n j).length := by
    have := congrArg List.length e
    rw [nmL_len, nmL_len] at this
    omega
  have eo : ownL n k = ownL n j := by
    unfold ownL at el ⊢
    by_cases h1 : (n / 144 + k) % 3 = 0 <;> by_cases h2 : (n / 144 + j) % 3 = 0
    · rw [if_pos h1, if_pos h2]
    · rw [if_pos h1, if_neg h2, List.length_drop] at el
      rw [if_pos h1, if_neg h2]
      have : baseL n = [] := List.length_eq_zero_iff.mp (by omega)
      rw [this]; rfl
    · rw [if_neg h1, if_pos h2, List.length_drop] at el
      rw [if_neg h1, if_pos h2]
      have : baseL n = [] := List.length_eq_zero_iff.mp (by omega)
      rw [this]; rfl
    · rw [if_neg h1, if_neg h2]
  have es : spN n k = spN n j := by unfold spN; rw [eo]
  unfold nmL at e
  rw [eo, es, List.append_assoc, List.append_assoc] at e
  have e2 := List.append_cancel_left e
  have e3 : al (n / 11 + 5 * k) = al (n / 11 + 5 * j) := by
    simpa using e2
  have := al_inj e3
  omega
theorem nms_nodup (n m : Nat) (hm : m ≤ 9) : ((List.range m).map (nm n)).Nodup := by
  refine List.pairwise_map.mpr (List.Pairwise.imp_of_mem (fun {i j} hi hj (hij : i ≠ j) e => ?_) List.nodup_range)
  have := List.mem_range.mp hi
  have := List.mem_range.mp hj
  exact hij (nm_inj (by omega) (by omega) e)
/-! lots by their neighbours -/
theorem chain_rises : ∀ {x : Str} {xs : List Str}, (∀ i a b, (x :: xs)[i]? = some a → (x :: xs)[i + 1]? = some b → ltCps a.cps.toList b.cps.toList = true) → Rises (x :: xs)
  | x, [], _ => List.pairwise_cons.mpr ⟨fun _ h => (nomatch h), .nil⟩
  | x, y :: r, h => by
    have rr : Rises (y :: r) := chain_rises fun i a b h1 h2 => h (i + 1) a b h1 h2
    have xy := h 0 x y rfl rfl
    refine List.pairwise_cons.mpr ⟨fun z hz => ?_, rr⟩
    rcases List.mem_cons.mp hz with rfl | later
    · exact xy
    · exact lt_tr _ _ _ xy ((List.pairwise_cons.mp rr).1 z later)
theorem rises_chain {xs : List Str} (h : Rises xs) {i : Nat} {a b : Str} (h1 : xs[i]? = some a) (h2 : xs[i + 1]? = some b) : ltCps a.cps.toList b.cps.toList = true := by
  obtain ⟨hi, rfl⟩ := List.getElem?_eq_some_iff.mp h1
  obtain ⟨hj, rfl⟩ := List.getElem?_eq_some_iff.mp h2
  exact List.pairwise_iff_getElem.mp h i (i + 1) hi hj (by omega)
theorem lt_iff : ∀ x y : List Nat, ltCps x y = true ↔ x < y
  | [], [] => by simp [ltCps]
  | [], _ :: _ => by simp [ltCps]
  | _ :: _, [] => by simp [ltCps]
  | a :: x, b :: y => by
    rw [ltCps]
    simp only [Bool.or_eq_true, Bool.and_eq_true, decide_eq_true_eq, beq_iff_eq]
    rw [List.cons_lt_cons_iff, lt_iff x y]
end My
namespace My
open PySem PySem.Spec PyProof.Rows L2 Evl
theorem el_lcR2 {σ : L2.St} {H : Hp} {te : TE} {t : TT} {tA : TA} {j : Nat} {vs : List Nat} {lo hi : Int} (f : Nat → Bool) (v : Nat → V) (h : EvA tA σ H [.int lo, .int hi]) (hb : -100000 ≤ lo ∧ lo ≤ 100000 ∧ -100000 ≤ hi ∧ hi ≤ 100000) (hz : (hi - lo).toNat ≤ 40000) (hw : ∀ x, wipe ((wipe σ vs).set j (some x)) vs = wipe σ vs)
    (ht : ∀ (i : Nat) (H1 : Hp), Ex H H1 → i < (hi - lo).toNat → EvT t ((wipe σ vs).set j (some (.int (lo + (i : Int))))) H1 (f i)) (he : ∀ (i : Nat) (H1 : Hp), Ex H H1 → i < (hi - lo).toNat → f i = true → Ev te ((wipe σ vs).set j (some (.int (lo + (i : Int))))) H1 (v i)) :
    EvL (tLc (iRng2 tA) (gName j) t te vs) σ H (given (hi - lo).toNat f v) := fun H0 e Q q => h H0 e _ fun H1 e1 => ⟨lo, hi, rfl, by omega, fun Dl hD =>
  lc_range (Cw H1 f v Dl) ⟨hD, Ex.new hD, upd_same⟩ (fun i H' hi p => ⟨hw _, cw_turn p (by omega) (ht i H1 (e.trans e1) hi) fun hf => he i H1 (e.trans e1) hi hf⟩) fun H' p => q Dl H' (fresh_back e1 p.1) (e1.trans p.2.1) p.2.2⟩
theorem ev_anyL {K : PySem.W.Frag} {σ : L2.St} {H : Hp} {bs : List Bool} {ta : TE} (ha : EvL ta σ H (bs.map V.bl)) : Ev (tCB (rAny K) (tCons ta tNil)) σ H (.bl (bs.any id)) := fun H1 e Q q =>
  ha H1 e _ fun p H2 _ e2 hp => ⟨p, bs, rfl, sq_of hp, q H2 e2⟩
theorem rdNum_some {x : Str} {k : Nat} {n : Int} (h : rdNum x k = some n) : numSigns x k = true ∧ nought x = false ∧ n = numOf x := by
  unfold rdNum at h
  split at h
  · rename_i hc
    rw [Bool.and_eq_true, Bool.not_eq_true'] at hc
    exact ⟨hc.1, hc.2, (Option.some.inj h).symm⟩
  · cases h
theorem numSigns_len {x : Str} {k : Nat} (h : numSigns x k = true) : 1 ≤ x.length ∧ x.length ≤ k := by
  unfold numSigns at h
  rw [Bool.and_eq_true, decide_eq_true_eq] at h
  exact h.1
/-- no neighbours of a row of texts stand the wrong way round -/
def upset (on : List Str) (i : Nat) : Bool := !decide ((on.getD i Str.empty).cps.toList < (on.getD (i + 1) Str.empty).cps.toList)
theorem upset_rises (on : List Str) : ((List.range (on.length - 1)).map (upset on)).any id = !decide (Rises on) := by
  rw [List.any_map]
  have at_ : ∀ {i : Nat}, (hi : i < on.length) → on.getD i Str.empty = on[i] := fun hi => by rw [List.getD_eq_getElem?_getD, List.getElem?_eq_getElem hi]; rfl
  by_cases h : Rises on
  · rw [decide_eq_true h]
    refine List.any_eq_false.mpr fun i hi => ?_
    have hi := List.mem_range.mp hi
    have r := rises_chain h (i := i) (List.getElem?_eq_getElem (show i < on.length by omega)) (List.getElem?_eq_getElem (show i + 1 < on.length by omega))
    show ¬ (upset on i = true)
    unfold upset
    rw [at_ (show i < on.length by omega), at_ (show i + 1 < on.length by omega), decide_eq_true ((lt_iff _ _).mp r)]
    decide
  · rw [decide_eq_false h]
    show _ = true
    rw [← Bool.not_eq_false]
    intro hf
    refine h ?_
    have hf := List.any_eq_false.mp hf
    match on, hf with
    | [], _ => exact .nil
    | x :: xs, hf =>
      refine chain_rises fun i a b h1 h2 => ?_
      obtain ⟨hi, rfl⟩ := List.getElem?_eq_some_iff.mp h1
      obtain ⟨hj, rfl⟩ := List.getElem?_eq_some_iff.mp h2
      have := hf i (List.mem_range.mpr (by omega))
      have : ¬ (upset (x :: xs) i = true) := this
      unfold upset at this
      rw [List.getD_eq_getElem?_getD, List.getElem?_eq_getElem hi, List.getD_eq_getElem?_getD, List.getElem?_eq_getElem hj] at this
      refine (lt_iff _ _).mpr ?_
      simpa using this
end My
/-! ### data made of data -/
namespace My
open PySem PySem.Spec PyProof.Rows L2 Evl
section
variable {K : PySem.W.Frag} {σ : L2.St} {H : Hp} {ta tb te : TE} {tA : TA}
def EaD (K : PySem.W.Frag) (tA : TA) (σ : L2.St) (H : Hp) (ds : List PyData) : Prop := ∀ H1, Ex H H1 → ∀ Q : List V → Hp → Prop, (∀ vs H2, Ex H1 H2 → DpAll K H2 vs ds → Q vs H2) → tA σ H1 Q
theorem eaD_nil : EaD K tNil σ H [] := fun H1 _ _ q => q [] H1 (Ex.refl H1) .nil
theorem eaD_cons {d : PyData} {ds : List PyData} (h : EvG te σ H (fun v H' => Dp K H' v d)) (hr : EaD K tA σ H ds) : EaD K (tCons te tA) σ H (d :: ds) := fun H1 e Q q =>
  h H1 e _ fun v H2 e2 hv => hr H2 (e.trans e2) _ fun vs H3 e3 hvs => q _ H3 (e2.trans e3) (.cons (dp_ex e3 hv) hvs)
theorem dpa_len {vs : List V} {ds : List PyData} (h : DpAll K H vs ds) : vs.length = ds.length := by
  induction ds generalizing vs with
  | nil => rw [DpAll.nil_inv h]; rfl
  | cons d ds ih =>
    obtain ⟨v, r, rfl, _, b⟩ := DpAll.cons_inv h
    rw [List.length_cons, List.length_cons, ih b]
theorem evD_tup {ds : List PyData} (h : EaD K tA σ H ds) (hl : ds.length ≤ 100000) : EvG (tTup tA) σ H (fun v H' => Dp K H' v (.tuple ds)) := fun H1 e Q q =>
  h H1 e _ fun vs H2 e2 hvs => ⟨sz_of (by rw [dpa_len hvs]; exact hl), fun p np => q _ _ (e2.trans (Ex.new np)) (.tup (st_of upd_same) (dpa_ex (Ex.new np) hvs))⟩
theorem evD_str {x : Str} (h : Ev te σ H (.str x)) : EvG te σ H (fun v H' => Dp K H' v (.str x)) := Ev.gi h fun _ _ => .str x
theorem evD_int {i : Int} (h : Ev te σ H (.int i)) : EvG te σ H (fun v H' => Dp K H' v (.int i)) := Ev.gi h fun _ _ => .int i
theorem evD_non (h : Ev te σ H .non) : EvG te σ H (fun v H' => Dp K H' v .none) := Ev.gi h fun _ _ => .non
theorem evD_is {d d' : PyData} (h : EvG te σ H (fun v H' => Dp K H' v d)) (e : d = d') : EvG te σ H (fun v H' => Dp K H' v d') := e ▸ h
theorem evD_texts {xs : List Str} (h : EvU te σ H (xs.map V.str)) : EvG te σ H (fun v H' => Dp K H' v (.tuple (xs.map .str))) := EvU.gi h fun _ _ _ hp => .tup (st_of hp) (dpa_texts xs)
theorem ev_opLLe {r : R2} {z : V} {xs ys : List V} (ha : EvL ta σ H xs) (hb : EvL tb σ H ys) (hr : ∀ (p q : Addr) (H1 : Hp), H1 p = some (.lst xs) → H1 q = some (.lst ys) → Ex H H1 → RV r (.ref p) (.ref q) H1 z) : Ev (tOp r ta tb) σ H z := ev_opLL ha hb hr
end
end My
/-! ### lists whose items change -/
namespace My
open PySem PySem.Spec PyProof.Rows L2 Evl
section
variable {K : PySem.W.Frag} {σ : L2.St} {H : Hp} {ta tb tc te : TE} {D : Ends} {l : Addr} {xs : List V}
theorem seqIx {k n : Nat} (h : k < n) : seqIndex? (k : Int) n = some k := by
  unfold seqIndex?
  have h0 : ¬ ((k : Int) < 0) := by omega
  dsimp only
  rw [if_neg h0, if_pos (by rw [Bool.and_eq_true, decide_eq_true_eq, decide_eq_true_eq]; omega), Int.toNat_natCast]
theorem s_popAt {k : Nat} (hl : H l = some (.lst xs)) (ha : Ev ta σ H (.ref l)) (hb : Ev tb σ H (.int (k : Int))) (hk : k < xs.length) (hz : xs.length ≤ 100000) (kk : ∀ H1, Ex H H1 → D.nx σ (upd H1 l (.lst (xs.eraseIdx k)))) :
    tDrop (tBM K "list" rPopAt ta (tCons tb tNil)) D σ H := ha H (Ex.refl H) _ fun H1 e1 =>
  ⟨Or.inl ⟨rfl, xs, sq_of (e1 l _ hl)⟩, hb H1 e1 _ fun H2 e2 => ⟨l, xs, k, k, xs[k], rfl, rfl, e2 l _ (e1 l _ hl), by omega, by omega, seqIx hk, List.getElem?_eq_getElem hk, kk H2 (e1.trans e2)⟩⟩
theorem s_insert {r : V → List V → Hp → VK → Prop} {k : Nat} {y : V} (hl : H l = some (.lst xs)) (ha : Ev ta σ H (.ref l)) (hb : Ev tb σ H (.int (k : Int))) (hc : Ev tc σ H y)
    (hr : ∀ H1 Q, Ex H H1 → Q .non (upd H1 l (.lst (xs.take k ++ [y] ++ xs.drop k))) → r (.ref l) [.int (k : Int), y] H1 Q) (kk : ∀ H1, Ex H H1 → D.nx σ (upd H1 l (.lst (xs.take k ++ [y] ++ xs.drop k)))) :
    tDrop (tBM K "list" r ta (tCons tb (tCons tc tNil))) D σ H := ha H (Ex.refl H) _ fun H1 e1 =>
  ⟨Or.inl ⟨rfl, xs, sq_of (e1 l _ hl)⟩, hb H1 e1 _ fun H2 e2 => hc H2 (e1.trans e2) _ fun H3 e3 => hr H3 _ ((e1.trans e2).trans e3) (kk H3 ((e1.trans e2).trans e3))⟩
theorem s_swapL {i j : Nat} {y1 y2 : V} (h : EvU te σ H [y1, y2]) (hl : H l = some (.lst xs)) (ha : ∀ H', Ev ta σ H' (.ref l)) (hb : ∀ H', Ev tb σ H' (.int (i : Int))) (hc : ∀ H', Ev tc σ H' (.int (j : Int))) (hi : i < xs.length) (hj : j < xs.length)
    (kk : ∀ H1 H2, Ex H H1 → Ex (upd H1 l (.lst (xs.set i y1))) H2 → D.nx σ (upd H2 l (.lst ((xs.set i y1).set j y2)))) :
    tAsg te (gTup K 2 (gCons (gSub ta tb rSetL) (gCons (gSub ta tc rSetL) gNil))) D σ H := h H (Ex.refl H) _ fun p H1 _ e1 hp =>
  ⟨p, _, rfl, st_of hp, rfl, _, _, rfl, ha H1 H1 (Ex.refl _) _ fun H2 e2 => hb H2 H2 (Ex.refl _) _ fun H3 e3 => ⟨l, xs, _, i, rfl, rfl, (e2.trans e3) _ _ (e1 _ _ hl), ixN_nat hi,
    ⟨_, _, rfl, ha _ _ (Ex.refl _) _ fun H4 e4 => hc H4 H4 (Ex.refl _) _ fun H5 e5 => ⟨l, xs.set i y1, _, j, rfl, rfl, (e4.trans e5) _ _ upd_same, ixN_nat (by rw [List.length_set]; exact hj),
      ⟨rfl, kk H3 H5 (e1.trans (e2.trans e3)) (e4.trans e5)⟩⟩⟩⟩⟩
end
end My
set_option Elab.async false
set_option linter.all false
set_option maxRecDepth 100000
set_option maxHeartbeats 1000000
/-! ### letters that were read: what they are shown as is short -/
namespace My
open PySem PySem.Spec PyProof.Rows L2 Evl
theorem digits_lt : ∀ (l : List Nat) (a : Nat), NumText.AllDigits l → l.foldl (fun acc c => acc * 10 + (c - 48)) a + 1 ≤ (a + 1) * 10 ^ l.length
  | [], a, _ => by simp
  | c :: r, a, h => by
    have hc := h c (.head _)
    have ih := digits_lt r (a * 10 + (c - 48)) fun d hd => h d (.tail _ hd)
    rw [List.foldl_cons]
    refine Nat.le_trans ih ?_
    rw [List.length_cons, Nat.pow_succ, ← Nat.mul_assoc, Nat.mul_right_comm]
    exact Nat.mul_le_mul_right _ (by omega)
theorem rdNum_lt {x : Str} {n : Int} (h : rdNum x 18 = some n) : ∃ k : Nat, n = k ∧ k < 10 ^ 18 := by
  obtain ⟨h1, _, rfl⟩ := rdNum_some h
  have hl := numSigns_len h1
  unfold numSigns at h1
  rw [Bool.and_eq_true] at h1
  have hd := allDigs h1.2
  refine ⟨NumText.digitsVal x.cps.toList, rfl, ?_⟩
  have := digits_lt x.cps.toList 0 hd
  have e : NumText.digitsVal x.cps.toList = x.cps.toList.foldl (fun acc c => acc * 10 + (c - 48)) 0 := rfl
  have l2 : x.cps.toList.length = x.length := by rw [Array.length_toList]; rfl
  have p : 10 ^ x.cps.toList.length ≤ 10 ^ 18 := Nat.pow_le_pow_right (by decide) (by omega)
  rw [e]
  omega
def LtB (n : Nat) : Lt → Prop
  | .ord _ _ => True
  | .frm _ _ _ on => on.length ≤ n
theorem rdWs_ok {ws : List Str} {l : Lt} (h : rdWs ws = some l) : LtOk l ∧ LtB ws.length l := by
  match ws, h with
  | [], h => cases h
  | w :: r, h =>
    unfold rdWs at h
    dsimp only at h
    split at h
    · match r, h with
      | [], h => cases h
      | b :: o, h =>
        cases e : rdNum b 18 with
        | none => rw [rdOl_none e] at h; cases h
        | some n =>
          rw [rdOl_some e] at h
          split at h
          · rename_i ho
            cases h
            exact ⟨⟨rdNum_lt e, ho⟩, trivial⟩
          · cases h
    · split at h
      · match r, h with
        | [], h => cases h
        | [_], h => cases h
        | [_, _], h => cases h
        | t :: c :: m :: on, h =>
          unfold rdFl at h
          cases e1 : rdNum t 18 with
          | none => simp [e1] at h
          | some n1 =>
            cases e2 : rdNum c 18 with
            | none => simp [e1, e2] at h
            | some n2 =>
              simp only [e1, e2] at h
              split at h
              · rename_i ho
                rw [Bool.and_eq_true] at ho
                cases h
                exact ⟨⟨rdNum_lt e1, rdNum_lt e2, ho.1, ho.2⟩, by show on.length ≤ _; simp only [List.length_cons]; omega⟩
              · cases h
      · cases h
where
  rdOl_some {x : Str} {r : List Str} {n : Int} (hn : rdNum x 18 = some n) : rdOl (x :: r) = if isOrd r then some (.ord n r) else none := by
    unfold rdOl
    simp only [hn]
  rdOl_none {x : Str} {r : List Str} (hn : rdNum x 18 = none) : rdOl (x :: r) = none := by
    unfold rdOl
    simp only [hn]
theorem shown_num {k : Nat} (h : k < 10 ^ 18) : (PyData.int (k : Int)).shown.length ≤ 18 := by
  rw [PyData.shown_int]
  show (num (k : Int)).length ≤ 18
  rw [num_len]
  exact TL.numL_len (by decide) h
theorem log64 {n : Nat} (h : n < 10 ^ 18) : n.log2 < 64 := by
  rcases Nat.eq_zero_or_pos n with rfl | h0
  · decide
  · exact (Nat.log2_lt (by omega)).mpr (by omega)
structure Short (d : PyData) (k : Nat) : Prop where
  sh : d.showable = true
  nd : d.hasDict = false
  ls : PyData.leavesShort 18 d = true
  wt : d.weight ≤ k
structure ShortA (ds : List PyData) (k : Nat) : Prop where
  sh : PyData.showableAll ds = true
  nd : PyData.hasDictAll ds = false
  ls : PyData.leavesShortAll 18 ds = true
  wt : PyData.weightAll ds ≤ k
theorem Short.str {x : Str} {n : Nat} (h : Gt n x) : Short (.str x) n := ⟨by simp [PyData.showable], by simp [PyData.hasDict], by
  simp only [PyData.leavesShort]
  refine List.all_eq_true.mpr fun c hc => decide_eq_true ?_
  have := (strOk_iff x).mp h.1 c hc
  omega, by simp only [PyData.weight]; exact h.2⟩
theorem Short.int {k : Nat} (h : k < 10 ^ 18) : Short (.int (k : Int)) 64 := ⟨by simp only [PyData.showable]; exact decide_eq_true (by rw [Int.natAbs_natCast]; have := log64 h; omega), by simp [PyData.hasDict], by simp only [PyData.leavesShort]; exact decide_eq_true (shown_num h), by
  simp only [PyData.weight]
  split
  · omega
  · rw [Int.natAbs_natCast]; have := log64 h; omega⟩
theorem ShortA.nil : ShortA [] 0 := ⟨by simp [PyData.showableAll], by simp [PyData.hasDictAll], by simp [PyData.leavesShortAll], by simp [PyData.weightAll]⟩
theorem ShortA.cons {d : PyData} {ds : List PyData} {k m : Nat} (h : Short d k) (hs : ShortA ds m) : ShortA (d :: ds) (k + 1 + m) := ⟨by simp [PyData.showableAll, h.sh, hs.sh], by simp [PyData.hasDictAll, h.nd, hs.nd], by simp [PyData.leavesShortAll, h.ls, hs.ls], by
  simp only [PyData.weightAll]
  have := h.wt
  have := hs.wt
  omega⟩
theorem Short.tup {ds : List PyData} {k : Nat} (h : ShortA ds k) : Short (.tuple ds) k := ⟨by simp only [PyData.showable]; exact h.sh, by simp only [PyData.hasDict]; exact h.nd, by simp only [PyData.leavesShort]; exact h.ls, by simp only [PyData.weight]; exact h.wt⟩
theorem Short.mono {d : PyData} {k m : Nat} (h : Short d k) (l : k ≤ m) : Short d m := ⟨h.sh, h.nd, h.ls, Nat.le_trans h.wt l⟩
theorem ShortA.texts {n : Nat} : ∀ {xs : List Str}, (∀ x ∈ xs, Gt n x) → ShortA (xs.map .str) (xs.length * (n + 1))
  | [], _ => by simpa using ShortA.nil
  | x :: r, h => by
    have a := ShortA.cons (Short.str (h x (.head _))) (ShortA.texts fun y hy => h y (.tail _ hy))
    rw [List.length_cons, Nat.add_mul, Nat.one_mul, Nat.add_comm (r.length * (n + 1))]
    exact a
theorem ord_gt {ws : List Str} (h : isOrd ws = true) : ws.length ≤ 2 ∧ ∀ x ∈ ws, Gt 12 x := by
  match ws, h with
  | [a], h =>
    have e : a = sStop := of_decide_eq_true h
    refine ⟨by simp, fun x hx => ?_⟩
    rw [List.mem_singleton.mp hx, e]
    exact ⟨by decide +kernel, by decide +kernel⟩
  | [a, b], h =>
    unfold isOrd at h
    rw [Bool.and_eq_true, Bool.or_eq_true, decide_eq_true_eq, decide_eq_true_eq] at h
    refine ⟨by simp, fun x hx => ?_⟩
    rcases List.mem_cons.mp hx with rfl | hx
    · rcases h.1 with e | e <;> rw [e] <;> exact ⟨by decide +kernel, by decide +kernel⟩
    · rw [List.mem_singleton.mp hx]; exact isName_gt h.2
theorem lt_short {l : Lt} {n : Nat} (h : LtOk l) (b : LtB n l) : Short (ltD l) (200 + n * 13) := by
  cases l with
  | ord k ws =>
    obtain ⟨⟨k, rfl, hk⟩, ho⟩ := h
    obtain ⟨h1, h2⟩ := ord_gt ho
    refine (Short.tup (.cons (.str (n := 5) ⟨by decide +kernel, by decide +kernel⟩) (.cons (.int hk) (.cons (.tup (ShortA.texts h2)) .nil)))).mono ?_
    have : ws.length * (12 + 1) ≤ 2 * 13 := Nat.mul_le_mul_right 13 h1
    omega
  | frm t c m on =>
    obtain ⟨⟨k, rfl, hk⟩, ⟨j, rfl, hj⟩, hm, ho⟩ := h
    unfold isLot at ho
    rw [Bool.and_eq_true] at ho
    have b : on.length ≤ n := b
    refine (Short.tup (.cons (.str (n := 5) ⟨by decide +kernel, by decide +kernel⟩) (.cons (.int hk) (.cons (.int hj) (.cons (.str (isName_gt hm)) (.cons (.tup (ShortA.texts fun x hx => isName_gt (List.all_eq_true.mp ho.1 x hx))) .nil)))))).mono ?_
    have : on.length * (12 + 1) ≤ n * 13 := Nat.mul_le_mul_right 13 b
    omega
theorem depthTexts : ∀ xs : List Str, PyData.depthAll (xs.map .str) = 0
  | [] => by simp [PyData.depthAll]
  | x :: r => by simp [PyData.depthAll, PyData.depth, depthTexts r]
theorem lt_depth (l : Lt) : (ltD l).depth ≤ 2 := by
  cases l with
  | ord n ws => simp [ltD, PyData.depth, PyData.depthAll, depthTexts]
  | frm t c m on => simp [ltD, PyData.depth, PyData.depthAll, depthTexts]
theorem Short.fits {d : PyData} {k : Nat} (h : Short d k) (hk : k ≤ 800000) : d.shown.length ≤ sizeLine := by
  have := PyData.shown_le 18 (by decide) d h.ls
  have := h.wt
  have : (18 + 2) * d.weight ≤ 20 * 800000 := Nat.mul_le_mul_left 20 (by omega)
  rw [sizeLine_eq]
  omega
section
variable {K : PySem.W.Frag} {σ : L2.St} {H : Hp} {ta te : TE}
/-- repr(what read_letter tells) -/
theorem ev_reprG {x : Str} (h : EvG te σ H (fun v H' => Dp K H' v (optD (rd x)))) (hx : Gt 3900 x) : Ev (tCB (rReprD K) (tCons te tNil)) σ H (.str (optD (rd x)).shown) := fun H1 e Q q =>
  h H1 e _ fun v H2 e2 hv => by
    cases e3 : rd x with
    | none =>
      rw [e3] at hv q
      cases (show Dp K H2 v .none from hv)
      exact ⟨.non, .none, rfl, .non, Or.inl rfl, by simp [PyData.showable], by simp [PyData.hasDict], by simp [PyData.depth], by decide +kernel, q H2 e2⟩
    | some l =>
      rw [e3] at hv q
      have hv : Dp K H2 v (ltD l) := hv
      obtain ⟨_, hn, _⟩ := split_ok hx
      obtain ⟨ok, b⟩ := rdWs_ok (show rdWs (Txt.split x blank) = some l from e3)
      have sh := lt_short ok b
      have fits := sh.fits (by omega)
      have dp := lt_depth l
      refine ⟨v, ltD l, rfl, hv, Or.inr ?_, sh.sh, sh.nd, by omega, fits, q H2 e2⟩
      cases l with
      | ord n ws => obtain ⟨a, _, rfl, _⟩ := Dp.tup_inv hv; exact ⟨a, rfl⟩
      | frm t c m on => obtain ⟨a, _, rfl, _⟩ := Dp.tup_inv hv; exact ⟨a, rfl⟩
end
/-! ### data without lists, where a list changes -/
mutual
def noL : PyData → Bool
  | .list _ => false
  | .tuple ds => noLs ds
  | _ => true
def noLs : List PyData → Bool
  | [] => true
  | d :: ds => noL d && noLs ds
end
section
variable {K : PySem.W.Frag} {H : Hp} {l : Addr} {ls : List V} {o : HO}
theorem sqt_mut (hl : H l = some (.lst ls)) {a : Addr} {xs : List V} (h : SqT K H a xs) : SqT K (upd H l o) a xs := by
  rcases h with (h | ⟨o', h⟩) | h
  · exact Or.inl (Or.inl (by rw [upd_ne (fun e => by subst e; rw [hl] at h; cases h)]; exact h))
  · exact Or.inl (Or.inr ⟨o', by rw [upd_ne (fun e => by subst e; rw [hl] at h; cases h)]; exact h⟩)
  · exact Or.inr h
mutual
theorem dp_mut (hl : H l = some (.lst ls)) : ∀ {v : V} {d : PyData}, noL d = true → Dp K H v d → Dp K (upd H l o) v d
  | _, _, _, .non => .non
  | _, _, _, .bl b => .bl b
  | _, _, _, .int i => .int i
  | _, _, _, .str x => .str x
  | _, _, h, .lst _ _ => by simp [noL] at h
  | _, _, h, .tup hs ha => .tup (sqt_mut hl hs) (dpa_mut hl (by simpa [noL] using h) ha)
theorem dpa_mut (hl : H l = some (.lst ls)) : ∀ {vs : List V} {ds : List PyData}, noLs ds = true → DpAll K H vs ds → DpAll K (upd H l o) vs ds
  | _, _, _, .nil => .nil
  | _, _, h, .cons a b => .cons (dp_mut hl (by simp [noLs] at h; exact h.1) a) (dpa_mut hl (by simp [noLs] at h; exact h.2) b)
end
end
theorem noTexts : ∀ xs : List Str, noLs (xs.map .str) = true
  | [] => by simp [noLs]
  | x :: r => by simp [noLs, noL, noTexts r]
theorem lt_noL (l : Lt) : noL (ltD l) = true := by
  cases l with
  | ord n ws => simp [ltD, noL, noLs, noTexts]
  | frm t c m on => simp [ltD, noL, noLs, noTexts]
/-! ### lists of data; a join of two ways; words joined -/
section
variable {K : PySem.W.Frag} {σ : L2.St} {H : Hp} {ta tb te : TE} {tA : TA} {D : Ends}
theorem evL_data {ds : List PyData} (h : EaD K tA σ H ds) (hl : ds.length ≤ 100000) : EvG (tLst tA) σ H (fun v H' => ∃ p vs, v = .ref p ∧ H p = none ∧ H' p = some (.lst vs) ∧ DpAll K H' vs ds) := fun H1 e Q q =>
  h H1 e _ fun vs H2 e2 hvs => ⟨sz_of (by rw [dpa_len hvs]; exact hl), fun p np => q _ _ (e2.trans (Ex.new np)) ⟨p, vs, rfl, fresh_back (e.trans e2) np, upd_same, dpa_ex (Ex.new np) hvs⟩⟩
theorem evG_catD {a : Addr} {vs : List V} {ds : List PyData} (ha : Ev ta σ H (.ref a)) (hv : H a = some (.lst vs)) (hb : EvG tb σ H (fun v H' => ∃ p ws, v = .ref p ∧ H' p = some (.lst ws) ∧ DpAll K H' ws ds)) (hz : vs.length + ds.length ≤ 100000) :
    EvG (tOp rCat ta tb) σ H (fun v H' => ∃ p ws, v = .ref p ∧ H p = none ∧ H' p = some (.lst (vs ++ ws)) ∧ DpAll K H' ws ds) := fun H1 e Q q =>
  ha H1 e _ fun H2 e2 => hb H2 (e.trans e2) _ fun v H3 e3 ⟨p', ws, hv', hp', hw⟩ => by
    subst hv'
    exact ⟨a, p', vs, ws, rfl, rfl, e3 _ _ (e2 _ _ (e _ _ hv)), hp', sz_of (by rw [dpa_len hw]; exact hz), fun l nl => q _ _ ((e2.trans e3).trans (Ex.new nl)) ⟨l, ws, rfl, fresh_back ((e.trans e2).trans e3) nl, upd_same, dpa_ex (Ex.new nl) hw⟩⟩
theorem q_join {t u : TS} {Pm : L2.St → Hp → Prop} (tail : ∀ σ' H', Pm σ' H' → u D σ' H') (h : ∀ N : L2.St → Hp → Prop, (∀ σ' H', Pm σ' H' → N σ' H') → t { D with nx := N } σ H) : tSeq t u D σ H := h _ tail
theorem evP_sortedS {xs : List Str} (h : EvL ta σ H (xs.map V.str)) (hz : xs.length < 64) : EvG (tCB (rSortedS K) (tCons ta tNil)) σ H (fun v H' => ∃ p ys, v = .ref p ∧ H p = none ∧ H' p = some (.lst (ys.map V.str)) ∧ ys.Perm xs ∧ sortedS ys = true) := fun H1 e Q q =>
  h H1 e _ fun a H2 _ e2 ha => ⟨a, xs, rfl, sq_of ha, hz, fun ys p pm so np => q _ _ (e2.trans (Ex.new np)) ⟨p, ys, rfl, fresh_back (e.trans e2) np, upd_same, pm, so⟩⟩
end
theorem joinL_gt {g : Nat} : ∀ {ps : List (List Nat)}, (∀ p ∈ ps, p.length ≤ g ∧ ∀ c ∈ p, c < 1114112) → (TL.joinL [32] ps).length ≤ ps.length * (g + 1) ∧ ∀ c ∈ TL.joinL [32] ps, c < 1114112
  | [], _ => by rw [TL.joinL.eq_1]; exact ⟨by simp, fun _ h => nomatch h⟩
  | [p], h => by
    rw [TL.joinL.eq_2]
    obtain ⟨a, b⟩ := h p (.head _)
    exact ⟨by simp; omega, b⟩
  | p :: q :: r, h => by
    rw [TL.joinL.eq_3]
    obtain ⟨a, b⟩ := h p (.head _)
    obtain ⟨c, d⟩ := joinL_gt (ps := q :: r) fun x hx => h x (.tail _ hx)
    refine ⟨?_, fun x hx => ?_⟩
    · rw [List.length_append, List.length_append, List.length_cons (as := q :: r), Nat.add_mul, Nat.one_mul, List.length_singleton]
      omega
    · rcases List.mem_append.mp hx with hx | hx
      · exact b x hx
      · rcases List.mem_append.mp hx with hx | hx
        · rw [List.mem_singleton.mp hx]; decide
        · exact d x hx
theorem join_gt {g : Nat} {ws : List Str} (h : ∀ x ∈ ws, Gt g x) : Gt (ws.length * (g + 1)) (Txt.join blank ws) := by
  have e : TL.tl (Txt.join blank ws) = TL.joinL [32] (ws.map TL.tl) := by
    rw [TL.join_eq, TL.tl_join, show TL.tl blank = [32] by decide +kernel]
  obtain ⟨a, b⟩ := joinL_gt (g := g) (ps := ws.map TL.tl) fun p hp => by
    obtain ⟨x, hx, rfl⟩ := List.mem_map.mp hp
    exact ⟨by rw [← TL.len_tl]; exact (h x hx).2, (strOk_iff x).mp (h x hx).1⟩
  rw [← e] at a b
  exact ⟨(strOk_iff _).mpr b, by rw [TL.len_tl]; rw [List.length_map] at a; exact a⟩
end My
namespace My
open PySem PySem.Spec PyProof.Rows L2 Evl
theorem s_asgP {σ : L2.St} {H : Hp} {te : TE} {D : Ends} {i : Nat} {P : List V → Prop} (h : EvP te σ H P) (k : ∀ xs p H1, P xs → H p = none → Ex H H1 → H1 p = some (.lst xs) → D.nx (σ.set i (some (.ref p))) H1) : tAsg te (gName i) D σ H :=
  h H (Ex.refl H) _ fun xs p H1 hP hp e h1 => k xs p H1 hP hp e h1
theorem num_gt {k : Nat} (h : k < 10 ^ 18) : Gt 18 (num (k : Int)) := ⟨(strOk_iff _).mpr fun c hc => by
  have e : TL.tl (num (k : Int)) = TL.numL k := num_tl k
  rw [e] at hc
  have := TL.numL_digits k c hc
  omega, by rw [num_len]; exact TL.numL_len (by decide) h⟩
theorem wds_gt {l : Lt} (h : LtOk l) : ∀ x ∈ wds l, Gt 18 x := by
  cases l with
  | ord n ws =>
    obtain ⟨⟨k, rfl, hk⟩, ho⟩ := h
    intro x hx
    rcases List.mem_cons.mp hx with rfl | hx
    · exact ⟨by decide +kernel, by decide +kernel⟩
    rcases List.mem_cons.mp hx with rfl | hx
    · exact num_gt hk
    · exact ((ord_gt ho).2 x hx).mono (by decide)
  | frm t c m on =>
    obtain ⟨⟨k, rfl, hk⟩, ⟨j, rfl, hj⟩, hm, ho⟩ := h
    unfold isLot at ho
    rw [Bool.and_eq_true] at ho
    intro x hx
    rcases List.mem_cons.mp hx with rfl | hx
    · exact ⟨by decide +kernel, by decide +kernel⟩
    rcases List.mem_cons.mp hx with rfl | hx
    · exact num_gt hk
    rcases List.mem_cons.mp hx with rfl | hx
    · exact num_gt hj
    rcases List.mem_cons.mp hx with rfl | hx
    · exact (isName_gt hm).mono (by decide)
    · exact (isName_gt (List.all_eq_true.mp ho.1 x hx)).mono (by decide)
theorem wds_three {l : Lt} (h : LtOk l) : 1 ≤ (wds l).length := by cases l <;> simp [wds]
theorem take_rises {xs : List Str} (h : Rises xs) (k : Nat) : Rises (xs.take k) := List.Pairwise.sublist (List.take_sublist k xs) h
end My
set_option Elab.async false
set_option linter.all false
set_option maxRecDepth 100000
set_option maxHeartbeats 2000000
/-! ### sets of nested keys: tuples of texts, numbers, None and such tuples -/
namespace My
open PySem PySem.Spec PyProof.Rows L2
section
variable {P : Program} {w : World}
/-- asked about its classes, v says: none of a class statement -/
def NoCls (P : Program) (w : World) (n : Nat) (z : Shared) (v : Value) : Prop := ∀ (A : Around) (E : Value → Shared → Prop) (Q : Bool → Shared → Prop), Q false z → wpAny (model P w) A (ofAClassStatement n v) Q E z
/-- asked whether it is hashed by value, v says yes or no -/
def ByAny (P : Program) (w : World) (n : Nat) (z : Shared) (v : Value) : Prop := ∀ (A : Around) (E : Value → Shared → Prop) (Q : Bool → Shared → Prop), (∀ b, Q b z) → wpAny (model P w) A (hashByValue n v) Q E z
theorem NoCls.tup {n : Nat} {z : Shared} {a : Addr} {o : Obj} {vs : Array Value} {m : Nat} (ho : z.heap.get? a = some o) (hc : o.cls = .type "tuple") (hd : o.data = .seq vs m) (hv : ∀ v ∈ vs.toList, NoCls P w n z v) : NoCls P w (n + 1) z (.ref a) := fun A E Q q => by
  have hT : z.TypeIs (.ref a) "tuple" := ⟨o, ho, hc⟩
  unfold ofAClassStatement
  refine wpAny_bind (wpAny_typeOf hT ?_)
  dsimp only
  rw [show (("tuple" : String) == "tuple") = true by decide]
  simp only [if_true, Bool.not_true, Bool.false_eq_true, if_false]
  try refine wpAny_bind (wpAny_pure ?_)
  try simp only [Bool.not_true, Bool.false_eq_true, if_false]
  show wpAny _ _ (seqItems? (.ref a) >>= _) _ _ z
  refine wpAny_bind (wpAny_seqItems ho hd ?_)
  dsimp only
  refine wpAny_bind ?_
  show wpAny _ _ (forIn vs _ _) _ _ z
  rw [← Array.forIn_toList]
  refine wpAny_forIn_list _ (fun left r y => r.1 = none ∧ y = z ∧ ∀ v ∈ left, NoCls P w n z v) _ ?step ?last _ _ ⟨rfl, rfl, hv⟩
  case step =>
    rintro v left r y ⟨_, rfl, all⟩
    refine wpAny_bind (all v List.mem_cons_self _ _ _ ?_)
    simp only [Bool.false_eq_true, if_false]
    exact wpAny_pure ⟨rfl, rfl, fun u hu => all u (List.mem_cons_of_mem _ hu)⟩
  case last =>
    rintro ⟨r1, r2⟩ y ⟨hr, rfl, _⟩
    simp only at hr
    subst hr
    exact wpAny_pure q
theorem ByAny.tup {n : Nat} {z : Shared} {a : Addr} {o : Obj} {vs : Array Value} {m : Nat} (ho : z.heap.get? a = some o) (hc : o.cls = .type "tuple") (hd : o.data = .seq vs m) (hv : ∀ v ∈ vs.toList, ByAny P w n z v) : ByAny P w (n + 1) z (.ref a) := fun A E Q q => by
  have hT : z.TypeIs (.ref a) "tuple" := ⟨o, ho, hc⟩
  unfold hashByValue
  refine wpAny_bind (wpAny_specialOf hT F.slot_tuple_hash.lookup ?_)
  show wpAny _ _ (seqItems? (.ref a) >>= _) _ _ z
  refine wpAny_bind (wpAny_seqItems ho hd ?_)
  refine wpAny_bind ?_
  show wpAny _ _ (forIn vs _ _) _ _ z
  rw [← Array.forIn_toList]
  refine wpAny_forIn_list _ (fun left r y => y = z ∧ ∀ v ∈ left, ByAny P w n z v) _ ?step ?last _ _ ⟨rfl, hv⟩
  case step =>
    rintro v left r y ⟨rfl, all⟩
    refine wpAny_bind (all v List.mem_cons_self _ _ _ fun b => ?_)
    cases b
    · simp only [Bool.not_false, if_true]
      exact wpAny_pure (wpAny_pure (q false))
    · simp only [Bool.not_true, Bool.false_eq_true, if_false]
      exact wpAny_pure ⟨rfl, fun u hu => all u (List.mem_cons_of_mem _ hu)⟩
  case last =>
    rintro ⟨r1, r2⟩ y ⟨rfl, _⟩
    cases r1 with
    | none => exact wpAny_pure (q true)
    | some b => exact wpAny_pure (q b)
mutual
theorem cls_key : ∀ (k : NestedKey) (v : Value) (n : Nat) (z : Shared), NestedIs z.heap k v → k.depth ≤ n → NoCls P w n z v ∧ ByAny P w n z v
  | .none, _, n, z, x, _ => by
    cases x
    exact ⟨fun A E Q q => by cases n <;> exact wpAny_pure q, fun A E Q q => by cases n <;> exact wpAny_pure (q _)⟩
  | .num i, _, n, z, x, _ => by
    cases x <;> exact ⟨fun A E Q q => by cases n <;> exact wpAny_pure q, fun A E Q q => by cases n <;> exact wpAny_pure (q _)⟩
  | .text y, _, n, z, x, _ => by
    cases x
    exact ⟨fun A E Q q => by cases n <;> exact wpAny_pure q, fun A E Q q => by cases n <;> exact wpAny_pure (q _)⟩
  | .tup ks, _, n, z, x, hn => by
    cases x with
    | tup hg hc hd hk =>
      simp only [NestedKey.depth] at hn
      cases n with
      | zero => omega
      | succ n => exact ⟨.tup hg hc hd fun v hv => (cls_keys ks _ n z hk (by omega) v hv).1, .tup hg hc hd fun v hv => (cls_keys ks _ n z hk (by omega) v hv).2⟩
theorem cls_keys : ∀ (ks : List NestedKey) (vs : List Value) (n : Nat) (z : Shared), NestedAll z.heap ks vs → NestedKey.depthAll ks ≤ n → ∀ v ∈ vs, NoCls P w n z v ∧ ByAny P w n z v
  | [], _, _, _, x, _, v, hv => by cases x; cases hv
  | k :: ks, _, n, z, x, hn, v, hv => by
    cases x with
    | cons x1 x2 =>
      simp only [NestedKey.depthAll] at hn
      rcases List.mem_cons.mp hv with e | hv
      · rw [e]; exact cls_key k _ n z x1 (by omega)
      · exact cls_keys ks _ n z x2 (by omega) v hv
end
/-- the nested key at an address -/
def IsN (h : Heap) (k : NestedKey) (b : Addr) : Prop := NestedIs h k (.ref b) ∧ k.depth ≤ 8
theorem IsN.old {h h' : Heap} {k : NestedKey} {b : Addr} (x : IsN h k b) (keep : ∀ c o vs n, h.get? c = some o → o.data = .seq vs n → h'.get? c = some o) : IsN h' k b := ⟨NestedIs.at keep k _ x.1, x.2⟩
variable {A : Around} {E : Value → Shared → Prop} {s : Shared}
/-- a search among such keys shows nothing -/
theorem seen_key {k : NestedKey} {b : Addr} {Q : Bool → Shared → Prop} (x : IsN s.heap k b) {ys : List Value} (hy : ∀ y ∈ ys, ∃ k' c, y = Value.ref c ∧ IsN s.heap k' c) (q : Q false s) : wpAny (model P w) A (searchCouldBeSeen (.ref b) ys) Q E s := by
  unfold searchCouldBeSeen
  refine wpAny_bind ?_
  refine wpAny_forIn_list _ (fun left r y => r.1 = none ∧ y = s ∧ ∀ v ∈ left, ∃ k' c, v = Value.ref c ∧ IsN s.heap k' c) _ ?step ?last _ _ ⟨rfl, rfl, hy⟩
  case step =>
    rintro v left r y ⟨_, rfl, all⟩
    obtain ⟨k', c, rfl, xc⟩ := all v List.mem_cons_self
    have rest := fun u (hu : u ∈ left) => all u (List.mem_cons_of_mem _ hu)
    dsimp only
    by_cases hv : (b == c || (carriedByValue (.ref b) && carriedByValue (.ref c))) = true
    · exact wp_if_pos hv (wpAny_pure ⟨rfl, rfl, rest⟩)
    · refine wp_if_neg hv ?_
      refine wpAny_bind (quiet_key k _ 8 _ x.1 x.2 _ _ _ ?_)
      simp only [Bool.not_true, Bool.false_eq_true, if_false]
      refine wpAny_bind (quiet_key k' _ 8 _ xc.1 xc.2 _ _ _ ?_)
      simp only [Bool.not_true, Bool.false_eq_true, if_false]
      refine wpAny_bind ((cls_key k _ 8 _ x.1 x.2).1 _ _ _ ?_)
      simp only [Bool.false_eq_true, if_false]
      refine wpAny_bind ((cls_key k' _ 8 _ xc.1 xc.2).1 _ _ _ ?_)
      simp only [Bool.false_eq_true, if_false]
      exact wpAny_pure ⟨rfl, rfl, rest⟩
  case last =>
    rintro ⟨r1, r2⟩ y ⟨hr, rfl, _⟩
    simp only at hr
    subst hr
    exact wpAny_pure q
end
end My
set_option Elab.async false
set_option linter.all false
set_option maxRecDepth 100000
set_option maxHeartbeats 2000000
namespace My
open PySem PySem.Spec PyProof.Rows L2
/-! ### the way of a hash through a table -/
/-- the first step of the way of h -/
abbrev beg (m : Nat) (h : Int) : SetTable.Probe := runAt m (SetTable.bits h % (m + 1)) (SetTable.bits h)
theorem beg_dummy (m : Nat) : ∀ (c : Nat) (p : SetTable.Probe), p.dummy = none → (nth m p c).dummy = none
  | 0, _, e => e
  | c + 1, p, e => beg_dummy m c (adv m p) (by unfold adv; split <;> exact e)
/-- what stands first on the way from its c-th step on -/
theorem look {t : SetTable} {hs : List Int} (T : TabOk t hs) (f : Nat → Int) (h : Int) {K c : Nat} (lt : K < 10 * SetTable.turns t.mask) (free : way t.mask h K ∉ t.place.toList) (held : ∀ d, d < K → way t.mask h d ∈ t.place.toList) (le : c ≤ K) :
    (t.probe f h (nth t.mask (beg t.mask h) c) = some (.empty (way t.mask h K) none) ∧ ∀ d i, c ≤ d → d < K → t.place.toList[i]? = some (way t.mask h d) → f i ≠ h) ∨
    ∃ d i, c ≤ d ∧ d < K ∧ t.place.toList[i]? = some (way t.mask h d) ∧ f i = h ∧ (∀ d' i', c ≤ d' → d' < d → t.place.toList[i']? = some (way t.mask h d') → f i' ≠ h) ∧
      t.probe f h (nth t.mask (beg t.mask h) c) = some (.candidate (way t.mask h d) i (nth t.mask (beg t.mask h) (d + 1))) := by
  have at_ : ∀ q, nth t.mask (nth t.mask (beg t.mask h) c) q = nth t.mask (beg t.mask h) (c + q) := fun q => (nth_add t.mask c _ q).symm
  have wy : ∀ q, (nth t.mask (nth t.mask (beg t.mask h) c) q).j = way t.mask h (c + q) := fun q => congrArg SetTable.Probe.j (at_ q)
  have kc : c + (K - c) = K := by omega
  rcases go_spec t T.ris T.dm f h (10 * SetTable.turns t.mask) (K - c) _ (beg_dummy t.mask c _ rfl) (by omega) (fun q hq => by rw [wy]; exact held _ (by omega)) (by rw [wy, kc]; exact free) with ⟨q, i, hq, hi, hf, no, e⟩ | ⟨no, e⟩
  · refine .inr ⟨c + q, i, by omega, by omega, by rw [← wy]; exact hi, hf, fun d' i' g1 g2 hp => no (d' - c) i' (by omega) (by rw [wy, show c + (d' - c) = d' by omega]; exact hp), ?_⟩
    rw [← wy, show c + q + 1 = c + (q + 1) by omega, ← at_]
    exact e
  · refine .inl ⟨?_, fun d i g1 g2 hp => no (d - c) i (by omega) (by rw [wy, show c + (d - c) = d by omega]; exact hp)⟩
    have w0 := wy (K - c)
    rw [kc] at w0
    rw [← w0]
    exact e
/-! ### the table of keys -/
def rowsN (w : World) (L : List (Addr × NestedKey)) : List (Int × Value) := L.map fun p => (p.2.hash w, Value.ref p.1)
abbrev hsN (w : World) (L : List (Addr × NestedKey)) : List Int := L.map fun p => p.2.hash w
/-- at a stands a set whose entries are the keys of L at their addresses -/
structure TabN (w : World) (h : Heap) (a : Addr) (L : List (Addr × NestedKey)) (es : Array (Int × Value)) (ep : Nat) (t : SetTable) : Prop where
  ob : ∃ o, h.get? a = some o ∧ o.ExactSet ∧ o.data = .set es ep t
  rows : es.toList = rowsN w L
  tab : TabOk t (hsN w L)
  nd : (L.map (·.2)).Nodup
  led : w.params.followText "set-order" = true ∨ t.led = true
  room : L.length * 5 < t.mask * 3
  few : L.length < 64
def KeysN (h : Heap) (L : List (Addr × NestedKey)) : Prop := ∀ p ∈ L, IsN h p.2 p.1
theorem rowsN_len {w : World} {es : Array (Int × Value)} {L : List (Addr × NestedKey)} (e : es.toList = rowsN w L) : es.size = L.length := by
  rw [← Array.length_toList, e, rowsN, List.length_map]
theorem rowsN_at {w : World} {es : Array (Int × Value)} {L : List (Addr × NestedKey)} (e : es.toList = rowsN w L) {i : Nat} {p : Addr × NestedKey} (hp : L[i]? = some p) : es[i]? = some (p.2.hash w, Value.ref p.1) := by
  rw [← Array.getElem?_toList, e, rowsN, List.getElem?_map, hp]; rfl
section
variable {P : Program} {w : World} {A : Around} {E : Value → Shared → Prop} {s : Shared} {a : Addr} {L : List (Addr × NestedKey)} {es : Array (Int × Value)} {ep : Nat} {t : SetTable}
theorem TabN.fits {h : Heap} (R : TabN w h a L es ep t) : t.fits es.size = true := by
  have z := R.tab.sz
  have l := rowsN_len R.rows
  have r := R.room
  rw [List.length_map] at z
  unfold SetTable.fits SetTable.fill
  rw [R.tab.dm, z, l]
  simp
  omega
theorem TabN.goes {h : Heap} (R : TabN w h a L es ep t) : ¬ t.gaveWay = true := by
  unfold SetTable.gaveWay
  rw [mask_odd R.tab.mok]
  decide
/-- THE SEARCH, from the c-th step of the way on -/
theorem seek (R : TabN w s.heap a L es ep t) (ks : KeysN s.heap L) {x : Addr} {k : NestedKey} (hx : IsN s.heap k x) (hu : A.units + 8 < cLine) {K : Nat} (lt : K < 10 * SetTable.turns t.mask)
    (free : way t.mask (k.hash w) K ∉ t.place.toList) (held : ∀ d, d < K → way t.mask (k.hash w) d ∈ t.place.toList) {Q : SetFound → Shared → Prop}
    (here : k ∈ L.map (·.2) → Q (.there none) s) (gone : k ∉ L.map (·.2) → Q (.free (way t.mask (k.hash w) K) false) s) :
    ∀ (f c : Nat) (st : Option SetTable.Probe), st.getD (t.probeStart (k.hash w)) = nth t.mask (beg t.mask (k.hash w)) c → c ≤ K → K - c < f →
      (∀ (i : Nat) p, L[i]? = some p → p.2 = k → ∃ d, c ≤ d ∧ d < K ∧ t.place.toList[i]? = some (way t.mask (k.hash w) d)) →
      wpAny (model P w) A (setSearchFrom a (.ref x) (k.hash w) true f st) Q E s := by
  intro f
  induction f with
  | zero => intro c st _ _ h _; exact absurd h (Nat.not_lt_zero _)
  | succ f ih =>
    intro c st hst le hf ahead
    obtain ⟨o, ho, hex, hd⟩ := R.ob
    have hash : ∀ {i : Nat} {p}, L[i]? = some p → (fun i => (es[i]?.map (·.1)).getD 0) i = p.2.hash w := fun {i p} hp => by
      show (es[i]?.map (·.1)).getD 0 = _
      rw [rowsN_at R.rows hp]; rfl
    rw [setSearchFrom_succ]
    refine wpAny_bind (wpAny_setState_of ho hd R.fits ?_)
    dsimp only
    refine wp_if_neg R.goes ?_
    try refine wpAny_bind (wpAny_pure ?_)
    rw [hst]
    rcases look R.tab (fun i => (es[i]?.map (·.1)).getD 0) (k.hash w) lt free held le with ⟨e, no⟩ | ⟨d, i, g1, g2, hi, he, no, e⟩
    · rw [e]
      dsimp only
      refine wpAny_pure (gone fun hm => ?_)
      obtain ⟨p, hp, ek⟩ := List.mem_map.mp hm
      obtain ⟨i, hi⟩ := List.mem_iff_getElem?.mp hp
      obtain ⟨d, g1, g2, hpl⟩ := ahead i p hi ek
      exact no d i g1 g2 hpl ((hash hi).trans (by rw [ek]))
    · rw [e]
      dsimp only
      have hil : i < L.length := by
        have h1 := (List.getElem?_eq_some_iff.mp hi).1
        have h2 := R.tab.sz
        rw [List.length_map] at h2
        rw [Array.length_toList] at h1
        omega
      obtain ⟨p, hp⟩ : ∃ p, L[i]? = some p := ⟨_, List.getElem?_eq_getElem hil⟩
      have hm := List.mem_of_getElem? hp
      have xp := ks p hm
      have sl : t.slot (way t.mask (k.hash w) d) = .live i := slot_live R.tab.ris hi
      have rest : wpAny (model P w) A (searchRest a (.ref x) (k.hash w) true f es t (way t.mask (k.hash w) d) i (nth t.mask (beg t.mask (k.hash w)) (d + 1))) Q E s := by
        unfold searchRest
        rw [rowsN_at R.rows hp]
        dsimp only
        refine wpAny_bind (wpAny_holding ((nestedKind P w).eqBool (x := p.2) (y := k) hu xp hx ?_))
        refine wpAny_bind (wpAny_setState_of ho hd R.fits ?_)
        dsimp only
        by_cases ek : p.2 = k
        · exact wp_if_pos (by simp [ek]) (wpAny_pure (here (List.mem_map.mpr ⟨p, hm, ek⟩)))
        · refine wp_if_neg (by simp [ek]) ?_
          try refine wpAny_bind (wpAny_pure ?_)
          rw [sameMem]
          dsimp only
          simp only [if_true, sl, rowsN_at R.rows hp]
          refine wpAny_bind (wpAny_isSame_ref_self (wpAny_bind (wpAny_pure ?_)))
          simp only [if_true]
          refine wp_if_neg (by simp [ek]) ?_
          refine ih (d + 1) _ rfl (by omega) (by omega) fun i' p' hi' ek' => ?_
          obtain ⟨d', h1, h2, hpl⟩ := ahead i' p' hi' ek'
          refine ⟨d', ?_, h2, hpl⟩
          rcases Nat.lt_trichotomy d' d with z | z | z
          · exact absurd ((hash hi').trans (by rw [ek'])) (no d' i' h1 z hpl)
          · subst z
            have s2 := slot_live R.tab.ris hpl
            rw [sl] at s2
            injection s2 with s2
            rw [← s2, hp] at hi'
            exact absurd (by rw [Option.some.inj hi']; exact ek') ek
          · exact z
      by_cases hl : t.led = true
      · refine wp_if_neg (by simp [hl]) ?_
        try refine wpAny_bind (wpAny_pure ?_)
        exact rest
      · refine wp_if_pos (by simp [hl]) ?_
        refine wpAny_bind (seen_key hx (fun y hy => ?_) ?_)
        · obtain ⟨z, hz, ez⟩ := List.mem_map.mp hy
          have z1 : z ∈ es ∧ z.1 = k.hash w := by simpa using hz
          have z2 : z ∈ es.toList := by simpa using z1.1
          rw [R.rows] at z2
          obtain ⟨p2, hp2, e2⟩ := List.mem_map.mp z2
          exact ⟨p2.2, p2.1, by rw [← ez, ← e2], ks p2 hp2⟩
        · refine wp_if_neg (by decide) ?_
          try refine wpAny_bind (wpAny_pure ?_)
          exact rest
/-- the search as adding asks for it -/
theorem seek_at (R : TabN w s.heap a L es ep t) (ks : KeysN s.heap L) {x : Addr} {k : NestedKey} (hx : IsN s.heap k x) (hu : A.units + 8 < cLine) {Q : SetFound → Shared → Prop} (here : k ∈ L.map (·.2) → Q (.there none) s)
    (gone : ∀ K, k ∉ L.map (·.2) → way t.mask (k.hash w) K ∉ t.place.toList → (∀ d, d < K → way t.mask (k.hash w) d ∈ t.place.toList) → Q (.free (way t.mask (k.hash w) K) false) s) :
    wpAny (model P w) A (setSearch a (.ref x) (k.hash w) true) Q E s := by
  have r := R.room
  obtain ⟨K, lt, free, held⟩ := R.tab.first (by rw [List.length_map]; omega) (k.hash w)
  have small : K < 100000 := by
    unfold SetTable.turns at lt
    rcases R.tab.mok with e | e | e <;> rw [e] at lt <;> omega
  refine seek R ks hx hu lt free held here (fun h => gone K h free held) 100000 0 none rfl (Nat.zero_le _) (by omega) fun i p hi ek => ?_
  have hil : i < t.place.toList.length := by
    have h1 := (List.getElem?_eq_some_iff.mp hi).1
    have h2 := R.tab.sz
    rw [List.length_map] at h2
    rw [Array.length_toList]
    omega
  obtain ⟨d, g, e⟩ := R.tab.before free (show (hsN w L)[i]? = some (k.hash w) by rw [List.getElem?_map, hi, ← ek]; rfl) (List.getElem?_eq_getElem hil)
  exact ⟨d, Nat.zero_le _, g, by rw [List.getElem?_eq_getElem hil, e]⟩
end
end My
set_option Elab.async false
set_option linter.all false
set_option maxRecDepth 100000
set_option maxHeartbeats 2000000
namespace My
open PySem PySem.Spec PyProof.Rows L2
/-! ### a key put in, the table laid anew -/
theorem all_at {α : Type} : ∀ L : List α, (List.range L.length).filterMap (fun i => L[i]?) = L
  | [] => rfl
  | x :: r => by
    rw [List.length_cons, List.range_succ_eq_map, List.filterMap_cons_some (f := fun i => (x :: r)[i]?) (b := x) rfl, List.filterMap_map]
    exact congrArg (x :: ·) (all_at r)
theorem rows_in_order {w : World} {L : List (Addr × NestedKey)} {es : Array (Int × Value)} {ord : Array Nat} (e : es.toList = rowsN w L) (pm : ord.toList.Perm (List.range L.length)) :
    ∃ L2 : List (Addr × NestedKey), (ord.filterMap (es[·]?)).toList = rowsN w L2 ∧ L2.Perm L ∧ hsN w L2 = ord.toList.map fun i => (es.map (·.1)).getD i 0 := by
  refine ⟨ord.toList.filterMap fun i => L[i]?, ?_, ?_, ?_⟩
  · rw [Array.toList_filterMap, rowsN, List.map_filterMap]
    congr 1
    funext i
    rw [← Array.getElem?_toList, e, rowsN, List.getElem?_map]
  · have h := pm.filterMap fun i => L[i]?
    rw [all_at] at h
    exact h
  · have all : ∀ i ∈ ord.toList, i < L.length := fun i hi => List.mem_range.mp (pm.mem_iff.mp hi)
    generalize ord.toList = l at all
    induction l with
    | nil => rfl
    | cons i l ih =>
      have hi := all i List.mem_cons_self
      have g : (es.map (·.1)).getD i 0 = (L[i]).2.hash w := by
        have g2 : (es.map (·.1))[i]? = some ((L[i]).2.hash w) := by rw [Array.getElem?_map, rowsN_at e (List.getElem?_eq_getElem hi)]; rfl
        simp [Array.getD_eq_getD_getElem?, g2]
      rw [List.filterMap_cons_some (List.getElem?_eq_getElem hi), List.map_cons, g]
      show _ :: hsN w _ = _
      rw [ih fun j hj => all j (List.mem_cons_of_mem _ hj)]
theorem unplain {t : SetTable} {hs : List Int} (T : TabOk t hs) : TabOk { t with plain := false } hs := ⟨T.ris, T.dm, T.sz, T.mok, T.bd, T.reach⟩
theorem IsN.same {h h' : Heap} {k : NestedKey} {a b : Addr} {o : Obj} {es : Array (Int × Value)} {ep : Nat} {t : SetTable} (x : IsN h k b) (ho : h.get? a = some o) (hd : o.data = .set es ep t) (sb : Heap.SameBut a h h') : IsN h' k b :=
  x.old fun c u vs n g1 g2 => (sb.2 c fun e => by
    subst e
    rw [ho] at g1
    obtain rfl := Option.some.inj g1
    rw [hd] at g2
    exact nomatch g2).trans g1
section
variable {P : Program} {w : World} {A : Around} {E : Value → Shared → Prop} {s : Shared} {a : Addr} {L : List (Addr × NestedKey)} {es : Array (Int × Value)} {ep : Nat} {t : SetTable}
/-- what is known of a table before it is laid anew: it may be fuller than a table should be -/
structure FullN (w : World) (h : Heap) (a : Addr) (L : List (Addr × NestedKey)) (es : Array (Int × Value)) (ep : Nat) (t : SetTable) : Prop where
  ob : ∃ o, h.get? a = some o ∧ o.ExactSet ∧ o.data = .set es ep t
  rows : es.toList = rowsN w L
  tab : TabOk t (hsN w L)
  nd : (L.map (·.2)).Nodup
  led : w.params.followText "set-order" = true ∨ t.led = true
  few : L.length < 64
  fit : L.length ≤ t.mask
theorem anew {h1 : Heap} (R : FullN w h1 a L es ep t) {wanted M : Nat} (hw : SetTable.sizeAbove wanted - 1 = M) (hM : MaskOk M) (h128 : SetTable.sizeAbove wanted ≤ 128) (room : L.length * 5 < M * 3) {Q : Unit → Shared → Prop}
    (hQ : ∀ h' L' es' ep' t', Heap.SameBut a h1 h' → TabN w h' a L' es' ep' t' → L'.Perm L → Q () { s with heap := h' }) : wpAny (model P w) A (setRelay a wanted) Q E { s with heap := h1 } := by
  obtain ⟨o, ho, hex, hd⟩ := R.ob
  have len := rowsN_len R.rows
  have ft : t.fits es.size = true := by
    have z := R.tab.sz
    have f := R.fit
    rw [List.length_map] at z
    unfold SetTable.fits SetTable.fill
    rw [R.tab.dm, z, len]
    simp
    omega
  have few := R.few
  obtain ⟨t2, ord, e, pm, T, em, el, _, _⟩ := relaid_ok t (hs := es.map (·.1)) (wanted := wanted) hw hM (by rw [Array.size_map, len]; omega)
  rw [Array.size_map, len] at pm
  obtain ⟨L2, r1, r2, r3⟩ := rows_in_order R.rows pm
  rw [← r3] at T
  have len2 : (ord.filterMap (es[·]?)).size = es.size := by rw [rowsN_len r1, r2.length_eq, len]
  rw [setRelay_eq]
  refine wpAny_bind (wpAny_setState_of (s := { s with heap := h1 }) ho hd ft ?_)
  dsimp only
  refine wp_if_neg (by rw [sizeLine_eq]; omega) ?_
  try refine wpAny_bind (wpAny_pure ?_)
  rw [e]
  dsimp only
  refine wpAny_bind ?_
  refine wp_if_neg (by rw [len2]; simp) ?_
  try refine wpAny_bind (wpAny_pure ?_)
  refine wpAny_pure ?_
  dsimp only
  refine wpAny_storeSet_of (s := { s with heap := h1 }) ho hd ?_ (by rw [len2, len, sizeLine_eq]; omega)
  have sb : Heap.SameBut a h1 (h1.update a (Obj.putSet (ord.filterMap (es[·]?)) t2)) := Heap.SameBut.update ..
  exact hQ _ L2 _ (ep + 1) t2 sb ⟨⟨_, _root_.L2.store_at ho hd, ⟨hex.1, hex.2.1, hex.2.2⟩, rfl⟩, r1, T, (r2.map (·.2)).nodup_iff.mpr R.nd, by rw [el]; exact R.led, by rw [r2.length_eq, em]; exact room, by rw [r2.length_eq]; exact few⟩ r2
/-- ADDING -/
theorem put_key (R : TabN w s.heap a L es ep t) (ks : KeysN s.heap L) {x : Addr} {k : NestedKey} (hx : IsN s.heap k x) (hu : A.units + 8 < cLine) (few : L.length + 1 < 64) {Q : Bool → Shared → Prop}
    (hQ : ∀ b h' L' es' ep' t', Heap.SameBut a s.heap h' → TabN w h' a L' es' ep' t' → (k ∈ L.map (·.2) → L' = L) → (k ∉ L.map (·.2) → L'.Perm ((x, k) :: L)) → Q b { s with heap := h' }) :
    wpAny (model P w) A (setAddHashed a (.ref x) (k.hash w)) Q E s := by
  obtain ⟨o, ho, hex, hd⟩ := R.ob
  have len := rowsN_len R.rows
  have room := R.room
  unfold setAddHashed
  refine wpAny_holding ?_
  rw [show (100000 : Nat) = 99999 + 1 from rfl, setAddHashedIn_succ]
  refine wpAny_bind (wpAny_setState_of ho hd R.fits ?_)
  dsimp only
  refine wp_if_neg (by simp [byScan, Value.scannable]) ?_
  try refine wpAny_bind (wpAny_pure ?_)
  refine wpAny_bind (seek_at R ks hx hu (fun hm => ?_) fun K hm free held => ?_)
  · dsimp only
    exact wpAny_pure (hQ false s.heap L es ep t (Heap.SameBut.refl a s.heap) R (fun _ => rfl) fun z => absurd hm z)
  dsimp only
  refine wpAny_bind (wpAny_setState_of ho hd R.fits ?_)
  dsimp only
  obtain ⟨q1, q2, q3, q4, q5, _, _, _, q9⟩ := R.tab.put free held
  generalize hj : way t.mask (k.hash w) K = j at q1 q2 q3 q4 q5 q9 ⊢
  generalize hp : t.put j = pt at q1 q3 q4 q5 q9 ⊢
  obtain ⟨t1, p⟩ := pt
  dsimp only at q1 q3 q4 q5 q9 ⊢
  subst q1
  have rows1 : (SetTable.insertAt es (SetTable.below t.place j) (k.hash w, Value.ref x)).toList = rowsN w (L.take (SetTable.below t.place j) ++ (x, k) :: L.drop (SetTable.below t.place j)) := by
    rw [SetTable.toList_insertAt, R.rows]
    unfold rowsN
    rw [List.map_append, List.map_cons, List.map_take, List.map_drop]
  have hs1 : hsN w (L.take (SetTable.below t.place j) ++ (x, k) :: L.drop (SetTable.below t.place j)) = (hsN w L).take (SetTable.below t.place j) ++ k.hash w :: (hsN w L).drop (SetTable.below t.place j) := by
    rw [hsN, List.map_append, List.map_cons, List.map_take, List.map_drop]
  rw [← hs1] at q3
  have pm := put_perm L (SetTable.below t.place j) (x, k)
  generalize SetTable.insertAt es (SetTable.below t.place j) (k.hash w, Value.ref x) = es1 at rows1 ⊢
  generalize L.take (SetTable.below t.place j) ++ (x, k) :: L.drop (SetTable.below t.place j) = L1 at pm q3 rows1
  have len1 : L1.length = L.length + 1 := pm.length_eq
  have nd1 : (L1.map (·.2)).Nodup := (pm.map (·.2)).nodup_iff.mpr (List.nodup_cons.mpr ⟨hm, R.nd⟩)
  have e1 : es1.size = L.length + 1 := by rw [rowsN_len rows1, len1]
  have ld1 : w.params.followText "set-order" = true ∨ t1.led = true := by rw [q5]; exact R.led
  -- whatever is said of its being hashed by value
  have fin : ∀ t2 : SetTable, TabOk t2 (hsN w L1) → t2.mask = t.mask → t2.led = t1.led → t2.fill = L.length + 1 →
      wpAny (model P w) A (storeSet a es1 t2 >>= fun _ => if (!false && t2.tooFull) = true then (do setRelay a (SetTable.grown (es.size + 1)); pure true) else pure true) Q E s := fun t2 T2 m2 l2 f2 => by
    refine wpAny_bind (wpAny_storeSet_of ho hd ?_ (by rw [e1, sizeLine_eq]; omega))
    have sb : Heap.SameBut a s.heap (s.heap.update a (Obj.putSet es1 t2)) := Heap.SameBut.update ..
    have ho1 := _root_.L2.store_at (es' := es1) (t' := t2) ho hd
    generalize s.heap.update a (Obj.putSet es1 t2) = h1 at sb ho1 ⊢
    have full : t2.tooFull = decide ((L.length + 1) * 5 ≥ t.mask * 3) := by
      unfold SetTable.tooFull
      rw [f2, m2]
    rw [full]
    by_cases hf : (L.length + 1) * 5 ≥ t.mask * 3
    · refine wp_if_pos (by simp [hf]) ?_
      refine wpAny_bind ?_
      have two : (t.mask = 7 ∧ L.length = 4) ∨ (t.mask = 31 ∧ L.length = 18) := by
        rcases R.tab.mok with e | e | e <;> rw [e] at hf room <;> omega
      have FN : FullN w h1 a L1 es1 (ep + 1) t2 := ⟨⟨_, ho1, ⟨hex.1, hex.2.1, hex.2.2⟩, rfl⟩, rows1, T2, nd1, by rw [l2]; exact ld1, by rw [len1]; exact few, by rw [len1, m2]; rcases two with ⟨e, e'⟩ | ⟨e, e'⟩ <;> omega⟩
      have go : ∀ M, SetTable.sizeAbove (SetTable.grown (es.size + 1)) - 1 = M → MaskOk M → SetTable.sizeAbove (SetTable.grown (es.size + 1)) ≤ 128 → (L.length + 1) * 5 < M * 3 → wpAny (model P w) A (setRelay a (SetTable.grown (es.size + 1))) (fun _ y => wpAny (model P w) A (pure true) Q E y) E { s with heap := h1 } := fun M g1 g2 g3 g4 =>
        anew FN g1 g2 g3 (by rw [len1]; exact g4) fun h2 L2 es2 ep2 t3 sb2 R2 pm2 => wpAny_pure (hQ true h2 L2 es2 ep2 t3 (sb.trans sb2) R2 (fun z => absurd z hm) fun _ => pm2.trans pm)
      rw [len] at go ⊢
      rcases two with ⟨_, e⟩ | ⟨_, e⟩
      · exact go 31 (by rw [e, size_20]) (.inr (.inl rfl)) (by rw [e, size_20]; decide) (by omega)
      · exact go 127 (by rw [e, size_76]) (.inr (.inr rfl)) (by rw [e, size_76]; decide) (by omega)
    · refine wp_if_neg (by simp [hf]) ?_
      exact wpAny_pure (hQ true h1 L1 es1 (ep + 1) t2 sb ⟨⟨_, ho1, ⟨hex.1, hex.2.1, hex.2.2⟩, rfl⟩, rows1, T2, nd1, by rw [l2]; exact ld1, by rw [len1, m2]; omega, by rw [len1]; exact few⟩ (fun z => absurd z hm) fun _ => pm)
  have both : ∀ b : Bool, wpAny (model P w) A (storeSet a es1 (if b = true then t1 else { t1 with plain := false }) >>= fun _ => if (!false && (if b = true then t1 else { t1 with plain := false }).tooFull) = true then (do setRelay a (SetTable.grown (es.size + 1)); pure true) else pure true) Q E s := fun b => by
    cases b
    · exact fin _ (unplain q3) q4 rfl (by rw [← List.length_map (as := L) (f := fun p => p.2.hash w)]; exact q9)
    · exact fin _ q3 q4 rfl (by rw [← List.length_map (as := L) (f := fun p => p.2.hash w)]; exact q9)
  by_cases pl : t1.plain = true
  · first
      | (refine wpAny_bind ?_; refine wp_if_pos pl ?_; refine (cls_key k _ 8 _ hx.1 hx.2).2 _ _ _ fun b => ?_; exact both b)
      | (refine wp_if_pos pl ?_; refine wpAny_bind ((cls_key k _ 8 _ hx.1 hx.2).2 _ _ _ fun b => ?_); exact both b)
  · first
      | (refine wpAny_bind ?_; refine wp_if_neg pl ?_; refine wpAny_pure ?_; exact both true)
      | (refine wp_if_neg pl ?_; refine wpAny_bind (wpAny_pure ?_); exact both true)
end
end My
set_option Elab.async false
set_option linter.all false
set_option maxRecDepth 100000
set_option maxHeartbeats 3200000
namespace My
open PySem PySem.Spec PyProof.Rows L2
/-! ### set(a list, a tuple) of nested keys -/
/-- what the set has after the first i -/
structure GotN (ks : List (Addr × NestedKey)) (i : Nat) (L : List (Addr × NestedKey)) : Prop where
  old : ∀ p ∈ L, p ∈ ks
  sub : ∀ p ∈ L, ∃ j, j < i ∧ ks[j]? = some p
  all : ∀ j p, j < i → ks[j]? = some p → p.2 ∈ L.map (·.2)
  len : L.length ≤ i
theorem GotN.same {ks L : List (Addr × NestedKey)} {i : Nat} {x : Addr × NestedKey} (g : GotN ks i L) (e : ks[i]? = some x) (hm : x.2 ∈ L.map (·.2)) : GotN ks (i + 1) L := by
  refine ⟨g.old, fun p hp => ?_, fun j p hj ep => ?_, Nat.le_succ_of_le g.len⟩
  · obtain ⟨j, lt, q⟩ := g.sub p hp
    exact ⟨j, Nat.lt_succ_of_lt lt, q⟩
  · rcases Nat.lt_or_ge j i with h | h
    · exact g.all j p h ep
    · obtain rfl : j = i := by omega
      rw [e] at ep
      obtain rfl := Option.some.inj ep
      exact hm
theorem GotN.more {ks L L' : List (Addr × NestedKey)} {i : Nat} {x : Addr × NestedKey} (g : GotN ks i L) (e : ks[i]? = some x) (pm : L'.Perm (x :: L)) : GotN ks (i + 1) L' := by
  refine ⟨fun p hp => ?_, fun p hp => ?_, fun j p hj ep => (pm.map (·.2)).mem_iff.mpr ?_, by rw [pm.length_eq]; exact Nat.succ_le_succ g.len⟩
  · rcases List.mem_cons.mp (pm.mem_iff.mp hp) with rfl | h
    · exact List.mem_of_getElem? e
    · exact g.old p h
  · rcases List.mem_cons.mp (pm.mem_iff.mp hp) with rfl | h
    · exact ⟨i, Nat.lt_succ_self i, e⟩
    · obtain ⟨j, lt, q⟩ := g.sub p h
      exact ⟨j, Nat.lt_succ_of_lt lt, q⟩
  · rcases Nat.lt_or_ge j i with h | h
    · exact List.mem_cons_of_mem _ (g.all j p h ep)
    · obtain rfl : j = i := by omega
      rw [e] at ep
      obtain rfl := Option.some.inj ep
      exact List.mem_cons_self
def Keeps (h h' : Heap) : Prop := ∀ b o, h.get? b = some o → h'.get? b = some o
theorem KeysN.keeps {h h' : Heap} {L : List (Addr × NestedKey)} (x : KeysN h L) (k : Keeps h h') : KeysN h' L := fun p hp => (x p hp).old fun c o _ _ e _ => k c o e
section
variable {P : Program} {w : World}
theorem TabN.at {h h' : Heap} {a : Addr} {L : List (Addr × NestedKey)} {es : Array (Int × Value)} {ep : Nat} {t : SetTable} (R : TabN w h a L es ep t) (k : ∀ o, h.get? a = some o → h'.get? a = some o) : TabN w h' a L es ep t := by
  obtain ⟨o, ho, r⟩ := R.ob
  exact ⟨⟨o, k o ho, r⟩, R.rows, R.tab, R.nd, R.led, R.room, R.few⟩
theorem tabn_bare {h : Heap} {a : Addr} (e : h.get? a = some (bare w)) : TabN w h a [] #[] 0 (.fresh 0 0 (!w.params.followText "set-order")) where
  ob := ⟨_, e, ⟨rfl, rfl, rfl⟩, rfl⟩
  rows := rfl
  tab := ⟨.nil, rfl, rfl, .inl rfl, fun _ hx => (nomatch hx), fun _ _ _ hi => (by simp at hi)⟩
  nd := .nil
  led := by show _ ∨ (!w.params.followText "set-order") = true; cases w.params.followText "set-order" <;> simp
  room := by show 0 * 5 < 7 * 3; decide
  few := by show 0 < 64; decide
variable {A : Around} {R : Result → Shared → Prop} {it S : Addr} {fp wr : List Addr} {G : Array GenState → Array GenState → Prop} {n : Nat} {V : Nat → Value → Prop} {St : Nat → Shared → Prop}
theorem tabn_loop (W : WalksS P w A.in1 it fp wr G n V St) (free : S ∉ fp) (ks : List (Addr × NestedKey)) (hn : n = ks.length) (few : ks.length < 64) (ok : ∀ i v, V i v → ∃ p, ks[i]? = some p ∧ v = .ref p.1)
    (h0 : Heap) (here : KeysN h0 ks) (nS : h0.get? S = none) (nw : ∀ b ∈ wr, h0.get? b = none) (hu : A.in1.units + 8 < cLine) :
    ∀ (left i : Nat) (s : Shared), i + left = n → St i s → Keeps h0 s.heap → (∃ L es ep t, TabN w s.heap S L es ep t ∧ GotN ks i L) →
      (∀ z L es ep t, Moved (S :: wr) G s z → TabN w z.heap S L es ep t → GotN ks n L → Keeps h0 z.heap → R (.ok (.ret .none)) z) → codeAny (model P w) A (.builtin "set.update.loop" ⟨[.ref S, .ref it], []⟩) R s := by
  have out : S ∉ wr := fun h => free (W.sub _ h)
  have more : ∀ b ∈ wr, b ∈ S :: wr := fun _ h => .tail _ h
  have stay : ∀ {y z : Shared}, Moved wr G y z → Keeps h0 y.heap → Keeps h0 z.heap := fun m k b o e => m.heap b o (fun hb => by rw [nw b hb] at e; cases e) (k b o e)
  intro left
  induction left with
  | zero =>
    intro i s e st kp ⟨L, es, ep, t, T, g⟩ hR
    obtain rfl : i = n := e
    refine codeAny_builtin PyProof.Rows.F.entry_set_update_loop ?_; rw [Around.under_plainId PyProof.Rows.F.plain_set_update_loop _]
    show wpAny _ A.in1 (pyNext (.ref it) >>= _) _ _ s; refine wpAny_bind (W.done s _ _ st fun z m => ?_)
    exact wpAny_pure (hR z L es ep t (m.mono more) (T.at fun o h => m.heap S o out h) g (stay m kp))
  | succ left ih =>
    intro i s e st kp ⟨L, es, ep, t, T, g⟩ hR
    have lt : i < n := by omega
    refine codeAny_builtin PyProof.Rows.F.entry_set_update_loop ?_; rw [Around.under_plainId PyProof.Rows.F.plain_set_update_loop _]
    show wpAny _ A.in1 (pyNext (.ref it) >>= _) _ _ s; refine wpAny_bind (W.item i s _ _ lt st fun v z hv st2 m => ?_)
    obtain ⟨p, hp, rfl⟩ := ok i v hv
    have kz := stay m kp
    have T2 : TabN w z.heap S L es ep t := T.at fun o h => m.heap S o out h
    have keys : KeysN z.heap L := fun q hq => here.keeps kz q (g.old q hq)
    have hx : IsN z.heap p.2 p.1 := here.keeps kz p (List.mem_of_getElem? hp)
    show wpAny _ A.in1 (holding [Value.ref p.1] (setAdd S (.ref p.1)) >>= _) _ _ z
    refine wpAny_bind (wpAny_holding ?_); unfold setAdd; refine wpAny_holding (wpAny_bind ((nestedKind P w).pyHash (k := p.2) hu hx ?_))
    refine put_key (s := { z with toks := z.toks + p.2.draws }) T2 keys hx hu (by have := g.len; omega) fun b h2 L2 es2 ep2 t2 sb T3 c1 c2 => ?_
    have g2 : GotN ks (i + 1) L2 := by
      by_cases c : p.2 ∈ L.map (·.2)
      · rw [c1 c]; exact g.same hp c
      · exact g.more hp (c2 c)
    have k2 : Keeps h0 h2 := fun b o e => (sb.2 b fun c => by rw [c, nS] at e; cases e).trans (kz b o e)
    refine wpAny_pure ⟨plainId_quiet PyProof.Rows.F.plain_set_update_loop _, ih (i + 1) _ (by omega) (W.frame _ z _ _ st2 (Nat.le_add_right _ _) fun b hb o q => ?_) k2 ⟨L2, es2, ep2, t2, T3, g2⟩ fun y Ly ey py ty my Ty gy ky => ?_⟩
    · exact (sb.2 b fun c : b = S => free (c ▸ hb)).trans q
    · refine hR y Ly ey py ty (Moved.trans W.gtrans ((m.mono more).then_heap (Nat.le_add_right _ _) fun b o hb q => ?_) my) Ty gy ky
      exact (sb.2 b fun c : b = S => hb (c ▸ .head _)).trans q
variable {E : Value → Shared → Prop} {s : Shared}
theorem call_keys {l : Addr} {items : Array Value} {T U : String} {Is : Heap → Prop} (F0 : Fed P w l items T U Is) (hh : A.handled = none) (now : Is s.heap) (ks : List (Addr × NestedKey)) (hit : items.toList = ks.map fun p => Value.ref p.1)
    (here : KeysN s.heap ks) (few : ks.length < 64) (hu : A.units + 16 < cLine) {Q : Value → Shared → Prop}
    (hQ : ∀ h' tk L es ep t, TabN w h' s.heap.objs.size L es ep t → GotN ks ks.length L → Keeps s.heap h' → Q (.ref s.heap.objs.size) { s with heap := h', toks := tk }) : wpAny (model P w) A (call (.type "set") [.ref l]) Q E s := by
  have isz : items.size = ks.length := by rw [← Array.length_toList, hit, List.length_map]
  obtain ⟨c, tl, hmro⟩ := PySem.F.called_set.mro; have made := PySem.F.called_set.made; have sub := PySem.F.called_set.sub; have h1 := PySem.F.called_set.notType; have h2 := PySem.F.called_set.canCreate; have ct := PySem.F.typeCall_set_1 (.ref l)
  refine wpAny_call (codeAny_of_tree ?_); show wpAny _ _ (callAny (.type "set") _) _ _ _
  refine wpAny_pure ⟨Code.quiet_builtin _ (by decide +kernel), codeAny_builtin PySem.F.entry_type_call ?_⟩; rw [Around.under_plain (weight_type_call_type "set" [.ref l] []) rfl]
  repeat (any_goals first | assumption | wp_step)
  refine codeAny_mono (new_bare (.ref l) (E := E) (R := fun x z => x = .ref s.heap.objs.size ∧ z = { s with heap := s.heap.push (bare w) }) ⟨rfl, rfl⟩) fun r z hr => ?_
  cases r with
  | error e => exact hr
  | ok fl =>
    cases fl with
    | ret x =>
      obtain ⟨rfl, rfl⟩ := hr
      have aS : (s.heap.push (bare w)).get? s.heap.objs.size = some (bare w) := Heap.get?_push_size _ rfl
      have hT : Shared.TypeIs { s with heap := s.heap.push (bare w) } (.ref s.heap.objs.size) "set" := ⟨_, aS, rfl⟩
      have li := PySem.F.called_set.init.lookup; have bi := PySem.F.called_set.init.bind (.ref s.heap.objs.size)
      repeat (any_goals first | assumption | wp_step)
      refine codeAny_mono (codeAny_call_builtin (R := wants (fun r z => r = .none ∧ ∃ h' tk L es ep t, z = { s with heap := h', toks := tk } ∧ TabN w h' s.heap.objs.size L es ep t ∧ GotN ks ks.length L ∧ Keeps s.heap h') E)
        PySem.F.called_set.init.plain PySem.F.entry_set_init (check_set_init_1 hT ?_)) fun r2 z2 hr2 => ?_
      · have Is1 : Is (s.heap.push (bare w)) := F0.keep _ _ now fun o e => Heap.get?_push_of_some _ e
        obtain ⟨d, n, sl, at0⟩ := F0.obj _ Is1
        obtain ⟨_, _, _, at1⟩ := F0.obj _ now
        have q1 := F0.ns; have q2 := F0.nf; have q3 := F0.nd
        unfold Builtin.«set.__init__» noKeywords Builtin.Frozenset.updateFrom; generalize hPI : pyIter = PI
        wp_walk
        subst hPI
        refine F0.iter _ _ _ _ Is1 ?_
        refine wpAny_bind (wpAny_runValue ?_); have lS : l < s.heap.objs.size := Heap.lt_size at1
        have hz : (s.heap.push (bare w)).objs.size = s.heap.objs.size + 1 := Heap.size_push ..
        have ne : l ≠ (s.heap.push (bare w)).objs.size := by rw [hz]; exact Nat.ne_of_lt (Nat.lt_succ_of_lt lS)
        have free : s.heap.objs.size ∉ [(s.heap.push (bare w)).objs.size, l] := by
          rw [hz]; intro c
          rcases List.mem_cons.mp c with c | c
          · exact Nat.ne_of_lt (Nat.lt_succ_self _) c
          · exact Nat.ne_of_gt lS (List.mem_singleton.mp c)
        have no : ∀ b, s.heap.objs.size ≤ b → s.heap.get? b = none := fun b hb => by
          cases q : s.heap.get? b with
          | none => rfl
          | some o => exact absurd (Nat.lt_of_lt_of_le (Heap.lt_size q) hb) (Nat.lt_irrefl _)
        have ok : ∀ (i : Nat) (v : Value), items[i]? = some v → ∃ p, ks[i]? = some p ∧ v = .ref p.1 := fun i v hv => by
          rw [← Array.getElem?_toList, hit, List.getElem?_map] at hv
          cases q : ks[i]? with
          | none => rw [q] at hv; cases hv
          | some p => rw [q] at hv; exact ⟨p, rfl, (Option.some.inj hv).symm⟩
        obtain ⟨St, W, st0⟩ := F0.walk A.in1.in1.in1 (s.heap.push (bare w)).objs.size (by simp [hh]) ne
        refine tabn_loop W.toS free ks isz few ok s.heap here (no _ (Nat.le_refl _)) (fun b hb => no b (by rw [List.mem_singleton.mp hb, hz]; exact Nat.le_succ _)) (by simp only [Around.in1_units]; omega) items.size 0 _ (Nat.zero_add _)
          (st0 _ (F0.keep _ _ Is1 fun o e => Heap.get?_push_of_some _ e) (Heap.get?_push_size _ rfl)) (fun b o e => Heap.get?_push_of_some _ (Heap.get?_push_of_some _ e)) ⟨[], _, _, _, tabn_bare (Heap.get?_push_of_some _ aS), ⟨fun _ h => (nomatch h), fun _ h => (nomatch h), fun j p h => absurd h (Nat.not_lt_zero _), Nat.le_refl _⟩⟩ ?_
        intro z L es ep t m Tz g kz
        obtain ⟨h', g', d', tk', os'⟩ := z
        obtain rfl : g' = s.gens := m.gens
        obtain rfl : d' = s.drawn := m.drawn
        obtain rfl : os' = s.os := m.os
        show wpAny _ _ _ _ _ _; refine wpAny_pure ?_; show wpAny _ _ (ret Value.none) _ _ _
        rw [isz] at g
        exact wpAny_pure ⟨rfl, h', tk', L, es, ep, t, rfl, Tz, g, kz⟩
      · cases r2 with
        | error e => exact hr2
        | ok fl2 =>
          cases fl2 with
          | ret r =>
            obtain ⟨rfl, h', tk, L, es, ep, t, rfl, T2, g2, k2⟩ := hr2
            repeat (any_goals first | assumption | wp_step)
            exact hQ _ _ _ _ _ _ T2 g2 k2
          | _ => exact hr2.elim
    | _ => exact hr.elim
end
end My
set_option Elab.async false
set_option linter.all false
set_option maxRecDepth 100000
set_option maxHeartbeats 1000000
/-! ### an error class over an error class over ValueError, whose own __init__ says super().__init__(f"..") and stores one field -/
namespace My
open PySem PySem.Spec PyProof.Rows L2 Evl NdefX ClX PySem.W
/-- what an f-string writes without more -/
def FmtOk (y : V) : Prop := (∃ z : Str, y = .str z ∧ z.length ≤ 1000) ∨ ∃ i : Int, y = .int i ∧ i.natAbs.log2 < 1920
def spSup (C : Addr) (fld : Str) : Sp := fun vs H Q _ => ∃ (a : Addr) (y : V), vs = [.ref a, y] ∧ H a = some (exo a C none) ∧ FmtOk y ∧ ∀ dx, H dx = none → dx ≠ a → Q .non (upd (upd H dx (exd dx [(fld, y)])) a (exo a C (some dx)))
/-- what the written part says of the class C and of its __init__ at f -/
structure SupC (P : Program) (K : PySem.W.Frag) (C f cda cc : Addr) (fld : Str) (F : NF) (doc pm ct : Value) (kV : Value) : Prop where
  T : OexC K C
  lk : ∃ oc od osl, K.lookup f = some ⟨oc, od, .func (ksFn F.name F.qual F.params F.body F.scope .none kV doc pm none (.ref cda) ct cc), osl⟩
  hcd : codeIn K (.ref cda) F.qual = true
  code : ∃ ccl cdd vs ccs file tf, K.lookup cda = some ⟨ccl, cdd, .fields vs, ccs⟩ ∧ vs[2]? = some (.str file tf) ∧ ((P.main.file : Str) == file) = true
  cell : ∃ cl cld csl, K.lookup cc = some ⟨cl, cld, .cell (some (.ref C)), csl⟩
  hsub : mroIn K C (.ref C) = some true
  hsup : ks_superIn K C C "__init__" = some (some (.builtin "ValueError.__init__"))
  hB : subIn K (.ref C) (.type "ValueError") = some true
  ho : nsIn K cStatics "thirdparty.any" = some none
  hno : findIn K (.ref C) fld = some none
/-- the f-string is of a kind that leaves the heap as it is -/
def FmtE (N : List Str) (sc : Scope) (e1 : Expr) : Prop := ∀ X : Cx, X.N = N → X.env.scope = sc → ∃ te, PE X e1 te ∧ ∀ (σ : L2.St) (H : Hp) (y : V) (Q : VK), σ[1]? = some (some y) → FmtOk y → (∀ v, Q v H) → te σ H Q
theorem fn_sup {P : Program} {w : World} {K : PySem.W.Frag} {mg : Str → Option Value} {base : Heap} {C f cda cc : Addr} {fld pn : Str} {F : NF} {doc pm ct kV : Value}
    (Z : SupC P K C f cda cc fld F doc pm ct kV) (hFc : F.c = cda) (hFcl : F.cl = [(("__class__" : Str), cc)])
    {p0 p1 p2 p3 p4 p5 p6 p7 p8 p9 : Pos} {e1 : Expr} (hbd : F.body = [.Expr (.Call (.Attribute (.Call (.Name "super" p0) [] [] p1) "__init__" p2) [e1] [] p3) p4, .Assign [.Attribute (.Name "self" p5) fld p6] (.Name pn p7) p8])
    {ar : Arg} (hp : (F.params.posonlyargs ++ F.params.args).head? = some ar) (har : ar.arg = "self")
    (S : NScope ["self", pn, "__class__"] ["self", pn] ["__class__"] F.scope) (hks : F.scope.names.lookup ("super" : Str) = some .globalImplicit)
    (htop : (P.main.scope.names.lookup ("super" : Str)).isSome = false) (hm : mg "super" = none) (hpn : (pn == ("__debug__" : Str)) = false) (hpn2 : (pn == ("__classdict__" : Str)) = false) (hfe : FmtE ["self", pn, "__class__"] F.scope e1) (hst : ∀ env, starEach [e1] env = (false, eval e1 env) :: starEach [] env) {pl : Env → Sem Bool}
    (hev : ∀ env, eval (.Call (.Attribute (.Call (.Name "super" p0) [] [] p1) "__init__" p2) [e1] [] p3) env = (do
      let ov ← attributeBase (.Call (.Name "super" p0) [] [] p1) "__init__" env (eval (.Call (.Name "super" p0) [] [] p1) env)
      standAt p2.atName
      let (f, first) ← holding [ov] (getMethod ov "__init__" (pl env))
      callWith p3 f first (backTo p3 (starEach [e1] env)) []))
    (hsw : ∀ env, swapsWith (.Call (.Attribute (.Call (.Name "super" p0) [] [] p1) "__init__" p2) [e1] [] p3) none p4.line env = pure false) (hsw2 : ∀ env, swapsWith (.Name pn p7) (some (.Attribute (.Name "self" p5) fld p6)) p8.line env = pure false) :
    FnOk P w K mg base CX0 1 f (ksFn F.name F.qual F.params F.body F.scope .none kV doc pm none (.ref cda) ct cc) ["self", pn] (spSup C fld) := by
  refine ⟨fun vs H Q E h => by obtain ⟨a, y, rfl, _⟩ := h; rfl, fun A outer s H args us vs Q E hr e0 hb r hsp => ?_⟩
  obtain ⟨a, y, rfl, ha, hy, q⟩ := hsp
  have KX : K.In s.heap := e0.mod.kin.keeps fun b o e => (e0.bs b o e).1
  have lim : s.heap.NoLimit := e0.mod.nolimit.keeps fun b o e => (e0.bs b o e).1
  obtain ⟨oc, od, osl, lk⟩ := Z.lk
  refine ks_codeAny_call_defAt (fd := ksFn F.name F.qual F.params F.body F.scope .none kV doc pm none (.ref cda) ct cc) (body := F.body) (binds := [("self" : Str), pn].zip us) hr.depth (KX _ _ lk) rfl lim (codeRec_of KX Z.hcd) rfl hb S.nocell (fun ⟨n, v⟩ hy => S.par n (List.of_mem_zip hy).1) (fun h₁ hns kp => ?_) S.co S.gen S.kind
  have hcl : CellsAt F.cl ["__class__"] [none] s.heap H := by
    obtain ⟨cl, cld, csl, hc⟩ := Z.cell
    have hcc := (e0.bs cc _ (e0.mod.kin _ _ hc))
    refine ⟨rfl, fun y' c e => ?_, fun x' y' c e1 e2 => ?_, fun i y' e => ?_⟩
    · rw [hFcl] at e
      have : c = cc := by
        unfold List.lookup at e
        split at e
        · exact (Option.some.inj e).symm
        · cases e
      subst this
      exact ⟨hcc.2, _, _, hcc.1, rfl⟩
    · rw [hFcl] at e1 e2
      unfold List.lookup at e1 e2
      split at e1
      · rename_i z1
        split at e2
        · rename_i z2
          rw [beq_iff_eq.mp z1, beq_iff_eq.mp z2]
        · cases e2
      · cases e1
    · match i, e with
      | 0, e =>
        have e := Option.some.inj e
        subst e
        exact ⟨cc, by rw [hFcl]; rfl, fun v z => nomatch z⟩
  have hl : [V.ref a, y].length = [("self" : Str), pn].length := rfl
  have I := inv_startN (CX := CX0) (E := E) (F := F) (f := f) (N := ["self", pn, "__class__"]) (tk := s.toks + ([("self" : Str), pn].zip us).length) S hr.hd e0 hl r hcl hns kp
  have henv : callEnv (ksFn F.name F.qual F.params F.body F.scope .none kV doc pm none (.ref cda) ct cc) s.heap.objs.size f = envF F f s.heap.objs.size := by
    unfold envF
    rw [hFc, hFcl]
    rfl
  rw [henv]
  clear henv
  have hkc : (envF F f s.heap.objs.size).kindOf "__class__" = some .free := S.frk "__class__" (by simp)
  have hka : (envF F f s.heap.objs.size).kindOf "self" = some .local := S.par "self" (by simp)
  have hcel : (envF F f s.heap.objs.size).cells.lookup ("__class__" : Str) = some cc := by
    show F.cl.lookup _ = _
    rw [hFcl]
    rfl
  obtain ⟨ccl, cdd, vs, ccs, file, tf, hco, hvs, hfile⟩ := Z.code
  obtain ⟨cl, cld, csl, hcc⟩ := Z.cell
  obtain ⟨nm, qn, N', bs, bm, sn, sub, ab, col, dd, k0, k1, k2, k3, k5, hC, hbm⟩ := Z.T.cls
  have hD : clsIn K C = some { name := nm, bases := bs, mro := .ref C :: bm, ns := N', qualname := qn, hasDict := true, slotNames := sn, subclasses := sub, abstract := ab, collection := col, hasDel := false } := by unfold clsIn; rw [hC] <;> rfl
  have hdat : ∀ t1 : Addr, ∀ c, ({ cls := .ref C, dict := none, data := .fields #[.ref t1, .none, .none, .none, .bool false, .none] } : Obj).data ≠ .cls c := fun t1 c z => nomatch z
  have eB : execs F.body (envF F f s.heap.objs.size) = execs [.Expr (.Call (.Attribute (.Call (.Name "super" p0) [] [] p1) "__init__" p2) [e1] [] p3) p4, .Assign [.Attribute (.Name "self" p5) fld p6] (.Name pn p7) p8] (envF F f s.heap.objs.size) := by rw [hbd]
  rw [eB]
  refine ks_wpAt_execs_cons (ks_wpAt_Expr_any (ks_wpAt_MethodCall ?_ (hev _)) I.quiet (hsw _))
  refine ks_wpAt_super_base (f := f) (cc := cda) (vs := vs) (file := file) (tf := tf) hks hkc rfl rfl (I.kIn _ _ lk) rfl hp (by show Value.ref F.c = _; rw [hFc]) (I.kIn _ _ hco) rfl hvs hfile htop ?_
  obtain ⟨mb, hb1, hb2⟩ := I.mod.blt
  refine ks_loadName_global S.kind hks (Calls.loadGlobal_builtin (I.mod.glob.keeps I.bk) hm (hb1.keeps I.bk) ((hb2 _ (by decide)).trans (by decide +kernel)) ⟨rfl, ?_⟩)
  refine wpAny_loadName_free S.kind hkc hcel ⟨_, I.kIn _ _ hcc, rfl⟩ ?_
  obtain ⟨mL, hnL, hlL⟩ := id I.loc
  obtain ⟨u, ru, lku⟩ := hlL 0 "self" (.ref a) rfl rfl (Or.inl hka)
  obtain rfl : u = .ref a := ru
  rw [har]
  refine wpAny_loadName_local S.kind hka hnL (by
    rcases lku with ⟨_, z⟩ | ⟨z, _⟩
    · exact z
    · rcases z with z | z
      · exact absurd ((show F.scope.names.lookup ("self" : Str) = some .local from hka).symm.trans z) (by decide)
      · exact absurd ((show F.scope.names.lookup ("self" : Str) = some .local from hka).symm.trans z) (by decide)) ?_
  refine ks_wpAny_isType_cls (I.kIn _ _ hC) rfl ⟨rfl, ?_⟩
  obtain ⟨t1, hx⟩ := exo_at I.hok ha
  refine ks_wpAny_call_super (I.kIn _ _ hC) rfl hx rfl (hdat t1) (looks_mroIn I.kIn Z.hsub) (fun h' hso kk => ?_)
  have I2 := I.kept (t' := s.toks + ([("self" : Str), pn].zip us).length) kk
  have hmro : Looks (model P w) h' (mroOf (.ref C)) (.ref C :: bm) := fun A Q E s k q => wpAny_bind ((looks_clsIn I2.kIn hD) A _ E s k (wpAny_pure q))
  have hsup := Z.hsup
  unfold ks_superIn at hsup
  rw [hD] at hsup
  have J : InstAt h' a ({ cls := .ref C, dict := none, data := .fields #[.ref t1, .none, .none, .none, .bool false, .none] } : Obj) C none := ⟨kk _ _ hx, rfl, rfl, trivial⟩
  have hI : Looks (model P w) h' (isInstance (.ref a) (.type "ValueError")) true := J.type.andThen (looks_subIn I2.kIn Z.hB)
  refine kxs_getMethod kxs_ValueError hso (looks_opaque I2.kIn Z.ho) hmro rfl I2.kIn hsup hI (ks_ne I2.kIn J hD) (by decide) ?_
  have I3 := pin_new (o := kxs_mw "ValueError.__init__" a) (a := h'.objs.size) (t' := s.toks + ([("self" : Str), pn].zip us).length + 1) I2 (fun b o e => Heap.get?_push_of_some _ e) (Nat.le_refl _) (Heap.get?_push_at rfl rfl) (fun v z => nomatch z)
  have ha' : h'.objs.size ≠ a := fun z => by
    have := pin_un I3
    rw [z, ha] at this
    cases this
  show wpAny _ _ (callWith p3 (.ref h'.objs.size) [] (backTo p3 (starEach [e1] (envF F f s.heap.objs.size))) []) _ _ _
  rw [hst]
  refine kxs_callWith (i := "ValueError.__init__") (x := a) rfl (Calls.evalArgs_plain ?_)
  obtain ⟨te, hte, hread⟩ := hfe (ncx CX0 P w K mg base ["self", pn, "__class__"] F f A outer s H E) rfl rfl
  have hrun := (pa_cons hte pa_nil (hst _)).run p3 _ _ _ _ (fun vs H1 => H1 = H ∧ vs.length ≤ 1000) I3 (hread _ _ y _ rfl hy fun v => ⟨rfl, by show 1 ≤ 1000; decide⟩)
  rw [show (ncx CX0 P w K mg base ["self", pn, "__class__"] F f A outer s H E).env = envF F f s.heap.objs.size from rfl, hst] at hrun
  refine thn hrun fun us1 s1 hh => ?_
  obtain ⟨vs1, H1, I4, r4, rfl, hlen⟩ := hh
  refine ⟨pin_at I4, ?_⟩
  have hus : us1.length ≤ sizeLine := by
    rw [← Paired.length r4, sizeLine_eq]
    omega
  obtain ⟨t2, hx4⟩ := exo_at I4.hok ha
  have hu4 := pin_at I4
  obtain ⟨hh4, g4, d4, tk4, os4⟩ := s1
  show wpAny _ _ (call (.ref h'.objs.size) us1) _ _ _
  refine wpAny_call (codeAny_of_tree ?_)
  show wpAny _ _ (callAny (.ref h'.objs.size) ⟨us1, []⟩) _ _ _
  simp only [callAny]
  refine wpAny_bind (wpAny_load hu4 ?_)
  simp only [kxs_mw, show (Value.type "method-wrapper" == Value.type "method" || Value.type "method-wrapper" == Value.type "builtin_function_or_method" || Value.type "method-wrapper" == Value.type "method-wrapper") = true by decide, if_true]
  refine KFB.if_so (by decide) ?_
  refine wpAny_bind (check_bound_init PySem.F.excBase_ValueError.toExcCallFacts (I4.kIn _ _ hC) hx4 rfl ?_)
  refine wpAny_bind (wpAny_pure (wpAny_pure ?_))
  refine ⟨plainId_quiet PySem.F.excBase_ValueError.init.plain _, codeAny_builtin PySem.F.excBase_ValueError.initEntry ?_⟩
  refine exc_init_tree (cls := .ref C) (t0 := t2) (dv := none) (c2 := .none) (c3 := .none) (b4 := .bool false) hx4 hus fun h5 k5 hx5 _ => ?_
  have I5 := I4.write (t' := tk4) (x := a) (e := a) (o := exo a C none) (by rw [ha]; exact True.intro) (.inl rfl) k5 ⟨_, hx5⟩ (exo_ok hx5)
  have eu : upd H1 a (exo a C none) = H1 := by
    funext b
    by_cases hb : b = a
    · rw [hb, upd_same, ha]
    · rw [upd_ne hb]
  rw [eu] at I5
  have I6 := unpin I5
  show PySem.wpAt _ _ _ (execs _ _) _ _ _
  refine PySem.wpAt_of_wpAny ?_
  have hkp : F.scope.names.lookup pn = some .local := S.par pn (by simp)
  have hstm : PS (ncx CX0 P w K mg base ["self", pn, "__class__"] F f A outer s H1 E) (.Assign [.Attribute (.Name "self" p5) fld p6] (.Name pn p7) p8) (tOst K fld (tVar 0) (tVar 1)) :=
    ps_ost (pv 0 rfl (Or.inl hka)) (pv 1 rfl (Or.inl hkp) hpn hpn2) (hsw2 _)
  have hps := (pss_one hstm).run [] _ _ H1 { nx := fun _ H' => Q .non H', rt := Q, bk := fun _ _ => False, ct := fun _ _ => False } I6 ⟨y, rfl, .ref a, rfl, a, C, rfl, Z.T, Z.hno, Or.inl ⟨ha, q⟩⟩
  refine wpAny_mono hps (fun fl s' hs => ?_) fun e s' hs => hs
  have fin : ∀ {σ' : L2.St} {H' : Hp} {v : V} {u : Value}, L2.Inv (ncx CX0 P w K mg base ["self", pn, "__class__"] F f A outer s H1 E) [] σ' H' s' → L2.RelV v u → Q v H' → CE outer P w H1 s Q u s' :=
    fun {σ' H' v u} J rv q => ⟨v, H', J.os, J.bare, J.base, J.hok, rv, q⟩
  cases fl with
  | ret u =>
    obtain ⟨v, σ', H', J, rv, q⟩ := hs
    exact fin J rv q
  | next =>
    obtain ⟨σ', H', J, q⟩ := hs
    exact fin (v := V.non) (u := Value.none) J rfl q
  | brk =>
    obtain ⟨_, _, _, q⟩ := hs
    exact False.elim q
  | cont =>
    obtain ⟨_, _, _, q⟩ := hs
    exact False.elim q
end My
set_option Elab.async false
set_option linter.all false
set_option maxRecDepth 100000
set_option maxHeartbeats 1000000
/-! ### methods, methods that may raise, errors with a field: raised, caught, asked -/
namespace My
open PySem PySem.Spec PyProof.Rows L2 Evl
section
variable {P : Program} {w : World} {K : PySem.W.Frag} {mg : Str → Option Value} {base : Heap}
/-- a method (or an __init__) of the class C that keeps a promise -/
structure Mdf (P : Program) (w : World) (K : PySem.W.Frag) (mg : Str → Option Value) (base : Heap) (CX : CXT) (k : Nat) (C : Addr) (m : Str) (ps : List Str) (sp : Sp) : Prop where
  ex : ∃ (f : Addr) (fd : FuncData), FnOk P w K mg base CX k f fd ps sp ∧ Meth K C m f ∧ Binds K fd ps []
/-- a method as the text has it -/
def AtM (K : PySem.W.Frag) (C : Addr) (m qual : Str) (st : Stmt) : Prop := ∃ f fd, Fun K m qual st f fd ∧ Meth K C m f
theorem mdf_ok {C : Addr} {m qual : Str} {st : Stmt} {N ps : List Str} {k : Nat} {sp : Sp} (A : AtM K C m qual st) (S : FnScope N ps (defScope st))
    (hb : ∀ (kV doc pm : Value) (an : Option Addr) (cdv ct : Value) (us : List Value), us.length = ps.length → bindArgs (PySem.W.fnOf m qual (defArgs st) (defBody st) (defScope st) .none kV doc pm an cdv ct) ⟨us, []⟩ = pure (ps.zip us))
    (len : ∀ vs H Q E, sp vs H Q E → vs.length = ps.length)
    (hbody : ∀ (f : Addr) (cdv : Value) (A : Around) (outer : List Env) (s : Shared) (H : Hp) (vs : List V) (Q : VK) (E : XK), Room k (A.deeper (envOfC qual (defScope st) s.heap.objs.size f cdv)) → sp vs H Q E →
      ∃ t, PSs (cxOf CX0 P w K mg base N qual (defScope st) f cdv A outer s H E).nox (defBody st) t ∧ t { nx := fun _ H' => Q .non H', rt := Q } (start N vs) H) : Mdf P w K mg base CX0 (k + 1) C m ps sp := by
  obtain ⟨f, fd, F, hm⟩ := A
  exact ⟨f, fd, F.ok S len (hbody f), hm, F.binds hb⟩
theorem mdf_okX {C : Addr} {m qual : Str} {st : Stmt} {N ps : List Str} {k : Nat} {sp : Sp} (A : AtM K C m qual st) (S : FnScope N ps (defScope st))
    (hb : ∀ (kV doc pm : Value) (an : Option Addr) (cdv ct : Value) (us : List Value), us.length = ps.length → bindArgs (PySem.W.fnOf m qual (defArgs st) (defBody st) (defScope st) .none kV doc pm an cdv ct) ⟨us, []⟩ = pure (ps.zip us))
    (len : ∀ vs H Q E, sp vs H Q E → vs.length = ps.length)
    (hbody : ∀ (f : Addr) (cdv : Value) (A : Around) (outer : List Env) (s : Shared) (H : Hp) (vs : List V) (Q : VK) (E : XK), Room k (A.deeper (envOfC qual (defScope st) s.heap.objs.size f cdv)) → sp vs H Q E →
      ∃ t, PSs (cxOf (L2.CX P w) P w K mg base N qual (defScope st) f cdv A outer s H E) (defBody st) t ∧ t { nx := fun _ H' => Q .non H', rt := Q } (start N vs) H) : Mdf P w K mg base (L2.CX P w) (k + 1) C m ps sp := by
  obtain ⟨f, fd, F, hm⟩ := A
  exact ⟨f, fd, F.okX S len (hbody f), hm, F.binds hb⟩
theorem Mdf.mono {CX : CXT} {C : Addr} {m : Str} {ps : List Str} {j k : Nat} {sp : Sp} (D : Mdf P w K mg base CX j C m ps sp) (h : j ≤ k) : Mdf P w K mg base CX k C m ps sp := by
  obtain ⟨f, fd, F, r⟩ := D.ex
  exact ⟨f, fd, F.mono h, r⟩
/-- a def that never lets an error out where its promise wishes none -/
theorem fnok_never {k : Nat} {f : Addr} {fd : FuncData} {ps : List Str} {sp : Sp} (F : FnOk P w K mg base (L2.CX P w) k f fd ps sp) : FnOk P w K mg base CX0 k f fd ps (fun vs H Q _ => sp vs H Q fun _ _ _ => False) :=
  ⟨fun vs H Q E h => F.len vs H Q _ h, fun A outer s H args us vs Q E hr he hb hv hs => codeAny_mono (F.run A outer s H args us vs Q _ hr he hb hv hs) fun r s' hq => by
    cases r with
    | ok fl => cases fl <;> exact hq
    | error e =>
      have hq : L2.CX P w outer H s (fun _ _ _ => False) e s' := hq
      obtain ⟨_, _, _, _, _, _, _, _, _, _, _, _, _, _, _, z⟩ := hq⟩
theorem Mdf.never {k : Nat} {C : Addr} {m : Str} {ps : List Str} {sp : Sp} (D : Mdf P w K mg base (L2.CX P w) k C m ps sp) : Mdf P w K mg base CX0 k C m ps (fun vs H Q _ => sp vs H Q fun _ _ _ => False) := by
  obtain ⟨f, fd, F, r⟩ := D.ex
  exact ⟨f, fd, fnok_never F, r⟩
end
section
variable {X : Cx} {k : Nat} {C : Addr} {m x : Str} {ps : List Str} {sp : Sp} {e o : Expr} {es : List Expr} {p pos apos : Pos} {ta : TE} {t : TA}
theorem pe_m {pl : Sem Bool} (D : Mdf X.prog X.w X.K X.mg X.base CX0 k C m ps sp) (c : Cls X.K C) (hr : Room k X.A) (he : PE X o ta) (ha : PA X (e :: es) t)
    (hst : starEach (e :: es) X.env = (false, eval e X.env) :: starEach es X.env := by rfl) (hpl : (backTo pos (starEach es X.env)).any (·.1) = false := by rfl)
    (ht : eval (.Call (.Attribute o m apos) (e :: es) [] pos) X.env = (do
      let ov ← eval o X.env; standAt apos.atName
      let (f, first) ← holding [ov] (getMethod ov m pl)
      callWith pos f first (backTo pos (starEach (e :: es) X.env)) (backToKw pos (keywordEach [] X.env))) := by rfl) : PE X (.Call (.Attribute o m apos) (e :: es) [] pos) (tMeth C m sp [] E0 ta t) := by
  obtain ⟨f, fd, F, hm, hb⟩ := D.ex
  exact pe_meth he c hm F hr hb .nil pass0 ha hst hpl ht
theorem pe_m0 {pl : Sem Bool} (D : Mdf X.prog X.w X.K X.mg X.base CX0 k C m ps sp) (c : Cls X.K C) (hr : Room k X.A) (he : PE X o ta)
    (ht : eval (.Call (.Attribute o m apos) [] [] pos) X.env = (do
      let ov ← eval o X.env; standAt apos.atName
      let (f, first) ← holding [ov] (getMethod ov m pl)
      callWith pos f first (backTo pos (starEach [] X.env)) (backToKw pos (keywordEach [] X.env))) := by rfl) : PE X (.Call (.Attribute o m apos) [] [] pos) (tMeth C m sp [] E0 ta tNil) := by
  obtain ⟨f, fd, F, hm, hb⟩ := D.ex
  exact pe_meth0 he c hm F hr hb .nil pass0 ht
/-- o.m(e, ..), what is raised is wished for at the caller's slots -/
def tMethA (C : Addr) (m : Str) (sp : Sp) (E : L2.St → XK) (ta : TE) (t : TA) : TE := fun σ H Q => ta σ H fun x H1 => ∃ a dx fs, x = .ref a ∧ H1 a = some (.ins C dx fs) ∧ fs.lookup m = none ∧ t σ H1 fun vs H2 => sp (x :: vs) H2 Q (E σ)
theorem pe_mA {W : WX} {pl : Sem Bool} (D : Mdf X.prog X.w X.K X.mg X.base (L2.CX X.prog X.w) k C m ps sp) (c : Cls X.K C) (hr : Room k X.A) (tk : Takes X W) (he : PE X o ta) (ha : PA X (e :: es) t)
    (hst : starEach (e :: es) X.env = (false, eval e X.env) :: starEach es X.env := by rfl) (hpl : (backTo pos (starEach es X.env)).any (·.1) = false := by rfl)
    (ht : eval (.Call (.Attribute o m apos) (e :: es) [] pos) X.env = (do
      let ov ← eval o X.env; standAt apos.atName
      let (f, first) ← holding [ov] (getMethod ov m pl)
      callWith pos f first (backTo pos (starEach (e :: es) X.env)) (backToKw pos (keywordEach [] X.env))) := by rfl) : PE X (.Call (.Attribute o m apos) (e :: es) [] pos) (tMethA C m sp (WE W) ta t) := by
  obtain ⟨f, fd, F, hm, hb⟩ := D.ex
  refine ⟨fun pins s σ H Q I h => PySem.W.methodCall_KW (pl := pl) (thn (he.run pins s σ H _ I h) fun u s1 hh => ?_) ht⟩
  obtain ⟨x, H1, I1, rx, a, dx, fs, ex, ea, l, q⟩ := hh
  subst ex
  obtain rfl : u = Value.ref a := rx
  refine getmeth_ok I1 ea c hm l (PySem.W.callWith_K (first := [.ref a]) (h₀ := X.base) I.ok.mod.kin hm.kp (thn (ha.run pos pins s1 σ H1 _ I1 q) fun us s2 hh => ?_) hst hpl)
  obtain ⟨vs, H2, I2, r, q2⟩ := hh
  exact ⟨I2.kIn, run_fnS (us := .ref a :: us) (vs := .ref a :: vs) F hr hb (passAt tk σ) I2 (.cons rfl r) q2⟩
/-- C(e, ..) by the promise of its __init__ -/
theorem pe_mk (D : Mdf X.prog X.w X.K X.mg X.base CX0 k C "__init__" ps sp) (mk : PySem.W.makesIn X.K C = true) (kc : PySem.W.keepIn X.K (.ref C) = true) (hm : X.mg x = some (.ref C)) (hr : Room (k + 1) X.A) (ha : PA X (e :: es) t) (hg : Gl X x := by rfl)
    (hdb : (x == ("__debug__" : Str)) = false := by decide) (he : starEach (e :: es) X.env = (false, eval e X.env) :: starEach es X.env := by rfl) (hpl : (backTo pos (starEach es X.env)).any (·.1) = false := by rfl) :
    PE X (.Call (.Name x p) (e :: es) [] pos) (tMake C sp [] E0 t) := by
  obtain ⟨f, fd, F, hmt, hb⟩ := D.ex
  exact pe_make ⟨mk, hmt.at_, hmt.fn, kc⟩ F hr hg hm hb .nil pass0 ha hdb he hpl
end
/-! ### an error with one field is made -/
section
variable {K : PySem.W.Frag} {σ : L2.St} {H : Hp} {te : TE}
theorem mk_sup {C : Addr} {fld : Str} {y : V} {XQ : XK} (h : Ev te σ H y) (hy : FmtOk y) (k : ∀ d H', H d = none → Ex H H' → H' d = some (.xd [(fld, y)]) → XQ (.ref C) (some d) H') : tMkO C (spSup C fld) [] (tCons te tNil) σ H XQ :=
  h H (Ex.refl H) _ fun H1 e1 => ⟨by show 1 ≤ 1000; decide, fun a na => ⟨a, y, rfl, upd_same, hy, fun dx nx nex => by
    have nd1 : H1 dx = none := by rw [upd_ne nex] at nx; exact nx
    refine ⟨rfl, dx, [(fld, y)], upd_same, by rw [upd_ne nex, upd_same], nd1, ?_⟩
    have eq : upd (del (upd (upd (upd H1 a (exo a C none)) dx (exd dx [(fld, y)])) a (exo a C (some dx))) a) dx (.xd [(fld, y)]) = upd H1 dx (.xd [(fld, y)]) := by
      funext b
      by_cases hb : b = dx
      · rw [hb, upd_same, upd_same]
      · rw [upd_ne hb, upd_ne hb]
        by_cases hba : b = a
        · rw [hba, del_same, na]
        · rw [del_ne hba, upd_ne hba, upd_ne hb, upd_ne hba]
    rw [eq]
    exact k dx _ (fresh_back e1 nd1) (e1.trans (Ex.new nd1)) upd_same⟩⟩
end
end My
set_option Elab.async false
set_option linter.all false
set_option maxRecDepth 100000
set_option maxHeartbeats 4000000
/-! ### isinstance of a caught error that has a dict -/
namespace My
open PySem PySem.Spec PySem.Calls PyProof.Rows PySem.W
section
variable {prog : Program} {w : World} {A : Around} {E : Value → Shared → Prop} {s : Shared} {K : Frag} {x D : Addr} {ox : Obj} {od : Option Obj}
theorem fo_data {C : Addr} {name : Str} {a g : Value} (hc : (clsIn K C).isSome = true) (ha : findIn K (.ref C) name = some (some a)) (hg : specialIn K a "__get__" = some (some g)) (ht : takesIn K a = some true) :
    findObj K C od name = some (.bind g a) := by
  obtain ⟨cd, hc⟩ := Option.isSome_iff_exists.mp hc
  unfold findObj
  rw [hc, Option.bind_some, ha, Option.bind_some]
  simp [hg, ht]
/-- error.__class__ -/
theorem cls_of_err {Q : Option Value → Shared → Prop} (C : L2.ExcC K D) (X : K.In s.heap) (I : InstAt s.heap x ox D od) (h : Q (some (.ref D)) { s with toks := s.toks + 1 }) :
    wpAny (model prog w) A (getAttr? (.ref x) "__class__") Q E s := by
  have hf : findObj K D od "__class__" = some (.bind (.builtin "getset_descriptor.__get__") (.builtin "object.__class__")) :=
    fo_data (by obtain ⟨cd, hc, _⟩ := any_some C.hd; rw [hc]; rfl) C.ha C.hn C.ht
  obtain ⟨hp, g, d, t, os⟩ := s
  have T0 := I.type (M := model prog w)
  have T1 := looks_findIn (M := model prog w) X C.hg
  have T2 := looks_findIn (M := model prog w) X C.hk
  have T3 := looks_find (M := model prog w) X I hf
  have sub : Looks (model prog w) hp (isInstance (.ref x) (.type "BaseException")) true := T0.andThen (looks_subIn X C.hs)
  have n2 : (Value.builtin "BaseException.__getattribute__" == Value.builtin "object.__getattribute__") = false := by decide +kernel
  have n1 : (onTheHeap (Value.ref D) && Value.builtin "BaseException.__getattribute__" == Value.builtin "object.__getattribute__") = false := by rw [n2]; rfl
  have n0 : (false && onTheHeap (Value.builtin "BaseException.__getattribute__")) = false := rfl
  unfold getAttr? getAttrBy? getAttrBy
  refine wpAny_bind (wpAny_mkText (wpAny_bind (wpAny_attempt (wpAny_holding (wpAny_bind (T0.at (wpAny_bind (T1.at ?_))))))))
  show wpAny _ _ (if (onTheHeap (Value.ref D) && Value.builtin "BaseException.__getattribute__" ==
    Value.builtin "object.__getattribute__") = true then _ else _) _ _ _
  rw [n1, if_neg Bool.false_ne_true]
  unfold getAttrByItsOwn hookBefore
  refine wpAny_bind ?_
  rw [if_pos (show onTheHeap (Value.ref D) = true from rfl)]
  refine T2.at (wpAny_bind (wpAny_attempt (wpAny_holding ?_)))
  unfold callGetattribute
  rw [n0, if_neg Bool.false_ne_true]
  unfold boundAndCalled
  rw [PySem.F.excAttr_ValueError.ga.bind (.ref x)]
  refine wpAny_bind (wpAny_pure (?_ : wpAny _ _ (call (.builtin "BaseException.__getattribute__") [.ref x, .str "__class__" t]) _ _ _))
  refine wpAny_call (codeAny_call_builtin PySem.F.excAttr_ValueError.ga.plain PySem.F.entry_bexc_ga
    (@check_slot (model prog w) _ _ ⟨hp, g, d, t + 1, os⟩ "BaseException.__getattribute__" "BaseException" "__getattribute__" (.ref x) [.str "__class__" t] [] _ (by decide +kernel) (by decide +kernel) sub (PySem.F.args_bexc_ga (.ref x) (.str "__class__" t)) ?_))
  unfold Builtin.«object.__getattribute__»
  refine wpAny_bind (wpAny_of_eq (a := ((Value.ref x : Value), [Value.str "__class__" t])) (by first | rfl | (simp only [slotArgs]; rfl)) (wpAny_bind (wpAny_pure (wpAny_bind (T0.at (wpAny_bind (T3.at ?_)))))))
  show wpAny _ _ (holding [Value.builtin "object.__class__"] (call (.builtin "getset_descriptor.__get__")
    [.builtin "object.__class__", .ref x, .ref D]) >>= ret) _ _ _
  refine wpAny_bind (wpAny_holding (wpAny_call (class_get (s := ⟨hp, g, d, t + 1, os⟩) (ox := ox) (od := od) X I C.hm (wpAny_pure ?_))))
  show wpAny _ _ (handedOut (.ref D)) _ _ _
  rw [handedOut_of (v := .ref D) rfl]
  first
    | exact wpAny_pure (wpAny_pure h) | exact wpAny_pure h
    | exact wpAny_pure (wpAny_bind (wpAny_pure (wpAny_pure h)))
theorem kit_err (C : L2.ExcC K D) : KitX K (.ref x) (.ref D) (fun h => ∃ od, InstAt h x ox D od) where
  ty := fun _ _ _ ⟨_, I⟩ => I.type
  it := fun _ _ X _ => by
    obtain ⟨cdD, hcD, _⟩ := any_some C.hd
    unfold clsIn at hcD
    split at hcD
    · rename_i c' d' cd' sl' ho
      intro A' Q' E' s' k q
      unfold isType loadHead
      exact wpAny_bind (wpAny_loadPart (k _ _ (X _ _ ho)) (wpAny_pure q))
    · cases hcD
  ne := fun h tp dd its n sl X htp => by
    obtain ⟨cdD, hcD, _⟩ := any_some C.hd
    refine Bool.eq_false_iff.mpr fun q => ?_
    have e : D = tp := Value.ref.inj (beq_iff_eq.mp q)
    subst e
    unfold clsIn at hcD
    split at hcD
    · rename_i c' d' cd' sl' ho
      have z := (X _ _ ho).symm.trans htp
      cases z
    · cases hcD
  ca := fun X ⟨_, I⟩ k => cls_of_err C X I k
end
open L2 Evl
/-- isinstance(e, C), both own classes of errors, the answer of the text -/
def rIsX (K : PySem.W.Frag) (D a : Addr) (cls : Value) : List V → Hp → VK → Prop := fun xs H Q => ∃ (c : Addr) (b : Bool), xs = [.ref a, .ref c] ∧ cls = .ref D ∧ PySem.W.kitOne K (.ref D) (.ref c) = some b ∧ Q (.bl b) H
theorem call_isX {X : Cx} {a D : Addr} {oe : Obj} {pn : List (Addr × Obj)} {cls : Value} {d : Option Addr} (C : ExcC X.K D) (hz : Zc cls d oe) (hf : ∃ vs, oe.data = .fields vs) (hd : ∀ dd, d = some dd → True) :
    CallR (X.suite a ((a, oe) :: pn)) (.builtin "isinstance") (fun xs H Q => (∀ dd, d = some dd → ∃ fs, H dd = some (.xd fs)) ∧ rIsX X.K D a cls xs H Q) := by
  intro pins s σ H xs us Q I r ⟨hdd, h⟩
  obtain ⟨c, b, rfl, rfl, e, q⟩ := h
  cases r with
  | cons rx rr =>
    cases rr with
    | cons rt rr =>
      cases rr
      cases rx
      cases rt
      obtain ⟨hget, _⟩ := I.pin (a, oe) (List.mem_append.mpr (.inl List.mem_cons_self))
      obtain ⟨vs, hv⟩ := hf
      have J : ∃ od, PySem.W.InstAt s.heap a oe D od := by
        obtain ⟨oc, od, oda, osl⟩ := oe
        obtain ⟨h1, h2⟩ := hz
        dsimp only at h1 h2 hv
        subst h1 h2 hv
        cases od with
        | none => exact ⟨none, hget, rfl, rfl, trivial⟩
        | some dd =>
          obtain ⟨fs, hfs⟩ := hdd dd rfl
          obtain ⟨mA, hns, _⟩ := (show ObjOk X.prog X.w H s.heap dd (.xd fs) from I.hok dd _ hfs)
          obtain ⟨o, ho, _⟩ := lookIn_ns hns
          exact ⟨some o, hget, rfl, rfl, ho⟩
      exact PySem.W.kia_one (kit_err C) I.kIn J e (fun z => nomatch z) fun tk => ⟨.bl b, H, I.kept (t' := tk) fun _ _ z => z, rfl, q⟩
end My
set_option Elab.async false
set_option linter.all false
set_option maxRecDepth 100000
set_option maxHeartbeats 1000000
/-! ### an f-string of three parts: what it writes is short -/
namespace My
open PySem PySem.Spec PyProof.Rows L2 Evl
theorem fmt_of {pn c1 c2 : Str} {k1 k2 : _} {q1 q2 q3 q4 q5 : Pos} {sc : Scope} (hpn : sc.names.lookup pn = some .local) (h1 : (pn == ("__debug__" : Str)) = false) (h2 : (pn == ("__classdict__" : Str)) = false) (l1 : c1.length ≤ 1000) (l2 : c2.length ≤ 1000) :
    FmtE ["self", pn, "__class__"] sc (.JoinedStr [.Constant (.str c1) k1 q1, .FormattedValue (.Name pn q2) (-1) none q3, .Constant (.str c2) k2 q4] q5) := fun X hN hs => by
  refine ⟨_, pe_joined (.cons pe_str (.cons (pe_fmt (pv 1 (by rw [hN]; rfl) (Or.inl (by rw [hs]; exact hpn)) h1 h2)) (.cons pe_str .nil))), fun σ H y Q hσ hy q => ?_⟩
  have fin : ∀ z : Str, z.length ≤ 3000 → (Str.empty ++ c1 ++ z).length ≤ sizeLine ∧ (Str.empty ++ c1 ++ z ++ c2).length ≤ sizeLine := fun z hz => by
    have e0 : (Str.empty : Str).length = 0 := rfl
    have e1 := Str.length_append Str.empty c1
    have e2 := Str.length_append (Str.empty ++ c1) z
    have e3 := Str.length_append (Str.empty ++ c1 ++ z) c2
    rw [sizeLine_eq]
    omega
  have f0 : (Str.empty ++ c1).length ≤ sizeLine := by
    have e1 := Str.length_append Str.empty c1
    have e0 : (Str.empty : Str).length = 0 := rfl
    rw [sizeLine_eq]
    omega
  refine ⟨c1, rfl, f0, y, hσ, ?_⟩
  rcases hy with ⟨z, rfl, hz⟩ | ⟨i, rfl, hi⟩
  · exact Or.inl ⟨z, rfl, by rw [sizeLine_eq]; omega, z, rfl, (fin z (by omega)).1, c2, rfl, (fin z (by omega)).2, q _⟩
  · have hl : (toString i : Str).length ≤ 3000 := by
      have e := int_text_length_le (k := 1920) (by decide) hi
      rw [show (toString i : Str) = Str.ofString (toString i) from rfl, PySem.ofString_length]
      omega
    exact Or.inr ⟨i, rfl, hi, _, rfl, (fin _ hl).1, c2, rfl, (fin _ hl).2, q _⟩
end My
set_option Elab.async false
set_option linter.all false
set_option maxRecDepth 100000
set_option maxHeartbeats 400000
/-! ### a memory: an object with a list of rows -/
namespace My
open PySem PySem.Spec PyProof.Rows L2 Evl
section
variable {K : PySem.W.Frag} {σ : L2.St} {H : Hp} {ta tb te : TE} {tz : TS} {D : Ends}
theorem ev_fld {f : Str} {a C dx : Addr} {fs : List (Str × V)} {v : V} (h : Ev ta σ H (.ref a)) (ha : H a = some (.ins C dx fs)) (c : Cls K C) (n : NoAttr K C f) (l : fs.lookup f = some v) : Ev (tFld K ta f) σ H v := fun H1 e Q q =>
  h H1 e _ fun H2 e2 => ⟨a, C, dx, fs, v, rfl, (e.trans e2) _ _ ha, c, n, l, q H2 e2⟩
theorem el_repN {x : V} {n : Nat} (ha : EvL ta σ H [x]) (hb : Ev tb σ H (.int (n : Int))) (hn : n ≤ 100000) : EvL (tOp rRep ta tb) σ H (List.replicate n x) := fun H1 e Q q =>
  ha H1 e _ fun p H2 np e2 hp => hb H2 (e.trans e2) _ fun H3 e3 => ⟨p, _, [x], rfl, rfl, e3 _ _ hp, by omega, by omega, by rw [Int.toNat_natCast]; exact sz_of (by show 1 * n ≤ _; omega), fun l nl => by
    refine q l _ (fresh_back (e2.trans e3) nl) ((e2.trans e3).trans (Ex.new nl)) ?_
    rw [upd_same, Int.toNat_natCast]
    have : ∀ n : Nat, (List.replicate n [x]).flatten = List.replicate n x := fun n => by
      induction n with
      | zero => rfl
      | succ n ih => rw [List.replicate_succ, List.flatten_cons, ih]; rfl
    rw [this]⟩
/-- a value that comes with a heap that may be changed -/
def EvM (te : TE) (σ : L2.St) (H : Hp) (P : V → Hp → Prop) : Prop := ∀ Q : VK, (∀ v H', P v H' → Q v H') → te σ H Q
theorem q_dropM {P : V → Hp → Prop} (h : EvM te σ H P) (k : ∀ v H', P v H' → tz D σ H') : tSeq (tDrop te) tz D σ H := h _ k
theorem s_dropM {P : V → Hp → Prop} (h : EvM te σ H P) (k : ∀ v H', P v H' → D.nx σ H') : tDrop te D σ H := h _ k
theorem q_asgM {i : Nat} {P : V → Hp → Prop} (h : EvM te σ H P) (k : ∀ v H', P v H' → tz D (σ.set i (some v)) H') : tSeq (tAsg te (gName i)) tz D σ H := h _ k
end
/-- all that stands elsewhere than at R stands as before -/
def Kp1 (R : Addr) (H H' : Hp) : Prop := ∀ o u, o ≠ R → H o = some u → H' o = some u
theorem Kp1.ex {R : Addr} {H H1 H2 : Hp} (k : Kp1 R H H1) (e : Ex H1 H2) : Kp1 R H H2 := fun o u h1 h => e _ _ (k o u h1 h)
theorem Kp1.of {R : Addr} {H H' : Hp} (e : Ex H H') : Kp1 R H H' := fun o u _ h => e _ _ h
theorem Kp1.u {R : Addr} {H H1 : Hp} {o : HO} (k : Kp1 R H H1) : Kp1 R H (upd H1 R o) := fun a u h1 h => by rw [upd_ne h1]; exact k a u h1 h
theorem Kp1.trans {R : Addr} {H H1 H2 : Hp} (k : Kp1 R H H1) (k2 : Kp1 R H1 H2) : Kp1 R H H2 := fun a u h1 h => k2 a u h1 (k a u h1 h)
theorem Ex.kp1 {R : Addr} {H H1 H2 : Hp} (e : Ex H H1) (k : Kp1 R H1 H2) : Kp1 R H H2 := fun a u h1 h => k a u h1 (e _ _ h)
/-- the fields, in the order of their stores -/
def mflds (R : Addr) (c b : Nat) : List (Str × V) := [("cells", .int (c : Int)), ("bits", .int (b : Int)), ("_rows", .ref R)]
theorem s_cb : ¬ ("cells" : Str) = "bits" := by decide +kernel
theorem s_cr : ¬ ("cells" : Str) = "_rows" := by decide +kernel
theorem s_br : ¬ ("bits" : Str) = "_rows" := by decide +kernel
theorem mf_cells (R : Addr) (c b : Nat) : (mflds R c b).lookup ("cells" : Str) = some (.int (c : Int)) := by
  unfold mflds
  rw [List.lookup_cons, show (("cells" : Str) == "cells") = true by decide +kernel]
theorem mf_bits (R : Addr) (c b : Nat) : (mflds R c b).lookup ("bits" : Str) = some (.int (b : Int)) := by
  unfold mflds
  rw [List.lookup_cons, show (("bits" : Str) == "cells") = false by decide +kernel, List.lookup_cons, show (("bits" : Str) == "bits") = true by decide +kernel]
theorem mf_rows (R : Addr) (c b : Nat) : (mflds R c b).lookup ("_rows" : Str) = some (.ref R) := by
  unfold mflds
  rw [List.lookup_cons, show (("_rows" : Str) == "cells") = false by decide +kernel, List.lookup_cons, show (("_rows" : Str) == "bits") = false by decide +kernel, List.lookup_cons, show (("_rows" : Str) == "_rows") = true by decide +kernel]
theorem mf_no {m : Str} (R : Addr) (c b : Nat) (h1 : (m == ("cells" : Str)) = false) (h2 : (m == ("bits" : Str)) = false) (h3 : (m == ("_rows" : Str)) = false) : (mflds R c b).lookup m = none := by
  unfold mflds
  rw [List.lookup_cons, h1, List.lookup_cons, h2, List.lookup_cons, h3]
  rfl
theorem mf_put (R : Addr) (c b : Nat) : putF "_rows" (.ref R) (putF "bits" (.int (b : Int)) (putF "cells" (.int (c : Int)) [])) = mflds R c b := by
  have e1 : putF "bits" (.int (b : Int)) (putF "cells" (.int (c : Int)) []) = [(("cells" : Str), V.int (c : Int)), ("bits", .int (b : Int))] := by
    show (if ("cells" : Str) = "bits" then [(("cells" : Str), V.int (b : Int))] else (("cells" : Str), V.int (c : Int)) :: putF "bits" (.int (b : Int)) []) = _
    rw [if_neg s_cb]
    rfl
  rw [e1]
  show (if ("cells" : Str) = "_rows" then _ else (("cells" : Str), V.int (c : Int)) :: (if ("bits" : Str) = "_rows" then _ else (("bits" : Str), V.int (b : Int)) :: putF "_rows" (.ref R) [])) = _
  rw [if_neg s_cr, if_neg s_br]
  rfl
theorem mf_put2 (R R2 : Addr) (c b : Nat) : putF "_rows" (.ref R2) (mflds R c b) = mflds R2 c b := by
  show (if ("cells" : Str) = "_rows" then _ else (("cells" : Str), V.int (c : Int)) :: (if ("bits" : Str) = "_rows" then _ else (("bits" : Str), V.int (b : Int)) :: (if ("_rows" : Str) = "_rows" then _ else _))) = _
  rw [if_neg s_cr, if_neg s_br, if_pos rfl]
  rfl
/-- at M a memory with the rows at R -/
structure MemAt (C : Addr) (H : Hp) (M R : Addr) (c b : Nat) (rows : List Nat) : Prop where
  ob : ∃ dx, H M = some (.ins C dx (mflds R c b))
  rw_ : H R = some (.lst ((iL rows).map V.int))
  len : rows.length = c
theorem MemAt.ne {C : Addr} {H : Hp} {M R : Addr} {c b : Nat} {rows : List Nat} (m : MemAt C H M R c b rows) : M ≠ R := fun z => by
  obtain ⟨dx, h⟩ := m.ob
  rw [z, m.rw_] at h
  cases h
theorem MemAt.ex {C : Addr} {H H' : Hp} {M R : Addr} {c b : Nat} {rows : List Nat} (m : MemAt C H M R c b rows) (e : Ex H H') : MemAt C H' M R c b rows := ⟨m.ob.imp fun dx h => e _ _ h, e _ _ m.rw_, m.len⟩
theorem MemAt.put {C : Addr} {H H' : Hp} {M R : Addr} {c b : Nat} {rows rows' : List Nat} (m : MemAt C H M R c b rows) (k : Kp1 R H H') (h : H' R = some (.lst ((iL rows').map V.int))) (hl : rows'.length = rows.length) : MemAt C H' M R c b rows' :=
  ⟨m.ob.imp fun dx h => k _ _ m.ne h, h, hl.trans m.len⟩
theorem MemAt.at_ {C : Addr} {H : Hp} {M R : Addr} {c b i : Nat} {rows : List Nat} (m : MemAt C H M R c b rows) (hi : i < c) : ((iL rows).map V.int)[i]? = some (.int ((rows.getD i 0 : Nat) : Int)) := by
  refine at_iL ?_
  rw [List.getElem?_eq_getElem (by rw [m.len]; exact hi), List.getD_eq_getElem?_getD, List.getElem?_eq_getElem (by rw [m.len]; exact hi)]
  rfl
/-- what the rows are -/
def RowsOk (b : Nat) (rows : List Nat) : Prop := ∀ r ∈ rows, r < 2 ^ pl b
theorem RowsOk.at_ {b i : Nat} {rows : List Nat} (h : RowsOk b rows) : rows.getD i 0 < 2 ^ pl b := by
  rw [List.getD_eq_getElem?_getD]
  cases e : rows[i]? with
  | none => exact Nat.two_pow_pos _
  | some r => exact h r (List.mem_of_getElem? e)
theorem RowsOk.set {b i r : Nat} {rows : List Nat} (h : RowsOk b rows) (hr : r < 2 ^ pl b) : RowsOk b (rows.set i r) := fun z hz => by
  rcases List.mem_or_eq_of_mem_set hz with hz | rfl
  · exact h z hz
  · exact hr
theorem iL_set (rows : List Nat) (i r : Nat) : ((iL rows).map V.int).set i (.int (r : Int)) = (iL (rows.set i r)).map V.int := by
  unfold iL
  rw [← List.map_set, ← List.map_set]
/-- the word that a row is or is one flip away from -/
def menO (b n : Nat) : Option Nat := if parB (pl b) n then (if spotN (pl b) n < pl b then some (flip n [spotN (pl b) n]) else none) else (if spotN (pl b) n = 0 then some n else none)
def oV : Option Nat → V
  | some n => .int (n : Int)
  | none => .non
theorem menV_o (b n : Nat) : menV b n = oV (menO b n) := by
  unfold menV menO
  split
  · split <;> rfl
  · split <;> rfl
theorem menO_lt {b n w : Nat} (hn : n < 2 ^ pl b) (h : menO b n = some w) : w < 2 ^ pl b := by
  unfold menO at h
  split at h
  · split at h
    · rename_i h2
      cases h
      exact flip_lt hn fun p hp => by rw [List.mem_singleton.mp hp]; exact h2
    · cases h
  · split at h
    · cases h; exact hn
    · cases h
/-- the state of a row, told by a text -/
def stO (b n : Nat) : Str := if parB (pl b) n then (if spotN (pl b) n < pl b then "one" else "more") else (if spotN (pl b) n = 0 then "clean" else "more")
def stP (b n : Nat) : V := if parB (pl b) n then (if spotN (pl b) n < pl b then .int ((spotN (pl b) n : Nat) : Int) else .non) else .non
theorem stV_o (b n : Nat) : stV b n = [.str (stO b n), stP b n] := by
  unfold stV stO stP
  split
  · split <;> rfl
  · split <;> rfl
theorem st_men (b n : Nat) : (stO b n = "clean" ∧ menO b n = some n ∧ parB (pl b) n = false ∧ spotN (pl b) n = 0) ∨ (stO b n = "one" ∧ menO b n = some (flip n [spotN (pl b) n]) ∧ flip n [spotN (pl b) n] ≠ n ∧ spotN (pl b) n < pl b ∧ parB (pl b) n = true) ∨ (stO b n = "more" ∧ menO b n = none) := by
  unfold stO menO
  by_cases h : parB (pl b) n
  · rw [if_pos h, if_pos h]
    by_cases h2 : spotN (pl b) n < pl b
    · rw [if_pos h2, if_pos h2]
      refine Or.inr (Or.inl ⟨rfl, rfl, fun z => ?_, h2, h⟩)
      have := par_flip1 (m := pl b) (n := n) h2
      have z' : n ^^^ 2 ^ spotN (pl b) n = n := z
      rw [z'] at this
      cases hh : parB (pl b) n <;> rw [hh] at this <;> cases this
    · rw [if_neg h2, if_neg h2]
      exact Or.inr (Or.inr ⟨rfl, rfl⟩)
  · have h' : parB (pl b) n = false := by simpa using h
    rw [if_neg h, if_neg h]
    by_cases h2 : spotN (pl b) n = 0
    · rw [if_pos h2, if_pos h2]
      exact Or.inl ⟨rfl, rfl, h', h2⟩
    · rw [if_neg h2, if_neg h2]
      exact Or.inr (Or.inr ⟨rfl, rfl⟩)
theorem st_ne1 : ¬ ("clean" : Str) = "one" := by decide +kernel
theorem st_ne2 : ¬ ("more" : Str) = "one" := by decide +kernel
theorem st_ne3 : ¬ ("one" : Str) = "more" := by decide +kernel
theorem st_ne4 : ¬ ("clean" : Str) = "more" := by decide +kernel
theorem cod_zero {b : Nat} (h4 : 4 ≤ b) (h32 : b ≤ 32) : cod b 0 = 0 := by
  have h0 : onesN b 0 = [] := by unfold onesN; rw [bs_zero]; rfl
  have h1 : cod0 b 0 = 0 := by unfold cod0; rw [h0]; rfl
  have h2 : cksN b 0 = [] := by
    unfold cksN
    exact List.filter_eq_nil_iff.mpr fun p _ => by rw [Nat.zero_and]; decide
  have h3 : cod1 b 0 = 0 := by unfold cod1; rw [h1, spot_zero, h2]; rfl
  unfold cod
  rw [h3, par_zero]
  rfl
/-! promises of the methods; CE the class of the error -/
def spMInit (C : Addr) : Sp := fun vs H Q _ => ∃ (M dx : Addr) (c b : Nat), vs = [.ref M, .int (c : Int), .int (b : Int)] ∧ H M = some (.ins C dx []) ∧ c ≤ 512 ∧ 4 ≤ b ∧ b ≤ 32 ∧
  ∀ R H', H R = none → Kp1 M H H' → H' M = some (.ins C dx (mflds R c b)) → H' R = some (.lst ((iL (List.replicate c 0)).map V.int)) → Q .non H'
def spMWrite (C : Addr) : Sp := fun vs H Q _ => ∃ (M R : Addr) (c b i v : Nat) (rows : List Nat), vs = [.ref M, .int (i : Int), .int (v : Int)] ∧ MemAt C H M R c b rows ∧ i < c ∧ 4 ≤ b ∧ b ≤ 32 ∧ v < 2 ^ b ∧
  ∀ H', Kp1 R H H' → H' R = some (.lst ((iL (rows.set i (cod b v))).map V.int)) → Q .non H'
def spMFlip (C : Addr) : Sp := fun vs H Q _ => ∃ (M R : Addr) (c b i p : Nat) (rows : List Nat), vs = [.ref M, .int (i : Int), .int (p : Int)] ∧ MemAt C H M R c b rows ∧ i < c ∧ p < 64 ∧
  ∀ H', Kp1 R H H' → H' R = some (.lst ((iL (rows.set i (flip (rows.getD i 0) [p]))).map V.int)) → Q .non H'
def spMRow (C : Addr) : Sp := fun vs H Q _ => ∃ (M R : Addr) (c b i : Nat) (rows : List Nat), vs = [.ref M, .int (i : Int)] ∧ MemAt C H M R c b rows ∧ i < c ∧ ∀ H', Ex H H' → Q (.int ((rows.getD i 0 : Nat) : Int)) H'
def spMState (C : Addr) : Sp := fun vs H Q _ => ∃ (M R : Addr) (c b i : Nat) (rows : List Nat), vs = [.ref M, .int (i : Int)] ∧ MemAt C H M R c b rows ∧ i < c ∧ 4 ≤ b ∧ b ≤ 32 ∧ RowsOk b rows ∧
  ∀ p H', H p = none → Ex H H' → H' p = some (.tup (stV b (rows.getD i 0))) → Q (.ref p) H'
def spMWord (C CE : Addr) : Sp := fun vs H Q E => ∃ (M R : Addr) (c b i : Nat) (rows : List Nat), vs = [.ref M, .int (i : Int)] ∧ MemAt C H M R c b rows ∧ i < c ∧ c ≤ 512 ∧ 4 ≤ b ∧ b ≤ 32 ∧ RowsOk b rows ∧
  (∀ w H', menO b (rows.getD i 0) = some w → Ex H H' → Q (.int (w : Int)) H') ∧ (menO b (rows.getD i 0) = none → ∀ d H', H d = none → Ex H H' → H' d = some (.xd [("place", .int (i : Int))]) → E (.ref CE) (some d) H')
def spMRead (C CE : Addr) : Sp := fun vs H Q E => ∃ (M R : Addr) (c b i : Nat) (rows : List Nat), vs = [.ref M, .int (i : Int)] ∧ MemAt C H M R c b rows ∧ i < c ∧ c ≤ 512 ∧ 4 ≤ b ∧ b ≤ 32 ∧ RowsOk b rows ∧
  (∀ w H', menO b (rows.getD i 0) = some w → Ex H H' → Q (.int ((valN b w : Nat) : Int)) H') ∧ (menO b (rows.getD i 0) = none → ∀ d H', H d = none → Ex H H' → H' d = some (.xd [("place", .int (i : Int))]) → E (.ref CE) (some d) H')
def spMScrub (C CE : Addr) : Sp := fun vs H Q E => ∃ (M R : Addr) (c b i : Nat) (rows : List Nat), vs = [.ref M, .int (i : Int)] ∧ MemAt C H M R c b rows ∧ i < c ∧ c ≤ 512 ∧ 4 ≤ b ∧ b ≤ 32 ∧ RowsOk b rows ∧
  (∀ w H', menO b (rows.getD i 0) = some w → Kp1 R H H' → H' R = some (.lst ((iL (rows.set i w)).map V.int)) → Q (.bl (!decide (w = rows.getD i 0))) H') ∧
  (menO b (rows.getD i 0) = none → ∀ d H', H d = none → Ex H H' → H' d = some (.xd [("place", .int (i : Int))]) → E (.ref CE) (some d) H')
/-- all cells scrubbed, up to k -/
def scrubbed (b : Nat) (rows : List Nat) (k : Nat) : List Nat := (List.range rows.length).map fun i => if i < k then (menO b (rows.getD i 0)).getD (rows.getD i 0) else rows.getD i 0
def cellsOf (b : Nat) (rows : List Nat) (k : Nat) (t : Str) : List Nat := (List.range k).filter fun i => decide (stO b (rows.getD i 0) = t)
def spMAll (C : Addr) : Sp := fun vs H Q _ => ∃ (M R : Addr) (c b : Nat) (rows : List Nat), vs = [.ref M] ∧ MemAt C H M R c b rows ∧ c ≤ 512 ∧ 4 ≤ b ∧ b ≤ 32 ∧ RowsOk b rows ∧
  ∀ (t p q : Addr) H', Kp1 R H H' → H' R = some (.lst ((iL (scrubbed b rows c)).map V.int)) → H t = none → H p = none → H q = none → H' t = some (.tup [.ref p, .ref q]) → H' p = some (.lst ((iL (cellsOf b rows c "one")).map V.int)) → H' q = some (.lst ((iL (cellsOf b rows c "more")).map V.int)) → p ≠ q → Q (.ref t) H'
def spMTwin (C : Addr) : Sp := fun vs H Q _ => ∃ (M R : Addr) (c b : Nat) (rows : List Nat), vs = [.ref M] ∧ MemAt C H M R c b rows ∧ c ≤ 512 ∧ 4 ≤ b ∧ b ≤ 32 ∧
  ∀ (M2 R2 : Addr) H', H M2 = none → H R2 = none → Ex H H' → MemAt C H' M2 R2 c b rows → Q (.ref M2) H'
/-- the class as the text has it -/
structure MemC (K : PySem.W.Frag) (C : Addr) : Prop where
  cl : Cls K C
  n1 : NoAttr K C "cells"
  n2 : NoAttr K C "bits"
  n3 : NoAttr K C "_rows"
section
variable {K : PySem.W.Frag} {σ : L2.St} {H : Hp} {ta : TE} {C M R : Addr} {c b : Nat} {rows : List Nat}
theorem ev_mcells (T : MemC K C) (h : Ev ta σ H (.ref M)) (m : MemAt C H M R c b rows) : Ev (tFld K ta "cells") σ H (.int (c : Int)) := by
  obtain ⟨dx, ho⟩ := m.ob
  exact ev_fld h ho T.cl T.n1 (mf_cells R c b)
theorem ev_mbits (T : MemC K C) (h : Ev ta σ H (.ref M)) (m : MemAt C H M R c b rows) : Ev (tFld K ta "bits") σ H (.int (b : Int)) := by
  obtain ⟨dx, ho⟩ := m.ob
  exact ev_fld h ho T.cl T.n2 (mf_bits R c b)
theorem ev_mrows (T : MemC K C) (h : Ev ta σ H (.ref M)) (m : MemAt C H M R c b rows) : Ev (tFld K ta "_rows") σ H (.ref R) := by
  obtain ⟨dx, ho⟩ := m.ob
  exact ev_fld h ho T.cl T.n3 (mf_rows R c b)
end
/-- an error class with one field, as the text has it -/
structure ErrC (P : Program) (w : World) (K : PySem.W.Frag) (mg : Str → Option Value) (base : Heap) (x : Str) (C : Addr) (fld pn : Str) : Prop where
  T : OexC K C
  init : ∃ (f : Addr) (fd : FuncData), FnOk P w K mg base CX0 1 f fd ["self", pn] (spSup C fld) ∧ PySem.W.findIn K (.ref C) "__init__" = some (some (.ref f)) ∧ PySem.W.typeIn K (.ref f) = some (.type "function") ∧ Binds K fd ["self", pn] []
  g : mg x = some (.ref C)
  xf : XfC K C
  no : PySem.W.findIn K (.ref C) fld = some none
  te : PySem.W.exmOne K (.ref C) (.ref C) = some true
  is_ : ExcC K C
theorem ps_raiseE {X : Cx} {W : WX} {x : Str} {C : Addr} {fld pn : Str} {e : Expr} {te : TE} {p p1 pos : Pos} (Z : ErrC X.prog X.w X.K X.mg X.base x C fld pn) (hr : Room 2 X.A) (tk : Takes X W) (he : PE X e te) (hc : X.calm = true := by rfl) (hg : Gl X x := by rfl)
    (hst : starEach [e] X.env = (false, eval e X.env) :: starEach [] X.env := by rfl) (hdb : (x == ("__debug__" : Str)) = false := by decide) (hpl : (backTo p1 (starEach [] X.env)).any (·.1) = false := by rfl) :
    PS X (.Raise (some (.Call (.Name x p) [e] [] p1)) none pos) (fun _ σ H => tMkO C (spSup C fld) [] (tCons te tNil) σ H fun cls d H' => W cls d σ H') := by
  obtain ⟨f, fd, F, h1, h2, hb⟩ := Z.init
  exact ps_raise hc tk (pmk_oex Z.T h1 h2 F hr hb .nil (fun _ _ _ _ _ _ _ h => h.elim) hg Z.g (pa_cons he pa_nil hst) hdb hst hpl)
section
variable {K : PySem.W.Frag} {σ : L2.St} {H : Hp} {ta : TE} {t : TA} {C a dx : Addr} {m : Str} {fs : List (Str × V)} {sp : Sp} {vs xs : List V} {z : V}
theorem ev_meth (h : Ev ta σ H (.ref a)) (ho : H a = some (.ins C dx fs)) (hl : fs.lookup m = none) (hv : EvA t σ H vs) (hs : SpV sp (.ref a :: (vs ++ [])) H z) : Ev (tMeth C m sp [] E0 ta t) σ H z := fun H1 e Q q =>
  h H1 e _ fun H2 e2 => ⟨a, dx, fs, rfl, (e.trans e2) _ _ ho, hl, hv H2 (e.trans e2) _ fun H3 e3 => hs H3 ((e.trans e2).trans e3) Q (fun H4 e4 => q H4 ((e2.trans e3).trans e4)) E0⟩
theorem eu_meth (h : Ev ta σ H (.ref a)) (ho : H a = some (.ins C dx fs)) (hl : fs.lookup m = none) (hv : EvA t σ H vs) (hs : SpU sp (.ref a :: (vs ++ [])) H xs) : EvU (tMeth C m sp [] E0 ta t) σ H xs := fun H1 e Q q =>
  h H1 e _ fun H2 e2 => ⟨a, dx, fs, rfl, (e.trans e2) _ _ ho, hl, hv H2 (e.trans e2) _ fun H3 e3 => hs H3 ((e.trans e2).trans e3) Q (fun p H4 np e4 hp => q p H4 (fresh_back (e2.trans e3) np) ((e2.trans e3).trans e4) hp) E0⟩
/-- a method that may change what stands -/
theorem em_meth {P : V → Hp → Prop} (h : Ev ta σ H (.ref a)) (ho : H a = some (.ins C dx fs)) (hl : fs.lookup m = none) (hv : EvA t σ H vs) (hs : ∀ H1, Ex H H1 → ∀ Q : VK, (∀ v H', P v H' → Q v H') → sp (.ref a :: (vs ++ [])) H1 Q E0) : EvM (tMeth C m sp [] E0 ta t) σ H P := fun Q q =>
  h H (Ex.refl H) _ fun H2 e2 => ⟨a, dx, fs, rfl, e2 _ _ ho, hl, hv H2 e2 _ fun H3 e3 => hs H3 (e2.trans e3) Q q⟩
theorem em_call {P : V → Hp → Prop} (hv : EvA t σ H vs) (hs : ∀ H1, Ex H H1 → ∀ Q : VK, (∀ v H', P v H' → Q v H') → sp (vs ++ []) H1 Q E0) : EvM (tCall sp [] E0 t) σ H P := fun Q q => hv H (Ex.refl H) _ fun H2 e2 => hs H2 e2 Q q
/-- a new memory -/
theorem em_make {C : Addr} {c b : Nat} (hv : EvA t σ H [.int (c : Int), .int (b : Int)]) (hc : c ≤ 512) (h4 : 4 ≤ b) (h32 : b ≤ 32) : EvM (tMake C (spMInit C) [] E0 t) σ H (fun v H' => ∃ M R : Addr, v = .ref M ∧ H M = none ∧ H R = none ∧ Ex H H' ∧ MemAt C H' M R c b (List.replicate c 0)) := fun Q q =>
  hv H (Ex.refl H) _ fun H1 e1 x dx nx ndx nex => ⟨x, dx, c, b, rfl, upd_same, hc, h4, h32, fun R H' nR kp hx hR => ⟨rfl, q _ H' ⟨x, R, rfl, fresh_back e1 nx, by
    by_cases z : R = x
    · subst z; rw [upd_same] at nR; cases nR
    · rw [upd_ne z] at nR
      by_cases z2 : R = dx
      · subst z2; rw [upd_same] at nR; cases nR
      · rw [upd_ne z2] at nR; exact fresh_back e1 nR, fun o u h => by
    have h1 := e1 _ _ h
    refine kp o u (ne_of_none h1 nx) ?_
    rw [upd_ne (ne_of_none h1 nx), upd_ne (ne_of_none h1 ndx)]
    exact h1, ⟨dx, hx⟩, hR, List.length_replicate⟩⟩⟩
end
theorem scrubbed_len (b : Nat) (rows : List Nat) (k : Nat) : (scrubbed b rows k).length = rows.length := by unfold scrubbed; rw [List.length_map, List.length_range]
theorem scrubbed_at {b k i : Nat} {rows : List Nat} (h : i < rows.length) : (scrubbed b rows k).getD i 0 = if i < k then (menO b (rows.getD i 0)).getD (rows.getD i 0) else rows.getD i 0 := by
  unfold scrubbed
  rw [List.getD_eq_getElem?_getD, List.getElem?_map, List.getElem?_range h]
  rfl
theorem ext_getD {l r : List Nat} (h : l.length = r.length) (k : ∀ i, i < l.length → l.getD i 0 = r.getD i 0) : l = r := by
  refine List.ext_getElem h fun i h1 h2 => ?_
  have := k i h1
  rw [List.getD_eq_getElem?_getD, List.getD_eq_getElem?_getD, List.getElem?_eq_getElem h1, List.getElem?_eq_getElem h2] at this
  exact this
theorem set_getD {l : List Nat} {i j r : Nat} (h : i < l.length) : (l.set i r).getD j 0 = if i = j then r else l.getD j 0 := by
  by_cases e : i = j
  · subst e
    rw [if_pos rfl, List.getD_eq_getElem?_getD, List.getElem?_set_self h]
    rfl
  · rw [if_neg e, List.getD_eq_getElem?_getD, List.getD_eq_getElem?_getD, List.getElem?_set_ne e]
theorem scrubbed_zero (b : Nat) (rows : List Nat) : scrubbed b rows 0 = rows := ext_getD (scrubbed_len b rows 0) fun i h => by
  rw [scrubbed_len] at h
  rw [scrubbed_at h, if_neg (Nat.not_lt_zero i)]
theorem scrubbed_succ {b k : Nat} {rows : List Nat} (h : k < rows.length) : scrubbed b rows (k + 1) = (scrubbed b rows k).set k ((menO b (rows.getD k 0)).getD (rows.getD k 0)) := by
  refine ext_getD (by rw [List.length_set, scrubbed_len, scrubbed_len]) fun i hi => ?_
  rw [scrubbed_len] at hi
  rw [set_getD (by rw [scrubbed_len]; exact h), scrubbed_at hi, scrubbed_at hi]
  by_cases e : k = i
  · subst e
    rw [if_pos (Nat.lt_succ_self k), if_pos rfl]
  · rw [if_neg e]
    by_cases c : i < k
    · rw [if_pos c, if_pos (by omega)]
    · rw [if_neg c, if_neg (by omega)]
theorem scrubbed_same {b k : Nat} {rows : List Nat} (h : k < rows.length) (hm : (menO b (rows.getD k 0)).getD (rows.getD k 0) = rows.getD k 0) : scrubbed b rows (k + 1) = scrubbed b rows k := by
  rw [scrubbed_succ h, hm]
  refine ext_getD (by rw [List.length_set]) fun i hi => ?_
  rw [set_getD (by rw [scrubbed_len]; exact h)]
  split
  · rename_i e
    subst e
    rw [scrubbed_at h, if_neg (Nat.lt_irrefl _)]
  · rfl
theorem scrubbed_ok {b k : Nat} {rows : List Nat} (h : RowsOk b rows) : RowsOk b (scrubbed b rows k) := fun r hr => by
  unfold scrubbed at hr
  obtain ⟨i, hi, rfl⟩ := List.mem_map.mp hr
  have hi := List.mem_range.mp hi
  split
  · cases e : menO b (rows.getD i 0) with
    | none => exact h.at_
    | some w => exact menO_lt h.at_ e
  · exact h.at_
theorem cellsOf_succ (b : Nat) (rows : List Nat) (k : Nat) (t : Str) : cellsOf b rows (k + 1) t = cellsOf b rows k t ++ (if stO b (rows.getD k 0) = t then [k] else []) := by
  unfold cellsOf
  rw [List.range_succ, List.filter_append]
  congr 1
  by_cases h : stO b (rows.getD k 0) = t
  · rw [if_pos h, List.filter_cons, if_pos (decide_eq_true h)]; rfl
  · rw [if_neg h, List.filter_cons, if_neg (by rw [decide_eq_false h]; decide)]; rfl
theorem cellsOf_len (b : Nat) (rows : List Nat) (k : Nat) (t : Str) : (cellsOf b rows k t).length ≤ k := by
  have := List.length_filter_le (fun i => decide (stO b (rows.getD i 0) = t)) (List.range k)
  rw [List.length_range] at this
  exact this
theorem log_small {i : Nat} (h : i < 2 ^ 1000) : i.log2 < 1920 := by
  by_cases h0 : i = 0
  · subst h0; decide
  · exact Nat.lt_of_lt_of_le ((Nat.log2_lt h0).mpr h) (by decide)
theorem p512 {i : Nat} (h : i < 512) : ((i : Nat) : Int).natAbs.log2 < 1920 := by
  rw [Int.natAbs_natCast]
  exact log_small (Nat.lt_of_lt_of_le h (by have : 512 ≤ 2 ^ 1000 := by decide +kernel
                                            exact this))
theorem putF_len2 (b c : Nat) : (putF "bits" (.int (b : Int)) (putF "cells" (.int (c : Int)) [])).length ≤ 2 := by
  show (if ("cells" : Str) = "bits" then [(("cells" : Str), V.int (b : Int))] else (("cells" : Str), V.int (c : Int)) :: putF "bits" (.int (b : Int)) []).length ≤ 2
  rw [if_neg s_cb]
  exact Nat.le_refl 2
end My
set_option Elab.async false
set_option linter.all false
set_option maxRecDepth 100000
set_option maxHeartbeats 2000000
/-! ### errors as values: made, asked for their class, their fields read -/
namespace My
open PySem PySem.Spec PyProof.Rows L2 Evl
/-- an error of the class cls whose dict is d -/
def ErO (cls : Value) (d : Option Addr) (a : Addr) : HO := .ext fun h => ∃ oe vs, h.get? a = some oe ∧ Zc cls d oe ∧ oe.data = .fields vs
theorem erO_ok {P : Program} {w : World} {H : Hp} {h : Heap} {a : Addr} {cls : Value} {d : Option Addr} {oe : Obj} {vs : Array Value} (e : h.get? a = some oe) (z : Zc cls d oe) (f : oe.data = .fields vs) : ObjOk P w H h a (ErO cls d a) :=
  ⟨⟨oe, vs, e, z, f⟩, ⟨oe, e⟩, fun h1 h2 ⟨o1, v1, e1, z1, f1⟩ k => ⟨o1, v1, k _ e1, z1, f1⟩⟩
def tMkV (t : L2.St → Hp → XK → Prop) : TE := fun σ H Q => t σ H fun cls d H' => ∀ a, H' a = none → Q (.ref a) (upd H' a (ErO cls d a))
theorem pe_of_mk {X : Cx} {e : Expr} {t : L2.St → Hp → XK → Prop} (h : PMk X e t) : PE X e (tMkV t) where
  run := fun pins s σ H Q I ht => by
    refine wpAny_mono (h pins s σ H _ I ht) (fun u s' hm => ?_) fun _ _ z => z
    obtain ⟨a, oe, vs, sI, H', cls, d, rfl, J, k, na, ea, z, f, _, nH, os, ba, _, q⟩ := hm
    have J1 := J.laidN (t' := s'.toks) (h' := s'.heap) (o := ErO cls d a) k na nH (erO_ok ea z f)
    have J2 := J1.call (h' := s'.heap) (g' := s'.gens) (t' := s'.toks) (d' := s'.drawn) (ch := []) Un.refl J1.hok ba (fun _ z => nomatch z)
    have e : s' = { heap := s'.heap, gens := s'.gens, drawn := s'.drawn, toks := s'.toks, os := sI.os } := by
      obtain ⟨_, _, _, _, _⟩ := s'
      cases os
      rfl
    rw [e]
    exact ⟨.ref a, _, J2, rfl, q a nH⟩
/-- a field of an error that is a value -/
def tEvF (K : PySem.W.Frag) (n : Str) (te : TE) : TE := fun σ H Q => te σ H fun x H1 => ∃ (a C d : Addr) (fs : List (Str × V)) (y : V), x = .ref a ∧ H1 a = some (ErO (.ref C) (some d) a) ∧ XfC K C ∧ PySem.W.findIn K (.ref C) n = some none ∧ H1 d = some (.xd fs) ∧ fs.lookup n = some y ∧ Q y H1
theorem erO_inst {X : Cx} {pins : List (Addr × Obj)} {σ : L2.St} {H : Hp} {s : Shared} {a C : Addr} {d : Option Addr} (I : L2.Inv X pins σ H s) (h : H a = some (ErO (.ref C) d a)) (hd : ∀ dd, d = some dd → ∃ fs, H dd = some (.xd fs)) :
    ∃ oe od, PySem.W.InstAt s.heap a oe C od ∧ oe.dict = d ∧ (∃ vs, oe.data = .fields vs) ∧ (∀ dd, d = some dd → ∃ o, od = some o ∧ s.heap.get? dd = some o) := by
  obtain ⟨⟨oe, vs, e, ⟨z1, z2⟩, f⟩, _⟩ := I.hok a _ h
  obtain ⟨oc, odx, oda, osl⟩ := oe
  dsimp only at z1 z2 f
  subst z1 z2 f
  cases odx with
  | none => exact ⟨_, none, ⟨e, rfl, rfl, trivial⟩, rfl, ⟨_, rfl⟩, fun _ z => nomatch z⟩
  | some dd =>
    obtain ⟨fs, hfs⟩ := hd dd rfl
    obtain ⟨mA, hns, _⟩ := (show ObjOk X.prog X.w H s.heap dd (.xd fs) from I.hok dd _ hfs)
    obtain ⟨o, ho, _⟩ := lookIn_ns hns
    exact ⟨_, some o, ⟨e, rfl, rfl, ho⟩, rfl, ⟨_, rfl⟩, fun d' h' => ⟨o, rfl, by cases h'; exact ho⟩⟩
theorem pe_evF {X : Cx} {e : Expr} {te : TE} {pos : Pos} {n : Str} (he : PE X e te) (hb : attributeBase e n X.env (eval e X.env) = eval e X.env := by rfl) : PE X (.Attribute e n pos) (tEvF X.K n te) where
  run := fun pins s σ H Q I h => by
    refine attr_of hb (thn (he.run pins s σ H _ I h) fun u s1 hh => ?_)
    obtain ⟨x, H1, I1, rx, a, C, d, fs, y, rfl, ha, T, hno, hd, hl, q⟩ := hh
    obtain rfl : u = .ref a := rx
    obtain ⟨⟨oe, vs, e1, ⟨z1, z2⟩, f⟩, _⟩ := I1.hok a _ ha
    obtain ⟨oc, odx, oda, osl⟩ := oe
    dsimp only at z1 z2 f
    subst z1 z2 f
    obtain ⟨mA, hns, hrel⟩ := (show ObjOk X.prog X.w H1 s1.heap d (.xd fs) from I1.hok d _ hd)
    obtain ⟨o, ho, hlook⟩ := lookIn_ns hns
    have hr := hrel n
    rw [hl] at hr
    obtain ⟨v, hv, rv⟩ := RelO.some_of hr
    exact HandSPX.exc_get (od := some o) I1.kIn ⟨e1, rfl, rfl, ho⟩ T.ga T.gg T.exC (PySem.W.findObj_own T.hdC hno rfl (by rw [hlook, hv])) (handed_of rv) ⟨y, H1, I1.tok _, rv, q⟩
/-- an error that is a value: its class and its dict, if it has one -/
def IsErr (H : Hp) (a D : Addr) : Prop := ∃ d, H a = some (ErO (.ref D) d a) ∧ ∀ dd, d = some dd → ∃ fs, H dd = some (.xd fs)
/-- isinstance(an error that is a value, a class) -/
def rIsV (K : PySem.W.Frag) : List V → Hp → VK → Prop := fun xs H Q => ∃ (a D : Addr) (y : V) (cls : Value) (b : Bool), xs = [.ref a, y] ∧ IsErr H a D ∧ ExcC K D ∧ ((∃ c, y = .ref c ∧ cls = .ref c) ∨ ∃ T, y = .ty T ∧ cls = .type T) ∧ PySem.W.kitOne K (.ref D) cls = some b ∧ Q (.bl b) H
theorem call_isV {X : Cx} : CallR X (.builtin "isinstance") (rIsV X.K) := by
  intro pins s σ H xs us Q I r h
  obtain ⟨a, D, y, cls, b, rfl, ⟨d, ha, hd⟩, C, hy, e, q⟩ := h
  cases r with
  | cons rx rr =>
    cases rr with
    | cons rt rr =>
      cases rr
      cases rx
      obtain ⟨oe, od, J, _⟩ := erO_inst I ha hd
      have fin : ∀ u, u = cls → wpAny (model X.prog X.w) X.A (call (.builtin "isinstance") [.ref a, u]) (EP X pins σ Q) X.xe s := fun u hu => by
        subst hu
        exact PySem.W.kia_one (kit_err C) I.kIn ⟨od, J⟩ e (fun z => by rcases hy with ⟨c, rfl, rfl⟩ | ⟨T, rfl, rfl⟩ <;> cases z) fun tk => ⟨.bl b, H, I.kept (t' := tk) fun _ _ z => z, rfl, q⟩
      rcases hy with ⟨c, rfl, rfl⟩ | ⟨T, rfl, rfl⟩
      · cases rt
        exact fin _ rfl
      · cases rt
        exact fin _ rfl
end My
/-! ### making them; lists of them -/
namespace My
open PySem PySem.Spec PyProof.Rows L2 Evl
/-- an error class without more, as the text has it -/
structure PlainC (K : PySem.W.Frag) (mg : Str → Option Value) (x : Str) (C : Addr) : Prop where
  ex : PySem.W.excIn K C [.type "ValueError", .type "Exception", .type "BaseException", .type "object"] "ValueError.__new__" = true
  g : mg x = some (.ref C)
  kp : PySem.W.keepIn K (.ref C) = true
  sB : PySem.W.subIn K (.ref C) (.type "BaseException") = some true
  ty : PySem.W.typeIn K (.ref C) = some (.type "type")
  is_ : ExcC K C
theorem pe_plain {X : Cx} {x : Str} {C : Addr} {e : Expr} {es : List Expr} {t : TA} {p pos : Pos} (Z : PlainC X.K X.mg x C) (ha : PA X (e :: es) t) (hg : Gl X x := by rfl) (hdb : (x == ("__debug__" : Str)) = false := by decide)
    (he : starEach (e :: es) X.env = (false, eval e X.env) :: starEach es X.env := by rfl) (hpl : (backTo pos (starEach es X.env)).any (·.1) = false := by rfl) :
    PE X (.Call (.Name x p) (e :: es) [] pos) (tMkV (fun σ H Q => t σ H fun vs H1 => vs.length ≤ sizeLine ∧ Q (.ref C) none H1)) :=
  pe_of_mk (pmk_ownA PySem.F.excBase_ValueError Z.ex Z.g Z.kp (raises_own Z.sB Z.ty) hg ha hdb he hpl)
theorem pe_errV {X : Cx} {x : Str} {C : Addr} {fld pn : Str} {e : Expr} {te : TE} {p p1 : Pos} (Z : ErrC X.prog X.w X.K X.mg X.base x C fld pn) (hr : Room 2 X.A) (he : PE X e te) (hg : Gl X x := by rfl)
    (hst : starEach [e] X.env = (false, eval e X.env) :: starEach [] X.env := by rfl) (hdb : (x == ("__debug__" : Str)) = false := by decide) (hpl : (backTo p1 (starEach [] X.env)).any (·.1) = false := by rfl) :
    PE X (.Call (.Name x p) [e] [] p1) (tMkV (fun σ H XQ => tMkO C (spSup C fld) [] (tCons te tNil) σ H XQ)) := by
  obtain ⟨f, fd, F, h1, h2, hb⟩ := Z.init
  exact pe_of_mk (pmk_oex Z.T h1 h2 F hr hb .nil (fun _ _ _ _ _ _ _ h => h.elim) hg Z.g (pa_cons he pa_nil hst) hdb hst hpl)
section
variable {K : PySem.W.Frag} {σ : L2.St} {H : Hp} {te ta tb : TE} {tA : TA} {P : V → Hp → Prop}
/-- a value that is an error of the class C, with the field of this value -/
def FldErr (C : Addr) (fld : Str) (y : V) : V → Hp → Prop := fun v H => ∃ a d : Addr, v = .ref a ∧ H a = some (ErO (.ref C) (some d) a) ∧ H d = some (.xd [(fld, y)])
def AnErr (C : Addr) : V → Hp → Prop := fun v H => ∃ a : Addr, v = .ref a ∧ IsErr H a C
theorem FldErr.m {C : Addr} {fld : Str} {y : V} (v : V) (H1 H2 : Hp) (e : Ex H1 H2) (h : FldErr C fld y v H1) : FldErr C fld y v H2 := by
  obtain ⟨a, d, rfl, h1, h2⟩ := h
  exact ⟨a, d, rfl, e _ _ h1, e _ _ h2⟩
theorem AnErr.m {C : Addr} (v : V) (H1 H2 : Hp) (e : Ex H1 H2) (h : AnErr C v H1) : AnErr C v H2 := by
  obtain ⟨a, rfl, d, h1, h2⟩ := h
  exact ⟨a, rfl, d, e _ _ h1, fun dd hd => (h2 dd hd).imp fun fs h => e _ _ h⟩
theorem FldErr.an {C : Addr} {fld : Str} {y : V} {v : V} {H : Hp} (h : FldErr C fld y v H) : AnErr C v H := by
  obtain ⟨a, d, rfl, h1, h2⟩ := h
  exact ⟨a, rfl, some d, h1, fun dd hd => by cases hd; exact ⟨_, h2⟩⟩
theorem evG_plain {C : Addr} {v : V} (h : Ev te σ H v) : EvG (tMkV (fun σ H Q => tCons te tNil σ H fun vs H1 => vs.length ≤ sizeLine ∧ Q (.ref C) none H1)) σ H (AnErr C) := fun H1 e Q q => by
  unfold tMkV
  exact (ea_cons h ea_nil) H1 e _ fun H2 e2 => ⟨sz_of (by show 1 ≤ 100000; decide), fun a na => q _ _ (e2.trans (Ex.new na)) ⟨a, rfl, none, upd_same, fun _ z => nomatch z⟩⟩
theorem evG_fld {C : Addr} {fld : Str} {y : V} (h : Ev te σ H y) (hy : FmtOk y) : EvG (tMkV (fun σ H XQ => tMkO C (spSup C fld) [] (tCons te tNil) σ H XQ)) σ H (FldErr C fld y) := fun H1 e Q q => by
  unfold tMkV
  exact mk_sup (Ev.mono e h) hy fun d H' nd e2 hd a na => by
    have hne : d ≠ a := fun z => by rw [z, na] at hd; cases hd
    exact q _ _ (e2.trans (Ex.new na)) ⟨a, d, rfl, upd_same, by rw [upd_ne hne]; exact hd⟩
/-- arguments each of which has its own property -/
inductive AllP (H : Hp) : List V → List (V → Hp → Prop) → Prop
  | nil : AllP H [] []
  | cons {v : V} {vs : List V} {P : V → Hp → Prop} {Ps : List (V → Hp → Prop)} : P v H → AllP H vs Ps → AllP H (v :: vs) (P :: Ps)
def Mono (P : V → Hp → Prop) : Prop := ∀ v H1 H2, Ex H1 H2 → P v H1 → P v H2
theorem AllP.ex {H H' : Hp} {vs : List V} {Ps : List (V → Hp → Prop)} (e : Ex H H') (m : ∀ P ∈ Ps, Mono P) (h : AllP H vs Ps) : AllP H' vs Ps := by
  induction h with
  | nil => exact .nil
  | cons p _ ih => exact .cons (m _ (.head _) _ _ _ e p) (ih fun P hP => m P (.tail _ hP))
theorem AllP.len {H : Hp} {vs : List V} {Ps : List (V → Hp → Prop)} (h : AllP H vs Ps) : vs.length = Ps.length := by
  induction h with
  | nil => rfl
  | cons _ _ ih => rw [List.length_cons, List.length_cons, ih]
theorem AllP.app {H : Hp} {vs ws : List V} {Ps Qs : List (V → Hp → Prop)} (h : AllP H vs Ps) (h2 : AllP H ws Qs) : AllP H (vs ++ ws) (Ps ++ Qs) := by
  induction h with
  | nil => exact h2
  | cons p _ ih => exact .cons p ih
theorem AllP.at {H : Hp} {vs : List V} {Ps : List (V → Hp → Prop)} (h : AllP H vs Ps) {i : Nat} {v : V} (hv : vs[i]? = some v) : ∃ P, Ps[i]? = some P ∧ P v H := by
  induction h generalizing i with
  | nil => cases hv
  | cons p _ ih =>
    cases i with
    | zero => cases hv; exact ⟨_, rfl, p⟩
    | succ i => exact ih hv
def EaP (tA : TA) (σ : L2.St) (H : Hp) (Ps : List (V → Hp → Prop)) : Prop := ∀ H1, Ex H H1 → ∀ Q : List V → Hp → Prop, (∀ vs H2, Ex H1 H2 → AllP H2 vs Ps → Q vs H2) → tA σ H1 Q
theorem eaP_nil : EaP tNil σ H [] := fun H1 _ _ q => q [] H1 (Ex.refl H1) .nil
theorem eaP_cons {Ps : List (V → Hp → Prop)} (m : Mono P) (h : EvG te σ H P) (hr : EaP tA σ H Ps) : EaP (tCons te tA) σ H (P :: Ps) := fun H1 e Q q =>
  h H1 e _ fun v H2 e2 hv => hr H2 (e.trans e2) _ fun vs H3 e3 hvs => q _ H3 (e2.trans e3) (.cons (m _ _ _ e3 hv) hvs)
theorem evL_P {Ps : List (V → Hp → Prop)} (m : ∀ P ∈ Ps, Mono P) (h : EaP tA σ H Ps) (hl : Ps.length ≤ 100000) : EvG (tLst tA) σ H (fun v H' => ∃ p vs, v = .ref p ∧ H' p = some (.lst vs) ∧ AllP H' vs Ps) := fun H1 e Q q =>
  h H1 e _ fun vs H2 e2 hvs => ⟨sz_of (by rw [hvs.len]; exact hl), fun p np => q _ _ (e2.trans (Ex.new np)) ⟨p, vs, rfl, upd_same, hvs.ex (Ex.new np) m⟩⟩
theorem evL_catP {Ps Qs : List (V → Hp → Prop)} (m : ∀ P ∈ Ps ++ Qs, Mono P) (ha : EvG ta σ H (fun v H' => ∃ p vs, v = .ref p ∧ H' p = some (.lst vs) ∧ AllP H' vs Ps)) (hb : EvG tb σ H (fun v H' => ∃ p vs, v = .ref p ∧ H' p = some (.lst vs) ∧ AllP H' vs Qs)) (hz : Ps.length + Qs.length ≤ 100000) :
    EvG (tOp rCat ta tb) σ H (fun v H' => ∃ p vs, v = .ref p ∧ H' p = some (.lst vs) ∧ AllP H' vs (Ps ++ Qs)) := fun H1 e Q q =>
  ha H1 e _ fun v H2 e2 ⟨p1, vs, hv1, hp1, h1⟩ => hb H2 (e.trans e2) _ fun w H3 e3 ⟨p2, ws, hv2, hp2, h2⟩ => by
    subst hv1 hv2
    refine ⟨p1, p2, vs, ws, rfl, rfl, e3 _ _ hp1, hp2, sz_of (by rw [h1.len, h2.len]; exact hz), fun l nl => q _ _ ((e2.trans e3).trans (Ex.new nl)) ⟨l, _, rfl, upd_same, ?_⟩⟩
    exact ((h1.ex e3 fun P hP => m P (List.mem_append.mpr (Or.inl hP))).app h2).ex (Ex.new nl) m
/-- a field of an error -/
theorem ev_fldErr {C : Addr} {fld : Str} {y v : V} (T : XfC K C) (no : PySem.W.findIn K (.ref C) fld = some none) (h : Ev te σ H v) (hv : FldErr C fld y v H) : Ev (tEvF K fld te) σ H y := fun H1 e Q q =>
  h H1 e _ fun H2 e2 => by
    obtain ⟨a, d, rfl, h1, h2⟩ := FldErr.m _ _ _ (e.trans e2) hv
    exact ⟨a, C, d, _, y, rfl, h1, T, no, h2, by simp, q H2 e2⟩
/-- isinstance(error, a class) -/
theorem ev_isErr {D : Addr} {y v : V} {cls : Value} {b : Bool} (h : Ev ta σ H v) (hv : AnErr D v H) (h2 : Ev tb σ H y) (C : ExcC K D) (hy : (∃ c, y = .ref c ∧ cls = .ref c) ∨ ∃ T, y = .ty T ∧ cls = .type T) (hk : PySem.W.kitOne K (.ref D) cls = some b) :
    Ev (tCB (rIsV K) (tCons ta (tCons tb tNil))) σ H (.bl b) := by
  obtain ⟨a, rfl, hv⟩ := hv
  exact ev_cb (ea_cons h (ea_cons h2 ea_nil)) fun H1 e Q q => by
    obtain ⟨a', e', hv'⟩ := AnErr.m _ _ _ e ⟨a, rfl, hv⟩
    cases e'
    exact ⟨a, D, y, cls, b, rfl, hv', C, hy, hk, q H1 (Ex.refl H1)⟩
end
/-- an f-string of two parts -/
theorem fmt_of2 {pn c1 : Str} {k1 : _} {q1 q2 q3 q5 : Pos} {sc : Scope} (hpn : sc.names.lookup pn = some .local) (h1 : (pn == ("__debug__" : Str)) = false) (h2 : (pn == ("__classdict__" : Str)) = false) (l1 : c1.length ≤ 1000) :
    FmtE ["self", pn, "__class__"] sc (.JoinedStr [.Constant (.str c1) k1 q1, .FormattedValue (.Name pn q2) (-1) none q3] q5) := fun X hN hs => by
  refine ⟨_, pe_joined (.cons pe_str (.cons (pe_fmt (pv 1 (by rw [hN]; rfl) (Or.inl (by rw [hs]; exact hpn)) h1 h2)) .nil)), fun σ H y Q hσ hy q => ?_⟩
  have fin : ∀ z : Str, z.length ≤ 3000 → (Str.empty ++ c1 ++ z).length ≤ sizeLine := fun z hz => by
    have e0 : (Str.empty : Str).length = 0 := rfl
    have e1 := Str.length_append Str.empty c1
    have e2 := Str.length_append (Str.empty ++ c1) z
    rw [sizeLine_eq]
    omega
  have f0 : (Str.empty ++ c1).length ≤ sizeLine := by
    have e1 := Str.length_append Str.empty c1
    have e0 : (Str.empty : Str).length = 0 := rfl
    rw [sizeLine_eq]
    omega
  refine ⟨c1, rfl, f0, y, hσ, ?_⟩
  rcases hy with ⟨z, rfl, hz⟩ | ⟨i, rfl, hi⟩
  · exact Or.inl ⟨z, rfl, by rw [sizeLine_eq]; omega, z, rfl, fin z (by omega), q _⟩
  · have hl : (toString i : Str).length ≤ 3000 := by
      have e := int_text_length_le (k := 1920) (by decide) hi
      rw [show (toString i : Str) = Str.ofString (toString i) from rfl, PySem.ofString_length]
      omega
    exact Or.inr ⟨i, rfl, hi, _, rfl, fin _ hl, q _⟩
end My
/-! ### sorted(a tuple of texts) -/
namespace My
open PySem PySem.Spec PyProof.Rows L2 Evl
def rSortedT (K : PySem.W.Frag) : List V → Hp → VK → Prop := fun vs H Q => ∃ (a : Addr) (xs : List Str), vs = [.ref a] ∧ SqT K H a (xs.map V.str) ∧ xs.length ≤ 1000 ∧ ∀ (ys : List Str) p, ys.Perm xs → sortedS ys = true → H p = none → Q (.ref p) (upd H p (.lst (ys.map V.str)))
theorem cr_sortedT {X : Cx} : CallR X (.builtin "sorted") (rSortedT X.K) := by
  intro pins s σ H vs us Q I r h; obtain ⟨a, xs, rfl, hs, room, q⟩ := h
  rw [Vals.ref1 r]
  obtain ⟨its, rv, ⟨o, ho, hc, n, hd⟩, hz⟩ := I.tuple hs
  have len : its.length = xs.length := by rw [← rv.length, List.length_map]
  have hS : StrsAre its xs := strsAre_of rv
  have sz : its.length ≤ sizeLine := by rw [len, sizeLine_eq]; omega
  refine Calls.call_function_entry kind_sorted plain_sorted entry_sorted (args_sorted1 _) ?_; unfold Builtin.«sorted»
  refine wpAny_bind (m := checkCount "sorted" 1 1 _) (wpAny_pure ?_)
  refine wpAny_bind (wpAny_collect_seq a (Or.inr rfl) ho hc hd (fun h1 k1 => ?_) (by rw [List.size_toArray]; exact sz))
  refine wpAny_bind (wpAny_newList ?_ sz)
  have at1 : (h1.push (seqObj "list" its.toArray 0)).get? h1.objs.size = some (seqObj "list" its.toArray 0) := Heap.get?_push_size _ rfl
  refine wpAny_bind (wpAny_holding (wpAny_call_entry slot_list_sort ⟨_, at1, rfl⟩ entry_list_sort
    (list_sort_treeKAny strKind_oneLt at1 hS.keysOf (fun _ _ _ e => keyKind_strs (by rw [← e]; exact hS)) sz fun st' q1 q2 => ⟨_, rfl, ?_⟩) (args_list_sort _)))
  obtain ⟨ys, r1, r2, r3⟩ := sorted_out_str hS q1 q2
  obtain ⟨c, hc2⟩ := sortedHeap_at (vs := its) (out := (arrOf st').map (·.2)) at1
  have I1 := I.kept (h' := h1) (t' := s.toks) k1
  have hn : H h1.objs.size = none := I1.hok.fresh (Nat.le_refl _)
  have k2 : ∀ b u, h1.get? b = some u → (sortedHeap (h1.push (seqObj "list" its.toArray 0)) h1.objs.size its ((arrOf st').map (·.2))).get? b = some u := fun b u e => by
    have lt := Heap.lt_size e
    rw [sortedHeap_old (Nat.ne_of_lt lt) (by rw [size_push']; exact Nat.lt_succ_of_lt lt)]
    exact Heap.get?_push_of_some _ e
  refine wpAny_pure ⟨_, rfl, .ref h1.objs.size, _, I1.laid (a := h1.objs.size) (o := .lst (ys.map V.str)) k2 (Nat.le_refl _) ⟨by rw [List.length_map, r2.length_eq, ← len]; exact sz, _, c, vals_of_strs r1, hc2⟩, rfl, q ys _ r2 r3 hn⟩
end My
set_option Elab.async false
set_option linter.all false
set_option maxRecDepth 100000
set_option maxHeartbeats 2000000
namespace My
open PySem PySem.Spec PyProof.Rows L2
/-! ### the rules for set(..) and len(..) of nested keys -/
section
variable {X : Cx} {pins : List (Addr × Obj)} {σ : L2.St} {H : Hp} {s : Shared}
mutual
theorem nest_of (I : Inv X pins σ H s) : ∀ (k : NestedKey) (v : V) (u : Value), Dp X.K H v k.data → RelV v u → NestedIs s.heap k u
  | .none, _, _, d, r => by
    cases d
    obtain rfl := r
    exact .none
  | .num i, _, _, d, r => by
    cases d
    obtain ⟨t, rfl⟩ := r
    exact .int i t
  | .text x, _, _, d, r => by
    cases d
    obtain ⟨t, rfl⟩ := r
    exact .text x t
  | .tup ks, v, _, d, r => by
    rw [NestedKey.data] at d
    cases d with
    | tup h all =>
      obtain rfl := r
      obtain ⟨its, rv, ⟨o, ho, hc, n, hd⟩, _⟩ := I.tuple h
      exact .tup ho hc hd (nests_of I ks _ _ all rv)
theorem nests_of (I : Inv X pins σ H s) : ∀ (ks : List NestedKey) (vs : List V) (us : List Value), DpAll X.K H vs (NestedKey.datas ks) → Vals vs us → NestedAll s.heap ks us
  | [], _, _, d, r => by
    rw [NestedKey.datas] at d
    cases d
    cases r
    exact .nil
  | k :: ks, _, _, d, r => by
    rw [NestedKey.datas] at d
    cases d with
    | cons d1 d2 =>
      cases r with
      | cons r1 r2 => exact .cons (nest_of I k _ _ d1 r1) (nests_of I ks _ _ d2 r2)
end
/-- a set of the keys ks -/
def KeyO (X : Cx) (a : Addr) (ks : List NestedKey) : HO := .ext fun h => ∃ L es ep t, TabN X.w h a L es ep t ∧ L.map (·.2) = ks
theorem keyO_new {H : Hp} {h : Heap} {a : Addr} {ks : List NestedKey} (T : ∃ L es ep t, TabN X.w h a L es ep t ∧ L.map (·.2) = ks) : ObjOk X.prog X.w H h a (KeyO X a ks) := by
  obtain ⟨L, es, ep, t, T, e⟩ := T
  have ⟨o, ho, _⟩ := T.ob
  exact ⟨⟨L, es, ep, t, T, e⟩, ⟨o, ho⟩, fun _ _ ⟨L, es, ep, t, T, e⟩ k => ⟨L, es, ep, t, T.at k, e⟩⟩
/-- set(a list or a tuple of tuples of texts, numbers, None and such tuples) -/
def rSetK (X : Cx) : List V → Hp → VK → Prop := fun vs H Q => ∃ (l : Addr) (ks : List (Addr × NestedKey)), vs = [V.ref l] ∧ (SqL X.K H l (ks.map fun p => V.ref p.1) ∨ SqT X.K H l (ks.map fun p => V.ref p.1)) ∧ (∀ p ∈ ks, Dp X.K H (.ref p.1) p.2.data ∧ p.2.depth ≤ 8) ∧ ks.length < 64 ∧
  ∀ p (zs : List NestedKey), zs.Nodup → (∀ k, k ∈ zs ↔ k ∈ ks.map (·.2)) → H p = none → Q (.ref p) (upd H p (KeyO X p zs))
theorem cr_setK (hc : X.calm = true) (hu : X.A.units + 64 < cLine) : CallR X (.type "set") (rSetK X) := by
  intro pins s σ H vs us Q I r h
  obtain ⟨l, ks, rfl, hs, hk, few, q⟩ := h
  rw [Vals.ref1 r]
  have here : KeysN s.heap ks := fun p hp => ⟨nest_of I p.2 _ _ (hk p hp).1 rfl, (hk p hp).2⟩
  have fin : ∀ h' tk L es ep t, TabN X.w h' s.heap.objs.size L es ep t → GotN ks ks.length L → Keeps s.heap h' → EP X pins σ Q (.ref s.heap.objs.size) { s with heap := h', toks := tk } := fun h' tk L es ep t T g k => by
    refine ⟨.ref _, upd H s.heap.objs.size (KeyO X s.heap.objs.size (L.map (·.2))), I.laid (t' := tk) k (Nat.le_refl _) (keyO_new ⟨L, es, ep, t, T, rfl⟩), rfl, q _ _ T.nd (fun y => ⟨fun hy => ?_, fun hy => ?_⟩) (I.hok.fresh (Nat.le_refl _))⟩
    · obtain ⟨p, hp, rfl⟩ := List.mem_map.mp hy
      exact List.mem_map.mpr ⟨p, g.old p hp, rfl⟩
    · obtain ⟨p, hp, rfl⟩ := List.mem_map.mp hy
      obtain ⟨j, hj⟩ := List.mem_iff_getElem?.mp hp
      exact g.all j p (List.getElem?_eq_some_iff.mp hj).1 hj
  have refs : ∀ (its : List Value), Vals (ks.map fun p => V.ref p.1) its → its.toArray.toList = ks.map fun p => Value.ref p.1 := fun its rv => by
    clear hs hk few q here fin
    induction ks generalizing its with
    | nil => cases rv; rfl
    | cons p r ih =>
      cases rv with
      | cons r1 r2 =>
        obtain rfl := r1
        exact congrArg (Value.ref p.1 :: ·) (ih _ r2)
  rcases hs with hs | hs
  · obtain ⟨its, rv, pl, hz⟩ := I.list hs
    exact call_keys (fed_list ..) (I.ok.hd hc) pl.isList ks (refs its rv) here few (by omega) fin
  · obtain ⟨its, rv, pl, hz⟩ := I.tuple hs
    exact call_keys (fed_tuple ..) (I.ok.hd hc) pl ks (refs its rv) here few (by omega) fin
/-- len(such a set) -/
def rLenK (X : Cx) : List V → Hp → VK → Prop := fun vs H Q => ∃ a ks, vs = [V.ref a] ∧ H a = some (KeyO X a ks) ∧ Q (.int (ks.length : Nat)) H
theorem cr_lenK : CallR X (.builtin "len") (rLenK X) := by
  intro pins s σ H vs us Q I r h
  obtain ⟨a, ks, rfl, e, q⟩ := h
  rw [Vals.ref1 r]
  obtain ⟨L, es, ep, t, T, rfl⟩ : ∃ L es ep t, TabN X.w s.heap a L es ep t ∧ L.map (·.2) = ks := (I.hok a _ e).1
  obtain ⟨o, ho, hx, hd⟩ := T.ob
  have len := rowsN_len T.rows
  have few := T.few
  refine call_len_set ho hx hd T.fits (by omega) ?_
  rw [len, ← List.length_map (as := L) (f := (·.2))]
  exact ⟨.int _, H, I.tok _, ⟨_, rfl⟩, q⟩
end
section
variable {X : Cx} {σ : L2.St} {H : Hp} {ta : TE}
open Evl
/-- len(set(a list of keys)) -/
theorem ev_lenK {l : Addr} {ks : List (Addr × NestedKey)} {n : Nat} (ha : Ev ta σ H (.ref l)) (h : SqL X.K H l (ks.map fun p => V.ref p.1)) (hk : ∀ p ∈ ks, Dp X.K H (.ref p.1) p.2.data ∧ p.2.depth ≤ 8) (few : ks.length < 64)
    (hn : ∀ zs : List NestedKey, zs.Nodup → (∀ k, k ∈ zs ↔ k ∈ ks.map (·.2)) → zs.length = n) : Ev (tCB (rLenK X) (tCons (tCB (rSetK X) (tCons ta tNil)) tNil)) σ H (.int (n : Int)) := fun H1 e Q q =>
  ha H1 e _ fun H2 e2 => ⟨l, ks, rfl, .inl (ex_l (e.trans e2) h), fun p hp => ⟨dp_ex (e.trans e2) (hk p hp).1, (hk p hp).2⟩, few, fun p zs nd mem np =>
    ⟨p, zs, rfl, upd_same, by rw [hn zs nd mem]; exact q _ (e2.trans (Ex.new np))⟩⟩
/-- len(set(a list of texts)) -/
theorem ev_lenTx {l : Addr} {xs : List Str} {n : Nat} (ha : Ev ta σ H (.ref l)) (h : SqL X.K H l (xs.map V.str)) (room : xs.length + 1 < scanBound) (hn : ∀ zs : List Str, zs.Nodup → (∀ k, k ∈ zs ↔ k ∈ xs) → zs.length = n) :
    Ev (tCB (rLenTab X (PySem.strKind X.prog X.w)) (tCons (tCB (rSetTx X) (tCons ta tNil)) tNil)) σ H (.int (n : Int)) := fun H1 e Q q =>
  ha H1 e _ fun H2 e2 => ⟨l, xs, rfl, .inl (ex_l (e.trans e2) h), room, fun p zs nd mem np =>
    ⟨p, zs, rfl, upd_same, by rw [hn zs nd mem]; exact q _ (e2.trans (Ex.new np))⟩⟩
/-- lists without doubles, with the same things up to a map that parts them, are equally long -/
theorem same_many {α β : Type} [DecidableEq α] [DecidableEq β] (f : α → β) : ∀ (xs : List α) (ys : List β), xs.Nodup → ys.Nodup → (∀ a ∈ xs, ∀ b ∈ xs, f a = f b → a = b) → (∀ y, y ∈ ys ↔ ∃ x ∈ xs, f x = y) → ys.length = xs.length
  | [], ys, _, _, _, m => by
    cases ys with
    | nil => rfl
    | cons y r => obtain ⟨x, hx, _⟩ := (m y).mp List.mem_cons_self; exact nomatch hx
  | x :: xs, ys, nx, ny, inj, m => by
    have hx := List.nodup_cons.mp nx
    have fx : f x ∈ ys := (m (f x)).mpr ⟨x, List.mem_cons_self, rfl⟩
    have ih := same_many f xs (ys.erase (f x)) hx.2 (ny.erase _) (fun a ha b hb => inj a (List.mem_cons_of_mem _ ha) b (List.mem_cons_of_mem _ hb)) fun y => by
      rw [ny.mem_erase_iff, m y]
      constructor
      · rintro ⟨ne, a, ha, rfl⟩
        rcases List.mem_cons.mp ha with rfl | ha
        · exact absurd rfl ne
        · exact ⟨a, ha, rfl⟩
      · rintro ⟨a, ha, rfl⟩
        exact ⟨fun e => hx.1 (by rw [← inj a (List.mem_cons_of_mem _ ha) x List.mem_cons_self e]; exact ha), a, List.mem_cons_of_mem _ ha, rfl⟩
    have l := List.length_erase_of_mem fx
    have pos : 0 < ys.length := List.length_pos_of_mem fx
    rw [List.length_cons]
    omega
end
end My
set_option Elab.async false
set_option linter.all false
set_option maxRecDepth 100000
set_option maxHeartbeats 1000000
/-! ### sorted(things, key=lambda thing: thing[0]) -/
namespace My
open PySem PySem.Spec PyProof.Rows L2 Evl
/-- a lambda that tells the first of a tuple, called -/
theorem lam_first {prog : Program} {w : World} {A : Around} {s : Shared} {f c' a : Addr} {q x nm : Str} {tk : Tok} {params : Arguments} {scope : Scope} {pm ctv : Value} {its : Array Value} {cl : List (Str × Addr)} {j : Nat} {p1 p2 p3 : Pos}
    (hroom : A.depth < recursionLimit) (hf : s.heap.get? f = some (PySem.W.kla_obj "<lambda>" q params (.Subscript (.Name x p1) (.Constant (.int 0) j p2) p3) scope cl pm c' ctv)) (hco : scope.isCoroutine = false) (hgen : scope.isGenerator = false) (hcode : s.heap.CodeRec (.ref c') q)
    (hbind : ∀ v : Value, bindArgs (PySem.W.kla_fn "<lambda>" q params (.Subscript (.Name x p1) (.Constant (.int 0) j p2) p3) scope cl pm (.ref c') ctv) ⟨[v], []⟩ = pure [(x, v)]) (hk : scope.kind = .function) (hnm : ∀ y ∈ scope.names, y.2 ≠ .cell) (hx : scope.names.lookup x = some .local)
    (hlim : s.heap.NoLimit) (ht : IsTup s.heap a its) (h0 : its[0]? = some (.str nm tk)) (hz : its.size ≤ sizeLine) (hd : (x == ("__debug__" : Str)) = false) :
    wpAny (model prog w) A (call (.ref f) [.ref a]) (PySem.W.KeyPure (.str nm) s) (fun _ _ => False) s := by
  refine wpAny_call (codeAny_mono (PySem.W.kla_callFunE (R := fun r s2 => ∃ u, r = .ok (.ret u) ∧ PySem.W.KeyPure (.str nm) s u s2) hroom hf rfl hco hgen rfl hcode ?_) ?_)
  · rw [hbind]
    refine wpAny_pure (wpAny_newFunctionEnv hnm (fun y hy => ?_) (fun h' hns hsb => ⟨hlim.fresh _ hsb, PySem.W.kla_codeExpr ?_⟩) hk)
    · rw [List.mem_singleton.mp hy]; exact hx
    · have kp : ∀ b o, s.heap.get? b = some o → h'.get? b = some o := fun b o e => hsb.extBut b o (Nat.ne_of_lt (Heap.lt_size e)) (Heap.get?_push_of_some _ e)
      refine Subscript_ (wpAny_Name (wpAny_loadName_local hk hx hns (v := .ref a) (by simp) ?_) hd)
      refine wpAny_Constant_int ?_
      have ht' : IsTup h' a its := by
        obtain ⟨o, e, r⟩ := ht
        exact ⟨o, kp _ _ e, r⟩
      have hn : 0 < its.size := by
        rcases Nat.eq_zero_or_pos its.size with z | z
        · rw [Array.getElem?_eq_none (by omega)] at h0; cases h0
        · exact z
      refine subscriptTail_builtin (o := Value.ref a) ht'.typeIs slot_tuple_getitem.lookup (getItem_tuple (j := 0) ht' (by decide) (by decide) ?_ h0 ?_)
      · unfold seqIndex?
        simp [hn]
      · exact ⟨_, rfl, h', _, rfl, kp, .str _ _⟩
  · rintro r s2 ⟨u, rfl, h⟩
    exact h
end My
namespace My
open PySem PySem.Spec PyProof.Rows L2 Evl
open LamX (ExtN Tabs TabB CodeO)
/-- things with a name at the first place -/
inductive Named (K : PySem.W.Frag) (H : Hp) : List V → List Str → Prop
  | nil : Named K H [] []
  | cons {p : Addr} {n : Str} {xs vs : List V} {ns : List Str} : SqT K H p (.str n :: xs) → Named K H vs ns → Named K H (.ref p :: vs) (n :: ns)
def byName (vs : List V) (ns : List Str) : List V := ((vs.zip ns).mergeSort (PySem.W.dataLe false fun p : V × Str => .str p.2)).map (·.1)
theorem Named.len {K : PySem.W.Frag} {H : Hp} {vs : List V} {ns : List Str} (h : Named K H vs ns) : vs.length = ns.length := by
  induction h with
  | nil => rfl
  | cons _ _ ih => rw [List.length_cons, List.length_cons, ih]
theorem byName_perm {vs : List V} {ns : List Str} (h : vs.length = ns.length) : (byName vs ns).Perm vs := by
  have := (List.mergeSort_perm (vs.zip ns) (PySem.W.dataLe false fun p : V × Str => .str p.2)).map (·.1)
  rw [List.map_fst_zip (by omega)] at this
  exact this
theorem sqt_exN {K : PySem.W.Frag} {H H' : Hp} {a : Addr} {xs : List V} (e : ExtN H H') (h : SqT K H a xs) : SqT K H' a xs := by
  rcases h with (h | ⟨o, h⟩) | h
  · exact Or.inl (Or.inl (e _ _ h fun ps z => by cases z))
  · exact Or.inl (Or.inr ⟨o, e _ _ h fun ps z => by cases z⟩)
  · exact Or.inr h
theorem sql_exN {K : PySem.W.Frag} {H H' : Hp} {a : Addr} {xs : List V} (e : ExtN H H') (h : SqL K H a xs) : SqL K H' a xs := by
  rcases h with (h | ⟨o, h⟩) | h
  · exact Or.inl (Or.inl (e _ _ h fun ps z => by cases z))
  · exact Or.inl (Or.inr ⟨o, e _ _ h fun ps z => by cases z⟩)
  · exact Or.inr h
theorem Named.exN {K : PySem.W.Frag} {H H' : Hp} {vs : List V} {ns : List Str} (e : ExtN H H') (h : Named K H vs ns) : Named K H' vs ns := by
  induction h with
  | nil => exact .nil
  | cons h _ ih => exact .cons (sqt_exN e h) ih
/-- what the sort is told of an item -/
def FirstIs (h : Heap) (u : Value) (b : V × Str) : Prop := RelV b.1 u ∧ ∃ (p : Addr) (its : List Value) (tk : Tok), u = .ref p ∧ IsTup h p its.toArray ∧ its[0]? = some (.str b.2 tk) ∧ its.length ≤ sizeLine
theorem each_named {X : Cx} {pins : List (Addr × Obj)} {σ : L2.St} {H : Hp} {s : Shared} (I : Inv X pins σ H s) {vs : List V} {ns : List Str} (h : Named X.K H vs ns) : ∀ {us : List Value}, Vals vs us → PySem.W.EachIs (FirstIs s.heap) us (vs.zip ns) := by
  induction h with
  | nil => intro us r; cases r; exact .nil
  | cons hp _ ih =>
    intro us r
    cases r with
    | cons r1 r2 =>
      refine .cons ⟨r1, ?_⟩ (ih r2)
      obtain ⟨its, rv, ht, hz⟩ := I.tuple hp
      have hl := rv.length
      cases r1
      cases rv with
      | cons q1 q2 =>
        obtain ⟨tk, rfl⟩ := q1
        exact ⟨_, _, tk, rfl, ht, rfl, by rw [← hl]; exact hz⟩
theorem vals_each {h : Heap} {us : List Value} {bs : List (V × Str)} (e : PySem.W.EachIs (FirstIs h) us bs) : Vals (bs.map (·.1)) us := by
  induction e with
  | nil => exact .nil
  | cons r _ ih => exact .cons r.1 ih
def tSortLam (K : PySem.W.Frag) (T : List (Addr × Str)) (ta : TA) : TE := fun σ H Q => ta σ H fun xs H1 => ∃ a vs ns, xs = [.ref a] ∧ SqL K H1 a vs ∧ Named K H1 vs ns ∧ Tabs T H1 ∧ ∀ H2 l, ExtN H1 H2 → Tabs T H2 → H2 l = none → Q (.ref l) (upd H2 l (.lst (byName vs ns)))
theorem pe_sortLam {X : Cx} {T : List (Addr × Str)} {c P : Addr} {k : Nat} {e : Expr} {x : Str} {params : Arguments} {scope : Scope} {p kpos lpos pos p1 p2 p3 : Pos} {j : Nat} {ta : TA} (hg : Gl X "sorted") (hm : X.mg "sorted" = none) (TB : TabB X.base X.mg c P) (hcode : X.env.code = .ref c)
    (hmT : (P, X.env.qual ++ "<lambda>") ∈ T) (hu : ∀ p ∈ T, p.1 = P → p.2 = X.env.qual ++ "<lambda>") (hr : Room k X.A) (hdef : defaultsOf params X.env = ([], [])) (hloc : (scope.names.all fun y => decide (y.2 = .local)) = true)
    (hbind : ∀ (q : Str) (cl : List (Str × Addr)) (pm cv ctv v : Value), bindArgs (PySem.W.kla_fn "<lambda>" q params (.Subscript (.Name x p1) (.Constant (.int 0) j p2) p3) scope cl pm cv ctv) ⟨[v], []⟩ = pure [(x, v)])
    (hco : scope.isCoroutine = false) (hgen : scope.isGenerator = false) (hk : scope.kind = .function) (hx : scope.names.lookup x = some .local) (hd : (x == ("__debug__" : Str)) = false) (ha : PA X [e] ta)
    (he : backTo pos (starEach [e] X.env) = (false, eval e X.env) :: backTo pos (starEach [] X.env) := by rfl) (hpl : (backTo pos (starEach [e] X.env)).any (·.1) = false := by rfl) :
    PE X (.Call (.Name "sorted" p) [e] [⟨some "key", .Lambda params (.Subscript (.Name x p1) (.Constant (.int 0) j p2) p3) scope lpos, kpos⟩] pos) (tSortLam X.K T ta) := by
  have loc : ∀ y ∈ scope.names, y.2 = .local := fun y hy => of_decide_eq_true (List.all_eq_true.mp hloc y hy)
  have hfree : ∀ y ∈ scope.names, y.2 = .free → ∃ c, X.env.cells.lookup y.1 = some c := fun y hy e => by rw [loc y hy] at e; cases e
  have hnm : ∀ y ∈ scope.names, y.2 ≠ .cell := fun y hy e => by rw [loc y hy] at e; cases e
  refine ⟨fun pins s σ H Q I h => ?_⟩
  refine wpAny_Call_Name_kw (ld_blt I hg hm (show bootBuiltins "sorted" = some (.builtin "sorted") by decide +kernel) ?_ (by decide) (by decide))
  refine PyProof.Rows.callWith_kw (thn (ha.run pos pins s σ H _ I h) fun us s1 ⟨vs, H1, I1, r1, q1⟩ => ?_) he hpl rfl rfl
  show wpAny _ _ (evalAll [do let v ← eval (.Lambda params (.Subscript (.Name x p1) (.Constant (.int 0) j p2) p3) scope lpos) X.env; standAt pos; pure v]) _ _ s1
  obtain ⟨a, vs1, ns, rfl, hs, hn, hT, q⟩ := q1
  obtain rfl := Vals.ref1 r1
  refine wpAny_evalAll_cons (wpAny_bind (LamX.lam_make2 I1 TB hcode hmT hu hT hdef hfree fun f c' pm ctv H2 s2 I2 eN T2 hf hfn hfr hco' => wpAny_bind (wpAny_standAt (wpAny_pure (wpAny_evalAll_nil ?_)))))
  show wpAny _ _ (call (.builtin "sorted") [.ref a] [(Str.ofString "key", .ref f)]) _ _ s2
  have hs2 := sql_exN eN hs
  have hn2 := hn.exN eN
  obtain ⟨its, rv, hl, hz⟩ := I2.list hs2
  have ln := hn2.len
  have lz : (vs1.zip ns).length = vs1.length := by rw [List.length_zip, ln, Nat.min_self]
  obtain ⟨⟨oc, fvs, t, hoc, hdc, hvc⟩, _, _⟩ := I2.hok c' _ hco'
  refine PySem.W.sorted_key_data (b := false) (R := FirstIs s2.heap) (bs := vs1.zip ns) (fun p => .str p.2) hl.isList (each_named I2 hn2 rv) (PySem.W.AllAlike.of fun _ _ => by simp [PySem.W.alike]) (PySem.W.Sortable.others fun _ => ⟨fun z => (nomatch z), fun _ z => (nomatch z)⟩) (by rw [lz]; exact hz) (fun _ _ => by have := hr.un; simp only [PyData.depth]; omega) (PyProof.Rows.ksk_s1 _ _) (fun _ => PyProof.Rows.ksk_l1 _ _) (fun _ => PyProof.Rows.ksk_t1 _ _) ?turn ?fin
  case turn =>
    rintro v ⟨y, n⟩ ⟨_, p', its', tk, rfl, ht, h0, hz'⟩ _ h tk' kp
    refine lam_first (s := { s2 with heap := h, toks := tk' }) (its := its'.toArray) (nm := n) (tk := tk) (by have := hr.dp; show X.A.depth < _; omega) (kp _ _ hf) hco hgen ⟨c', oc, fvs, t, rfl, kp _ _ hoc, hdc, hvc⟩ (fun v => hbind _ _ _ _ _ v) hk hnm hx (I2.nolimit.keeps kp) ?_ (by simpa using h0) (by simpa using hz') hd
    obtain ⟨o, e, r⟩ := ht
    exact ⟨o, kp _ _ e, r⟩
  case fin =>
    intro out cc h' tk' kp _ hat hlen er
    have vo := vals_each er
    refine ⟨.ref _, upd H2 (s2.heap.objs.size + 1) (.lst (byName vs1 ns)), I2.laid (t' := tk') kp (Nat.le_succ _) ⟨?_, out, cc, vo, hat⟩, rfl, q H2 _ eN T2 (I2.hok.fresh (Nat.le_succ _))⟩
    rw [(byName_perm ln).length_eq]; exact hz
end My
set_option Elab.async false
set_option linter.all false
set_option maxRecDepth 100000
set_option maxHeartbeats 1000000
/-! ### sorted(tuples of texts) -/
namespace My
open PySem PySem.Spec PyProof.Rows L2 Evl
def encT (b : V × List Str) : PyData := .tuple (b.2.map .str)
/-- the tuples in their order, with their texts -/
def byTexts (vs : List V) (ts : List (List Str)) : List (V × List Str) := (vs.zip ts).mergeSort (PySem.W.dataLe false encT)
def rSortedTT (K : PySem.W.Frag) : List V → Hp → VK → Prop := fun xs H Q => ∃ (a : Addr) (vs : List V) (ts : List (List Str)), xs = [.ref a] ∧ SqL K H a vs ∧ DpAll K H vs (ts.map fun t => .tuple (t.map .str)) ∧ (∀ t ∈ ts, t ≠ []) ∧ ∀ l, H l = none → Q (.ref l) (upd H l (.lst ((byTexts vs ts).map (·.1))))
theorem alike_texts : ∀ xs ys : List Str, PySem.W.alikeAll (xs.map .str) (ys.map .str) = true
  | [], _ => by simp [PySem.W.alikeAll]
  | _ :: _, [] => by simp [PySem.W.alikeAll]
  | x :: xs, y :: ys => by
    rw [List.map_cons, List.map_cons, PySem.W.alikeAll, alike_texts xs ys]
    simp [PySem.W.alike]
theorem depth_texts : ∀ xs : List Str, PyData.depthAll (xs.map .str) = 0
  | [] => by simp [PyData.depthAll]
  | x :: r => by simp [PyData.depthAll, PyData.depth, depth_texts r]
theorem each_vals : ∀ {vs : List V} {us : List Value} {ts : List (List Str)}, vs.length = ts.length → Vals vs us → PySem.W.EachIs (fun u b => RelV b.1 u) us (vs.zip ts)
  | _, _, [], h, .nil => .nil
  | _, _, _ :: _, h, .nil => by cases h
  | _, _, [], h, .cons _ _ => by cases h
  | _, _, _ :: _, h, .cons r q => .cons r (each_vals (Nat.succ.inj h) q)
theorem each_reads {h : Heap} : ∀ {vs : List V} {us : List Value} {ts : List (List Str)} {as : List Addr}, vs.length = ts.length → ReadsAll h us (ts.map fun t => .tuple (t.map .str)) as → PySem.W.EachIs (fun u b => ∃ as, Reads h u (encT b) as) us (vs.zip ts)
  | [], us, [], as, _, r => by cases r; exact .nil
  | [], _, _ :: _, _, h, _ => by cases h
  | _ :: _, _, [], _, h, _ => by cases h
  | v :: vs, us, t :: ts, as, hl, r => by
    cases r with
    | cons r1 r2 => exact .cons ⟨_, r1⟩ (each_reads (Nat.succ.inj hl) r2)
theorem vals_eachT : ∀ {us : List Value} {bs : List (V × List Str)}, PySem.W.EachIs (fun u b => RelV b.1 u) us bs → Vals (bs.map (·.1)) us
  | _, _, .nil => .nil
  | _, _, .cons r q => .cons r (vals_eachT q)
theorem cr_sortedTT {X : Cx} (hu : X.A.units + 64 < cLine) : CallR X (.builtin "sorted") (rSortedTT X.K) := by
  intro pins s σ H vs us Q I r h
  obtain ⟨a, xs, ts, rfl, hs, hd, ne, q⟩ := h
  obtain rfl := Vals.ref1 r
  obtain ⟨its, rv, hl, hz⟩ := I.list hs
  have lt : xs.length = ts.length := by rw [dpa_len hd, List.length_map]
  have lz : (xs.zip ts).length = xs.length := by rw [List.length_zip, lt, Nat.min_self]
  obtain ⟨as, hr⟩ := Dp.readsAll I _ _ its hd rv
  refine PySem.W.sorted_data (R := fun u b => RelV b.1 u) (enc := encT) (bs := xs.zip ts) hl.isList (each_vals lt rv) (each_reads lt hr) (PySem.W.AllAlike.of fun b c => by rw [encT, encT, PySem.W.alike]; exact alike_texts _ _) (.inl fun d hd' => ?_) (by rw [lz]; exact hz) (fun b _ => ?_) fun out lo er => ?_
  · obtain ⟨b, hb, rfl⟩ := List.mem_map.mp hd'
    have := ne b.2 (List.of_mem_zip hb).2
    cases e : b.2 with
    | nil => exact absurd e this
    | cons x r => exact ⟨.str x, r.map .str, by rw [encT, e, List.map_cons]⟩
  · have : (encT b).depth = 1 := by rw [encT, PyData.depth, depth_texts]
    omega
  · have vo := vals_eachT er
    obtain ⟨ep, at_⟩ := PyProof.Rows.sortedAll_at s.heap its out.toArray
    exact ⟨.ref _, upd H (s.heap.objs.size + 1) (.lst ((byTexts xs ts).map (·.1))), I.laid (t' := s.toks) (fun _ _ => PyProof.Rows.sortedAll_old) (Nat.le_succ _) ⟨by rw [List.length_map, byTexts, List.length_mergeSort, lz]; exact hz, out, ep, vo, by simpa using at_⟩, rfl, q _ (I.hok.fresh (Nat.le_succ _))⟩
end My
set_option Elab.async false
set_option linter.all false
set_option maxRecDepth 100000
set_option maxHeartbeats 1000000
/-! ### list(d.values()) -/
namespace My
open PySem PySem.Spec PyProof.Rows L2 Evl
theorem vals_by : ∀ {xs : List V} {us : List Value}, xs.length = us.length → (∀ (i : Nat) x u, xs[i]? = some x → us[i]? = some u → RelV x u) → Vals xs us
  | [], [], _, _ => .nil
  | _ :: _, [], h, _ => by cases h
  | [], _ :: _, h, _ => by cases h
  | x :: xs, u :: us, h, r => .cons (r 0 x u rfl rfl) (vals_by (Nat.succ.inj h) fun i => r (i + 1))
def tListVals (te : TE) : TE := fun σ H Q => te σ H fun x H1 => ∃ (d : Addr) (kvs : List (L2.Key × V)), x = .ref d ∧ H1 d = some (.dK kvs) ∧ ∀ p, H1 p = none → Q (.ref p) (upd H1 p (.lst (kvs.map (·.2))))
theorem pe_listVals {X : Cx} {e : Expr} {te : TE} {p apos cpos pos : Pos} (hc : X.calm = true) (he : PE X e te) (hg : Gl X "list") (hm : X.mg "list" = none) (hbase : attributeBase e "values" X.env (eval e X.env) = eval e X.env := by rfl) (hline : (apos.endLine == cpos.line) = true := by rfl)
    (hs : starEach [.Call (.Attribute e "values" apos) [] [] cpos] X.env = (false, eval (.Call (.Attribute e "values" apos) [] [] cpos) X.env) :: starEach [] X.env := by rfl) :
    PE X (.Call (.Name "list" p) [.Call (.Attribute e "values" apos) [] [] cpos] [] pos) (tListVals te) := by
  refine ⟨fun pins s σ H Q I hq => ?_⟩
  refine wpAny_Call_Name_kw (ld_blt I hg hm (show bootBuiltins "list" = some (.type "list") by decide +kernel) (PyProof.Rows.callWith_type1 ?_ hs rfl) (by decide) (by decide))
  rw [hs]
  refine Calls.spliced_cons (Q := _) (wpAny_Call_method (T := "dict") (id := "dict.values") hbase rfl hline F.plainAttrs_dict F.slot_dict_values F.type_dict_values (thn (he.run pins s σ H _ I hq) fun u s1 ⟨x, H1, I1, rx, d, kvs, ex, hd, q⟩ => ?_))
  subst ex
  obtain rfl : u = Value.ref d := rx
  obtain ⟨hz, lo, vs, kv, hdo⟩ := I1.hok d _ hd
  obtain ⟨ep, hat⟩ := hdo.dictAt
  have lk : kvs.length = vs.length := Paired.length kv
  refine ⟨hdo.typeIs, hdo.mapOf.noDict, method_meetsIn F.slot_dict_values F.entry_dict_values rfl (PySem.evalArgs_none ⟨rfl, hdo.typeIs, F.args_dict_values_1 _, _, meets_dict_values (mixKind X.prog X.w) d lo, ⟨vs, hdo⟩, Calls.spliced_nil ?_⟩)⟩
  have I2 : Inv X pins σ H1 { s1 with heap := s1.heap.push { cls := .type "dict_values", data := .fields #[.ref d] } } := I1.kept (t' := s1.toks) fun b ob q => Heap.get?_push_of_some _ q
  refine PySem.W.kdl_call (PySem.W.kdl_values (r := s1.heap.objs.size) (d := d) (knd := mixKind X.prog X.w) (kvs := vs) (ep := ep)) (I1.ok.hd hc) ⟨⟨_, Heap.get?_push_size _ rfl, rfl, rfl⟩, hat.push _⟩ (by omega) fun h' tk acc c kp hS items => ?_
  obtain ⟨la, each⟩ := items
  refine ⟨.ref _, upd H1 _ (.lst (kvs.map (·.2))), I2.laid (t' := tk) kp (Nat.le_refl _) ⟨by rw [List.length_map]; exact hz, acc.toList, c, vals_by (by rw [List.length_map, lk, Array.length_toList]; exact la.symm) fun i x u hx hu => ?_, by rw [Array.toArray_toList]; exact hS⟩, rfl, q _ (I2.hok.fresh (Nat.le_refl _))⟩
  rw [Array.getElem?_toList] at hu
  obtain ⟨k, hk⟩ := each i u hu
  rw [List.getElem?_map] at hx
  cases e : kvs[i]? with
  | none => rw [e] at hx; cases hx
  | some y =>
    rw [e] at hx
    obtain ⟨q', g1, g2, g3⟩ := LiI.paired_get kv e
    rw [hk] at g1
    cases g1
    have hx : some y.2 = some x := hx
    rw [← Option.some.inj hx]
    exact g3
end My
set_option Elab.async false
set_option linter.all false
set_option maxRecDepth 100000
set_option maxHeartbeats 2000000
/-! ### the end of a law whose program makes lambdas: tables of code objects stand beside the script, the caller is within no repr -/
namespace My
open PySem PySem.Spec PyProof.Rows L2 Evl
open LamX (TabB)
section
variable {P : Program} {w : World} {K : PySem.W.Frag} {mg : Str → Option Value}
/-- an abstract heap that tracks at most the script at a and the empty tables ts -/
structure Start (K : PySem.W.Frag) (a : Addr) (sc : Obj) (xs : List V) (ts : List Addr) (H : Hp) (h : Heap) : Prop where
  tab : ∀ t ∈ ts, H t = some (.tbl #[])
  sq : SqL K H a xs
  all : ∀ b u, H b = some u → (b = a ∧ u = .frz sc (.lst xs) ∧ K.lookup a = none) ∨ (b ∈ ts ∧ u = .tbl #[])
theorem start_of {h : Heap} {a : Addr} {vs : List Value} {ns : List Int} {ts : List Addr} (KX : K.In h) (ha : h.get? a = some { cls := .type "list", data := .seq vs.toArray }) (rv : Vals (ns.map V.int) vs) (hl : ns.length ≤ sizeLine) (at_ : a ∉ ts) :
    ∃ H, Start K a { cls := .type "list", data := .seq vs.toArray } (ns.map V.int) ts H h := by
  cases hk : K.lookup a with
  | some o =>
    have e := KX a o hk
    rw [ha] at e
    cases e
    refine ⟨fun b => if b ∈ ts then some (.tbl #[]) else none, fun t ht => if_pos ht, Or.inr ⟨_, vs.toArray, 0, hk, rfl, rfl, rfl, by rw [List.size_toArray, ← rv.length, List.length_map]; exact hl, rv⟩, fun b u z => ?_⟩
    by_cases hb : b ∈ ts
    · have z : (if b ∈ ts then some (HO.tbl #[]) else none) = some u := z
      rw [if_pos hb] at z
      exact Or.inr ⟨hb, (Option.some.inj z).symm⟩
    · have z : (if b ∈ ts then some (HO.tbl #[]) else none) = some u := z
      rw [if_neg hb] at z; cases z
  | none =>
    refine ⟨fun b => if b ∈ ts then some (.tbl #[]) else if b = a then some (.frz { cls := .type "list", data := .seq vs.toArray } (.lst (ns.map V.int))) else none, fun t ht => if_pos ht, Or.inl (Or.inr ⟨_, by show (if a ∈ ts then _ else _) = _; rw [if_neg at_, if_pos rfl]⟩), fun b u z => ?_⟩
    have z : (if b ∈ ts then some (HO.tbl #[]) else if b = a then some (.frz { cls := .type "list", data := .seq vs.toArray } (.lst (ns.map V.int))) else none) = some u := z
    by_cases hb : b ∈ ts
    · rw [if_pos hb] at z
      exact Or.inr ⟨hb, (Option.some.inj z).symm⟩
    · rw [if_neg hb] at z
      by_cases hb2 : b = a
      · rw [if_pos hb2] at z
        exact Or.inl ⟨hb2, (Option.some.inj z).symm, hk⟩
      · rw [if_neg hb2] at z; cases z
theorem law_callT {mb : Str → Option Value} {k : Nat} {fa a : Addr} {fd : FuncData} {x : Str} {sp : Sp} {s : Shared} {vs : List Value} {ns : List Int} {cs : List (Addr × Addr)} (KX : K.In s.heap) (hns : s.heap.Ns mainGlobals mg) (hb : s.heap.Ns builtinsNs mb)
    (hbb : ∀ y : Str, y ≠ ("__name__" : Str) → mb y = bootBuiltins y) (hlim : s.heap.NoLimit) (hg : s.gens = #[]) (hT : ∀ p ∈ cs, s.heap.get? p.2 = some (PySem.W.tabObj #[])) (nT : ∀ p ∈ cs, K.lookup p.2 = none) (hC : ∀ p ∈ cs, PySem.W.CodeHd s.heap p.1 p.2)
    (hbm : ∃ (bm : Addr) (ob : Obj), mg "__builtins__" = some (.ref bm) ∧ bm ≠ builtinsNs ∧ s.heap.get? bm = some ob ∧ ob.cls = .type "module" ∧ ob.dict = some builtinsNs ∧ ob.data = .plain)
    (ha : s.heap.get? a = some { cls := .type "list", data := .seq vs.toArray }) (hi : IntsAre vs ns) (hl : ns.length ≤ sizeLine)
    (hr : Room k callerA) (F : ∀ base : Heap, K.In base → base.Ns mainGlobals mg → (∀ p ∈ cs, TabB base mg p.1 p.2) → FnOkG P w K mg base k fa fd [x] sp) (hbind : ∀ (s : Shared) (u : Value), BindsTo s fd ⟨[u], []⟩ [(x, u)])
    (hsp : ∀ H : Hp, (∀ p ∈ cs, H p.2 = some (.tbl #[])) → SqL K H a (ns.map V.int) → sp [.ref a] H (fun v _ => v = .bl true) fun _ _ _ => False) :
    codeAny (model P w) callerA (.call (.ref fa) ⟨[.ref a], []⟩) (fun r s' => r = .ok (.ret (.bool true)) ∧ OldK s.heap s'.heap ∧ s'.os = s.os ∧ AllBare s'.gens) s := by
  have rv := vals_ints hi
  have inT : ∀ t, t ∈ cs.map (·.2) → s.heap.get? t = some (PySem.W.tabObj #[]) := fun t ht => by
    obtain ⟨p, hp, rfl⟩ := List.mem_map.mp ht
    exact hT p hp
  have aT : a ∉ cs.map (·.2) := fun z => by
    have := inT a z
    rw [ha] at this
    cases this
  obtain ⟨H, St⟩ := start_of (ts := cs.map (·.2)) KX ha rv hl aT
  have tabs : ∀ p ∈ cs, H p.2 = some (.tbl #[]) := fun p hp => St.tab _ (List.mem_map.mpr ⟨p, hp, rfl⟩)
  have hok : HOk P w H s.heap := fun b u z => by
    rcases St.all b u z with ⟨rfl, rfl, _⟩ | ⟨hb, rfl⟩
    · exact ⟨ha, by rw [List.length_map]; exact hl, vs, 0, rv, ha⟩
    · exact inT b hb
  -- what is neither a list nor an empty table is not tracked
  have free : ∀ {b : Addr} {o : Obj}, s.heap.get? b = some o → (∀ zs n, o.data ≠ .seq zs n) → o.data ≠ .fields #[] → H b = none := fun {b o} e n1 n2 => by
    cases q : H b with
    | none => rfl
    | some u =>
      rcases St.all b u q with ⟨rfl, _⟩ | ⟨hb, _⟩
      · rw [ha] at e; cases e; exact absurd rfl (n1 _ _)
      · rw [inT b hb] at e; cases e; exact absurd rfl n2
  have up : ∀ {b : Addr} {o : Obj}, s.heap.get? b = some o → (∀ zs n, o.data ≠ .seq zs n) → o.data ≠ .fields #[] → (hidT s.heap H).get? b = some o := fun e n1 n2 => hidT_get e (free e n1 n2)
  have nsK : ∀ {b : Addr} {m : Str → Option Value}, s.heap.Ns b m → (hidT s.heap H).Ns b m := by
    rintro b m ⟨o, es, ep, e, d, r⟩
    exact ⟨o, es, ep, up e (fun _ _ z => by rw [d] at z; cases z) (fun z => by rw [d] at z; cases z), d, r⟩
  have hKb : K.In (hidT s.heap H) := fun b o e => hidT_get (KX b o e) (by
    cases q : H b with
    | none => rfl
    | some u =>
      rcases St.all b u q with ⟨rfl, _, n⟩ | ⟨hb, _⟩
      · rw [n] at e; cases e
      · obtain ⟨p, hp, rfl⟩ := List.mem_map.mp hb
        rw [nT p hp] at e; cases e)
  have hM : L2.Mod K mg (hidT s.heap H) := ⟨hKb, nsK hns, ⟨mb, nsK hb, hbb⟩, by obtain ⟨mc, h1, h2⟩ := hlim; exact ⟨mc, nsK h1, h2⟩⟩
  have TB : ∀ p ∈ cs, TabB (hidT s.heap H) mg p.1 p.2 := fun p hp => by
    have e := hT p hp
    refine ⟨?_, ?_, fun z => ?_⟩
    · obtain ⟨o, us, file, tf, flags, tg, inF, text, tt, e1, c1, c2, c3, rest⟩ := hC p hp
      exact ⟨o, us, file, tf, flags, tg, inF, text, tt, up e1 (fun _ _ z => by rw [c2] at z; cases z) (fun z => by rw [c2] at z; cases z; simp at c3), c1, c2, c3, rest⟩
    · obtain ⟨bm, ob, m1, m2, m3, m4, m5, m6⟩ := hbm
      refine ⟨bm, ob, m1, m2, fun z => ?_, fun z => ?_, up m3 (fun _ _ z => by rw [m6] at z; cases z) (fun z => by rw [m6] at z; cases z), m4, m5, m6⟩
      · obtain ⟨o, es, ep, e1, d, _⟩ := hns
        rw [z, e1] at m3; cases m3; rw [d] at m6; cases m6
      · rw [z, e] at m3; cases m3; cases m6
    · obtain ⟨o, es, ep, e1, d, _⟩ := hns
      rw [z, e] at e1; cases e1; cases d
  have e0 : Env0 P w K mg (hidT s.heap H) callerA [] s H := ⟨rfl, hM, fun b o e => of_hidT e, Nat.le_of_eq (hidT_size s.heap H), trivial, fun b hb => absurd hb List.not_mem_nil, hok, AllBare.of_eq hg⟩
  refine codeAny_mono ((F _ hKb (nsK hns) TB).run callerA [] s H ⟨[.ref a], []⟩ [.ref a] [.ref a] (fun v _ => v = .bl true) (fun _ _ _ => False) rfl hr e0 (hbind s (.ref a)) (.cons (show L2.RelV (V.ref a) (Value.ref a) from rfl) .nil) (hsp H tabs St.sq)) fun r s' h => ?_
  cases r with
  | error e => exact False.elim h
  | ok fl =>
    cases fl with
    | ret u =>
      obtain ⟨v, H', os, bare, un, hok', r', q⟩ := h
      subst q
      obtain rfl : u = .bool true := r'
      have same : ∀ b o, b ∉ cs.map (·.2) → s.heap.get? b = some o → s'.heap.get? b = some o := fun b o nb e => by
        cases q : H b with
        | none => exact un.keep b o e q List.not_mem_nil List.not_mem_nil
        | some u =>
          rcases St.all b u q with ⟨rfl, rfl, _⟩ | ⟨hb, _⟩
          · have z2 := un.frzs b _ _ q
            obtain ⟨e1, _⟩ := hok b _ q
            obtain ⟨e2, _⟩ := hok' b _ z2
            rw [e] at e1
            cases e1
            exact e2
          · exact absurd hb nb
      have grown : ∀ p ∈ cs, ∃ more : Array Value, s'.heap.get? p.2 = some (PySem.W.tabObj (#[] ++ more)) := fun p hp => by
        obtain ⟨more, z⟩ := un.tbls p.2 #[] (tabs p hp)
        exact ⟨more, hok' p.2 _ z⟩
      refine ⟨rfl, ⟨fun b o e => ?_, fun b o e => ?_⟩, os, bare⟩
      · by_cases hb : b ∈ cs.map (·.2)
        · obtain ⟨p, hp, rfl⟩ := List.mem_map.mp hb
          obtain ⟨more, z⟩ := grown p hp
          rw [hT p hp] at e
          cases e
          exact Or.inr (Or.inl ⟨((hC p hp).tab (hT p hp)).isCodeTable, rfl, #[], more, rfl, z⟩)
        · exact Or.inl (same b o hb e)
      · by_cases hb : b ∈ cs.map (·.2)
        · obtain ⟨p, hp, rfl⟩ := List.mem_map.mp hb
          obtain ⟨more, z⟩ := grown p hp
          exact ⟨_, z⟩
        · exact ⟨o, same b o hb e⟩
    | _ => exact False.elim h
theorem walk_ofT {l : PySem.W.OpenLaw} {n k : Nat} {q : Program} {loose : List Str} {XP : (Str → Option Value) → Heap → Prop} {YP : World → Heap → Prop} {d : DefRec} {K : Params → PySem.W.Frag} {ts : List Addr} {sp : World → Sp} {x : Str} (hn : l.most = some n) (hn2 : n ≤ sizeLine) (hdf : d.params.defaults = [])
    (hr : Room k callerA) (hY : ∀ w h, YP w h → (K w.params).In h ∧ ∀ t ∈ ts, h.get? t = some (PySem.W.tabObj #[]))
    (F : ∀ (w : World) (mg : Str → Option Value) (fa : Addr) (h : Heap), (K w.params).In h → h.Ns mainGlobals mg → mg d.name = some (.ref fa) → ∃ (fd : FuncData) (cs : List (Addr × Addr)), (∀ p ∈ cs, p.2 ∈ ts ∧ (K w.params).lookup p.2 = none ∧ PySem.W.codeHdIn (K w.params) p.1 p.2 = true) ∧ (∀ (s : Shared) (u : Value), BindsTo s fd ⟨[u], []⟩ [(x, u)]) ∧
      (∀ (H : Hp) (a : Addr) (ns : List Int), ns.length ≤ n → (∀ p ∈ cs, H p.2 = some (.tbl #[])) → SqL (K w.params) H a (ns.map V.int) → sp w [.ref a] H (fun v _ => v = .bl true) fun _ _ _ => False) ∧
      ∀ base : Heap, (K w.params).In base → base.Ns mainGlobals mg → (∀ p ∈ cs, TabB base mg p.1 p.2) → FnOkG l.prog w (K w.params) mg base k fa fd [x] (sp w)) : PySem.W.WalkO q loose XP YP l.row.toRowW d [] fun f vs => call f vs :=
  Att.attach_call hn hdf fun w s₀ s₁ mg mb fa o pm cd doc a vs ns G Y ho hd hcd hmg hobj hints hlen hg => by
    obtain ⟨KX, hts⟩ := hY w s₁.heap Y
    obtain ⟨fd, cs, hcs, hb, hsp, hF⟩ := F w mg fa s₁.heap KX G.T.g hmg
    exact law_callT KX G.T.g G.T.b G.T.builtins G.T.nolimit hg (fun p hp => hts _ (hcs p hp).1) (fun p hp => (hcs p hp).2.1) (fun p hp => PySem.W.codeHd_of_K KX (hcs p hp).2.2) G.T.bmain hobj hints (Nat.le_trans hlen hn2) hr hF hb fun H hH hS => hsp H a ns hlen hH hS
end
end My
set_option Elab.async false
set_option linter.all false
set_option maxRecDepth 100000
set_option maxHeartbeats 1000000
/-! ### books: rules, data, what is well made -/
namespace My
open PySem PySem.Spec PyProof.Rows L2 Evl
open LamX (ExtN Tabs TabB CodeO)
/-- a property whose getter keeps a promise -/
structure PropD (P : Program) (w : World) (K : PySem.W.Frag) (mg : Str → Option Value) (base : Heap) (k : Nat) (C : Addr) (f : Str) (sp : Sp) : Prop where
  ex : ∃ (p g : Addr) (fd : FuncData), PropOf K C f p g ∧ FnOk P w K mg base CX0 k g fd ["self"] sp ∧ Binds K fd ["self"] []
theorem pe_pr {X : Cx} {k : Nat} {C : Addr} {f : Str} {sp : Sp} {e : Expr} {pos : Pos} {ta : TE} (D : PropD X.prog X.w X.K X.mg X.base k C f sp) (c : Cls X.K C) (hr : Room (k + 1) X.A) (he : PE X e ta) (hab : attributeBase e f X.env (eval e X.env) = eval e X.env := by rfl) : PE X (.Attribute e f pos) (tProp C sp [] E0 ta) := by
  obtain ⟨p, g, fd, hp, F, hb⟩ := D.ex
  exact pe_prop he c hp F hr hb .nil pass0 hab
structure BookC (K : PySem.W.Frag) (C : Addr) : Prop where
  cl : Cls K C
  n1 : NoAttr K C "_holds"
  n2 : NoAttr K C "_barred"
  n3 : NoAttr K C "_parts"
  n4 : NoAttr K C "_quiet"
section
variable {K : PySem.W.Frag} {σ : L2.St} {H : Hp} {te ta tb : TE} {tA : TA} {D : Ends} {tz tu : TS}
/-! ### texts that only have to be texts -/
def Tx (n : Nat) : V → Hp → Prop := fun v _ => ∃ y : Str, v = .str y ∧ y.length ≤ n
theorem Tx.m {n : Nat} : Mono (Tx n) := fun _ _ _ _ h => h
def Tn (i : Int) : Prop := i.natAbs.log2 < 1920 ∧ (toString i : Str).length ≤ 20
theorem str_app (x y : Str) : (x ++ y).length = x.length + y.length := by
  show (x.cps ++ y.cps).size = _
  rw [Array.size_append]; rfl
def JsE (ts : List TE) (σ : L2.St) (H : Hp) (n : Nat) : Prop := ∀ H1, Ex H H1 → ∀ (acc : Str) (Q : Str → Hp → Prop), acc.length + n ≤ sizeLine → (∀ out H2, Ex H1 H2 → out.length ≤ acc.length + n → Q out H2) → tJs ts acc σ H1 Q
theorem js_nil : JsE [] σ H 0 := fun H1 _ acc Q _ q => q acc H1 (Ex.refl H1) (Nat.le_refl _)
theorem js_cons {ts : List TE} {n m : Nat} (h : EvG te σ H (Tx n)) (r : JsE ts σ H m) : JsE (te :: ts) σ H (n + m) := fun H1 e acc Q hz q =>
  h H1 e _ fun v H2 e2 ⟨y, hv, hy⟩ => ⟨y, hv, by rw [str_app]; omega, r H2 (e.trans e2) _ Q (by rw [str_app]; omega) fun out H3 e3 ho => q out H3 (e2.trans e3) (by rw [str_app] at ho; omega)⟩
theorem tx_join {ts : List TE} {n : Nat} (h : JsE ts σ H n) (hn : n ≤ 100000) : EvG (fun σ H Q => tJs ts Str.empty σ H fun out H1 => Q (.str out) H1) σ H (Tx n) := fun H1 e Q q =>
  h H1 e Str.empty _ (by have : Str.empty.length = 0 := rfl; rw [sizeLine_eq, this]; omega) fun out H2 e2 ho => q _ H2 e2 ⟨out, rfl, by have : Str.empty.length = 0 := rfl; omega⟩
theorem tx_c {y : Str} {n : Nat} (h : y.length ≤ n) : EvG (tC (.str y)) σ H (Tx n) := Ev.gi ev_c fun _ _ => ⟨y, rfl, h⟩
theorem tx_v {y : Str} {n : Nat} (h : Ev te σ H (.str y)) (hy : y.length ≤ n) : EvG te σ H (Tx n) := Ev.gi h fun _ _ => ⟨y, rfl, hy⟩
theorem tx_fS {y : Str} {n : Nat} (h : Ev te σ H (.str y)) (hy : y.length ≤ n) (hn : n ≤ 100000) : EvG (tFmt te) σ H (Tx n) := fun H1 e Q q =>
  h H1 e _ fun H2 e2 => Or.inl ⟨y, rfl, by rw [sizeLine_eq]; omega, q _ H2 e2 ⟨y, rfl, hy⟩⟩
theorem tx_fI {i : Int} (h : Ev te σ H (.int i)) (hi : Tn i) : EvG (tFmt te) σ H (Tx 20) := fun H1 e Q q =>
  h H1 e _ fun H2 e2 => Or.inr ⟨i, rfl, hi.1, q _ H2 e2 ⟨_, rfl, hi.2⟩⟩
/-! ### calls for what they do -/
def EvN (te : TE) (σ : L2.St) (H : Hp) : Prop := EvG te σ H fun _ _ => True
def SpN (sp : Sp) (vs : List V) (H : Hp) : Prop := ∀ H1, Ex H H1 → ∀ Q : VK, (∀ v H2, Ex H1 H2 → Q v H2) → ∀ E : XK, sp vs H1 Q E
theorem en_call {sp : Sp} {dvs : List V} {E : XK} {Ps : List (V → Hp → Prop)} (h : EaP tA σ H Ps) (hs : ∀ vs H1, Ex H H1 → AllP H1 vs Ps → SpN sp (vs ++ dvs) H1) : EvN (tCall sp dvs E tA) σ H := fun H1 e Q q =>
  h H1 e _ fun vs H2 e2 hv => hs vs H2 (e.trans e2) hv H2 (Ex.refl _) Q (fun v H3 e3 => q v H3 (e2.trans e3) trivial) E
theorem en_callA {sp : Sp} {dvs vs : List V} {E : XK} (h : EvA tA σ H vs) (hs : SpN sp (vs ++ dvs) H) : EvN (tCall sp dvs E tA) σ H := fun H1 e Q q =>
  h H1 e _ fun H2 e2 => hs H2 (e.trans e2) Q (fun v H3 e3 => q v H3 (e2.trans e3) trivial) E
theorem q_do (h : EvN te σ H) (k : ∀ H1, Ex H H1 → tz D σ H1) : tSeq (tDrop te) tz D σ H := h H (Ex.refl H) _ fun _ H1 e _ => k H1 e
theorem s_do (h : EvN te σ H) (k : ∀ H1, Ex H H1 → D.nx σ H1) : tDrop te D σ H := h H (Ex.refl H) _ fun _ H1 e _ => k H1 e
def IsW (x : V) : V → Hp → Prop := fun v _ => v = x
theorem IsW.m {x : V} : Mono (IsW x) := fun _ _ _ _ h => h
theorem ea_w {x : V} (h : Ev te σ H x) : EvG te σ H (IsW x) := Ev.gi h fun _ _ => rfl
/-- a list or a tuple of so many -/
def LenIs (K : PySem.W.Frag) (H : Hp) (a : Addr) (n : Nat) : Prop := ∃ xs : List V, (SqL K H a xs ∨ SqT K H a xs) ∧ xs.length = n
theorem LenIs.ex {H1 : Hp} {a : Addr} {n : Nat} (e : Ex H H1) (h : LenIs K H a n) : LenIs K H1 a n := by
  obtain ⟨xs, h, l⟩ := h
  exact ⟨xs, h.imp (ex_l e) (ex_t e), l⟩
theorem ev_lenS {a : Addr} {n : Nat} (ha : Ev ta σ H (.ref a)) (h : LenIs K H a n) : Ev (tCB (rLenS K) (tCons ta tNil)) σ H (.int (n : Int)) := fun H1 e Q q => by
  obtain ⟨xs, h, rfl⟩ := h
  exact ha H1 e _ fun H2 e2 => ⟨a, xs, rfl, h.imp (ex_l (e.trans e2)) (ex_t (e.trans e2)), q H2 e2⟩
/-! ### all of a list of texts -/
theorem given_true {α : Type} (xs : List α) (d : α) (g : α → V) : given xs.length (fun _ => true) (fun i => g (xs.getD i d)) = xs.map g := by
  unfold given
  rw [List.filter_eq_self.mpr fun _ _ => rfl]
  apply List.ext_getElem
  · simp
  · intro i h1 h2
    have hi : i < xs.length := by simpa using h1
    simp [hi, List.getElem?_eq_getElem hi]
theorem str_at {xs : List Str} {i : Nat} {x : V} (h : (xs.map V.str)[i]? = some x) : ∃ y, y ∈ xs ∧ x = V.str y ∧ xs.getD i Str.empty = y := by
  rw [List.getElem?_map] at h
  cases e : xs[i]? with
  | none => rw [e] at h; cases h
  | some y =>
    rw [e] at h
    exact ⟨y, List.mem_of_getElem? e, (Option.some.inj h).symm, by rw [List.getD_eq_getElem?_getD, e]; rfl⟩
theorem tyes {σ : L2.St} {H : Hp} : EvT tYes σ H true := fun H2 _ Q q => q H2 (Ex.refl H2)
/-- all([f(x) for x in a list of texts]) -/
theorem ev_allTxL {a : Addr} {xs : List Str} {j : Nat} {vs : List Nat} {tl : TE} (f : Str → Bool) (h : Ev tl σ H (.ref a)) (hs : SqL K H a (xs.map V.str)) (hz : xs.length ≤ 1000) (hw : ∀ x, wipe ((wipe σ vs).set j (some x)) vs = wipe σ vs) (he : ∀ y ∈ xs, ∀ H1, Ex H H1 → Ev te ((wipe σ vs).set j (some (.str y))) H1 (.bl (f y))) :
    Ev (tCB (rAll K) (tCons (tLc (iList K tl) (gName j) tYes te vs) tNil)) σ H (.bl (xs.all f)) :=
  ev_is (ev_allL (bs := xs.map f) (el_is (el_lcL (xs := xs.map V.str) (fun _ => true) (fun i => V.bl (f (xs.getD i Str.empty))) h hs (by rw [List.length_map]; omega) hw (fun _ _ _ _ _ => tyes) (fun i x H1 e1 hi _ => by
    obtain ⟨y, hy, rfl, e⟩ := str_at hi
    rw [e]
    exact he y hy H1 e1)) (by rw [List.length_map, given_true xs Str.empty fun y => V.bl (f y), List.map_map]; rfl))) (by rw [List.all_map]; rfl)
theorem ev_allTxT {a : Addr} {xs : List Str} {j : Nat} {vs : List Nat} {tl : TE} (f : Str → Bool) (h : Ev tl σ H (.ref a)) (hs : SqT K H a (xs.map V.str)) (hz : xs.length ≤ 1000) (hw : ∀ x, wipe ((wipe σ vs).set j (some x)) vs = wipe σ vs) (he : ∀ y ∈ xs, ∀ H1, Ex H H1 → Ev te ((wipe σ vs).set j (some (.str y))) H1 (.bl (f y))) :
    Ev (tCB (rAll K) (tCons (tLc (iTup K tl) (gName j) tYes te vs) tNil)) σ H (.bl (xs.all f)) :=
  ev_is (ev_allL (bs := xs.map f) (el_is (el_lcU (xs := xs.map V.str) (fun _ => true) (fun i => V.bl (f (xs.getD i Str.empty))) h hs (by rw [List.length_map]; omega) hw (fun _ _ _ _ _ => tyes) (fun i x H1 e1 hi _ => by
    obtain ⟨y, hy, rfl, e⟩ := str_at hi
    rw [e]
    exact he y hy H1 e1)) (by rw [List.length_map, given_true xs Str.empty fun y => V.bl (f y), List.map_map]; rfl))) (by rw [List.all_map]; rfl)
theorem ev_anyTxT {a : Addr} {xs : List Str} {j : Nat} {vs : List Nat} {tl : TE} (f : Str → Bool) (h : Ev tl σ H (.ref a)) (hs : SqT K H a (xs.map V.str)) (hz : xs.length ≤ 1000) (hw : ∀ x, wipe ((wipe σ vs).set j (some x)) vs = wipe σ vs) (he : ∀ y ∈ xs, ∀ H1, Ex H H1 → Ev te ((wipe σ vs).set j (some (.str y))) H1 (.bl (f y))) :
    Ev (tCB (rAny K) (tCons (tLc (iTup K tl) (gName j) tYes te vs) tNil)) σ H (.bl (xs.any f)) :=
  ev_is (ev_anyL (bs := xs.map f) (el_is (el_lcU (xs := xs.map V.str) (fun _ => true) (fun i => V.bl (f (xs.getD i Str.empty))) h hs (by rw [List.length_map]; omega) hw (fun _ _ _ _ _ => tyes) (fun i x H1 e1 hi _ => by
    obtain ⟨y, hy, rfl, e⟩ := str_at hi
    rw [e]
    exact he y hy H1 e1)) (by rw [List.length_map, given_true xs Str.empty fun y => V.bl (f y), List.map_map]; rfl))) (by rw [List.any_map]; rfl)
theorem flat_txs (xs : List Str) : (xs.map V.str).all flatV = true := by
  rw [List.all_map]; exact List.all_eq_true.mpr fun _ _ => rfl
theorem inV_txs {x : Str} {xs : List Str} : inV (.str x) (xs.map V.str) = decide (x ∈ xs) := by
  induction xs with
  | nil => rfl
  | cons y r ih =>
    have e : inV (.str x) ((y :: r).map V.str) = (eqV (.str y) (.str x) || inV (.str x) (r.map V.str)) := rfl
    rw [e, ih]
    have e2 : eqV (.str y) (.str x) = decide (y = x) := by
      show (y == x) = _
      by_cases h : y = x
      · subst h; simp
      · rw [decide_eq_false h]; exact beq_false_of_ne h
    rw [e2, ← Bool.decide_or]
    exact decide_eq_decide.mpr ⟨fun h => h.elim (fun h => h ▸ List.mem_cons_self) (List.mem_cons_of_mem _), fun h => (List.mem_cons.mp h).imp (fun h => h.symm) id⟩
end
/-! ### the data of a book -/
section
variable {K : PySem.W.Frag} {σ : L2.St} {H : Hp}
theorem dpa_at : ∀ (ds : List PyData) (vs : List V) (i : Nat) (d : PyData), DpAll K H vs ds → ds[i]? = some d → ∃ v, vs[i]? = some v ∧ Dp K H v d
  | [], _, _, _, _, e => by cases e
  | x :: r, vs, i, d, h, e => by
    obtain ⟨v, vr, rfl, h1, h2⟩ := DpAll.cons_inv h
    cases i with
    | zero => cases e; exact ⟨v, rfl, h1⟩
    | succ i => exact dpa_at r vr i d h2 e
theorem dp_lst_inv {v : V} {ds : List PyData} (h : Dp K H v (.list ds)) : ∃ a xs, v = .ref a ∧ SqL K H a xs ∧ DpAll K H xs ds := by
  cases h with
  | lst h1 h2 => exact ⟨_, _, rfl, h1, h2⟩
def tD (xs : List Str) : PyData := .tuple (xs.map .str)
def oD : Option Str → PyData
  | none => .none
  | some s => .str s
def toV : Option Str → V
  | none => .non
  | some s => .str s
def limD : Option Nat → PyData
  | none => .none
  | some n => .int (n : Int)
def lmV : Option Nat → V
  | none => .non
  | some n => .int (n : Int)
theorem dp_toV : ∀ o : Option Str, Dp K H (toV o) (oD o)
  | none => .non
  | some _ => .str _
theorem dp_lmV : ∀ o : Option Nat, Dp K H (lmV o) (limD o)
  | none => .non
  | some _ => .int _
theorem toV_of {v : V} {o : Option Str} (h : Dp K H v (oD o)) : v = toV o := by
  cases o with
  | none => cases h; rfl
  | some s => cases h; rfl
theorem texts_of_dp {v : V} {xs : List Str} (h : Dp K H v (tD xs)) : ∃ a, v = .ref a ∧ SqT K H a (xs.map V.str) := by
  obtain ⟨a, ys, rfl, hs, hd⟩ := Dp.tup_inv h
  obtain rfl := DpAll.texts_inv hd
  exact ⟨a, rfl, hs⟩
theorem txl_of_dp {v : V} {xs : List Str} (h : Dp K H v (.list (xs.map .str))) : ∃ a, v = .ref a ∧ SqL K H a (xs.map V.str) := by
  obtain ⟨a, ys, rfl, hs, hd⟩ := dp_lst_inv h
  obtain rfl := DpAll.texts_inv hd
  exact ⟨a, rfl, hs⟩
abbrev Md := Str × List Str × List Str
def mdD (m : Md) : PyData := .tuple [.str m.1, tD m.2.1, tD m.2.2]
structure Cd where
  n : Str
  lets : List Str
  on : List Str
  off : List Str
  to : Option Str
def cdD (c : Cd) : PyData := .tuple [.str c.n, tD c.lets, tD c.on, tD c.off, oD c.to]
structure Al where
  n : Str
  on : List Str
  off : List Str
  to : Option Str
def alD (c : Al) : PyData := .tuple [.str c.n, tD c.on, tD c.off, oD c.to]
abbrev Rw := Str × List (Nat × Str)
def stepD (s : Nat × Str) : PyData := .tuple [.int (s.1 : Int), .str s.2]
def rwD (r : Rw) : PyData := .tuple [.str r.1, .tuple (r.2.map stepD)]
structure Pb where
  holds : List Str
  modes : List Md
  barred : List (List Str)
  cmds : List Cd
  als : List Al
  rows : List Rw
  quiet : Option Nat
def Pb.mn (p : Pb) : List Str := p.modes.map fun m => m.1
def Pb.cn (p : Pb) : List Str := p.cmds.map Cd.n
def Pb.an (p : Pb) : List Str := p.als.map Al.n
def Pb.rn (p : Pb) : List Str := p.rows.map fun r => r.1
structure LotOk (names l : List Str) : Prop where
  lot : isLot l = true
  inn : ∀ x ∈ l, x ∈ names
  few : l.length ≤ 100
structure EffOk (holds on off : List Str) : Prop where
  hon : LotOk holds on
  hoff : LotOk holds off
  apart : ∀ x ∈ on, x ∉ off
def ToOk (modes : List Str) (o : Option Str) : Prop := ∀ x, o = some x → x ∈ modes
structure NmsOk (xs : List Str) : Prop where
  all : ∀ x ∈ xs, isName x = true
  nd : xs.Nodup
  few : xs.length ≤ 100
structure PbOk (p : Pb) : Prop where
  holds : NmsOk p.holds ∧ 1 ≤ p.holds.length ∧ p.holds.length ≤ 6
  modes : NmsOk p.mn ∧ 1 ≤ p.modes.length ∧ p.modes.length ≤ 5 ∧ ∀ m ∈ p.modes, EffOk p.holds m.2.1 m.2.2
  barred : p.barred.length ≤ 8 ∧ p.barred.Nodup ∧ ∀ l ∈ p.barred, LotOk p.holds l ∧ 2 ≤ l.length
  cmds : NmsOk p.cn ∧ p.cmds.length ≤ 8 ∧ ∀ c ∈ p.cmds, LotOk p.mn c.lets ∧ EffOk p.holds c.on c.off ∧ ToOk p.mn c.to
  als : NmsOk p.an ∧ p.als.length ≤ 4 ∧ ∀ c ∈ p.als, EffOk p.holds c.on c.off ∧ ToOk p.mn c.to
  rows : NmsOk p.rn ∧ p.rows.length ≤ 3 ∧ ∀ r ∈ p.rows, 1 ≤ r.2.length ∧ r.2.length ≤ 4 ∧ ∀ s ∈ r.2, 1 ≤ s.1 ∧ s.1 ≤ 9 ∧ s.2 ∈ p.cn
  quiet : ∀ n, p.quiet = some n → 1 ≤ n ∧ n ≤ 30
theorem md_inv {v : V} {m : Md} (d : Dp K H v (mdD m)) : ∃ p po pf, v = .ref p ∧ SqT K H p [.str m.1, .ref po, .ref pf] ∧ SqT K H po (m.2.1.map V.str) ∧ SqT K H pf (m.2.2.map V.str) := by
  obtain ⟨p, zs, rfl, hz, hd⟩ := Dp.tup_inv d
  obtain ⟨z1, r1, rfl, k1, hd⟩ := DpAll.cons_inv hd
  obtain ⟨z2, r2, rfl, k2, hd⟩ := DpAll.cons_inv hd
  obtain ⟨z3, r3, rfl, k3, hd⟩ := DpAll.cons_inv hd
  obtain rfl := DpAll.nil_inv hd
  obtain rfl := Dp.str_inv k1
  obtain ⟨po, rfl, ho⟩ := texts_of_dp k2
  obtain ⟨pf, rfl, hf⟩ := texts_of_dp k3
  exact ⟨p, po, pf, rfl, hz, ho, hf⟩
theorem cd_inv {v : V} {c : Cd} (d : Dp K H v (cdD c)) : ∃ p pl po pf, v = .ref p ∧ SqT K H p [.str c.n, .ref pl, .ref po, .ref pf, toV c.to] ∧ SqT K H pl (c.lets.map V.str) ∧ SqT K H po (c.on.map V.str) ∧ SqT K H pf (c.off.map V.str) := by
  obtain ⟨p, zs, rfl, hz, hd⟩ := Dp.tup_inv d
  obtain ⟨z1, r1, rfl, k1, hd⟩ := DpAll.cons_inv hd
  obtain ⟨z2, r2, rfl, k2, hd⟩ := DpAll.cons_inv hd
  obtain ⟨z3, r3, rfl, k3, hd⟩ := DpAll.cons_inv hd
  obtain ⟨z4, r4, rfl, k4, hd⟩ := DpAll.cons_inv hd
  obtain ⟨z5, r5, rfl, k5, hd⟩ := DpAll.cons_inv hd
  obtain rfl := DpAll.nil_inv hd
  obtain rfl := Dp.str_inv k1
  obtain ⟨pl, rfl, hl⟩ := texts_of_dp k2
  obtain ⟨po, rfl, ho⟩ := texts_of_dp k3
  obtain ⟨pf, rfl, hf⟩ := texts_of_dp k4
  obtain rfl := toV_of k5
  exact ⟨p, pl, po, pf, rfl, hz, hl, ho, hf⟩
theorem al_inv {v : V} {c : Al} (d : Dp K H v (alD c)) : ∃ p po pf, v = .ref p ∧ SqT K H p [.str c.n, .ref po, .ref pf, toV c.to] ∧ SqT K H po (c.on.map V.str) ∧ SqT K H pf (c.off.map V.str) := by
  obtain ⟨p, zs, rfl, hz, hd⟩ := Dp.tup_inv d
  obtain ⟨z1, r1, rfl, k1, hd⟩ := DpAll.cons_inv hd
  obtain ⟨z3, r3, rfl, k3, hd⟩ := DpAll.cons_inv hd
  obtain ⟨z4, r4, rfl, k4, hd⟩ := DpAll.cons_inv hd
  obtain ⟨z5, r5, rfl, k5, hd⟩ := DpAll.cons_inv hd
  obtain rfl := DpAll.nil_inv hd
  obtain rfl := Dp.str_inv k1
  obtain ⟨po, rfl, ho⟩ := texts_of_dp k3
  obtain ⟨pf, rfl, hf⟩ := texts_of_dp k4
  obtain rfl := toV_of k5
  exact ⟨p, po, pf, rfl, hz, ho, hf⟩
theorem rw_inv {v : V} {r : Rw} (d : Dp K H v (rwD r)) : ∃ p ps ss, v = .ref p ∧ SqT K H p [.str r.1, .ref ps] ∧ SqT K H ps ss ∧ DpAll K H ss (r.2.map stepD) := by
  obtain ⟨p, zs, rfl, hz, hd⟩ := Dp.tup_inv d
  obtain ⟨z1, r1, rfl, k1, hd⟩ := DpAll.cons_inv hd
  obtain ⟨z2, r2, rfl, k2, hd⟩ := DpAll.cons_inv hd
  obtain rfl := DpAll.nil_inv hd
  obtain rfl := Dp.str_inv k1
  obtain ⟨ps, ss, rfl, hs, hd⟩ := Dp.tup_inv k2
  exact ⟨p, ps, ss, rfl, hz, hs, hd⟩
theorem step_inv {v : V} {s : Nat × Str} (d : Dp K H v (stepD s)) : ∃ p, v = .ref p ∧ SqT K H p [.int (s.1 : Int), .str s.2] := by
  obtain ⟨p, zs, rfl, hz, hd⟩ := Dp.tup_inv d
  obtain ⟨z1, r1, rfl, k1, hd⟩ := DpAll.cons_inv hd
  obtain ⟨z2, r2, rfl, k2, hd⟩ := DpAll.cons_inv hd
  obtain rfl := DpAll.nil_inv hd
  obtain rfl := Dp.int_inv k1
  obtain rfl := Dp.str_inv k2
  exact ⟨p, rfl, hz⟩
/-- an item of data known by its place -/
theorem item_at {α : Type} (D : α → PyData) {vs : List V} {xs : List α} (all : DpAll K H vs (xs.map D)) {i : Nat} {u : V} (hu : vs[i]? = some u) : ∃ x, xs[i]? = some x ∧ x ∈ xs ∧ Dp K H u (D x) := by
  have hi : i < xs.length := by
    have := (List.getElem?_eq_some_iff.mp hu).1
    rw [dpa_len all, List.length_map] at this
    exact this
  have hx : xs[i]? = some xs[i] := List.getElem?_eq_getElem hi
  obtain ⟨y, hy, dy⟩ := dpa_at _ _ _ _ all (show (xs.map D)[i]? = some (D xs[i]) by rw [List.getElem?_map, hx]; rfl)
  rw [hu] at hy
  obtain rfl := Option.some.inj hy
  exact ⟨_, hx, List.getElem_mem hi, dy⟩
theorem named_of {α : Type} (D : α → PyData) (nm : α → Str) (hD : ∀ x, ∃ r, D x = .tuple (.str (nm x) :: r)) : ∀ {xs : List α} {vs : List V}, DpAll K H vs (xs.map D) → Named K H vs (xs.map nm)
  | [], _, h => by obtain rfl := DpAll.nil_inv h; exact .nil
  | x :: r, vs, h => by
    obtain ⟨v, vr, rfl, h1, h2⟩ := DpAll.cons_inv h
    obtain ⟨q, e⟩ := hD x
    rw [e] at h1
    obtain ⟨p, zs, rfl, hz, hd⟩ := Dp.tup_inv h1
    obtain ⟨z1, r1, rfl, k1, _⟩ := DpAll.cons_inv hd
    obtain rfl := Dp.str_inv k1
    exact .cons hz (named_of D nm hD h2)
theorem Named.ex {H1 : Hp} {vs : List V} {ns : List Str} (e : Ex H H1) (h : Named K H vs ns) : Named K H1 vs ns := by
  induction h with
  | nil => exact .nil
  | cons h _ ih => exact .cons (ex_t e h) ih
theorem Named.at {vs : List V} {ns : List Str} (h : Named K H vs ns) : ∀ {i : Nat} {v : V}, vs[i]? = some v → ∃ p n xs, ns[i]? = some n ∧ v = .ref p ∧ SqT K H p (.str n :: xs) := by
  induction h with
  | nil => intro i v hv; cases hv
  | cons h _ ih =>
    intro i v hv
    cases i with
    | zero => cases hv; exact ⟨_, _, _, rfl, rfl, h⟩
    | succ i => exact ih hv
theorem rv_isN0 {x : V} : RV (fun x y H Q => y = .non ∧ Q (.bl (decide (x = .non))) H) x .non H (.bl (decide (x = .non))) := fun H1 _ Q q => ⟨rfl, q H1 (Ex.refl H1)⟩
theorem rv_notN0 {x : V} : RV (fun x y H Q => y = .non ∧ Q (.bl (!decide (x = .non))) H) x .non H (.bl (!decide (x = .non))) := fun H1 _ Q q => ⟨rfl, q H1 (Ex.refl H1)⟩
/-- names taken apart from a tuple, an item of a loop -/
theorem g_t2 {g1 g2 : Nat} {p : Addr} {x y : V} {k : L2.St → Hp → Prop} (h : SqT K H p [x, y]) (q : k ((σ.set g1 (some x)).set g2 (some y)) H) : gTup K 2 (gCons (gName g1) (gCons (gName g2) gNil)) (.ref p) σ H k := ⟨p, _, rfl, h, rfl, _, _, rfl, _, _, rfl, rfl, q⟩
theorem g_t3 {g1 g2 g3 : Nat} {p : Addr} {x y z : V} {k : L2.St → Hp → Prop} (h : SqT K H p [x, y, z]) (q : k (((σ.set g1 (some x)).set g2 (some y)).set g3 (some z)) H) : gTup K 3 (gCons (gName g1) (gCons (gName g2) (gCons (gName g3) gNil))) (.ref p) σ H k := ⟨p, _, rfl, h, rfl, _, _, rfl, _, _, rfl, _, _, rfl, rfl, q⟩
theorem g_t4 {g1 g2 g3 g4 : Nat} {p : Addr} {x y z v : V} {k : L2.St → Hp → Prop} (h : SqT K H p [x, y, z, v]) (q : k ((((σ.set g1 (some x)).set g2 (some y)).set g3 (some z)).set g4 (some v)) H) : gTup K 4 (gCons (gName g1) (gCons (gName g2) (gCons (gName g3) (gCons (gName g4) gNil)))) (.ref p) σ H k := ⟨p, _, rfl, h, rfl, _, _, rfl, _, _, rfl, _, _, rfl, _, _, rfl, rfl, q⟩
theorem g_t5 {g1 g2 g3 g4 g5 : Nat} {p : Addr} {x y z v u : V} {k : L2.St → Hp → Prop} (h : SqT K H p [x, y, z, v, u]) (q : k (((((σ.set g1 (some x)).set g2 (some y)).set g3 (some z)).set g4 (some v)).set g5 (some u)) H) : gTup K 5 (gCons (gName g1) (gCons (gName g2) (gCons (gName g3) (gCons (gName g4) (gCons (gName g5) gNil))))) (.ref p) σ H k := ⟨p, _, rfl, h, rfl, _, _, rfl, _, _, rfl, _, _, rfl, _, _, rfl, _, _, rfl, rfl, q⟩
theorem isName_sz {x : Str} (h : isName x = true) : x.length ≤ sizeLine := by
  have := (isName_gt h).2
  rw [sizeLine_eq]; omega
theorem LotOk.nm {names l : List Str} (h : LotOk names l) : ∀ x ∈ l, isName x = true := fun x hx => by
  have := h.lot
  unfold isLot at this
  rw [Bool.and_eq_true] at this
  exact List.all_eq_true.mp this.1 x hx
/-! ### dicts by names -/
theorem putK_new {kvs : List (L2.Key × V)} {k : L2.Key} {v : V} (h : ∀ q ∈ kvs, q.1 ≠ k) : putK kvs k v = kvs ++ [(k, v)] := by
  unfold putK
  rw [if_neg]
  rw [List.any_eq_true]
  rintro ⟨q, hq, e⟩
  exact h q hq (of_decide_eq_true e)
def kvN (ns : List Str) (xs : List V) : List (L2.Key × V) := (ns.zip xs).map fun q => (.inr q.1, q.2)
theorem kvN_vals {ns : List Str} {xs : List V} (h : xs.length = ns.length) : (kvN ns xs).map (·.2) = xs := by
  unfold kvN
  rw [List.map_map]
  exact List.map_snd_zip (by omega)
/-- {part[0]: part for part in a list of named things} -/
theorem evG_dcN {tl : TE} {a : Addr} {xs : List V} {ns : List Str} {j : Nat} {vs : List Nat} (h : Ev tl σ H (.ref a)) (hx : SqL K H a xs) (hn : Named K H xs ns) (nd : ns.Nodup) (hz : xs.length ≤ 1000) (hw : ∀ x, wipe ((wipe σ vs).set j (some x)) vs = wipe σ vs) (hj : ∀ u, ((wipe σ vs).set j (some u))[j]? = some (some u)) :
    EvG (tDc (iList K tl) (gName j) tYes (tOp (rIxT K) (tVar j) (tC (.int 0))) (tVar j) vs) σ H (fun v H' => ∃ p, v = .ref p ∧ H p = none ∧ H' p = some (.dK (kvN ns xs))) := fun H0 e Q q =>
  h H0 e _ fun H1 e1 => ⟨a, rfl, ⟨xs, ex_l (e.trans e1) hx⟩, fun D nD => by
    have e01 := e.trans e1
    have ln := hn.len
    have zl : (ns.zip xs).length = xs.length := by rw [List.length_zip, ln, Nat.min_self]
    let Pv : Nat → Hp → Prop := fun i H' => Ex H1 H' ∧ H' D = some (.dK (((ns.zip xs).take i).map fun q => (.inr q.1, q.2)))
    refine ⟨fun i m H' => m = xs.length - i ∧ i ≤ xs.length ∧ Pv i H', ⟨xs.length, by omega, Nat.zero_le _, Ex.new nD, upd_same⟩, ?_⟩
    rintro i m H' ⟨rfl, hi, eH, hD⟩
    have hq := ex_l (e01.trans eH) hx
    by_cases hlt : i < xs.length
    · refine Or.inr ⟨⟨xs, xs[i], hq, List.getElem?_eq_getElem hlt⟩, Pv (i + 1), fun H'' p' => ⟨xs.length - (i + 1), by omega, rfl, hlt, p'⟩, ?_⟩
      rintro x H'' ⟨rfl, y⟩
      have hxi := y xs hq
      refine ⟨hw x, ?_⟩
      obtain ⟨p, n, r, h1, rfl, h2⟩ := hn.at hxi
      have key : Ev (tOp (rIxT K) (tVar j) (tC (.int 0))) ((wipe σ vs).set j (some (.ref p))) H'' (.str n) := ev_op (ev_var (hj _)) ev_c (rv_ixT (ex_t (e01.trans eH) h2) (atI_nat (j := 0) rfl))
      show (tOp (rIxT K) (tVar j) (tC (.int 0))) ((wipe σ vs).set j (some (.ref p))) H'' fun y H4 => (tVar j) ((wipe σ vs).set j (some (.ref p))) H4 fun z H5 => ∃ kvs k, y = kV k ∧ H5 D = some (.dK kvs) ∧ kvs.length < sizeLine ∧ Pv (i + 1) (upd H5 D (.dK (putK kvs k z)))
      refine key H'' (Ex.refl _) _ fun H4 e4 => (ev_var (hj _) : Ev (tVar j) _ H4 (.ref p)) H4 (Ex.refl _) _ fun H5 e5 => ?_
      have hz5 : (ns.zip xs)[i]? = some (n, V.ref p) := by rw [List.getElem?_zip_eq_some]; exact ⟨h1, hxi⟩
      refine ⟨_, .inr n, rfl, (e4.trans e5) _ _ hD, sz_lt (by rw [List.length_map, List.length_take]; omega), eH.trans (e4.trans e5) |>.mut nD, ?_⟩
      rw [upd_same, putK_new, List.take_succ, hz5, List.map_append]
      · rfl
      · rintro ⟨k, v⟩ hk ek
        obtain ⟨⟨n', v'⟩, hm, e'⟩ := List.mem_map.mp hk
        have e' : (Sum.inr n', v') = (k, v) := e'
        injection e' with e1' e2'
        have ek : k = .inr n := ek
        rw [← e1'] at ek
        injection ek with ek
        subst ek
        obtain ⟨t, ht, et⟩ := List.mem_iff_getElem.mp hm
        rw [List.length_take] at ht
        have et' : ((ns.zip xs).take i)[t]? = some (n', v') := by rw [List.getElem?_eq_getElem (by rw [List.length_take]; exact ht), et]
        rw [List.getElem?_take] at et'
        have hti : t < i := by omega
        rw [if_pos hti, List.getElem?_zip_eq_some] at et'
        have a1 := (List.getElem?_eq_some_iff.mp et'.1)
        have a2 := (List.getElem?_eq_some_iff.mp h1)
        have := (List.getElem_inj nd).mp (a1.2.trans a2.2.symm)
        omega
    · obtain rfl : i = xs.length := by omega
      refine Or.inl ⟨⟨xs, hq, Nat.le_refl _⟩, q _ H' (e1.trans eH) ⟨D, rfl, fresh_back (e.trans e1) nD, ?_⟩⟩
      rw [hD, List.take_of_length_le (by omega)]; rfl⟩
/-! ### what stays where instances and tables may change -/
def Kt (H H' : Hp) : Prop := ∀ o u, H o = some u → (∀ C dx fs, u ≠ .ins C dx fs) → (∀ ps, u ≠ .tbl ps) → H' o = some u
theorem Kt.refl (H : Hp) : Kt H H := fun _ _ h _ _ => h
theorem Kt.trans {H H1 H2 : Hp} (a : Kt H H1) (b : Kt H1 H2) : Kt H H2 := fun o u h n1 n2 => b o u (a o u h n1 n2) n1 n2
theorem Ex.kt {H H' : Hp} (e : Ex H H') : Kt H H' := fun o u h _ _ => e _ _ h
theorem kp_N {H H' : Hp} (e : ExtN H H') : Kt H H' := fun o u h _ n => e _ _ h n
theorem kp_ins {H : Hp} {B C dx : Addr} {fs : List (Str × V)} {o : HO} (h : H B = some (.ins C dx fs)) : Kt H (upd H B o) := fun b u hb n _ => by
  rw [upd_ne fun e => n C dx fs (by rw [e, h] at hb; exact (Option.some.inj hb).symm)]
  exact hb
theorem kp_new {H : Hp} {a : Addr} {o : HO} (h : H a = none) : Kt H (upd H a o) := fun b u hb _ _ => by
  rw [upd_ne fun e => by rw [e, h] at hb; cases hb]
  exact hb
theorem kp_t {H H' : Hp} {a : Addr} {xs : List V} (e : Kt H H') (h : SqT K H a xs) : SqT K H' a xs := by
  rcases h with (h | ⟨o, h⟩) | h
  · exact Or.inl (Or.inl (e _ _ h (fun _ _ _ z => by cases z) fun _ z => by cases z))
  · exact Or.inl (Or.inr ⟨o, e _ _ h (fun _ _ _ z => by cases z) fun _ z => by cases z⟩)
  · exact Or.inr h
theorem kp_l {H H' : Hp} {a : Addr} {xs : List V} (e : Kt H H') (h : SqL K H a xs) : SqL K H' a xs := by
  rcases h with (h | ⟨o, h⟩) | h
  · exact Or.inl (Or.inl (e _ _ h (fun _ _ _ z => by cases z) fun _ z => by cases z))
  · exact Or.inl (Or.inr ⟨o, e _ _ h (fun _ _ _ z => by cases z) fun _ z => by cases z⟩)
  · exact Or.inr h
mutual
theorem kp_d {H H' : Hp} (e : Kt H H') : ∀ {v : V} {d : PyData}, Dp K H v d → Dp K H' v d
  | _, _, .non => .non
  | _, _, .bl b => .bl b
  | _, _, .int i => .int i
  | _, _, .str x => .str x
  | _, _, .lst hs ha => .lst (kp_l e hs) (kp_a e ha)
  | _, _, .tup hs ha => .tup (kp_t e hs) (kp_a e ha)
theorem kp_a {H H' : Hp} (e : Kt H H') : ∀ {vs : List V} {ds : List PyData}, DpAll K H vs ds → DpAll K H' vs ds
  | _, _, .nil => .nil
  | _, _, .cons a b => .cons (kp_d e a) (kp_a e b)
end
theorem kp_n {H H' : Hp} (e : Kt H H') {vs : List V} {ns : List Str} (h : Named K H vs ns) : Named K H' vs ns := by
  induction h with
  | nil => exact .nil
  | cons h _ ih => exact .cons (kp_t e h) ih
/-- self.f = e -/
theorem q_fldG {H : Hp} {te ta : TE} {D : Ends} {tz : TS} {B C dx : Addr} {f : Str} {fs : List (Str × V)} {P : V → Hp → Prop} (hB : H B = some (.ins C dx fs)) (ha : ∀ H1, Ev ta σ H1 (.ref B)) (h : EvG te σ H P) (m : Mono P) (cl : Cls K C) (n : NoAttr K C f) (l : fs.length < 1000) (k : ∀ v H1, Ex H H1 → P v H1 → tz D σ (upd H1 B (.ins C dx (putF f v fs)))) :
    tSeq (sFld K ta te f) tz D σ H := h H (Ex.refl H) _ fun v H1 e1 pv => (ha H1) H1 (Ex.refl _) _ fun H2 e2 => ⟨B, C, dx, fs, rfl, (e1.trans e2) _ _ hB, cl, n, l, k v H2 (e1.trans e2) (m _ _ _ e2 pv)⟩
/-- the items in their order, by data -/
theorem byName_dpa {α : Type} (D : α → PyData) (nm : α → Str) {H : Hp} {vs : List V} {xs : List α} (all : DpAll K H vs (xs.map D)) : DpAll K H (byName vs (xs.map nm)) ((xs.mergeSort (PySem.W.dataLe false fun x => .str (nm x))).map D) := by
  have len : vs.length = xs.length := by rw [dpa_len all, List.length_map]
  have e1 : vs.zip (xs.map nm) = (vs.zip xs).map fun p => (p.1, nm p.2) := by rw [List.zip_map_right]; rfl
  have e2 : ((vs.zip xs).mergeSort (PySem.W.dataLe false fun p : V × α => .str (nm p.2))).map (fun p => (p.1, nm p.2)) = ((vs.zip xs).map fun p => (p.1, nm p.2)).mergeSort (PySem.W.dataLe false fun p : V × Str => .str p.2) := List.map_mergeSort fun _ _ _ _ => rfl
  have e3 : ((vs.zip xs).mergeSort (PySem.W.dataLe false fun p : V × α => .str (nm p.2))).map (fun p => p.2) = ((vs.zip xs).map fun p => p.2).mergeSort (PySem.W.dataLe false fun x => .str (nm x)) := List.map_mergeSort fun _ _ _ _ => rfl
  have e4 : (vs.zip xs).map (fun p => p.2) = xs := List.map_snd_zip (by omega)
  unfold byName
  rw [e1, ← e2, List.map_map]
  rw [e4] at e3
  rw [← e3, List.map_map]
  have each : ∀ p ∈ (vs.zip xs).mergeSort (PySem.W.dataLe false fun p : V × α => .str (nm p.2)), Dp K H p.1 (D p.2) := fun p hp => by
    have hp := (List.mergeSort_perm _ _).mem_iff.mp hp
    obtain ⟨i, hi⟩ := List.mem_iff_getElem?.mp hp
    rw [List.getElem?_zip_eq_some] at hi
    obtain ⟨v, hv, dv⟩ := dpa_at _ _ i (D p.2) all (by rw [List.getElem?_map, hi.2]; rfl)
    rw [hi.1] at hv
    obtain rfl := Option.some.inj hv
    exact dv
  generalize (vs.zip xs).mergeSort (PySem.W.dataLe false fun p : V × α => .str (nm p.2)) = w at each
  induction w with
  | nil => exact .nil
  | cons p r ih => exact .cons (each p List.mem_cons_self) (ih fun q hq => each q (List.mem_cons_of_mem _ hq))
/-! ### a made book -/
def partsK (m c a r : Addr) : List (L2.Key × V) := [(.inr (Str.ofString "mode"), .ref m), (.inr (Str.ofString "command"), .ref c), (.inr (Str.ofString "alarm"), .ref a), (.inr (Str.ofString "row"), .ref r)]
theorem merge_parts (m c a r : Addr) : mergeK [] (partsK m c a r) = partsK m c a r := by
  have n1 : ¬ (Str.ofString "mode") = Str.ofString "command" := by decide +kernel
  have n2 : ¬ (Str.ofString "mode") = Str.ofString "alarm" := by decide +kernel
  have n3 : ¬ (Str.ofString "mode") = Str.ofString "row" := by decide +kernel
  have n4 : ¬ (Str.ofString "command") = Str.ofString "alarm" := by decide +kernel
  have n5 : ¬ (Str.ofString "command") = Str.ofString "row" := by decide +kernel
  have n6 : ¬ (Str.ofString "alarm") = Str.ofString "row" := by decide +kernel
  have i : ∀ x y : Str, ¬ x = y → (Sum.inr x : L2.Key) ≠ .inr y := fun x y h e => h (Sum.inr.inj e)
  have s1 : putK ([] : List (L2.Key × V)) (.inr (Str.ofString "mode")) (.ref m) = [(.inr (Str.ofString "mode"), .ref m)] := putK_new fun _ h => nomatch h
  have s2 : putK [(.inr (Str.ofString "mode"), .ref m)] (.inr (Str.ofString "command")) (.ref c) = ([(.inr (Str.ofString "mode"), .ref m), (.inr (Str.ofString "command"), .ref c)] : List (L2.Key × V)) := putK_new fun q hq => by
    rw [List.mem_singleton.mp hq]; exact i _ _ n1
  have s3 : putK [(.inr (Str.ofString "mode"), .ref m), (.inr (Str.ofString "command"), .ref c)] (.inr (Str.ofString "alarm")) (.ref a) = ([(.inr (Str.ofString "mode"), .ref m), (.inr (Str.ofString "command"), .ref c), (.inr (Str.ofString "alarm"), .ref a)] : List (L2.Key × V)) := putK_new fun q hq => by
    rcases List.mem_cons.mp hq with rfl | hq
    · exact i _ _ n2
    · rw [List.mem_singleton.mp hq]; exact i _ _ n4
  have s4 : putK [(.inr (Str.ofString "mode"), .ref m), (.inr (Str.ofString "command"), .ref c), (.inr (Str.ofString "alarm"), .ref a)] (.inr (Str.ofString "row")) (.ref r) = partsK m c a r := putK_new fun q hq => by
    rcases List.mem_cons.mp hq with rfl | hq
    · exact i _ _ n3
    rcases List.mem_cons.mp hq with rfl | hq
    · exact i _ _ n5
    · rw [List.mem_singleton.mp hq]; exact i _ _ n6
  show putK (putK (putK (putK ([] : List (L2.Key × V)) (.inr (Str.ofString "mode")) (.ref m)) (.inr (Str.ofString "command")) (.ref c)) (.inr (Str.ofString "alarm")) (.ref a)) (.inr (Str.ofString "row")) (.ref r) = _
  rw [s1, s2, s3, s4]
theorem parts_c (m c a r : Addr) : valV (partsK m c a r) (.inr (Str.ofString "command")) = some (.ref c) := by
  have n1 : ¬ (Str.ofString "mode") = Str.ofString "command" := by decide +kernel
  unfold partsK
  rw [valV_neg (fun e => n1 (Sum.inr.inj e)), valV_pos rfl]
theorem parts_m (m c a r : Addr) : valV (partsK m c a r) (.inr (Str.ofString "mode")) = some (.ref m) := by
  unfold partsK
  rw [valV_pos rfl]
theorem parts_a (m c a r : Addr) : valV (partsK m c a r) (.inr (Str.ofString "alarm")) = some (.ref a) := by
  have n2 : ¬ (Str.ofString "mode") = Str.ofString "alarm" := by decide +kernel
  have n4 : ¬ (Str.ofString "command") = Str.ofString "alarm" := by decide +kernel
  unfold partsK
  rw [valV_neg (fun e => n2 (Sum.inr.inj e)), valV_neg (fun e => n4 (Sum.inr.inj e)), valV_pos rfl]
theorem parts_r (m c a r : Addr) : valV (partsK m c a r) (.inr (Str.ofString "row")) = some (.ref r) := by
  have n3 : ¬ (Str.ofString "mode") = Str.ofString "row" := by decide +kernel
  have n5 : ¬ (Str.ofString "command") = Str.ofString "row" := by decide +kernel
  have n6 : ¬ (Str.ofString "alarm") = Str.ofString "row" := by decide +kernel
  unfold partsK
  rw [valV_neg (fun e => n3 (Sum.inr.inj e)), valV_neg (fun e => n5 (Sum.inr.inj e)), valV_neg (fun e => n6 (Sum.inr.inj e)), valV_pos rfl]
theorem evG_disp4 {t1 t2 t3 t4 : TE} {d1 d2 d3 d4 : List (L2.Key × V)} (h1 : ∀ G, Ex H G → EvG t1 σ G (fun v H' => ∃ p, v = .ref p ∧ G p = none ∧ H' p = some (.dK d1))) (h2 : ∀ G, Ex H G → EvG t2 σ G (fun v H' => ∃ p, v = .ref p ∧ G p = none ∧ H' p = some (.dK d2)))
    (h3 : ∀ G, Ex H G → EvG t3 σ G (fun v H' => ∃ p, v = .ref p ∧ G p = none ∧ H' p = some (.dK d3))) (h4 : ∀ G, Ex H G → EvG t4 σ G (fun v H' => ∃ p, v = .ref p ∧ G p = none ∧ H' p = some (.dK d4))) :
    EvG (tDisp [(tC (.str (Str.ofString "mode")), t1), (tC (.str (Str.ofString "command")), t2), (tC (.str (Str.ofString "alarm")), t3), (tC (.str (Str.ofString "row")), t4)]) σ H (fun v H' => ∃ pd p1 p2 p3 p4, v = .ref pd ∧ H' pd = some (.dK (partsK p1 p2 p3 p4)) ∧ H' p1 = some (.dK d1) ∧ H' p2 = some (.dK d2) ∧ H' p3 = some (.dK d3) ∧ H' p4 = some (.dK d4)) := fun H1 e Q q pd np => by
  have e0 : Ex H1 (upd H1 pd (.dK [])) := Ex.new np
  have at0 : upd H1 pd (.dK []) pd = some (.dK []) := upd_same
  generalize upd H1 pd (.dK []) = G0 at e0 at0
  have ne : ∀ {G : Hp} {p : Addr}, G pd = some (.dK []) → G p = none → p ≠ pd := fun h n z => by rw [z, h] at n; cases n
  refine h1 G0 (e.trans e0) G0 (Ex.refl _) _ fun v1 G1 g1 ⟨p1, hv1, n1, hp1⟩ => ?_
  refine h2 G1 ((e.trans e0).trans g1) G1 (Ex.refl _) _ fun v2 G2 g2 ⟨p2, hv2, n2, hp2⟩ => ?_
  refine h3 G2 (((e.trans e0).trans g1).trans g2) G2 (Ex.refl _) _ fun v3 G3 g3 ⟨p3, hv3, n3, hp3⟩ => ?_
  refine h4 G3 ((((e.trans e0).trans g1).trans g2).trans g3) G3 (Ex.refl _) _ fun v4 G4 g4 ⟨p4, hv4, n4, hp4⟩ => ?_
  subst hv1 hv2 hv3 hv4
  have a1 := g1 _ _ at0
  have a2 := g2 _ _ a1
  have a3 := g3 _ _ a2
  refine ⟨g4 _ _ a3, partsK p1 p2 p3 p4, rfl, by show 4 ≤ 15; decide, ?_⟩
  rw [merge_parts]
  exact q _ _ (Ex.mut ((((e0.trans g1).trans g2).trans g3).trans g4) np) ⟨pd, p1, p2, p3, p4, rfl, upd_same, by rw [upd_ne (ne at0 n1)]; exact ((g2.trans g3).trans g4) _ _ hp1, by rw [upd_ne (ne a1 n2)]; exact (g3.trans g4) _ _ hp2, by rw [upd_ne (ne a2 n3)]; exact g4 _ _ hp3, by rw [upd_ne (ne a3 n4)]; exact hp4⟩
/-- the commands in the order of their names -/
def Pb.sc (p : Pb) : List Cd := p.cmds.mergeSort (PySem.W.dataLe false fun c => .str c.n)
structure BkL (K : PySem.W.Frag) (H : Hp) (B C dx : Addr) (fs : List (Str × V)) (hl bl pd dm dc da dr : Addr) (bs ms cs as rs : List V) (p : Pb) : Prop where
  ins : H B = some (.ins C dx fs)
  fh : fs.lookup (Str.ofString "_holds") = some (.ref hl)
  fb : fs.lookup (Str.ofString "_barred") = some (.ref bl)
  fp : fs.lookup (Str.ofString "_parts") = some (.ref pd)
  fq : fs.lookup (Str.ofString "_quiet") = some (lmV p.quiet)
  holds : ∃ ys : List Str, H hl = some (.lst (ys.map V.str)) ∧ ys.Perm p.holds ∧ sortedS ys = true
  barred : H bl = some (.lst ((byTexts bs p.barred).map (·.1))) ∧ DpAll K H bs (p.barred.map tD)
  parts : H pd = some (.dK (partsK dm dc da dr))
  m : H dm = some (.dK (kvN p.mn ms)) ∧ DpAll K H ms (p.modes.map mdD)
  c : H dc = some (.dK (kvN (p.sc.map Cd.n) cs)) ∧ DpAll K H cs (p.sc.map cdD)
  a : H da = some (.dK (kvN p.an as)) ∧ DpAll K H as (p.als.map alD)
  r : H dr = some (.dK (kvN p.rn rs)) ∧ DpAll K H rs (p.rows.map rwD)
  no : ∀ m, m ≠ Str.ofString "_holds" → m ≠ Str.ofString "_barred" → m ≠ Str.ofString "_parts" → m ≠ Str.ofString "_quiet" → fs.lookup m = none
def BkAt (K : PySem.W.Frag) (H : Hp) (B C : Addr) (p : Pb) : Prop := ∃ dx fs hl bl pd dm dc da dr bs ms cs as rs, BkL K H B C dx fs hl bl pd dm dc da dr bs ms cs as rs p
theorem BkAt.ex {H H' : Hp} {B C : Addr} {p : Pb} (e : Ex H H') (h : BkAt K H B C p) : BkAt K H' B C p := by
  obtain ⟨dx, fs, hl, bl, pd, dm, dc, da, dr, bs, ms, cs, as, rs, h⟩ := h
  exact ⟨dx, fs, hl, bl, pd, dm, dc, da, dr, bs, ms, cs, as, rs, e _ _ h.ins, h.fh, h.fb, h.fp, h.fq, (by obtain ⟨ys, a, b⟩ := h.holds; exact ⟨ys, e _ _ a, b⟩), ⟨e _ _ h.barred.1, dpa_ex e h.barred.2⟩, e _ _ h.parts, ⟨e _ _ h.m.1, dpa_ex e h.m.2⟩, ⟨e _ _ h.c.1, dpa_ex e h.c.2⟩, ⟨e _ _ h.a.1, dpa_ex e h.a.2⟩, ⟨e _ _ h.r.1, dpa_ex e h.r.2⟩, h.no⟩
theorem noLs_mapB {α : Type} (D : α → PyData) (h : ∀ x, noL (D x) = true) : ∀ xs : List α, noLs (xs.map D) = true
  | [] => rfl
  | x :: r => by rw [List.map_cons, noLs, h x, noLs_mapB D h r]; rfl
theorem noL_tDB (xs : List Str) : noL (tD xs) = true := by
  unfold tD
  rw [noL]
  exact noTexts xs
/-- a book whose lists of holds and of barred lots are none of S -/
def BkOff (K : PySem.W.Frag) (H : Hp) (B C : Addr) (p : Pb) (S : Addr → Prop) : Prop := ∃ dx fs hl bl pd dm dc da dr bs ms cs as rs, BkL K H B C dx fs hl bl pd dm dc da dr bs ms cs as rs p ∧ ¬ S hl ∧ ¬ S bl
theorem BkOff.at {H : Hp} {B C : Addr} {p : Pb} {S : Addr → Prop} (h : BkOff K H B C p S) : BkAt K H B C p := by
  obtain ⟨dx, fs, hl, bl, pd, dm, dc, da, dr, bs, ms, cs, as, rs, h, _⟩ := h
  exact ⟨dx, fs, hl, bl, pd, dm, dc, da, dr, bs, ms, cs, as, rs, h⟩
theorem BkOff.ex {H H' : Hp} {B C : Addr} {p : Pb} {S : Addr → Prop} (e : Ex H H') (h : BkOff K H B C p S) : BkOff K H' B C p S := by
  obtain ⟨dx, fs, hl, bl, pd, dm, dc, da, dr, bs, ms, cs, as, rs, h, n⟩ := h
  exact ⟨dx, fs, hl, bl, pd, dm, dc, da, dr, bs, ms, cs, as, rs, ⟨e _ _ h.ins, h.fh, h.fb, h.fp, h.fq, (by obtain ⟨ys, a, b⟩ := h.holds; exact ⟨ys, e _ _ a, b⟩), ⟨e _ _ h.barred.1, dpa_ex e h.barred.2⟩, e _ _ h.parts, ⟨e _ _ h.m.1, dpa_ex e h.m.2⟩, ⟨e _ _ h.c.1, dpa_ex e h.c.2⟩, ⟨e _ _ h.a.1, dpa_ex e h.a.2⟩, ⟨e _ _ h.r.1, dpa_ex e h.r.2⟩, h.no⟩, n⟩
/-- a list of S may change -/
theorem BkOff.mut {H : Hp} {B C l : Addr} {p : Pb} {S : Addr → Prop} {xs : List V} {o : HO} (h : BkOff K H B C p S) (hl : H l = some (.lst xs)) (sl : S l) : BkOff K (upd H l o) B C p S := by
  obtain ⟨dx, fs, hh, bl, pd, dm, dc, da, dr, bs, ms, cs, as, rs, h, n1, n2⟩ := h
  have ne : ∀ {b : Addr} {u : HO}, H b = some u → (∀ ys, u ≠ .lst ys) → upd H l o b = some u := fun {b u} hb n => by
    rw [upd_ne fun e => n xs (by rw [e, hl] at hb; exact (Option.some.inj hb).symm)]; exact hb
  have nd : ∀ {α : Type} (D : α → PyData) (hD : ∀ x, noL (D x) = true) {vs : List V} {zs : List α}, DpAll K H vs (zs.map D) → DpAll K (upd H l o) vs (zs.map D) := fun {α} D hD {vs zs} d => dpa_mut hl (noLs_mapB D hD zs) d
  refine ⟨dx, fs, hh, bl, pd, dm, dc, da, dr, bs, ms, cs, as, rs, ⟨ne h.ins (fun _ z => by cases z), h.fh, h.fb, h.fp, h.fq, ?_, ⟨?_, nd tD noL_tDB h.barred.2⟩, ne h.parts (fun _ z => by cases z), ⟨ne h.m.1 (fun _ z => by cases z), nd mdD (fun m => by simp [mdD, noL, noLs, noL_tDB]) h.m.2⟩, ⟨ne h.c.1 (fun _ z => by cases z), nd cdD (fun c => by rcases c with ⟨_, _, _, _, _ | _⟩ <;> simp [cdD, oD, noL, noLs, noL_tDB]) h.c.2⟩, ⟨ne h.a.1 (fun _ z => by cases z), nd alD (fun c => by rcases c with ⟨_, _, _, _ | _⟩ <;> simp [alD, oD, noL, noLs, noL_tDB]) h.a.2⟩, ⟨ne h.r.1 (fun _ z => by cases z), nd rwD (fun r => by simp only [rwD, noL, noLs, Bool.and_true, Bool.true_and]; exact noLs_mapB stepD (fun _ => by simp [stepD, noL, noLs]) r.2) h.r.2⟩, h.no⟩, n1, n2⟩
  · obtain ⟨ys, a, b⟩ := h.holds
    exact ⟨ys, by rw [upd_ne fun e => n1 (by rw [e]; exact sl)]; exact a, b⟩
  · rw [upd_ne fun e => n2 (by rw [e]; exact sl)]; exact h.barred.1
/-! ### sets of tuples of texts -/
def txK (ws : List Str) : NestedKey := .tup (ws.map .text)
theorem datas_txK : ∀ ws : List Str, NestedKey.datas (ws.map .text) = ws.map PyData.str
  | [] => rfl
  | x :: r => by
    rw [List.map_cons, NestedKey.datas, datas_txK r, NestedKey.data]; rfl
theorem depth_txK : ∀ ws : List Str, NestedKey.depthAll (ws.map .text) = 0
  | [] => rfl
  | x :: r => by
    rw [List.map_cons, NestedKey.depthAll, depth_txK r, NestedKey.depth]; rfl
theorem txK_data (ws : List Str) : (txK ws).data = tD ws := by
  rw [txK, NestedKey.data, datas_txK]; rfl
theorem txK_depth (ws : List Str) : (txK ws).depth ≤ 8 := by
  rw [txK, NestedKey.depth, depth_txK]; decide
theorem txK_inj : ∀ {xs ys : List Str}, txK xs = txK ys → xs = ys := fun {xs ys} h => by
  unfold txK at h
  injection h with h
  induction xs generalizing ys with
  | nil => cases ys with
    | nil => rfl
    | cons y r => cases h
  | cons x xs ih => cases ys with
    | nil => cases h
    | cons y ys =>
      rw [List.map_cons, List.map_cons] at h
      injection h with h1 h2
      injection h1 with h1
      rw [h1, ih h2]
theorem refs_of {vs : List V} {ts : List (List Str)} (h : DpAll K H vs (ts.map tD)) : ∃ as : List Addr, as.length = ts.length ∧ vs = as.map V.ref := by
  induction ts generalizing vs with
  | nil => obtain rfl := DpAll.nil_inv h; exact ⟨[], rfl, rfl⟩
  | cons t r ih =>
    obtain ⟨v, vr, rfl, h1, h2⟩ := DpAll.cons_inv h
    obtain ⟨a, rfl, _⟩ := texts_of_dp h1
    obtain ⟨as, l, rfl⟩ := ih h2
    exact ⟨a :: as, by rw [List.length_cons, List.length_cons, l], rfl⟩
end
section
variable {X : Cx} {σ : L2.St} {H : Hp} {ta : TE}
theorem ev_lenTT {a : Addr} {vs : List V} {ts : List (List Str)} (ha : Ev ta σ H (.ref a)) (hs : SqL X.K H a vs) (hd : DpAll X.K H vs (ts.map tD)) (nd : ts.Nodup) (few : ts.length < 64) : Ev (tCB (rLenK X) (tCons (tCB (rSetK X) (tCons ta tNil)) tNil)) σ H (.int (ts.length : Int)) := by
  obtain ⟨as, la, rfl⟩ := refs_of hd
  have lz : (as.zip ts).length = ts.length := by rw [List.length_zip, la, Nat.min_self]
  refine ev_lenK (n := ts.length) (ks := (as.zip ts).map fun p => (p.1, txK p.2)) ha ?_ (fun p hp => ?_) (by rw [List.length_map, lz]; exact few) fun zs nz mz => ?_
  · rw [List.map_map]
    have : ((as.zip ts).map ((fun p : Addr × NestedKey => V.ref p.1) ∘ fun p => (p.1, txK p.2))) = ((as.zip ts).map fun p => p.1).map V.ref := by rw [List.map_map]; rfl
    rw [this, List.map_fst_zip (by omega)]
    exact hs
  · obtain ⟨⟨b, t⟩, hq, rfl⟩ := List.mem_map.mp hp
    obtain ⟨i, hi⟩ := List.mem_iff_getElem?.mp hq
    rw [List.getElem?_zip_eq_some] at hi
    obtain ⟨v, hv, dv⟩ := dpa_at _ _ i (tD t) hd (by rw [List.getElem?_map, hi.2]; rfl)
    rw [List.getElem?_map, hi.1] at hv
    obtain rfl : V.ref b = v := Option.some.inj hv
    refine ⟨?_, txK_depth _⟩
    show Dp _ H (.ref b) (txK t).data
    rw [txK_data]
    exact dv
  · have e : ((as.zip ts).map fun p => (p.1, txK p.2)).map (·.2) = ts.map txK := by
      rw [List.map_map]
      have : ((as.zip ts).map ((fun p : Addr × NestedKey => p.2) ∘ fun p => (p.1, txK p.2))) = ((as.zip ts).map fun p => p.2).map txK := by rw [List.map_map]; rfl
      rw [this, List.map_snd_zip (by omega)]
    rw [e] at mz
    exact same_many txK ts zs nd nz (fun _ _ _ _ h => txK_inj h) fun y => ⟨fun h => List.mem_map.mp ((mz y).mp h), fun h => (mz y).mpr (List.mem_map.mpr h)⟩
end
/-! ### a method whose code object is known -/
section
variable {P : Program} {w : World} {K : PySem.W.Frag} {mg : Str → Option Value} {base : Heap}
def AtMC (K : PySem.W.Frag) (C : Addr) (m qual : Str) (st : Stmt) (c : Addr) : Prop := ∃ (f : Addr) (oc : Value) (od : Option Addr) (kV doc pm : Value) (an : Option Addr) (ct : Value) (osl : Array (Option Value)),
  K.lookup f = some ⟨oc, od, .func (PySem.W.fnOf m qual (defArgs st) (defBody st) (defScope st) .none kV doc pm an (.ref c) ct), osl⟩ ∧ PySem.W.codeIn K (.ref c) qual = true ∧ PySem.W.keepIn K (.ref f) = true ∧ Meth K C m f
theorem mdf_okC {C c : Addr} {m qual : Str} {st : Stmt} {N ps : List Str} {k : Nat} {sp : Sp} (A : AtMC K C m qual st c) (S : FnScope N ps (defScope st))
    (hb : ∀ (kV doc pm : Value) (an : Option Addr) (cdv ct : Value) (us : List Value), us.length = ps.length → bindArgs (PySem.W.fnOf m qual (defArgs st) (defBody st) (defScope st) .none kV doc pm an cdv ct) ⟨us, []⟩ = pure (ps.zip us))
    (len : ∀ vs H Q E, sp vs H Q E → vs.length = ps.length)
    (hbody : ∀ (f : Addr) (A : Around) (outer : List Env) (s : Shared) (H : Hp) (vs : List V) (Q : VK) (E : XK), Room k (A.deeper (envOfC qual (defScope st) s.heap.objs.size f (.ref c))) → sp vs H Q E →
      ∃ t, PSs (cxOf CX0 P w K mg base N qual (defScope st) f (.ref c) A outer s H E).nox (defBody st) t ∧ t { nx := fun _ H' => Q .non H', rt := Q } (start N vs) H) : Mdf P w K mg base CX0 (k + 1) C m ps sp := by
  obtain ⟨f, oc, od, kV, doc, pm, an, ct, osl, lk, hc, hk, hm⟩ := A
  have F : Fun K m qual st f _ := fun_mk (st := st) lk hc hk
  refine ⟨f, _, fn_of lk hc S len fun A outer s H vs Q E hr hsp => ?_, hm, F.binds hb⟩
  obtain ⟨t, h, q⟩ := hbody f A outer s H vs Q E hr hsp
  exact ⟨t, h.nox, q⟩
end
/-! ### the maker's heap -/
section
variable {K : PySem.W.Frag} {σ : L2.St} {H : Hp} {te ta : TE} {D : Ends} {tz : TS}
def KtB (B : Addr) (H H' : Hp) : Prop := ∀ o u, o ≠ B → H o = some u → (∀ ps, u ≠ .tbl ps) → H' o = some u
theorem KtB.trans {B : Addr} {H H1 H2 : Hp} (a : KtB B H H1) (b : KtB B H1 H2) : KtB B H H2 := fun o u n h t => b o u n (a o u n h t) t
theorem ktB_e {B : Addr} {H H' : Hp} (e : Ex H H') : KtB B H H' := fun o u _ h _ => e _ _ h
theorem ktB_n {B : Addr} {H H' : Hp} (e : ExtN H H') : KtB B H H' := fun o u _ h t => e _ _ h t
theorem ktB_u {B : Addr} {H : Hp} {o : HO} : KtB B H (upd H B o) := fun b u n h _ => by rw [upd_ne n]; exact h
theorem ktB_kt {B C dx : Addr} {fs : List (Str × V)} {H H' : Hp} (hB : H B = some (.ins C dx fs)) (k : KtB B H H') : Kt H H' := fun o u h n t => k o u (fun e => n C dx fs (by rw [e, hB] at h; exact (Option.some.inj h).symm)) h t
theorem putF_len (f : Str) (v : V) : ∀ fs : List (Str × V), (putF f v fs).length ≤ fs.length + 1
  | [] => Nat.le_refl _
  | (g, x) :: r => by
    unfold putF
    split
    · exact Nat.le_succ _
    · exact Nat.succ_le_succ (putF_len f v r)
theorem s_fldG {H : Hp} {B C dx : Addr} {f : Str} {fs : List (Str × V)} {P : V → Hp → Prop} (hB : H B = some (.ins C dx fs)) (ha : ∀ H1, Ev ta σ H1 (.ref B)) (h : EvG te σ H P) (m : Mono P) (cl : Cls K C) (n : NoAttr K C f) (l : fs.length < 1000) (k : ∀ v H1, Ex H H1 → P v H1 → D.nx σ (upd H1 B (.ins C dx (putF f v fs)))) :
    sFld K ta te f D σ H := h H (Ex.refl H) _ fun v H1 e1 pv => (ha H1) H1 (Ex.refl _) _ fun H2 e2 => ⟨B, C, dx, fs, rfl, (e1.trans e2) _ _ hB, cl, n, l, k v H2 (e1.trans e2) (m _ _ _ e2 pv)⟩
theorem evG_sortedA {a : Addr} {xs : List Str} (h : Ev ta σ H (.ref a)) (hs : SqL K H a (xs.map V.str)) (hz : xs.length < 64) : EvG (tCB (rSortedS K) (tCons ta tNil)) σ H (fun v H' => ∃ p ys, v = .ref p ∧ H p = none ∧ H' p = some (.lst ((ys : List Str).map V.str)) ∧ ys.Perm xs ∧ sortedS ys = true) := fun H1 e Q q =>
  h H1 e _ fun H2 e2 => ⟨a, xs, rfl, ex_l (e.trans e2) hs, hz, fun ys p pm so np => q _ _ (e2.trans (Ex.new np)) ⟨p, ys, rfl, fresh_back (e.trans e2) np, upd_same, pm, so⟩⟩
theorem evG_sortedTT {a : Addr} {vs : List V} {ts : List (List Str)} (h : Ev ta σ H (.ref a)) (hs : SqL K H a vs) (hd : DpAll K H vs (ts.map tD)) (ne : ∀ t ∈ ts, t ≠ []) : EvG (tCB (rSortedTT K) (tCons ta tNil)) σ H (fun v H' => ∃ p, v = .ref p ∧ H p = none ∧ H' p = some (.lst ((byTexts vs ts).map (·.1)))) := fun H1 e Q q =>
  h H1 e _ fun H2 e2 => ⟨a, vs, ts, rfl, ex_l (e.trans e2) hs, dpa_ex (e.trans e2) hd, ne, fun p np => q _ _ (e2.trans (Ex.new np)) ⟨p, rfl, fresh_back (e.trans e2) np, upd_same⟩⟩
def lamQ : Str := (("Book.__init__" : Str) ++ (".<locals>." : Str)) ++ ("<lambda>" : Str)
def spInit (K : PySem.W.Frag) (C TA_ : Addr) : Sp := fun vs H Q _ => ∃ (B dx : Addr) (hv mv bv cv av rv : V) (p : Pb), vs = [.ref B, hv, mv, bv, cv, av, rv, lmV p.quiet] ∧ H B = some (.ins C dx []) ∧ Dp K H hv (.list (p.holds.map .str)) ∧ Dp K H mv (.list (p.modes.map mdD)) ∧ Dp K H bv (.list (p.barred.map tD)) ∧ Dp K H cv (.list (p.cmds.map cdD)) ∧ Dp K H av (.list (p.als.map alD)) ∧ Dp K H rv (.list (p.rows.map rwD)) ∧ PbOk p ∧ Tabs [(TA_, lamQ)] H ∧
  ∀ H', KtB B H H' → Tabs [(TA_, lamQ)] H' → BkOff K H' B C p (fun o => ∃ xs, H o = some (.lst xs)) → Q .non H'
theorem tabs_ex {T : List (Addr × Str)} {H H' : Hp} (t : Tabs T H) (e : Ex H H') : Tabs T H' := t.ext e
theorem tabs_u {T : List (Addr × Str)} {H : Hp} {B C dx : Addr} {fs : List (Str × V)} {o : HO} (t : Tabs T H) (hB : H B = some (.ins C dx fs)) : Tabs T (upd H B o) := fun p hp => by
  obtain ⟨ps, h1, h2, h3⟩ := t p hp
  have ne : ∀ b u, H b = some u → (∀ C dx fs, u ≠ .ins C dx fs) → upd H B o b = some u := fun b u hb n => by
    rw [upd_ne fun e => n C dx fs (by rw [e, hB] at hb; exact (Option.some.inj hb).symm)]; exact hb
  refine ⟨ps, ne _ _ h1 (fun _ _ _ z => by cases z), h2, fun pos cv hc => ?_⟩
  obtain ⟨c, e1, e2⟩ := h3 pos cv hc
  exact ⟨c, e1, ne _ _ e2 (fun _ _ _ z => by unfold CodeO at z; cases z)⟩
/-- names = sorted(things, key=lambda thing: thing[0]) -/
theorem q_sortLam {T : List (Addr × Str)} {i : Nat} {a : Addr} {vs : List V} {ns : List Str} (h : Ev ta σ H (.ref a)) (hs : SqL K H a vs) (hn : Named K H vs ns) (hT : Tabs T H) (k : ∀ H2 l, ExtN H H2 → Tabs T H2 → H2 l = none → tz D (σ.set i (some (.ref l))) (upd H2 l (.lst (byName vs ns)))) :
    tSeq (tAsg (tSortLam K T (tCons ta tNil)) (gName i)) tz D σ H := (ea_cons h ea_nil : EvA (tCons ta tNil) σ H [.ref a]) H (Ex.refl _) (fun xs H1 => ∃ a vs ns, xs = [.ref a] ∧ SqL K H1 a vs ∧ Named K H1 vs ns ∧ Tabs T H1 ∧ ∀ H2 l, ExtN H1 H2 → Tabs T H2 → H2 l = none → tz D (σ.set i (some (.ref l))) (upd H2 l (.lst (byName vs ns)))) fun H1 e1 => ⟨a, vs, ns, rfl, ex_l e1 hs, hn.ex e1, tabs_ex hT e1, fun H2 l eN T2 nl => k H2 l (fun b u hb t => eN _ _ (e1 _ _ hb) t) T2 nl⟩
/-! ### what the properties tell -/
def AtP (K : PySem.W.Frag) (C : Addr) (m qual : Str) (st : Stmt) : Prop := ∃ p g fd, PropOf K C m p g ∧ Fun K m qual st g fd
theorem prop_ok {P : Program} {w : World} {mg : Str → Option Value} {base : Heap} {C : Addr} {m qual : Str} {st : Stmt} {N : List Str} {k : Nat} {sp : Sp} (A : AtP K C m qual st) (S : FnScope N ["self"] (defScope st))
    (hb : ∀ (kV doc pm : Value) (an : Option Addr) (cdv ct : Value) (us : List Value), us.length = (["self"] : List Str).length → bindArgs (PySem.W.fnOf m qual (defArgs st) (defBody st) (defScope st) .none kV doc pm an cdv ct) ⟨us, []⟩ = pure ((["self"] : List Str).zip us))
    (len : ∀ vs H Q E, sp vs H Q E → vs.length = (["self"] : List Str).length)
    (hbody : ∀ (f : Addr) (cdv : Value) (A : Around) (outer : List Env) (s : Shared) (H : Hp) (vs : List V) (Q : VK) (E : XK), Room k (A.deeper (envOfC qual (defScope st) s.heap.objs.size f cdv)) → sp vs H Q E →
      ∃ t, PSs (cxOf CX0 P w K mg base N qual (defScope st) f cdv A outer s H E).nox (defBody st) t ∧ t { nx := fun _ H' => Q .non H', rt := Q } (start N vs) H) : PropD P w K mg base (k + 1) C m sp := by
  obtain ⟨p, f, fd, hp, F⟩ := A
  exact ⟨p, f, fd, hp, F.ok S len (hbody f), F.binds hb⟩
def spPropC (K : PySem.W.Frag) (C : Addr) {α : Type} (D : α → PyData) (sel : Pb → List α) : Sp := fun vs H Q _ => ∃ (B : Addr) (p : Pb), vs = [.ref B] ∧ BkAt K H B C p ∧ ∀ q xs H', H q = none → Ex H H' → H' q = some (.lst xs) → DpAll K H' xs ((sel p).map D) → Q (.ref q) H'
theorem ev_dgetK {B C dx pd : Addr} {fs : List (Str × V)} {kvs : List (L2.Key × V)} {x : Str} {v : V} (h : Ev ta σ H (.ref B)) (hB : H B = some (.ins C dx fs)) (cl : Cls K C) (n : NoAttr K C "_parts") (l : fs.lookup (Str.ofString "_parts") = some (.ref pd)) (hp : H pd = some (.dK kvs)) (hv : valV kvs (.inr x) = some v) : Ev (tDGet (tFld K ta "_parts") (tC (.str x))) σ H v := fun H1 e Q q =>
  (ev_fld h hB cl n l) H1 e _ fun H2 e2 => ⟨pd, v, rfl, hv ▸ DGet.k (k := .inr x) ((e.trans e2) _ _ hp), q H2 e2⟩
theorem s_retVals {d : Addr} {kvs : List (L2.Key × V)} (h : Ev te σ H (.ref d)) (hd : H d = some (.dK kvs)) (k : ∀ q H', H q = none → Ex H H' → H' q = some (.lst (kvs.map (·.2))) → D.rt (.ref q) H') : tRet (tListVals te) D σ H :=
  h H (Ex.refl _) _ fun H1 e1 => ⟨d, kvs, rfl, e1 _ _ hd, fun p np => k p _ (fresh_back e1 np) (e1.trans (Ex.new np)) upd_same⟩
end
/-! ### is it among -/
theorem eqv_tD (xs ys : List Str) : PyData.eqv (tD xs) (tD ys) = decide (xs = ys) := by
  unfold tD
  rw [PyData.eqv, eqv_texts]
theorem any_tD (ts : List (List Str)) (x : List Str) : (ts.map tD).any (fun z => PyData.eqv z (tD x)) = decide (x ∈ ts) := by
  induction ts with
  | nil => rfl
  | cons t r ih =>
    rw [List.map_cons, List.any_cons, ih, eqv_tD, ← Bool.decide_or]
    exact decide_eq_decide.mpr ⟨fun h => h.elim (fun h => h ▸ List.mem_cons_self) (List.mem_cons_of_mem _), fun h => (List.mem_cons.mp h).imp (fun h => h.symm) id⟩
theorem Room.u65 {k : Nat} {A : Around} (r : Room k A) : A.units + 65 < cLine := by
  have := r.un
  omega
theorem tD_lay {xs : List Str} (h : ∀ x ∈ xs, PyData.strOk x = true) {n : Nat} : Lay (tD xs) (n + 1) := .tuple (.map fun x hx => .str (h x hx))
section
variable {K : PySem.W.Frag} {σ : L2.St} {H : Hp} {te ta tb : TE} {D : Ends} {tz : TS}
theorem rv_inT {x y : V} {t : List Str} {ts : List (List Str)} (hx : Dp K H x (tD t)) (hy : Dp K H y (.list (ts.map tD))) (gt : ∀ x ∈ t, PyData.strOk x = true) (gs : ∀ t ∈ ts, ∀ x ∈ t, PyData.strOk x = true) : RV (rInD K) x y H (.bl (decide (t ∈ ts))) := fun H1 e1 Q q =>
  ⟨tD t, ts.map tD, dp_ex e1 hx, dp_ex e1 hy, (tD_lay gt (n := 1)).sh, (Lay.list (n := 2) (LayA.map fun t ht => tD_lay (gs t ht))).sh, by rw [any_tD]; exact q H1 (Ex.refl H1)⟩
theorem rv_niTT {x y : V} {t : List Str} {ts : List (List Str)} (hx : Dp K H x (tD t)) (hy : Dp K H y (.list (ts.map tD))) (gt : ∀ x ∈ t, PyData.strOk x = true) (gs : ∀ t ∈ ts, ∀ x ∈ t, PyData.strOk x = true) : RV (rNotInD K) x y H (.bl (!decide (t ∈ ts))) := fun H1 e1 Q q =>
  ⟨tD t, ts.map tD, dp_ex e1 hx, dp_ex e1 hy, (tD_lay gt (n := 1)).sh, (Lay.list (n := 2) (LayA.map fun t ht => tD_lay (gs t ht))).sh, by rw [any_tD]; exact q H1 (Ex.refl H1)⟩
theorem q_unG3 {i j l : Nat} {P : V → Hp → Prop} (h : EvG te σ H P) (hp : ∀ v H1, Ex H H1 → P v H1 → ∃ p x y z, v = .ref p ∧ H1 p = some (.tup [x, y, z]) ∧ tz D (((σ.set i (some x)).set j (some y)).set l (some z)) H1) : tSeq (tAsg te (gTup K 3 (gCons (gName i) (gCons (gName j) (gCons (gName l) gNil))))) tz D σ H :=
  h H (Ex.refl H) _ fun v H1 e hv => by
    obtain ⟨p, x, y, z, ev, hp1, k⟩ := hp v H1 e hv
    exact ⟨p, _, ev, st_of hp1, rfl, _, _, rfl, _, _, rfl, _, _, rfl, rfl, k⟩
theorem q_unt7 {a : Addr} {i1 i2 i3 i4 i5 i6 i7 : Nat} {x1 x2 x3 x4 x5 x6 x7 : V} (h : Ev te σ H (.ref a)) (hs : SqT K H a [x1, x2, x3, x4, x5, x6, x7]) (k : ∀ H1, Ex H H1 → tz D (((((((σ.set i1 (some x1)).set i2 (some x2)).set i3 (some x3)).set i4 (some x4)).set i5 (some x5)).set i6 (some x6)).set i7 (some x7)) H1) :
    tSeq (tAsg te (gTup K 7 (gCons (gName i1) (gCons (gName i2) (gCons (gName i3) (gCons (gName i4) (gCons (gName i5) (gCons (gName i6) (gCons (gName i7) gNil))))))))) tz D σ H :=
  h H (Ex.refl H) _ fun H1 e => ⟨a, _, rfl, ex_t e hs, rfl, _, _, rfl, _, _, rfl, _, _, rfl, _, _, rfl, _, _, rfl, _, _, rfl, _, _, rfl, rfl, k H1 e⟩
theorem q_unt2 {a : Addr} {i j : Nat} {x y : V} (h : Ev te σ H (.ref a)) (hs : SqT K H a [x, y]) (k : ∀ H1, Ex H H1 → tz D ((σ.set i (some x)).set j (some y)) H1) : tSeq (tAsg te (gTup K 2 (gCons (gName i) (gCons (gName j) gNil)))) tz D σ H :=
  h H (Ex.refl H) _ fun H1 e => ⟨a, _, rfl, ex_t e hs, rfl, _, _, rfl, _, _, rfl, rfl, k H1 e⟩
theorem el_slN {tl th : TO} {xs : List V} {lo hi : Option Int} (h : EvL te σ H xs) (h1 : EvO tl σ H lo) (h2 : EvO th σ H hi) : EvL (tSl (rSlL K) te tl th) σ H (cutV xs lo hi) := fun H1 e _ q =>
  h H1 e _ fun p0 H2 _ e2 hp0 => h1 H2 (e.trans e2) _ fun H3 e3 => h2 H3 ((e.trans e2).trans e3) _ fun H4 e4 =>
    ⟨p0, xs, rfl, sq_of ((e3.trans e4) _ _ hp0), fun p hp => q p _ (fresh_back ((e2.trans e3).trans e4) hp) (((e2.trans e3).trans e4).trans (Ex.new hp)) upd_same⟩
theorem evD_tupS {p : Addr} {xs : List V} {ds : List PyData} (ha : Ev ta σ H (.ref p)) (hp : H p = some (.lst xs)) (all : DpAll K H xs ds) : EvG (tCB (rTupS K) (tCons ta tNil)) σ H (fun v H' => Dp K H' v (.tuple ds)) := fun H1 e Q q =>
  ha H1 e _ fun H2 e2 => ⟨p, xs, rfl, Or.inl ⟨sq_of ((e.trans e2) _ _ hp), fun l nl => q _ _ (e2.trans (Ex.new nl)) (.tup (st_of upd_same) (dpa_ex ((e.trans e2).trans (Ex.new nl)) all))⟩⟩
end
section
variable {K : PySem.W.Frag} {H : Hp}
theorem dpa_app : ∀ {vs ws : List V} {ds es : List PyData}, DpAll K H vs ds → DpAll K H ws es → DpAll K H (vs ++ ws) (ds ++ es)
  | _, _, _, _, .nil, h => h
  | _, _, _, _, .cons h1 h2, h => .cons h1 (dpa_app h2 h)
theorem noL_tD (xs : List Str) : noL (tD xs) = true := by
  unfold tD
  rw [noL]
  exact noTexts xs
theorem noLs_map {α : Type} (D : α → PyData) (h : ∀ x, noL (D x) = true) : ∀ xs : List α, noLs (xs.map D) = true
  | [] => rfl
  | x :: r => by rw [List.map_cons, noLs, h x, noLs_map D h r]; rfl
theorem noL_oD : ∀ o, noL (oD o) = true
  | none => rfl
  | some _ => rfl
theorem noL_md (m : Md) : noL (mdD m) = true := by simp [mdD, noL, noLs, noL_tD]
theorem noL_cd (m : Cd) : noL (cdD m) = true := by simp [cdD, noL, noLs, noL_tD, noL_oD]
theorem noL_al (m : Al) : noL (alD m) = true := by simp [alD, noL, noLs, noL_tD, noL_oD]
theorem noL_step (m : Nat × Str) : noL (stepD m) = true := by simp [stepD, noL, noLs]
theorem noL_rw (r : Rw) : noL (rwD r) = true := by simp [rwD, noL, noLs, noLs_map stepD noL_step]
theorem lit_at (xs : List Str) (i : Nat) (hi : i < xs.length) : (xs.map V.str)[i]? = some (V.str (xs.getD i Str.empty)) := by
  rw [List.getElem?_map, List.getElem?_eq_getElem hi, List.getD_eq_getElem?_getD, List.getElem?_eq_getElem hi]; rfl
theorem take_getD {xs : List Str} {i : Nat} (hi : i < xs.length) : xs.take (i + 1) = xs.take i ++ [xs.getD i Str.empty] := by
  rw [List.take_succ, List.getElem?_eq_getElem hi, List.getD_eq_getElem?_getD, List.getElem?_eq_getElem hi]; rfl
theorem getD_mem {xs : List Str} {i : Nat} (hi : i < xs.length) : xs.getD i Str.empty ∈ xs := by
  rw [List.getD_eq_getElem?_getD, List.getElem?_eq_getElem hi]; exact List.getElem_mem hi
theorem NmsOk.sub {xs ys : List Str} (h : NmsOk ys) (s : xs.Sublist ys) : NmsOk xs := ⟨fun x hx => h.all x (s.subset hx), h.nd.sublist s, Nat.le_trans s.length_le h.few⟩
/-- a list grows by one thing of data -/
theorem dpa_grow {α : Type} (D : α → PyData) (hD : ∀ x, noL (D x) = true) {p : Addr} {ys : List V} {zs : List V} {xs : List α} {v : V} {x : α} {o : HO} (hl : H p = some (.lst ys)) (h : DpAll K H zs (xs.map D)) (hv : Dp K H v (D x)) : DpAll K (upd H p o) (zs ++ [v]) ((xs ++ [x]).map D) := by
  rw [List.map_append]
  exact dpa_app (dpa_mut hl (noLs_map D hD xs) h) (.cons (dp_mut hl (hD x) hv) .nil)
end
end My
set_option Elab.async false
set_option linter.all false
set_option maxRecDepth 100000
set_option maxHeartbeats 1000000
/-! ### defs within no repr that may raise; {x!r} of data; plain errors -/
namespace My
open PySem PySem.Spec PyProof.Rows L2 Evl
section
variable {P : Program} {w : World} {K : PySem.W.Frag} {mg : Str → Option Value} {base : Heap}
structure FnGX (P : Program) (w : World) (K : PySem.W.Frag) (mg : Str → Option Value) (base : Heap) (CX : CXT) (k : Nat) (f : Addr) (fd : FuncData) (ps : List Str) (sp : Sp) : Prop where
  len : ∀ vs H Q E, sp vs H Q E → vs.length = ps.length
  run : ∀ (A : Around) (outer : List Env) (s : Shared) (H : Hp) (args : Args) (us : List Value) (vs : List V) (Q : VK) (E : XK), A.guards = some [] → Room k A → Env0 P w K mg base A outer s H → BindsTo s fd args (ps.zip us) → Vals vs us → sp vs H Q E →
    codeAny (model P w) A (Code.call (.ref f) args) (CR CX outer P w H s Q E) s
theorem okGX {CX : CXT} {x qual : Str} {st : Stmt} {f : Addr} {fd : FuncData} {N ps : List Str} {k : Nat} {sp : Sp} (F : Fun K x qual st f fd) (S : FnScope N ps (defScope st)) (len : ∀ vs H Q E, sp vs H Q E → vs.length = ps.length)
    (hbody : ∀ (cdv : Value) (A : Around) (outer : List Env) (s : Shared) (H : Hp) (vs : List V) (Q : VK) (E : XK), A.guards = some [] → Room k (A.deeper (envOfC qual (defScope st) s.heap.objs.size f cdv)) → sp vs H Q E →
      ∃ t, PSs (cxOf CX P w K mg base N qual (defScope st) f cdv A outer s H E) (defBody st) t ∧ t { nx := fun _ H' => Q .non H', rt := Q } (start N vs) H) : FnGX P w K mg base CX (k + 1) f fd ps sp := by
  refine ⟨len, fun A outer s H args us vs Q E hg hr e0 hb r hsp => ?_⟩
  obtain ⟨oc, od, kV, doc, pm, an, cdv, ct, osl, rfl, lk, hcd⟩ := F.ex
  have hl := len vs H Q E hsp
  have KX : K.In s.heap := e0.mod.kin.keeps fun b o e => (e0.bs b o e).1
  have lim : s.heap.NoLimit := e0.mod.nolimit.keeps fun b o e => (e0.bs b o e).1
  refine codeAny_call_function hr.depth (KX _ _ lk) rfl S.co S.gen rfl (PySem.W.codeRec_of KX hcd) (hb (model P w) A.in1 _ _ (wpAny_newFunctionEnv_cells S.kind (fun ⟨n, v⟩ hy => ?_) fun env he s1 x => ?_))
  · rcases S.par n (List.of_mem_zip hy).1 with q | q
    · exact Or.inl q
    · exact Or.inr ⟨q, PySem.W.cellsFrom_some _ _ [] (Or.inl q)⟩
  subst he
  refine ⟨lim.keeps x.toInCall.keep, codeAny_func ?_⟩
  obtain ⟨t, ht, hq⟩ := hbody cdv A outer s H vs Q E hg (hr.deeper _) hsp
  have I := inv_start (CX := CX) (E := E) (qual := qual) (scope := defScope st) (f := f) (cd := cdv) S hr.hd e0 hl r x
  refine wpAny_mono (ht.run [] s1 (start N vs) H _ I hq) (fun fl s' hs => ?_) fun e s' hs => hs
  have fin : ∀ {σ' : L2.St} {H' : Hp} {v : V} {u : Value}, L2.Inv (cxOf CX P w K mg base N qual (defScope st) f cdv A outer s H E) [] σ' H' s' → L2.RelV v u → Q v H' → CE outer P w H s Q u s' :=
    fun {σ' H' v u} J rv q => ⟨v, H', J.os, J.bare, J.base, J.hok, rv, q⟩
  cases fl with
  | ret u =>
    obtain ⟨v, σ', H', J, rv, q⟩ := hs
    exact fin J rv q
  | next =>
    obtain ⟨σ', H', J, q⟩ := hs
    exact fin (v := V.non) (u := Value.none) J rfl q
  | brk =>
    obtain ⟨_, _, _, q⟩ := hs
    exact False.elim q
  | cont =>
    obtain ⟨_, _, _, q⟩ := hs
    exact False.elim q
/-- a def of the text, called where nothing is being told by repr -/
structure DfnG (P : Program) (w : World) (K : PySem.W.Frag) (mg : Str → Option Value) (base : Heap) (CX : CXT) (k : Nat) (x : Str) (ps : List Str) (sp : Sp) : Prop where
  ex : ∃ (f : Addr) (fd : FuncData), FnGX P w K mg base CX k f fd ps sp ∧ mg x = some (.ref f) ∧ PySem.W.keepIn K (.ref f) = true ∧ Binds K fd ps []
theorem dfnG_ok {CX : CXT} {x : Str} {st : Stmt} {N ps : List Str} {k : Nat} {sp : Sp} (A : At K mg x st) (S : FnScope N ps (defScope st))
    (hb : ∀ (kV doc pm : Value) (an : Option Addr) (cdv ct : Value) (us : List Value), us.length = ps.length → bindArgs (PySem.W.fnOf x x (defArgs st) (defBody st) (defScope st) .none kV doc pm an cdv ct) ⟨us, []⟩ = pure (ps.zip us))
    (len : ∀ vs H Q E, sp vs H Q E → vs.length = ps.length)
    (hbody : ∀ (f : Addr) (cdv : Value) (A : Around) (outer : List Env) (s : Shared) (H : Hp) (vs : List V) (Q : VK) (E : XK), A.guards = some [] → Room k (A.deeper (envOfC x (defScope st) s.heap.objs.size f cdv)) → sp vs H Q E →
      ∃ t, PSs (cxOf CX P w K mg base N x (defScope st) f cdv A outer s H E) (defBody st) t ∧ t { nx := fun _ H' => Q .non H', rt := Q } (start N vs) H) : DfnG P w K mg base CX (k + 1) x ps sp := by
  obtain ⟨f, fd, F, hm⟩ := A
  exact ⟨f, fd, okGX F S len (hbody f), hm, F.kp, F.binds hb⟩
end
section
variable {X : Cx} {CX : CXT} {k : Nat} {x : Str} {ps : List Str} {sp : Sp} {e : Expr} {es : List Expr} {t : TA} {te : TE} {p pos : Pos}
theorem pe_dGE {E : L2.St → XK} (D : DfnG X.prog X.w X.K X.mg X.base CX k x ps sp) (hg : X.A.guards = some []) (hr : Room k X.A) (hx : ∀ σ, PassesAt CX X σ (E σ)) (ha : PA X (e :: es) t) (hgl : Gl X x := by rfl) (hdb : (x == ("__debug__" : Str)) = false := by decide)
    (he : starEach (e :: es) X.env = (false, eval e X.env) :: starEach es X.env := by rfl) (hpl : (backTo pos (starEach es X.env)).any (·.1) = false := by rfl) : PE X (.Call (.Name x p) (e :: es) [] pos) (tCallSD sp [] E t) := by
  obtain ⟨f, fd, F, hm, hk, hb⟩ := D.ex
  refine ⟨fun pins s σ H Q I h => ?_⟩
  refine wpAny_Call_Name_kw (ld_glob I hgl hm ?_ hdb)
  refine PySem.W.callWith_K (h₀ := X.base) I.ok.mod.kin hk (thn (ha.run pos pins s σ H _ I h) fun us s1 ⟨vs, H1, I1, r1, q⟩ => ⟨I1.kIn, ?_⟩) he hpl
  have r2 : Vals (vs ++ []) (us ++ []) := r1.append .nil
  have hl : (us ++ []).length = ps.length := by rw [← r2.length]; exact F.len _ _ _ _ q
  refine wpAny_call (codeAny_mono (F.run X.A X.stack s1 H1 ⟨us, []⟩ (us ++ []) (vs ++ []) Q (E σ) hg hr I1.env0 (hb s1 us I1.kIn hl) r2 q) fun r s' hq => ?_)
  cases r with
  | error e => exact hx σ pins H1 s1 e s' I1 hq
  | ok fl =>
    cases fl with
    | ret u => exact I1.after hq
    | next => exact False.elim hq
    | brk => exact False.elim hq
    | cont => exact False.elim hq
theorem pe_dG (D : DfnG X.prog X.w X.K X.mg X.base CX0 k x ps sp) (hg : X.A.guards = some []) (hr : Room k X.A) (ha : PA X (e :: es) t) (hgl : Gl X x := by rfl) (hdb : (x == ("__debug__" : Str)) = false := by decide)
    (he : starEach (e :: es) X.env = (false, eval e X.env) :: starEach es X.env := by rfl) (hpl : (backTo pos (starEach es X.env)).any (·.1) = false := by rfl) : PE X (.Call (.Name x p) (e :: es) [] pos) (tCall sp [] E0 t) :=
  pe_dGE (E := fun _ => E0) D hg hr (fun _ _ _ _ _ _ _ h => h.elim) ha hgl hdb he hpl
theorem pe_dGX {W : WX} (D : DfnG X.prog X.w X.K X.mg X.base (L2.CX X.prog X.w) k x ps sp) (hg : X.A.guards = some []) (hr : Room k X.A) (tk : Takes X W) (ha : PA X (e :: es) t) (hgl : Gl X x := by rfl) (hdb : (x == ("__debug__" : Str)) = false := by decide)
    (he : starEach (e :: es) X.env = (false, eval e X.env) :: starEach es X.env := by rfl) (hpl : (backTo pos (starEach es X.env)).any (·.1) = false := by rfl) : PE X (.Call (.Name x p) (e :: es) [] pos) (tCallSD sp [] (WE W) t) :=
  pe_dGE D hg hr (fun σ => passAt tk σ) ha hgl hdb he hpl
/-- {x!r} of data -/
def tFmtRD (K : PySem.W.Frag) (te : TE) : TE := fun σ H Q => te σ H fun x H1 => ∃ a d, x = .ref a ∧ Dp K H1 x d ∧ d.showable = true ∧ d.hasDict = false ∧ d.depth ≤ 20 ∧ d.shown.length ≤ sizeLine ∧ Q (.str d.shown) H1
theorem pe_fmtRD (hg : X.A.guards = some []) (hu : X.A.units + 64 < cLine) (he : PE X e te) : PE X (.FormattedValue e 114 none pos) (tFmtRD X.K te) := by
  refine ⟨fun pins s σ H Q I h => ?_⟩
  refine wpAny_FormattedValue_repr (thn (he.run pins s σ H _ I h) fun v s1 hv => ?_)
  obtain ⟨x, H1, I1, r1, a, d, rfl, hd, sh, nd, dp, sz, q⟩ := hv
  cases r1
  obtain ⟨as, hr⟩ := Dp.reads I1 d _ _ hd rfl
  exact pyReprObj_of_reads hr sh (fun z => by rw [nd] at z; cases z) hg (by omega) (fun _ _ z => z) (fun h' u tk k => wpAny_formatField_str ⟨.str d.shown, H1, I1.kept k, ⟨_, rfl⟩, q⟩ ⟨.str d.shown, H1, (I1.kept k).tok _, ⟨_, rfl⟩, q⟩ sz) sz
/-- raise X(e, ..) of an error class without more -/
theorem ps_raiseP {W : WX} {C : Addr} {p1 : Pos} (Z : PlainC X.K X.mg x C) (tk : Takes X W) (ha : PA X (e :: es) t) (hc : X.calm = true := by rfl) (hg : Gl X x := by rfl) (hdb : (x == ("__debug__" : Str)) = false := by decide)
    (he : starEach (e :: es) X.env = (false, eval e X.env) :: starEach es X.env := by rfl) (hpl : (backTo p1 (starEach es X.env)).any (·.1) = false := by rfl) :
    PS X (.Raise (some (.Call (.Name x p) (e :: es) [] p1)) none pos) (fun _ σ H => t σ H fun vs H1 => vs.length ≤ sizeLine ∧ W (.ref C) none σ H1) :=
  ps_raise hc tk (pmk_ownA PySem.F.excBase_ValueError Z.ex Z.g Z.kp (raises_own Z.sB Z.ty) hg ha hdb he hpl)
end
section
variable {K : PySem.W.Frag} {σ : L2.St} {H : Hp} {te : TE}
theorem tx_fRD {a : Addr} {d : PyData} {k : Nat} (ha : Ev te σ H (.ref a)) (hd : Dp K H (.ref a) d) (sh : Short d k) (hk : k ≤ 2000) (dp : d.depth ≤ 20) : EvG (tFmtRD K te) σ H (Tx 50000) := fun H1 e Q q =>
  ha H1 e _ fun H2 e2 => ⟨a, d, rfl, dp_ex (e.trans e2) hd, sh.sh, sh.nd, dp, sh.fits (by omega), q _ H2 e2 ⟨_, rfl, by
    have := PyData.shown_le 18 (by decide) d sh.ls
    have := sh.wt
    have : (18 + 2) * d.weight ≤ 20 * 2000 := Nat.mul_le_mul_left 20 (by omega)
    omega⟩⟩
end
end My
set_option Elab.async false
set_option linter.all false
set_option maxRecDepth 100000
set_option maxHeartbeats 1000000
/-! ### lists of data; what a law asks of texts that rise -/
namespace My
open PySem PySem.Spec PyProof.Rows L2 Evl
open LamX (ExtN Tabs TabB CodeO)
section
variable {K : PySem.W.Frag} {σ : L2.St} {H : Hp} {te ta tb tl : TE} {tA : TA} {D : Ends} {tz tu : TS}
def LsD (K : PySem.W.Frag) (ds : List PyData) : V → Hp → Prop := fun v H => ∃ p zs, v = .ref p ∧ H p = some (.lst zs) ∧ DpAll K H zs ds
theorem LsD.m {ds : List PyData} : Mono (LsD K ds) := fun _ _ _ e ⟨p, zs, h1, h2, h3⟩ => ⟨p, zs, h1, e _ _ h2, dpa_ex e h3⟩
theorem evG_lstD {ds : List PyData} (h : EaD K tA σ H ds) (hl : ds.length ≤ 100000) : EvG (tLst tA) σ H (LsD K ds) := EvG.imp (evL_data h hl) fun v H' _ ⟨p, vs, h1, _, h2, h3⟩ => ⟨p, vs, h1, h2, h3⟩
theorem evG_catLs {ds es : List PyData} (ha : EvG ta σ H (LsD K ds)) (hb : EvG tb σ H (LsD K es)) (hz : ds.length + es.length ≤ 100000) : EvG (tOp rCat ta tb) σ H (LsD K (ds ++ es)) := fun H1 e Q q =>
  ha H1 e _ fun v H2 e2 ⟨p1, xs, hv1, hp1, d1⟩ => hb H2 (e.trans e2) _ fun u H3 e3 ⟨p2, ys, hv2, hp2, d2⟩ => by
    subst hv1 hv2
    exact ⟨p1, p2, xs, ys, rfl, rfl, e3 _ _ hp1, hp2, sz_of (by rw [dpa_len d1, dpa_len d2]; exact hz), fun l nl => q _ _ ((e2.trans e3).trans (Ex.new nl)) ⟨l, _, rfl, upd_same, dpa_app (dpa_ex (e3.trans (Ex.new nl)) d1) (dpa_ex (Ex.new nl) d2)⟩⟩
theorem evG_lsd {a : Addr} {zs : List V} {ds : List PyData} (h : Ev te σ H (.ref a)) (hp : H a = some (.lst zs)) (hd : DpAll K H zs ds) : EvG te σ H (LsD K ds) := Ev.gi h fun H' e => ⟨a, zs, rfl, e _ _ hp, dpa_ex e hd⟩
/-- one of a list of data -/
theorem evG_ixD {α : Type} {Dt : α → PyData} {xs : List α} {x : α} {i : Nat} (h : EvG tl σ H (LsD K (xs.map Dt))) (hi : Ev te σ H (.int (i : Int))) (hx : xs[i]? = some x) : EvG (tOp (rIxL K) tl te) σ H (fun v H' => Dp K H' v (Dt x)) := fun H1 e Q q =>
  h H1 e _ fun v H2 e2 ⟨p, zs, hv, hp, hd⟩ => hi H2 (e.trans e2) _ fun H3 e3 => by
    subst hv
    obtain ⟨u, hu, du⟩ : ∃ u, zs[i]? = some u ∧ Dp K H2 u (Dt x) := by
      obtain ⟨hl, ex⟩ := List.getElem?_eq_some_iff.mp hx
      have lz : zs.length = xs.length := by rw [dpa_len hd, List.length_map]
      have hz : zs[i]? = some (zs[i]'(by omega)) := List.getElem?_eq_getElem _
      obtain ⟨y, hy, _, dy⟩ := item_at Dt hd hz
      rw [hx] at hy
      cases hy
      exact ⟨_, hz, dy⟩
    exact (rv_ixL (sq_of (e3 _ _ hp)) (atI_nat hu)) H3 (Ex.refl _) Q fun H4 e4 => q u H4 ((e2.trans e3).trans e4) (dp_ex (e3.trans e4) du)
/-- a comprehension over a list, each thing a datum -/
def Cdd {α : Type} (K : PySem.W.Frag) (Dt : α → PyData) (as : List α) (H : Hp) (Dl : Addr) (i : Nat) (H' : Hp) : Prop := H Dl = none ∧ Ex H H' ∧ ∃ ys : List V, H' Dl = some (.lst ys) ∧ DpAll K H' ys ((as.take i).map Dt)
theorem cdd_turn {α : Type} {Dt : α → PyData} {as : List α} {y : α} {H H' : Hp} {Dl : Addr} {i : Nat} {σ2 : L2.St} (nol : ∀ x, noL (Dt x) = true) (p : Cdd K Dt as H Dl i H') (hi : i < 50000) (hy : as[i]? = some y) (he : EvG te σ2 H fun v H' => Dp K H' v (Dt y)) :
    tYes σ2 H' fun b H3 => if b = true then te σ2 H3 fun y H4 => ∃ acc, H4 Dl = some (.lst acc) ∧ acc.length < sizeLine ∧ Cdd K Dt as H Dl (i + 1) (upd H4 Dl (.lst (acc ++ [y]))) else Cdd K Dt as H Dl (i + 1) H3 := by
  obtain ⟨p1, p2, ys, hx, all⟩ := p
  show te σ2 H' fun y H4 => ∃ acc, H4 Dl = some (.lst acc) ∧ acc.length < sizeLine ∧ Cdd K Dt as H Dl (i + 1) (upd H4 Dl (.lst (acc ++ [y])))
  have l : ys.length ≤ i := by rw [dpa_len all, List.length_map, List.length_take]; omega
  refine he H' p2 _ fun z H4 e4 py => ⟨ys, e4 _ _ hx, sz_lt (by omega), p1, Ex.mut (p2.trans e4) p1, ys ++ [z], upd_same, ?_⟩
  rw [List.take_succ, hy]
  exact dpa_grow Dt nol (e4 _ _ hx) (dpa_ex e4 all) py
theorem evG_lcD {α : Type} {Dt : α → PyData} {as : List α} {a : Addr} {xs : List V} {j : Nat} {vs : List Nat} (nol : ∀ x, noL (Dt x) = true) (h : Ev tl σ H (.ref a)) (hx : SqL K H a xs) (hl : xs.length = as.length) (hz : xs.length ≤ 40000) (hw : ∀ x, wipe ((wipe σ vs).set j (some x)) vs = wipe σ vs)
    (he : ∀ (i : Nat) (x : V) (y : α) H1, Ex H H1 → xs[i]? = some x → as[i]? = some y → EvG te ((wipe σ vs).set j (some x)) H1 fun v H' => Dp K H' v (Dt y)) :
    EvG (tLc (iList K tl) (gName j) tYes te vs) σ H (LsD K (as.map Dt)) := fun H0 e Q q => h H0 e _ fun H1 e1 => ⟨a, rfl, ⟨xs, ex_l (e.trans e1) hx⟩, fun Dl hD =>
  lc_list (xs := xs) (Cdd K Dt as H1 Dl) ⟨hD, Ex.new hD, [], upd_same, .nil⟩ (fun i H' _ p => ex_l ((e.trans e1).trans p.2.1) hx) (fun i x H' hi p => by
      have hi2 := (List.getElem?_eq_some_iff.mp hi).1
      have hy : as[i]? = some (as[i]'(by omega)) := List.getElem?_eq_getElem _
      exact ⟨hw x, cdd_turn nol p (by omega) hy (he i x _ H1 (e.trans e1) hi hy)⟩)
    (fun H' ⟨p1, p2, ys, hy, all⟩ => q _ H' (e1.trans p2) ⟨Dl, ys, rfl, hy, by rw [hl, List.take_of_length_le (Nat.le_refl _)] at all; exact all⟩)⟩
/-- texts of a list that are -/
theorem given_cons' {α : Type} (n : Nat) (f : Nat → Bool) (g : Nat → α) : ((List.range (n + 1)).filter f).map g = (if f 0 = true then [g 0] else []) ++ ((List.range n).filter fun i => f (i + 1)).map fun i => g (i + 1) := by
  rw [List.range_succ_eq_map, List.filter_cons]
  have e : ((List.range n).map Nat.succ).filter f = ((List.range n).filter fun i => f (i + 1)).map Nat.succ := by
    rw [List.filter_map]; rfl
  rw [e]
  split
  · rw [List.map_cons, List.map_map]; rfl
  · rw [List.map_map]; rfl
theorem given_flt (P : Str → Bool) : ∀ xs : List Str, given xs.length (fun i => P (xs.getD i Str.empty)) (fun i => V.str (xs.getD i Str.empty)) = (xs.filter P).map V.str
  | [] => rfl
  | x :: r => by
    have ih := given_flt P r
    unfold given at ih ⊢
    rw [List.length_cons, given_cons', List.filter_cons]
    show (if P x = true then [V.str x] else []) ++ ((List.range r.length).filter fun i => P (r.getD i Str.empty)).map (fun i => V.str (r.getD i Str.empty)) = _
    rw [ih]
    cases P x <;> rfl
theorem el_flt {tt : TT} {a : Addr} {xs : List Str} {j : Nat} {vs : List Nat} (P : Str → Bool) (h : Ev tl σ H (.ref a)) (hx : SqL K H a (xs.map V.str)) (hz : xs.length ≤ 4000) (hw : ∀ x, wipe ((wipe σ vs).set j (some x)) vs = wipe σ vs)
    (ht : ∀ y ∈ xs, ∀ H1, Ex H H1 → EvT tt ((wipe σ vs).set j (some (.str y))) H1 (P y)) (he : ∀ y ∈ xs, ∀ H1, Ex H H1 → Ev te ((wipe σ vs).set j (some (.str y))) H1 (.str y)) : EvL (tLc (iList K tl) (gName j) tt te vs) σ H ((xs.filter P).map V.str) :=
  el_is (el_lcL (xs := xs.map V.str) (fun i => P (xs.getD i Str.empty)) (fun i => V.str (xs.getD i Str.empty)) h hx (by rw [List.length_map]; omega) hw (fun i x H1 e1 hi => by
    obtain ⟨y, hy, rfl, e⟩ := str_at hi
    rw [e]
    exact ht y hy H1 e1) (fun i x H1 e1 hi _ => by
    obtain ⟨y, hy, rfl, e⟩ := str_at hi
    rw [e]
    exact he y hy H1 e1)) (by rw [List.length_map, given_flt])
end
section
variable {X : Cx} {σ : L2.St} {H : Hp} {te : TE}
theorem evG_sortSetE {xs : List Str} (h : EvL te σ H (xs.map V.str)) (room : xs.length + 1 < scanBound) :
    EvG (tCB (rSortTab X) (tCons (tCB (rSetTx X) (tCons te tNil)) tNil)) σ H (fun v H' => ∃ p ys, v = .ref p ∧ H' p = some (.lst (ys.map V.str)) ∧ ys.Nodup ∧ (∀ k, k ∈ ys ↔ k ∈ xs) ∧ sortedS ys = true) := fun H1 e Q q =>
  h H1 e _ fun a H2 na e2 ha => ⟨a, xs, rfl, .inl (sq_of ha), room, fun p ks nd mem np =>
    ⟨p, ks, rfl, upd_same, fun ys l pm so nl => q _ _ ((e2.trans (Ex.new np)).trans (Ex.new nl)) ⟨l, ys, rfl, upd_same, pm.nodup_iff.mpr nd, fun k => pm.mem_iff.trans (mem k), so⟩⟩⟩
theorem evG_sortSetA {a : Addr} {xs : List Str} (h : Ev te σ H (.ref a)) (hA : SqL X.K H a (xs.map V.str)) (room : xs.length + 1 < scanBound) :
    EvG (tCB (rSortTab X) (tCons (tCB (rSetTx X) (tCons te tNil)) tNil)) σ H (fun v H' => ∃ p ys, v = .ref p ∧ H' p = some (.lst (ys.map V.str)) ∧ ys.Nodup ∧ (∀ k, k ∈ ys ↔ k ∈ xs) ∧ sortedS ys = true) := fun H1 e Q q =>
  h H1 e _ fun H2 e2 => ⟨a, xs, rfl, .inl (ex_l (e.trans e2) hA), room, fun p ks nd mem np =>
    ⟨p, ks, rfl, upd_same, fun ys l pm so nl => q _ _ ((e2.trans (Ex.new np)).trans (Ex.new nl)) ⟨l, ys, rfl, upd_same, pm.nodup_iff.mpr nd, fun k => pm.mem_iff.trans (mem k), so⟩⟩⟩
theorem evG_sortSetN {xs : List Str} (h : EvL te σ H (xs.map V.str)) (room : xs.length + 1 < scanBound) :
    EvG (tCB (rSortTab X) (tCons (tCB (rSetTx X) (tCons te tNil)) tNil)) σ H (fun v H' => ∃ p ys, v = .ref p ∧ H p = none ∧ H' p = some (.lst ((ys : List Str).map V.str)) ∧ ys.Nodup ∧ (∀ k, k ∈ ys ↔ k ∈ xs)) := fun H1 e Q q =>
  h H1 e _ fun a H2 na e2 ha => ⟨a, xs, rfl, .inl (sq_of ha), room, fun p ks nd mem np =>
    ⟨p, ks, rfl, upd_same, fun ys l pm so nl => q _ _ ((e2.trans (Ex.new np)).trans (Ex.new nl)) ⟨l, ys, rfl, fresh_back ((e.trans e2).trans (Ex.new np)) nl, upd_same, pm.nodup_iff.mpr nd, fun k => pm.mem_iff.trans (mem k)⟩⟩⟩
/-- xs == sorted(set(xs)) -/
theorem ev_rises {a : Addr} {xs : List Str} {ta : TE} (h1 : Ev ta σ H (.ref a)) (h : Ev te σ H (.ref a)) (hA : SqL X.K H a (xs.map V.str)) (hx : ∀ x ∈ xs, PyData.strOk x = true) (room : xs.length + 1 < scanBound) :
    Ev (tOp (rEqD X.K) ta (tCB (rSortTab X) (tCons (tCB (rSetTx X) (tCons te tNil)) tNil))) σ H (.bl (decide (Rises xs))) := by
  refine opG (P1 := IsW (.ref a)) (ea_w h1) (fun _ _ _ _ h => h) (evG_sortSetA h hA room) fun u v H1 e hu hv => ?_
  obtain rfl := hu
  obtain ⟨p2, ys, rfl, hp2, nd, mem, so⟩ := hv
  have r := rv_eqD (K := X.K) (dp_texts (ex_l e hA)) (dp_texts (sq_of hp2)) (lay_texts (n := 3) xs hx).sh (lay_texts (n := 3) ys fun y h => hx y ((mem y).mp h)).sh
  rw [eqv_list_texts, rises_iff nd mem so] at r
  exact r
end
end My
namespace My
open PySem PySem.Spec PyProof.Rows L2 Evl
open LamX (TabB)
/-- the end of a law whose program makes lambdas of one table -/
theorem walk_ofTK {l : PySem.W.OpenLaw} {n k : Nat} {q : Program} {loose : List Str} {XP : (Str → Option Value) → Heap → Prop} {YP : World → Heap → Prop} {d : DefRec} {K : Params → PySem.W.Frag} {ts : List Addr} {spK : PySem.W.Frag → Addr → Sp} {TA : Addr} {x : Str} (hn : l.most = some n) (hn2 : n ≤ sizeLine) (hdf : d.params.defaults = [])
    (hr : Room k callerA) (hY : ∀ w h, YP w h → (K w.params).In h ∧ ∀ t ∈ ts, h.get? t = some (PySem.W.tabObj #[]))
    (F : ∀ (w : World) (mg : Str → Option Value) (fa : Addr) (h : Heap), (K w.params).In h → h.Ns mainGlobals mg → mg d.name = some (.ref fa) → ∃ (fd : FuncData) (c : Addr), (TA ∈ ts ∧ (K w.params).lookup TA = none ∧ PySem.W.codeHdIn (K w.params) c TA = true) ∧ (∀ (s : Shared) (u : Value), BindsTo s fd ⟨[u], []⟩ [(x, u)]) ∧
      ∀ base : Heap, (K w.params).In base → base.Ns mainGlobals mg → TabB base mg c TA → FnOkG l.prog w (K w.params) mg base k fa fd [x] (spK (K w.params) TA))
    (hsp : ∀ (K : PySem.W.Frag) (H : Hp) (a : Addr) (ns : List Int), ns.length ≤ n → H TA = some (.tbl #[]) → SqL K H a (ns.map V.int) → spK K TA [.ref a] H (fun v _ => v = .bl true) fun _ _ _ => False) : PySem.W.WalkO q loose XP YP l.row.toRowW d [] fun f vs => call f vs :=
  walk_ofT (sp := fun w => spK (K w.params) TA) hn hn2 hdf hr hY fun w mg fa h KX G hmg => by
    obtain ⟨fd, c, ⟨h1, h2, h3⟩, hb, hF⟩ := F w mg fa h KX G hmg
    exact ⟨fd, [(c, TA)], fun p hp => by rw [List.mem_singleton.mp hp]; exact ⟨h1, h2, h3⟩, hb, fun H a ns hl hT hS => hsp _ H a ns hl (hT _ List.mem_cons_self) hS, fun base KB GB hTB => hF base KB GB (hTB _ List.mem_cons_self)⟩
end My
set_option Elab.async false
set_option linter.all false
set_option maxRecDepth 100000
set_option maxHeartbeats 1000000
/-! ### sorted(things, key=first): a def that tells the first of a tuple -/
namespace My
open PySem PySem.Spec PyProof.Rows L2 Evl
theorem def_first {prog : Program} {w : World} {A : Around} {s : Shared} {f a : Addr} {y x nm : Str} {tk : Tok} {args : Arguments} {scope : Scope} {oc kV doc pm cd ct : Value} {od an : Option Addr} {osl : Array (Option Value)} {its : Array Value} {j : Nat} {p1 p2 p3 pos : Pos}
    (hroom : A.depth < recursionLimit) (hf : s.heap.get? f = some ⟨oc, od, .func (PySem.W.fnOf y y args [.Return (some (.Subscript (.Name x p1) (.Constant (.int 0) j p2) p3)) pos] scope .none kV doc pm an cd ct), osl⟩) (hco : scope.isCoroutine = false) (hgen : scope.isGenerator = false) (hcode : s.heap.CodeRec cd y)
    (hbind : ∀ v : Value, bindArgs (PySem.W.fnOf y y args [.Return (some (.Subscript (.Name x p1) (.Constant (.int 0) j p2) p3)) pos] scope .none kV doc pm an cd ct) ⟨[v], []⟩ = pure [(x, v)]) (hk : scope.kind = .function) (hnm : ∀ y ∈ scope.names, y.2 ≠ .cell) (hx : scope.names.lookup x = some .local)
    (hlim : s.heap.NoLimit) (ht : IsTup s.heap a its) (h0 : its[0]? = some (.str nm tk)) (hz : its.size ≤ sizeLine) (hd : (x == ("__debug__" : Str)) = false) :
    wpAny (model prog w) A (call (.ref f) [.ref a]) (PySem.W.KeyPure (.str nm) s) (fun _ _ => False) s := by
  refine wpAny_call (codeAny_mono (codeAny_call_function (R := fun r s2 => ∃ u, r = .ok (.ret u) ∧ PySem.W.KeyPure (.str nm) s u s2) hroom hf rfl hco hgen rfl hcode ?_) ?_)
  · rw [hbind]
    refine wpAny_pure (wpAny_newFunctionEnv hnm (fun y hy => ?_) (fun h' hns hsb => ⟨hlim.fresh _ hsb, codeAny_func (wpAny_execs_cons ?_)⟩) hk)
    · rw [List.mem_singleton.mp hy]; exact hx
    · have kp : ∀ b o, s.heap.get? b = some o → h'.get? b = some o := fun b o e => hsb.extBut b o (Nat.ne_of_lt (Heap.lt_size e)) (Heap.get?_push_of_some _ e)
      refine wpAny_Return_some ?_
      refine Subscript_ (wpAny_Name (wpAny_loadName_local hk hx hns (v := .ref a) (by simp) ?_) hd)
      refine wpAny_Constant_int ?_
      have ht' : IsTup h' a its := by
        obtain ⟨o, e, r⟩ := ht
        exact ⟨o, kp _ _ e, r⟩
      have hn : 0 < its.size := by
        rcases Nat.eq_zero_or_pos its.size with z | z
        · rw [Array.getElem?_eq_none (by omega)] at h0; cases h0
        · exact z
      refine subscriptTail_builtin (o := Value.ref a) ht'.typeIs slot_tuple_getitem.lookup (getItem_tuple (j := 0) ht' (by decide) (by decide) ?_ h0 ?_)
      · unfold seqIndex?
        simp [hn]
      · exact ⟨_, rfl, h', _, rfl, kp, .str _ _⟩
  · rintro r s2 ⟨u, rfl, h⟩
    exact h
open LamX (ExtN)
def tSortDef (K : PySem.W.Frag) (ta : TA) : TE := fun σ H Q => ta σ H fun xs H1 => ∃ a vs ns, xs = [.ref a] ∧ SqL K H1 a vs ∧ Named K H1 vs ns ∧ ∀ l, H1 l = none → Q (.ref l) (upd H1 l (.lst (byName vs ns)))
theorem pe_sortDef {X : Cx} {k : Nat} {e : Expr} {y x : Str} {st : Stmt} {args : Arguments} {scope : Scope} {p px kpos pos p1 p2 p3 pr : Pos} {j : Nat} {ta : TA} (A : At X.K X.mg y st) (ea : defArgs st = args) (eb : defBody st = [.Return (some (.Subscript (.Name x p1) (.Constant (.int 0) j p2) p3)) pr]) (es : defScope st = scope) (hr : Room k X.A)
    (hbind : ∀ (kV doc pm : Value) (an : Option Addr) (cd ct v : Value), bindArgs (PySem.W.fnOf y y args [.Return (some (.Subscript (.Name x p1) (.Constant (.int 0) j p2) p3)) pr] scope .none kV doc pm an cd ct) ⟨[v], []⟩ = pure [(x, v)])
    (hg : Gl X "sorted") (hm : X.mg "sorted" = none) (hgy : Gl X y) (hco : scope.isCoroutine = false) (hgen : scope.isGenerator = false) (hk : scope.kind = .function) (hnm : ∀ y ∈ scope.names, y.2 ≠ .cell) (hx : scope.names.lookup x = some .local) (hd : (x == ("__debug__" : Str)) = false) (hdy : (y == ("__debug__" : Str)) = false) (ha : PA X [e] ta)
    (he : backTo pos (starEach [e] X.env) = (false, eval e X.env) :: backTo pos (starEach [] X.env) := by rfl) (hpl : (backTo pos (starEach [e] X.env)).any (·.1) = false := by rfl) :
    PE X (.Call (.Name "sorted" p) [e] [⟨some "key", .Name y px, kpos⟩] pos) (tSortDef X.K ta) := by
  obtain ⟨f, fd, F, hmy⟩ := A
  obtain ⟨oc, od, kV, doc, pm, an, cd, ct, osl, rfl, lk, hcd⟩ := F.ex
  rw [ea, eb, es] at lk
  refine ⟨fun pins s σ H Q I h => ?_⟩
  refine wpAny_Call_Name_kw (ld_blt I hg hm (show bootBuiltins "sorted" = some (.builtin "sorted") by decide +kernel) ?_ (by decide) (by decide))
  refine PyProof.Rows.callWith_kw (thn (ha.run pos pins s σ H _ I h) fun us s1 ⟨vs, H1, I1, r1, q1⟩ => ?_) he hpl rfl rfl
  show wpAny _ _ (evalAll [do let v ← eval (.Name y px) X.env; standAt pos; pure v]) _ _ s1
  obtain ⟨a, vs1, ns, rfl, hs, hn, q⟩ := q1
  obtain rfl := Vals.ref1 r1
  refine wpAny_evalAll_cons (wpAny_bind (ld_glob I1 hgy hmy (wpAny_bind (wpAny_standAt (wpAny_pure (wpAny_evalAll_nil ?_)))) hdy))
  show wpAny _ _ (call (.builtin "sorted") [.ref a] [(Str.ofString "key", .ref f)]) _ _ s1
  obtain ⟨its, rv, hl, hz⟩ := I1.list hs
  have ln := hn.len
  have lz : (vs1.zip ns).length = vs1.length := by rw [List.length_zip, ln, Nat.min_self]
  refine PySem.W.sorted_key_data (b := false) (R := FirstIs s1.heap) (bs := vs1.zip ns) (fun p => .str p.2) hl.isList (each_named I1 hn rv) (PySem.W.AllAlike.of fun _ _ => by simp [PySem.W.alike]) (PySem.W.Sortable.others fun _ => ⟨fun z => (nomatch z), fun _ z => (nomatch z)⟩) (by rw [lz]; exact hz) (fun _ _ => by have := hr.un; simp only [PyData.depth]; omega) (PyProof.Rows.ksk_s1 _ _) (fun _ => PyProof.Rows.ksk_l1 _ _) (fun _ => PyProof.Rows.ksk_t1 _ _) ?turn ?fin
  case turn =>
    rintro v ⟨y, n⟩ ⟨_, p', its', tk, rfl, ht, h0, hz'⟩ _ h tk' kp
    refine def_first (s := { s1 with heap := h, toks := tk' }) (its := its'.toArray) (nm := n) (tk := tk) (by have := hr.dp; show X.A.depth < _; omega) (kp _ _ (I1.kIn _ _ lk)) hco hgen (PySem.W.codeRec_of (I1.kIn.keeps kp) hcd) (fun v => hbind _ _ _ _ _ _ v) hk hnm hx (I1.nolimit.keeps kp) ?_ (by simpa using h0) (by simpa using hz') hd
    obtain ⟨o, e, r⟩ := ht
    exact ⟨o, kp _ _ e, r⟩
  case fin =>
    intro out cc h' tk' kp _ hat hlen er
    have vo := vals_each er
    refine ⟨.ref _, upd H1 (s1.heap.objs.size + 1) (.lst (byName vs1 ns)), I1.laid (t' := tk') kp (Nat.le_succ _) ⟨?_, out, cc, vo, hat⟩, rfl, q _ (I1.hok.fresh (Nat.le_succ _))⟩
    rw [(byName_perm ln).length_eq]; exact hz
end My
set_option Elab.async false
set_option linter.all false
set_option maxRecDepth 100000
set_option maxHeartbeats 1000000
/-! ### what a def does, told by data alone: no heap, no addresses -/
namespace My
open PySem PySem.Spec PyProof.Rows L2 Evl
open Classical in
/-- the heap without the lists that the frame still changes -/
noncomputable def rs (O : Addr → Prop) (H : Hp) : Hp := fun a => if O a then none else H a
section
variable {O : Addr → Prop} {H H' : Hp} {a : Addr} {o : HO}
theorem rs_no (h : ¬ O a) : rs O H a = H a := by unfold rs; rw [if_neg h]
theorem rs_own (h : O a) : rs O H a = none := by unfold rs; rw [if_pos h]
theorem rs_some {u : HO} (h : rs O H a = some u) : ¬ O a ∧ H a = some u := by
  by_cases e : O a
  · rw [rs_own e] at h; cases h
  · rw [rs_no e] at h; exact ⟨e, h⟩
theorem rs_ex : Ex (rs O H) H := fun _ _ h => (rs_some h).2
theorem rs_mono (e : Ex H H') : Ex (rs O H) (rs O H') := fun a u h => by
  obtain ⟨h1, h2⟩ := rs_some h
  rw [rs_no h1]; exact e _ _ h2
theorem rs_upd (h : O a) : rs O (upd H a o) = rs O H := funext fun b => by
  by_cases e : O b
  · rw [rs_own e, rs_own e]
  · rw [rs_no e, rs_no e, upd_ne fun z => e (by rw [z]; exact h)]
def addO (O : Addr → Prop) (a : Addr) : Addr → Prop := fun b => O b ∨ b = a
def subO (O : Addr → Prop) (a : Addr) : Addr → Prop := fun b => O b ∧ b ≠ a
theorem rs_add (h : H a = none) (e : Ex H H') : Ex (rs O H) (rs (addO O a) H') := fun b u hb => by
  obtain ⟨h1, h2⟩ := rs_some hb
  rw [rs_no fun z => z.elim h1 fun z => by rw [z, h] at h2; cases h2]
  exact e _ _ h2
theorem rs_sub : Ex (rs O H) (rs (subO O a) H) := fun b u hb => by
  obtain ⟨h1, h2⟩ := rs_some hb
  rw [rs_no fun z => h1 z.1]; exact h2
theorem rs_addb : Ex (rs (addO O a) H) (rs O H) := fun b u hb => by
  obtain ⟨h1, h2⟩ := rs_some hb
  rw [rs_no fun z => h1 (Or.inl z)]; exact h2
theorem rs_zero : rs (fun _ => False) H = H := funext fun b => rs_no id
end
abbrev Pr := V → Hp → Prop
inductive Sl where
  | no
  | self
  | dat (d : PyData)
  | own (ds : List PyData)
  | ob (P : Pr) (m : Mono P)
abbrev Dq (K : PySem.W.Frag) (d : PyData) : Pr := fun v H => Dp K H v d
theorem Dq.m {K : PySem.W.Frag} {d : PyData} : Mono (Dq K d) := fun _ _ _ e h => dp_ex e h
/-- the instance that a frame works on: its address, what is true of it (F the heap that nothing changes, S what belongs to it) -/
structure Xt where
  M : Addr
  I : Hp → Hp → (Addr → Prop) → Prop
  mono : ∀ (F F' H H' : Hp) (S : Addr → Prop), Ex F F' → (∀ a, S a → H' a = H a) → I F H S → I F' H' S
structure Bs where
  h : Hp
  x : Xt
def x0 : Xt := ⟨0, fun _ _ S => ∀ a, ¬ S a, fun _ _ _ _ _ _ _ h => h⟩
abbrev b0 (H : Hp) : Bs := ⟨H, x0⟩
def IsMt (o : Option HO) : Prop := (∃ xs, o = some (.lst xs)) ∨ ∃ C dx fs, o = some (.ins C dx fs)
theorem mt_ne {o : Option HO} (h : IsMt o) : o ≠ none := by
  rcases h with ⟨xs, rfl⟩ | ⟨C, dx, fs, rfl⟩ <;> exact fun z => by cases z
theorem mt_ex {H H' : Hp} {a : Addr} (e : Ex H H') (h : IsMt (H a)) : H' a = H a := by
  rcases h with ⟨xs, h⟩ | ⟨C, dx, fs, h⟩ <;> rw [h] <;> exact e _ _ h
theorem mt_tup {o : Option HO} {xs : List V} (h : IsMt o) : o ≠ some (.tup xs) := by
  rcases h with ⟨ys, rfl⟩ | ⟨C, dx, fs, rfl⟩ <;> exact fun z => by cases z
theorem mt_frz {o : Option HO} {b : Obj} {u : HO} (h : IsMt o) : o ≠ some (.frz b u) := by
  rcases h with ⟨ys, rfl⟩ | ⟨C, dx, fs, rfl⟩ <;> exact fun z => by cases z
def SlOk (K : PySem.W.Frag) (M : Addr) (O : Addr → Prop) (H : Hp) : Option V → Sl → Prop
  | _, .no => True
  | s, .self => s = some (.ref M)
  | s, .dat d => ∃ v, s = some v ∧ Dp K (rs O H) v d
  | s, .ob P _ => ∃ v, s = some v ∧ P v (rs O H)
  | s, .own ds => ∃ a xs, s = some (.ref a) ∧ O a ∧ H a = some (.lst xs) ∧ DpAll K (rs O H) xs ds
def SlAll (K : PySem.W.Frag) (M : Addr) (O : Addr → Prop) (H : Hp) : L2.St → List Sl → Prop
  | [], [] => True
  | s :: σ, r :: ρ => SlOk K M O H s r ∧ SlAll K M O H σ ρ
  | _, _ => False
section
variable {K : PySem.W.Frag} {M : Addr} {O O' : Addr → Prop} {H H' : Hp}
theorem SlOk.step (e : Ex (rs O H) (rs O' H')) (ho : ∀ a xs, O a → H a = some (.lst xs) → O' a ∧ H' a = some (.lst xs)) : ∀ {s : Option V} {r : Sl}, SlOk K M O H s r → SlOk K M O' H' s r
  | _, .no, _ => trivial
  | _, .self, h => h
  | _, .dat d, ⟨v, h1, h2⟩ => ⟨v, h1, dp_ex e h2⟩
  | _, .ob P m, ⟨v, h1, h2⟩ => ⟨v, h1, m _ _ _ e h2⟩
  | _, .own ds, ⟨a, xs, h1, h2, h3, h4⟩ => ⟨a, xs, h1, (ho a xs h2 h3).1, (ho a xs h2 h3).2, dpa_ex e h4⟩
theorem SlAll.get : ∀ {σ : L2.St} {ρ : List Sl} {i : Nat} {r : Sl}, SlAll K M O H σ ρ → ρ[i]? = some r → ∃ s, σ[i]? = some s ∧ SlOk K M O H s r
  | [], [], _, _, _, h => by cases h
  | s :: σ, r :: ρ, 0, _, h, e => by cases e; exact ⟨s, rfl, h.1⟩
  | s :: σ, r :: ρ, i + 1, _, h, e => SlAll.get (σ := σ) (ρ := ρ) (i := i) h.2 e
  | [], _ :: _, _, _, h, _ => h.elim
  | _ :: _, [], _, _, h, _ => h.elim
theorem SlAll.len : ∀ {σ : L2.St} {ρ : List Sl}, SlAll K M O H σ ρ → σ.length = ρ.length
  | [], [], _ => rfl
  | s :: σ, r :: ρ, h => congrArg (· + 1) (SlAll.len h.2)
  | [], _ :: _, h => h.elim
  | _ :: _, [], h => h.elim
theorem SlAll.set : ∀ {σ : L2.St} {ρ : List Sl} {i : Nat} {s : Option V} {r : Sl}, SlAll K M O H σ ρ → SlOk K M O H s r → SlAll K M O H (σ.set i s) (ρ.set i r)
  | [], [], _, _, _, h, _ => h
  | _ :: _, _ :: _, 0, _, _, h, g => ⟨g, h.2⟩
  | s :: σ, r :: ρ, i + 1, _, _, h, g => ⟨h.1, SlAll.set (i := i) h.2 g⟩
  | [], _ :: _, _, _, _, h, _ => h.elim
  | _ :: _, [], _, _, _, h, _ => h.elim
theorem SlAll.map (f : ∀ {s : Option V} {r : Sl}, SlOk K M O H s r → SlOk K M O' H' s r) : ∀ {σ : L2.St} {ρ : List Sl}, SlAll K M O H σ ρ → SlAll K M O' H' σ ρ
  | [], [], h => h
  | _ :: _, _ :: _, h => ⟨f h.1, SlAll.map f h.2⟩
  | [], _ :: _, h => h.elim
  | _ :: _, [], h => h.elim
theorem SlAll.of : ∀ {σ : L2.St} {ρ : List Sl}, σ.length = ρ.length → (∀ (i : Nat) s r, σ[i]? = some s → ρ[i]? = some r → SlOk K M O' H' s r) → SlAll K M O' H' σ ρ
  | [], [], _, _ => trivial
  | s :: σ, r :: ρ, l, h => ⟨h 0 s r rfl rfl, SlAll.of (Nat.succ.inj l) fun i s' r' h1 h2 => h (i + 1) s' r' h1 h2⟩
  | [], _ :: _, l, _ => by cases l
  | _ :: _, [], l, _ => by cases l
end
structure En (K : PySem.W.Frag) (G : Bs) (O : Addr → Prop) (σ : L2.St) (H : Hp) (ρ : List Sl) : Prop where
  ex : Ex G.h (rs O H)
  li : ∀ a, O a → IsMt (H a)
  sl : SlAll K G.x.M O H σ ρ
  ds : ∀ (i j : Nat) (a : Addr) (ds es : List PyData), ρ[i]? = some (Sl.own ds) → ρ[j]? = some (Sl.own es) → σ[i]? = some (some (V.ref a)) → σ[j]? = some (some (V.ref a)) → i = j
  xt : ∃ S : Addr → Prop, G.x.I (rs O H) H S ∧ (∀ a, S a → O a) ∧ ∀ (i : Nat) (a : Addr) (ds : List PyData), ρ[i]? = some (Sl.own ds) → σ[i]? = some (some (V.ref a)) → ¬ S a
section
variable {K : PySem.W.Frag} {G : Bs} {G' : Hp} {O : Addr → Prop} {σ : L2.St} {H H' : Hp} {ρ : List Sl}
theorem En.mono (e : Ex H H') (h : En K G O σ H ρ) : En K G O σ H' ρ := by
  refine ⟨h.ex.trans (rs_mono e), fun a o => by rw [mt_ex e (h.li a o)]; exact h.li a o, h.sl.map (SlOk.step (rs_mono e) fun a xs o hx => ⟨o, e _ _ hx⟩), h.ds, ?_⟩
  obtain ⟨S, hI, hS, hn⟩ := h.xt
  exact ⟨S, G.x.mono _ _ _ _ S (rs_mono e) (fun a s => mt_ex e (h.li a (hS a s))) hI, hS, hn⟩
theorem En.base (e : Ex G' G.h) (h : En K G O σ H ρ) : En K ⟨G', G.x⟩ O σ H ρ := ⟨e.trans h.ex, h.li, h.sl, h.ds, h.xt⟩
theorem En.out (h : En K G O σ H ρ) : Ex G.h H := h.ex.trans rs_ex
theorem En.noS {a : Addr} (h : En K G O σ H ρ) (na : H a = none) : ¬ O a := fun o => mt_ne (h.li a o) na
theorem getset {α : Type} {i k : Nat} {l : List α} {x y : α} (h : (l.set i x)[k]? = some y) : (i = k ∧ y = x) ∨ (i ≠ k ∧ l[k]? = some y) := by
  rw [List.getElem?_set] at h
  split at h
  · rename_i e
    split at h
    · cases h; exact .inl ⟨e, rfl⟩
    · cases h
  · rename_i e
    exact .inr ⟨e, h⟩
theorem En.dat {i : Nat} {v : V} {d : PyData} (h : En K G O σ H ρ) (hv : Dp K (rs O H) v d) : En K G O (σ.set i (some v)) H (ρ.set i (.dat d)) :=
  ⟨h.ex, h.li, h.sl.set ⟨v, rfl, hv⟩, fun p q a ds es h1 h2 h3 h4 => by
    rcases getset h1 with ⟨_, e⟩ | ⟨n1, h1⟩
    · cases e
    rcases getset h2 with ⟨_, e⟩ | ⟨n2, h2⟩
    · cases e
    rcases getset h3 with ⟨e, _⟩ | ⟨_, h3⟩
    · exact absurd e n1
    rcases getset h4 with ⟨e, _⟩ | ⟨_, h4⟩
    · exact absurd e n2
    exact h.ds p q a ds es h1 h2 h3 h4, by
    obtain ⟨S, hI, hS, hn⟩ := h.xt
    refine ⟨S, hI, hS, fun p a ds h1 h3 => ?_⟩
    rcases getset h1 with ⟨_, e⟩ | ⟨n1, h1⟩
    · cases e
    rcases getset h3 with ⟨e, _⟩ | ⟨_, h3⟩
    · exact absurd e n1
    exact hn p a ds h1 h3⟩
theorem En.ob {i : Nat} {v : V} {P : Pr} {m : Mono P} (h : En K G O σ H ρ) (hv : P v (rs O H)) : En K G O (σ.set i (some v)) H (ρ.set i (.ob P m)) :=
  ⟨h.ex, h.li, h.sl.set ⟨v, rfl, hv⟩, fun p q a ds es h1 h2 h3 h4 => by
    rcases getset h1 with ⟨_, e⟩ | ⟨n1, h1⟩
    · cases e
    rcases getset h2 with ⟨_, e⟩ | ⟨n2, h2⟩
    · cases e
    rcases getset h3 with ⟨e, _⟩ | ⟨_, h3⟩
    · exact absurd e n1
    rcases getset h4 with ⟨e, _⟩ | ⟨_, h4⟩
    · exact absurd e n2
    exact h.ds p q a ds es h1 h2 h3 h4, by
    obtain ⟨S, hI, hS, hn⟩ := h.xt
    refine ⟨S, hI, hS, fun p a ds h1 h3 => ?_⟩
    rcases getset h1 with ⟨_, e⟩ | ⟨n1, h1⟩
    · cases e
    rcases getset h3 with ⟨e, _⟩ | ⟨_, h3⟩
    · exact absurd e n1
    exact hn p a ds h1 h3⟩
theorem En.set0 {i : Nat} {s : Option V} (h : En K G O σ H ρ) : En K G O (σ.set i s) H (ρ.set i .no) :=
  ⟨h.ex, h.li, h.sl.set trivial, fun p q a ds es h1 h2 h3 h4 => by
    rcases getset h1 with ⟨_, e⟩ | ⟨n1, h1⟩
    · cases e
    rcases getset h2 with ⟨_, e⟩ | ⟨n2, h2⟩
    · cases e
    rcases getset h3 with ⟨e, _⟩ | ⟨_, h3⟩
    · exact absurd e n1
    rcases getset h4 with ⟨e, _⟩ | ⟨_, h4⟩
    · exact absurd e n2
    exact h.ds p q a ds es h1 h2 h3 h4, by
    obtain ⟨S, hI, hS, hn⟩ := h.xt
    refine ⟨S, hI, hS, fun p a ds h1 h3 => ?_⟩
    rcases getset h1 with ⟨_, e⟩ | ⟨n1, h1⟩
    · cases e
    rcases getset h3 with ⟨e, _⟩ | ⟨_, h3⟩
    · exact absurd e n1
    exact hn p a ds h1 h3⟩
theorem En.own {i : Nat} {a : Addr} {xs : List V} {ds : List PyData} (h : En K G O σ H ρ) (e : Ex H H') (na : H a = none) (ha : H' a = some (.lst xs)) (hd : DpAll K (rs (addO O a) H') xs ds) : En K G (addO O a) (σ.set i (some (.ref a))) H' (ρ.set i (.own ds)) := by
  have ea : Ex (rs O H) (rs (addO O a) H') := rs_add na e
  have nO : ¬ O a := h.noS na
  refine ⟨h.ex.trans ea, fun b o => ?_, (h.sl.map (SlOk.step ea fun b ys o hb => ⟨Or.inl o, e _ _ hb⟩)).set ⟨a, xs, rfl, Or.inr rfl, ha, hd⟩, fun p q b ds es h1 h2 h3 h4 => ?_, ?_⟩
  · rcases o with o | rfl
    · rw [mt_ex e (h.li b o)]; exact h.li b o
    · exact .inl ⟨xs, ha⟩
  · have no : ∀ {k : Nat} {ds : List PyData}, ρ[k]? = some (.own ds) → σ[k]? = some (some (.ref a)) → False := fun {k ds} e1 e2 => by
      obtain ⟨s, hs, b, ys, hb, ob, _⟩ := h.sl.get e1
      rw [e2] at hs
      cases hs
      cases hb
      exact nO ob
    rcases getset h1 with ⟨e1, _⟩ | ⟨n1, h1⟩ <;> rcases getset h2 with ⟨e2, _⟩ | ⟨n2, h2⟩ <;> rcases getset h3 with ⟨e3, f3⟩ | ⟨n3, h3⟩ <;> rcases getset h4 with ⟨e4, f4⟩ | ⟨n4, h4⟩
    · exact e1.symm.trans e2
    · exact e1.symm.trans e2
    · exact e1.symm.trans e2
    · exact e1.symm.trans e2
    · exact absurd e4 n2
    · cases f3; exact (no h2 h4).elim
    · exact absurd e1 n3
    · exact absurd e1 n3
    · exact absurd e3 n1
    · exact absurd e3 n1
    · cases f4; exact (no h1 h3).elim
    · exact absurd e2 n4
    · exact absurd e3 n1
    · exact absurd e3 n1
    · exact absurd e4 n2
    · exact h.ds p q b _ _ h1 h2 h3 h4
  · obtain ⟨S, hI, hS, hn⟩ := h.xt
    refine ⟨S, G.x.mono _ _ _ _ S ea (fun b s => mt_ex e (h.li b (hS b s))) hI, fun b s => Or.inl (hS b s), fun p b ds h1 h3 => ?_⟩
    rcases getset h1 with ⟨e1, f1⟩ | ⟨n1, h1⟩ <;> rcases getset h3 with ⟨e3, f3⟩ | ⟨n3, h3⟩
    · cases f3; exact fun s => nO (hS _ s)
    · exact absurd e1 n3
    · exact absurd e3 n1
    · exact hn p b ds h1 h3
/-- a list is changed no more -/
theorem En.frz {i : Nat} {ds : List PyData} (h : En K G O σ H ρ) (hi : ρ[i]? = some (.own ds)) : ∃ O', En K G O' σ H (ρ.set i (.dat (.list ds))) := by
  obtain ⟨s, hs, a, xs, rfl, oa, ha, hd⟩ := h.sl.get hi
  have ea : Ex (rs O H) (rs (subO O a) H) := rs_sub
  obtain ⟨S, hI, hS, hn⟩ := h.xt
  refine ⟨subO O a, h.ex.trans ea, fun b o => h.li b o.1, SlAll.of (by rw [List.length_set]; exact h.sl.len) fun k s' r h1 h2 => ?_, fun p q b ds es h1 h2 h3 h4 => ?_, S, G.x.mono _ _ _ _ S ea (fun _ _ => rfl) hI, fun b s => ⟨hS b s, fun z => hn i a ds hi hs (by rw [← z]; exact s)⟩, fun p b ds h1 h3 => ?_⟩
  · rcases getset h2 with ⟨rfl, rfl⟩ | ⟨n, h2⟩
    · rw [hs] at h1
      cases h1
      exact ⟨_, rfl, .lst (sq_of (by rw [rs_no fun z => z.2 rfl]; exact ha)) (dpa_ex ea hd)⟩
    · obtain ⟨s2, hs2, ok⟩ := h.sl.get h2
      rw [h1] at hs2
      cases hs2
      cases r with
      | no => trivial
      | self => exact ok
      | dat d => exact ok.imp fun v z => ⟨z.1, dp_ex ea z.2⟩
      | ob P m => exact ok.imp fun v z => ⟨z.1, m _ _ _ ea z.2⟩
      | own es =>
        obtain ⟨b, ys, rfl, ob, hb, db⟩ := ok
        exact ⟨b, ys, rfl, ⟨ob, fun z => n (h.ds _ _ a _ _ hi h2 hs (z ▸ h1))⟩, hb, dpa_ex ea db⟩
  · rcases getset h1 with ⟨_, e⟩ | ⟨_, h1⟩
    · cases e
    rcases getset h2 with ⟨_, e⟩ | ⟨_, h2⟩
    · cases e
    exact h.ds p q b _ _ h1 h2 h3 h4
  · rcases getset h1 with ⟨_, e⟩ | ⟨_, h1⟩
    · cases e
    exact hn p b _ h1 h3
mutual
theorem dp_noL (li : ∀ a, O a → IsMt (H a)) : ∀ {v : V} {d : PyData}, noL d = true → Dp K H v d → Dp K (rs O H) v d
  | _, _, _, .non => .non
  | _, _, _, .bl b => .bl b
  | _, _, _, .int i => .int i
  | _, _, _, .str x => .str x
  | _, _, h, .lst _ _ => by simp [noL] at h
  | _, _, h, .tup (a := a) hs ha => .tup (by
      rcases hs with (hs | ⟨o, hs⟩) | hs
      · exact Or.inl (Or.inl (by rw [rs_no fun z => mt_tup (li a z) hs]; exact hs))
      · exact Or.inl (Or.inr ⟨o, by rw [rs_no fun z => mt_frz (li a z) hs]; exact hs⟩)
      · exact Or.inr hs) (dpa_noL li (by simpa [noL] using h) ha)
theorem dpa_noL (li : ∀ a, O a → IsMt (H a)) : ∀ {vs : List V} {ds : List PyData}, noLs ds = true → DpAll K H vs ds → DpAll K (rs O H) vs ds
  | _, _, _, .nil => .nil
  | _, _, h, .cons a b => .cons (dp_noL li (by simp [noLs] at h; exact h.1) a) (dpa_noL li (by simp [noLs] at h; exact h.2) b)
end
theorem li_mono (h : En K G O σ H ρ) (e : Ex H H') : ∀ a, O a → IsMt (H' a) := fun a o => by rw [mt_ex e (h.li a o)]; exact h.li a o
theorem li_add {a : Addr} {xs : List V} (h : En K G O σ H ρ) (e : Ex H H') (ha : H' a = some (.lst xs)) : ∀ b, addO O a b → IsMt (H' b) := fun b o => o.elim (li_mono h e b) fun z => .inl ⟨xs, z ▸ ha⟩
end
/-! ### what evaluates to what data -/
section
variable (K : PySem.W.Frag) (G : Bs) (te : TE) (tt : TT) (tA : TA) (ρ : List Sl)
/-- data that no list of the frame is in; the same of any property; what holds just now -/
def Sg (P : Pr) : Prop := ∀ σ H O, En K G O σ H ρ → ∀ Q : VK, (∀ v H', Ex H H' → P v (rs O H') → Q v H') → te σ H Q
def Tg (P : Pr) : Prop := ∀ σ H O, En K G O σ H ρ → ∀ Q : VK, (∀ v H', Ex H H' → P v H' → Q v H') → te σ H Q
abbrev Sv (d : PyData) : Prop := Sg K G te ρ (Dq K d)
abbrev Tv (d : PyData) : Prop := Tg K G te ρ (Dq K d)
/-- a new list -/
def Nv (ds : List PyData) : Prop := ∀ σ H O, En K G O σ H ρ → ∀ Q : VK, (∀ a xs H', Ex H H' → H a = none → H' a = some (.lst xs) → DpAll K (rs (addO O a) H') xs ds → Q (.ref a) H') → te σ H Q
/-- a list whose things no list of the frame is in; it stands as one -/
def Lv (ds : List PyData) : Prop := ∀ σ H O, En K G O σ H ρ → ∀ Q : VK, (∀ a xs H', Ex H H' → SqL K H' a xs → DpAll K (rs O H') xs ds → Q (.ref a) H') → te σ H Q
def Lx (ds : List PyData) : Prop := ∀ σ H O, En K G O σ H ρ → ∀ Q : VK, (∀ a xs H', Ex H H' → H' a = some (.lst xs) → DpAll K (rs O H') xs ds → Q (.ref a) H') → te σ H Q
def Bt (b : Bool) : Prop := ∀ σ H O, En K G O σ H ρ → ∀ Q : Bool → Hp → Prop, (∀ H', Ex H H' → Q b H') → tt σ H Q
def Av (Ps : List Pr) : Prop := ∀ σ H O, En K G O σ H ρ → ∀ Q : List V → Hp → Prop, (∀ vs H', Ex H H' → AllP H' vs Ps → Q vs H') → tA σ H Q
def As (Ps : List Pr) : Prop := ∀ σ H O, En K G O σ H ρ → ∀ Q : List V → Hp → Prop, (∀ vs H', Ex H H' → AllP (rs O H') vs Ps → Q vs H') → tA σ H Q
end
section
variable {K : PySem.W.Frag} {G : Bs} {te ta tb tl tc : TE} {tt tu tw : TT} {tA : TA} {ρ : List Sl} {P : Pr} {d e f : PyData} {ds es : List PyData} {b c : Bool} {r : R2} {σ : L2.St} {H : Hp} {O : Addr → Prop} {i : Nat}
theorem Sg.g (h : Sg K G te ρ P) (en : En K G O σ H ρ) : EvG te σ H fun v H' => P v (rs O H') := fun H1 e Q q => h σ H1 O (en.mono e) Q q
theorem Tg.g (h : Tg K G te ρ P) (en : En K G O σ H ρ) : EvG te σ H P := fun H1 e Q q => h σ H1 O (en.mono e) Q q
theorem Bt.g (h : Bt K G tt ρ b) (en : En K G O σ H ρ) : EvT tt σ H b := fun H1 e Q q => h σ H1 O (en.mono e) Q q
theorem Sg.t (m : Mono P) (h : Sg K G te ρ P) : Tg K G te ρ P := fun σ H O en Q q => h σ H O en Q fun v H' e p => q v H' e (m _ _ _ rs_ex p)
theorem Sg.tv (h : Sv K G te ρ d) : Tv K G te ρ d := h.t Dq.m
theorem Sg.is (h : Sv K G te ρ d) (he : d = e) : Sv K G te ρ e := he ▸ h
theorem Tg.is (h : Tv K G te ρ d) (he : d = e) : Tv K G te ρ e := he ▸ h
theorem Nv.is (h : Nv K G te ρ ds) (e : ds = es) : Nv K G te ρ es := e ▸ h
theorem Bt.is (h : Bt K G tt ρ b) (e : b = c) : Bt K G tt ρ c := e ▸ h
theorem Tg.s (h : Tv K G te ρ d) (n : noL d = true) : Sv K G te ρ d := fun σ H O en Q q => h σ H O en Q fun v H' e p => q v H' e (dp_noL (li_mono en e) n p)
theorem Nv.x (h : Nv K G te ρ ds) : Lx K G te ρ ds := fun σ H O en Q q => h σ H O en Q fun a xs H' e _ ha hd => q a xs H' e ha (dpa_ex rs_addb hd)
theorem Lx.l (h : Lx K G te ρ ds) : Lv K G te ρ ds := fun σ H O en Q q => h σ H O en Q fun a xs H' e ha hd => q a xs H' e (sq_of ha) hd
theorem Nv.s (h : Nv K G te ρ ds) : Sv K G te ρ (.list ds) := fun σ H O en Q q => h σ H O en Q fun a xs H' e na ha hd =>
  q _ H' e (.lst (sq_of (by rw [rs_no fun z => mt_ne (en.li a z) na]; exact ha)) (dpa_ex rs_addb hd))
theorem Sg.l (h : Sv K G te ρ (.list ds)) : Lv K G te ρ ds := fun σ H O en Q q => h σ H O en Q fun v H' e p => by
  obtain ⟨a, xs, rfl, hs, hd⟩ := dp_lst_inv p
  exact q a xs H' e (ex_l rs_ex hs) hd
theorem Lv.t (h : Lv K G te ρ ds) : Tv K G te ρ (.list ds) := fun σ H O en Q q => h σ H O en Q fun a xs H' e hs hd => q _ H' e (.lst hs (dpa_ex rs_ex hd))
/-! names, constants -/
theorem sv_var (h : ρ[i]? = some (.dat d)) : Sv K G (tVar i) ρ d := fun σ H O en Q q => by
  obtain ⟨s, hs, v, rfl, hv⟩ := en.sl.get h
  exact ⟨v, hs, q v H (Ex.refl H) hv⟩
theorem sg_var {m : Mono P} (h : ρ[i]? = some (.ob P m)) : Sg K G (tVar i) ρ P := fun σ H O en Q q => by
  obtain ⟨s, hs, v, rfl, hv⟩ := en.sl.get h
  exact ⟨v, hs, q v H (Ex.refl H) hv⟩
theorem lx_own (h : ρ[i]? = some (.own ds)) : Lx K G (tVar i) ρ ds := fun σ H O en Q q => by
  obtain ⟨s, hs, a, xs, rfl, oa, ha, hd⟩ := en.sl.get h
  exact ⟨_, hs, q a xs H (Ex.refl H) ha hd⟩
theorem sv_int {j : Int} : Sv K G (tC (.int j)) ρ (.int j) := fun _ H _ _ _ q => q _ H (Ex.refl H) (.int j)
theorem sv_str {x : Str} : Sv K G (tC (.str x)) ρ (.str x) := fun _ H _ _ _ q => q _ H (Ex.refl H) (.str x)
theorem sv_bool {b : Bool} : Sv K G (tC (.bl b)) ρ (.bool b) := fun _ H _ _ _ q => q _ H (Ex.refl H) (.bl b)
theorem sv_none : Sv K G (tC .non) ρ .none := fun _ H _ _ _ q => q _ H (Ex.refl H) .non
/-! two-place operations -/
def Rd2 (K : PySem.W.Frag) (r : R2) (a b c : PyData) : Prop := ∀ H x y, Dp K H x a → Dp K H y b → ∀ Q : VK, (∀ z H', Ex H H' → Dp K H' z c → Q z H') → r x y H Q
theorem tv_op (ha : Tv K G ta ρ d) (hb : Tv K G tb ρ e) (hr : Rd2 K r d e f) : Tv K G (tOp r ta tb) ρ f := fun σ H O en Q q =>
  ha σ H O en _ fun x H1 e1 hx => hb σ H1 O (en.mono e1) _ fun y H2 e2 hy => hr H2 x y (dp_ex e2 hx) hy Q fun z H3 e3 hz => q z H3 ((e1.trans e2).trans e3) hz
theorem sv_op (ha : Tv K G ta ρ d) (hb : Tv K G tb ρ e) (hr : Rd2 K r d e f) (n : noL f = true := by rfl) : Sv K G (tOp r ta tb) ρ f := (tv_op ha hb hr).s n
theorem rd_I {C : Int → Int → Prop} {g : Int → Int → Int} {i j : Int} (h : C i j) : Rd2 K (rI C fun i j => .int (g i j)) (.int i) (.int j) (.int (g i j)) := fun H x y hx hy Q q => by
  obtain rfl := Dp.int_inv hx
  obtain rfl := Dp.int_inv hy
  exact ⟨i, j, rfl, rfl, h, q _ H (Ex.refl H) (.int _)⟩
theorem rd_I0 {g : Int → Int → Int} {i j : Int} : Rd2 K (rI0 fun i j => .int (g i j)) (.int i) (.int j) (.int (g i j)) := fun H x y hx hy Q q => by
  obtain rfl := Dp.int_inv hx
  obtain rfl := Dp.int_inv hy
  exact ⟨i, j, rfl, rfl, q _ H (Ex.refl H) (.int _)⟩
theorem rd_Ib {g : Int → Int → Bool} {i j : Int} : Rd2 K (rI0 fun i j => .bl (g i j)) (.int i) (.int j) (.bool (g i j)) := fun H x y hx hy Q q => by
  obtain rfl := Dp.int_inv hx
  obtain rfl := Dp.int_inv hy
  exact ⟨i, j, rfl, rfl, q _ H (Ex.refl H) (.bl _)⟩
theorem rd_eqI {i j : Int} : Rd2 K rEq (.int i) (.int j) (.bool (decide (i = j))) := fun H x y hx hy Q q => by
  obtain rfl := Dp.int_inv hx
  obtain rfl := Dp.int_inv hy
  exact ⟨rfl, q _ H (Ex.refl H) (by rw [show decide (V.int i = V.int j) = decide (i = j) from decide_eq_decide.mpr ⟨fun h => V.int.inj h, congrArg V.int⟩]; exact .bl _)⟩
theorem rd_neI {i j : Int} : Rd2 K rNe (.int i) (.int j) (.bool (!decide (i = j))) := fun H x y hx hy Q q => by
  obtain rfl := Dp.int_inv hx
  obtain rfl := Dp.int_inv hy
  exact ⟨rfl, q _ H (Ex.refl H) (by rw [show decide (V.int i = V.int j) = decide (i = j) from decide_eq_decide.mpr ⟨fun h => V.int.inj h, congrArg V.int⟩]; exact .bl _)⟩
theorem rd_eqS {i j : Str} : Rd2 K rEq (.str i) (.str j) (.bool (decide (i = j))) := fun H x y hx hy Q q => by
  obtain rfl := Dp.str_inv hx
  obtain rfl := Dp.str_inv hy
  exact ⟨rfl, q _ H (Ex.refl H) (by rw [show decide (V.str i = V.str j) = decide (i = j) from decide_eq_decide.mpr ⟨fun h => V.str.inj h, congrArg V.str⟩]; exact .bl _)⟩
theorem rd_neS {i j : Str} : Rd2 K rNe (.str i) (.str j) (.bool (!decide (i = j))) := fun H x y hx hy Q q => by
  obtain rfl := Dp.str_inv hx
  obtain rfl := Dp.str_inv hy
  exact ⟨rfl, q _ H (Ex.refl H) (by rw [show decide (V.str i = V.str j) = decide (i = j) from decide_eq_decide.mpr ⟨fun h => V.str.inj h, congrArg V.str⟩]; exact .bl _)⟩
theorem rd_eqD (sd : SeqAt.shaped d = true) (se : SeqAt.shaped e = true) : Rd2 K (rEqD K) d e (.bool (PyData.eqv d e)) := fun H x y hx hy Q q => ⟨d, e, hx, hy, sd, se, q _ H (Ex.refl H) (.bl _)⟩
theorem rd_neD (sd : SeqAt.shaped d = true) (se : SeqAt.shaped e = true) : Rd2 K (rNeD K) d e (.bool (!PyData.eqv d e)) := fun H x y hx hy Q q => ⟨d, e, hx, hy, sd, se, q _ H (Ex.refl H) (.bl _)⟩
theorem rd_addS {x y : Str} (h : x.length + y.length ≤ 100000) : Rd2 K (fun x y H Q => ∃ i j, x = .str i ∧ y = .str j ∧ i.length + j.length ≤ sizeLine ∧ Q (.str (i ++ j)) H) (.str x) (.str y) (.str (x ++ y)) := fun H u v hx hy Q q => by
  obtain rfl := Dp.str_inv hx
  obtain rfl := Dp.str_inv hy
  exact ⟨x, y, rfl, rfl, sz_of h, q _ H (Ex.refl H) (.str _)⟩
theorem flats_str (xs : List Str) : (xs.map V.str).all flatV = true := flat_txs xs
theorem rd_inS {neg : Bool} {x : Str} {xs : List Str} : Rd2 K (rIn K neg) (.str x) (.list (xs.map .str)) (.bool (if neg then !decide (x ∈ xs) else decide (x ∈ xs))) := fun H u v hx hy Q q => by
  obtain rfl := Dp.str_inv hx
  obtain ⟨a, rfl, hs⟩ := txl_of_dp hy
  exact ⟨a, _, rfl, .inl hs, rfl, flat_txs xs, q _ H (Ex.refl H) (by rw [inV_txs]; exact .bl _)⟩
theorem rd_inT {neg : Bool} {x : Str} {xs : List Str} : Rd2 K (rIn K neg) (.str x) (tD xs) (.bool (if neg then !decide (x ∈ xs) else decide (x ∈ xs))) := fun H u v hx hy Q q => by
  obtain rfl := Dp.str_inv hx
  obtain ⟨a, rfl, hs⟩ := texts_of_dp hy
  exact ⟨a, _, rfl, .inr hs, rfl, flat_txs xs, q _ H (Ex.refl H) (by rw [inV_txs]; exact .bl _)⟩
/-- is None -/
def isNoneD : PyData → Bool
  | .none => true
  | _ => false
theorem isn_dp {v : V} (h : Dp K H v d) : decide (v = .non) = isNoneD d := by
  cases h <;> rfl
theorem rd_isN : Rd2 K (fun x y H Q => y = .non ∧ Q (.bl (decide (x = .non))) H) d .none (.bool (isNoneD d)) := fun H u v hx hy Q q => by
  cases hy
  exact ⟨rfl, q _ H (Ex.refl H) (by rw [isn_dp hx]; exact .bl _)⟩
theorem rd_notN : Rd2 K (fun x y H Q => y = .non ∧ Q (.bl (!decide (x = .non))) H) d .none (.bool (!isNoneD d)) := fun H u v hx hy Q q => by
  cases hy
  exact ⟨rfl, q _ H (Ex.refl H) (by rw [isn_dp hx]; exact .bl _)⟩
/-! indices -/
theorem dpa_atI : ∀ {vs : List V} {ds : List PyData} {i : Int}, DpAll K H vs ds → atI ds i = some d → ∃ v, atI vs i = some v ∧ Dp K H v d := fun {vs ds i} hd h => by
  have l := dpa_len hd
  unfold atI at h ⊢
  rw [l]
  cases e : ixN ds.length i with
  | none => rw [e] at h; cases h
  | some j =>
    rw [e] at h
    obtain ⟨v, h1, h2⟩ := dpa_at _ _ j d hd h
    exact ⟨v, h1, h2⟩
theorem sv_ixL {i : Int} (hl : Lv K G tl ρ ds) (hi : Tv K G te ρ (.int i)) (h : atI ds i = some d) : Sv K G (tOp (rIxL K) tl te) ρ d := fun σ H O en Q q =>
  hl σ H O en _ fun a xs H1 e1 hs hd => hi σ H1 O (en.mono e1) _ fun y H2 e2 hy => by
    obtain rfl := Dp.int_inv hy
    obtain ⟨v, hv, dv⟩ := dpa_atI hd h
    exact ⟨a, xs, i, v, rfl, rfl, ex_l e2 hs, hv, q v H2 (e1.trans e2) (dp_ex (rs_mono e2) dv)⟩
theorem sv_ixT {i : Int} (hl : Sv K G tl ρ (.tuple ds)) (hi : Tv K G te ρ (.int i)) (h : atI ds i = some d) : Sv K G (tOp (rIxT K) tl te) ρ d := fun σ H O en Q q =>
  hl σ H O en _ fun x H1 e1 hx => hi σ H1 O (en.mono e1) _ fun y H2 e2 hy => by
    obtain rfl := Dp.int_inv hy
    obtain ⟨a, xs, rfl, hs, hd⟩ := Dp.tup_inv hx
    obtain ⟨v, hv, dv⟩ := dpa_atI hd h
    exact ⟨a, xs, i, v, rfl, rfl, ex_t (rs_ex.trans e2) hs, hv, q v H2 (e1.trans e2) (dp_ex (rs_mono e2) dv)⟩
/-! arguments, displays -/
theorem av_nil : Av K G tNil ρ [] := fun _ H _ _ _ q => q [] H (Ex.refl H) .nil
theorem av_cons {Ps : List Pr} (m : Mono P) (h : Tg K G te ρ P) (r : Av K G tA ρ Ps) : Av K G (tCons te tA) ρ (P :: Ps) := fun σ H O en Q q =>
  h σ H O en _ fun v H1 e1 hv => r σ H1 O (en.mono e1) _ fun vs H2 e2 hvs => q _ H2 (e1.trans e2) (.cons (m _ _ _ e2 hv) hvs)
theorem av_d {Ps : List Pr} (h : Tv K G te ρ d) (r : Av K G tA ρ Ps) : Av K G (tCons te tA) ρ (Dq K d :: Ps) := av_cons Dq.m h r
def Ad (K : PySem.W.Frag) (G : Bs) (tA : TA) (ρ : List Sl) (ds : List PyData) : Prop := ∀ σ H O, En K G O σ H ρ → ∀ Q : List V → Hp → Prop, (∀ vs H', Ex H H' → DpAll K (rs O H') vs ds → Q vs H') → tA σ H Q
theorem ad_nil : Ad K G tNil ρ [] := fun _ H _ _ _ q => q [] H (Ex.refl H) .nil
theorem ad_cons (h : Sv K G te ρ d) (r : Ad K G tA ρ ds) : Ad K G (tCons te tA) ρ (d :: ds) := fun σ H O en Q q =>
  h σ H O en _ fun v H1 e1 hv => r σ H1 O (en.mono e1) _ fun vs H2 e2 hvs => q _ H2 (e1.trans e2) (.cons (dp_ex (rs_mono e2) hv) hvs)
theorem sv_tup (h : Ad K G tA ρ ds) (hl : ds.length ≤ 100000 := by first | decide | simp) : Sv K G (tTup tA) ρ (.tuple ds) := fun σ H O en Q q =>
  h σ H O en _ fun vs H1 e1 hv => ⟨sz_of (by rw [dpa_len hv]; exact hl), fun p np => q _ _ (e1.trans (Ex.new np)) (.tup (st_of (by rw [rs_no fun z => mt_ne (li_mono en e1 p z) np]; exact upd_same)) (dpa_ex (rs_mono (Ex.new np)) hv))⟩
theorem nv_lst (h : Ad K G tA ρ ds) (hl : ds.length ≤ 100000 := by first | decide | simp) : Nv K G (tLst tA) ρ ds := fun σ H O en Q q =>
  h σ H O en _ fun vs H1 e1 hv => ⟨sz_of (by rw [dpa_len hv]; exact hl), fun p np => q _ _ _ (e1.trans (Ex.new np)) (fresh_back e1 np) upd_same (dpa_ex (rs_add np (Ex.new np)) hv)⟩
theorem nv_cat (ha : Lx K G ta ρ ds) (hb : Lx K G tb ρ es) (hz : ds.length + es.length ≤ 100000) : Nv K G (tOp rCat ta tb) ρ (ds ++ es) := fun σ H O en Q q =>
  ha σ H O en _ fun p1 xs H1 e1 hp1 d1 => hb σ H1 O (en.mono e1) _ fun p2 ys H2 e2 hp2 d2 =>
    ⟨p1, p2, xs, ys, rfl, rfl, e2 _ _ hp1, hp2, sz_of (by rw [dpa_len d1, dpa_len d2]; exact hz), fun l nl => q l _ _ ((e1.trans e2).trans (Ex.new nl)) (fresh_back (e1.trans e2) nl) upd_same (dpa_app (dpa_ex ((rs_mono e2).trans (rs_add nl (Ex.new nl))) d1) (dpa_ex (rs_add nl (Ex.new nl)) d2))⟩
theorem nv_list (h : Lv K G te ρ ds) : Nv K G (tCB (rListS K) (tCons te tNil)) ρ ds := fun σ H O en Q q =>
  h σ H O en _ fun a xs H1 e1 hs hd => ⟨a, xs, rfl, .inl hs, fun l nl => q l _ _ (e1.trans (Ex.new nl)) (fresh_back e1 nl) upd_same (dpa_ex (rs_add nl (Ex.new nl)) hd)⟩
theorem nv_listT (h : Sv K G te ρ (.tuple ds)) : Nv K G (tCB (rListS K) (tCons te tNil)) ρ ds := fun σ H O en Q q =>
  h σ H O en _ fun x H1 e1 hx => by
    obtain ⟨a, xs, rfl, hs, hd⟩ := Dp.tup_inv hx
    exact ⟨a, xs, rfl, .inr (ex_t rs_ex hs), fun l nl => q l _ _ (e1.trans (Ex.new nl)) (fresh_back e1 nl) upd_same (dpa_ex (rs_add nl (Ex.new nl)) hd)⟩
theorem sv_tupL (h : Lv K G te ρ ds) : Sv K G (tCB (rTupS K) (tCons te tNil)) ρ (.tuple ds) := fun σ H O en Q q =>
  h σ H O en _ fun a xs H1 e1 hs hd => ⟨a, xs, rfl, .inl ⟨hs, fun l nl => q _ _ (e1.trans (Ex.new nl)) (.tup (st_of (by rw [rs_no fun z => mt_ne (li_mono en e1 l z) nl]; exact upd_same)) (dpa_ex (rs_mono (Ex.new nl)) hd))⟩⟩
theorem sv_lenL (h : Lv K G te ρ ds) : Sv K G (tCB (rLenS K) (tCons te tNil)) ρ (.int (ds.length : Int)) := fun σ H O en Q q =>
  h σ H O en _ fun a xs H1 e1 hs hd => ⟨a, xs, rfl, .inl hs, q _ H1 e1 (by rw [dpa_len hd]; exact .int _)⟩
theorem sv_lenT (h : Sv K G te ρ (.tuple ds)) : Sv K G (tCB (rLenS K) (tCons te tNil)) ρ (.int (ds.length : Int)) := fun σ H O en Q q =>
  h σ H O en _ fun x H1 e1 hx => by
    obtain ⟨a, xs, rfl, hs, hd⟩ := Dp.tup_inv hx
    exact ⟨a, xs, rfl, .inr (ex_t rs_ex hs), q _ H1 e1 (by rw [dpa_len hd]; exact .int _)⟩
theorem sv_lenS {x : Str} (h : Tv K G te ρ (.str x)) (hx : x.length ≤ 100000) : Sv K G (tCB (fun xs H Q => ∃ z, xs = [.str z] ∧ z.length ≤ sizeLine ∧ Q (.int z.length) H) (tCons te tNil)) ρ (.int (x.length : Int)) := fun σ H O en Q q =>
  h σ H O en _ fun y H1 e1 hy => by
    obtain rfl := Dp.str_inv hy
    exact ⟨x, rfl, sz_of hx, q _ H1 e1 (.int _)⟩
theorem bools_inv {vs : List V} : ∀ {bs : List Bool}, DpAll K H vs (bs.map .bool) → vs = bs.map V.bl := by
  induction vs with
  | nil => intro bs h; cases bs with | nil => rfl | cons => cases h
  | cons v vs ih => intro bs h; cases bs with
    | nil => cases h
    | cons b bs => cases h with | cons h1 h2 => cases h1; rw [ih h2]; rfl
theorem ints_inv {vs : List V} : ∀ {bs : List Int}, DpAll K H vs (bs.map .int) → vs = bs.map V.int := by
  induction vs with
  | nil => intro bs h; cases bs with | nil => rfl | cons => cases h
  | cons v vs ih => intro bs h; cases bs with
    | nil => cases h
    | cons b bs => cases h with | cons h1 h2 => cases h1; rw [ih h2]; rfl
theorem sv_all {bs : List Bool} (h : Lv K G te ρ (bs.map .bool)) : Sv K G (tCB (rAll K) (tCons te tNil)) ρ (.bool (bs.all id)) := fun σ H O en Q q =>
  h σ H O en _ fun a xs H1 e1 hs hd => ⟨a, bs, rfl, bools_inv hd ▸ hs, q _ H1 e1 (.bl _)⟩
theorem sv_any {bs : List Bool} (h : Lv K G te ρ (bs.map .bool)) : Sv K G (tCB (rAny K) (tCons te tNil)) ρ (.bool (bs.any id)) := fun σ H O en Q q =>
  h σ H O en _ fun a xs H1 e1 hs hd => ⟨a, bs, rfl, bools_inv hd ▸ hs, q _ H1 e1 (.bl _)⟩
theorem sv_sum {bs : List Int} (h : Lv K G te ρ (bs.map .int)) : Sv K G (tCB (rSum K) (tCons te tNil)) ρ (.int bs.sum) := fun σ H O en Q q =>
  h σ H O en _ fun a xs H1 e1 hs hd => ⟨a, bs, rfl, ints_inv hd ▸ hs, q _ H1 e1 (.int _)⟩
theorem sv_intI {j : Int} (h : Tv K G te ρ (.int j)) : Sv K G (tCB (fun xs H Q => (∃ i, xs = [.int i] ∧ Q (.int i) H) ∨ ∃ k, xs = [.bl k] ∧ Q (.int (if k then 1 else 0)) H) (tCons te tNil)) ρ (.int j) := fun σ H O en Q q =>
  h σ H O en _ fun y H1 e1 hy => by
    obtain rfl := Dp.int_inv hy
    exact .inl ⟨j, rfl, q _ H1 e1 (.int _)⟩
theorem sv_intB {j : Bool} (h : Tv K G te ρ (.bool j)) : Sv K G (tCB (fun xs H Q => (∃ i, xs = [.int i] ∧ Q (.int i) H) ∨ ∃ k, xs = [.bl k] ∧ Q (.int (if k then 1 else 0)) H) (tCons te tNil)) ρ (.int (if j then 1 else 0)) := fun σ H O en Q q =>
  h σ H O en _ fun y H1 e1 hy => by
    cases hy
    exact .inr ⟨j, rfl, q _ H1 e1 (.int _)⟩
/-! conditions -/
theorem sv_if {v1 v2 : PyData} (h : Bt K G tt ρ b) (h1 : b = true → Sv K G ta ρ v1) (h2 : b = false → Sv K G tb ρ v2) : Sv K G (tIf tt ta tb) ρ (if b then v1 else v2) := fun σ H O en Q q =>
  h σ H O en _ fun H1 e1 => by
    cases b with
    | true => exact h1 rfl σ H1 O (en.mono e1) Q fun v H2 e2 => q v H2 (e1.trans e2)
    | false => exact h2 rfl σ H1 O (en.mono e1) Q fun v H2 e2 => q v H2 (e1.trans e2)
theorem sv_and (h1 : Tv K G ta ρ (.bool b)) (h2 : b = true → Tv K G tb ρ (.bool c)) : Sv K G (tAndV ta tb) ρ (.bool (b && c)) := fun σ H O en Q q => h1 σ H O en _ fun x H1 e1 hx => by
  cases hx
  refine ⟨b, rfl, ?_⟩
  cases b with
  | true => exact h2 rfl σ H1 O (en.mono e1) Q fun v H2 e2 hv => by cases hv; exact q _ H2 (e1.trans e2) (.bl _)
  | false => exact q _ H1 e1 (.bl _)
theorem sv_or (h1 : Tv K G ta ρ (.bool b)) (h2 : b = false → Tv K G tb ρ (.bool c)) : Sv K G (tOrV ta tb) ρ (.bool (b || c)) := fun σ H O en Q q => h1 σ H O en _ fun x H1 e1 hx => by
  cases hx
  refine ⟨b, rfl, ?_⟩
  cases b with
  | true => exact q _ H1 e1 (.bl _)
  | false => exact h2 rfl σ H1 O (en.mono e1) Q fun v H2 e2 hv => by cases hv; exact q _ H2 (e1.trans e2) (.bl _)
theorem sv_not (h1 : Tv K G ta ρ (.bool b)) : Sv K G (tNotV ta) ρ (.bool (!b)) := fun σ H O en Q q => h1 σ H O en _ fun x H1 e1 hx => by
  cases hx
  exact ⟨b, rfl, q _ H1 e1 (.bl _)⟩
theorem sv_chain {r' : R2} {b c : Bool} {x y z : PyData} (ha : Tv K G ta ρ x) (hb : Tv K G tb ρ y) (hr : Rd2 K r x y (.bool b)) (hc : b = true → Tv K G tc ρ z) (hr' : b = true → Rd2 K r' y z (.bool c)) : Sv K G (tChain r r' ta tb tc) ρ (.bool (b && c)) := fun σ H O en Q q =>
  ha σ H O en _ fun x H1 e1 hx => hb σ H1 O (en.mono e1) _ fun y H2 e2 hy => hr H2 x y (dp_ex e2 hx) hy _ fun w H3 e3 hw => by
    cases hw
    refine ⟨b, rfl, ?_⟩
    have e13 := (e1.trans e2).trans e3
    cases b with
    | true => exact iteT (hc rfl σ H3 O (en.mono e13) _ fun z H4 e4 hz => hr' rfl H4 y z (dp_ex (e3.trans e4) hy) hz Q fun u H5 e5 hu => by cases hu; exact q _ H5 ((e13.trans e4).trans e5) (.bl _))
    | false => exact iteF (q _ H3 e13 (.bl _))
theorem bt_test (h : Tv K G ta ρ (.bool b)) : Bt K G (tTest ta) ρ b := fun σ H O en Q q => h σ H O en _ fun x H1 e1 hx => by
  cases hx
  exact ⟨b, rfl, q H1 e1⟩
theorem bt_B (h : Tv K G ta ρ (.bool b)) : Bt K G (tB ta) ρ b := fun σ H O en Q q => h σ H O en _ fun x H1 e1 hx => by
  cases hx
  exact ⟨b, rfl, q H1 e1⟩
theorem bt_not (h : Bt K G tt ρ b) : Bt K G (tNot tt) ρ (!b) := fun σ H O en Q q => h σ H O en _ fun H1 e1 => q H1 e1
theorem bt_and (h1 : Bt K G tt ρ b) (h2 : b = true → Bt K G tu ρ c) : Bt K G (tAnd tt tu) ρ (b && c) := fun σ H O en Q q => h1 σ H O en _ fun H1 e1 => by
  cases b with
  | true => exact h2 rfl σ H1 O (en.mono e1) Q fun H2 e2 => q H2 (e1.trans e2)
  | false => exact q H1 e1
theorem bt_or (h1 : Bt K G tt ρ b) (h2 : b = false → Bt K G tu ρ c) : Bt K G (tOr tt tu) ρ (b || c) := fun σ H O en Q q => h1 σ H O en _ fun H1 e1 => by
  cases b with
  | true => exact q H1 e1
  | false => exact h2 rfl σ H1 O (en.mono e1) Q fun H2 e2 => q H2 (e1.trans e2)
theorem bt_yes : Bt K G tYes ρ true := fun _ H _ _ _ q => q H (Ex.refl H)
/-! calls -/
def SpR (sp : Sp) (Ps : List Pr) (R : Hp → Pr) : Prop := ∀ H vs (E : XK) (Q : VK), AllP H vs Ps → (∀ v H', Ex H H' → R H v H' → Q v H') → sp vs H Q E
def NewD (K : PySem.W.Frag) (ds : List PyData) (H : Hp) : Pr := fun v H' => ∃ q zs, v = .ref q ∧ H q = none ∧ H' q = some (.lst zs) ∧ DpAll K H' zs ds
theorem tg_call {sp : Sp} {Ps : List Pr} {R : Hp → Pr} {E : XK} (h : Av K G tA ρ Ps) (hs : SpR sp Ps R) (hR : ∀ H v H', R H v H' → P v H') : Tg K G (tCall sp [] E tA) ρ P := fun σ H O en Q q =>
  h σ H O en _ fun vs H1 e1 hv => (by rw [List.append_nil]; exact hs H1 vs E Q hv fun v H2 e2 hr => q v H2 (e1.trans e2) (hR _ _ _ hr))
theorem sv_call {sp : Sp} {Ps : List Pr} {E : XK} (h : Av K G tA ρ Ps) (hs : SpR sp Ps fun _ => Dq K d) (n : noL d = true := by rfl) : Sv K G (tCall sp [] E tA) ρ d := (tg_call (P := Dq K d) h hs fun _ _ _ h => h).s n
theorem nv_call {sp : Sp} {Ps : List Pr} {E : XK} (h : Av K G tA ρ Ps) (hs : SpR sp Ps (NewD K ds)) (n : noLs ds = true) : Nv K G (tCall sp [] E tA) ρ ds := fun σ H O en Q q =>
  h σ H O en _ fun vs H1 e1 hv => (by
    rw [List.append_nil]
    exact hs H1 vs E Q hv fun v H2 e2 ⟨a, zs, e, na, ha, hd⟩ => by
      subst e
      exact q a zs H2 (e1.trans e2) (fresh_back e1 na) ha (dpa_noL (li_add en (e1.trans e2) ha) n hd))
theorem tg_ob {m : Mono P} (h : ρ[i]? = some (.ob P m)) : Tg K G (tVar i) ρ P := (sg_var h).t m
theorem av_o {Ps : List Pr} {m : Mono P} (h : ρ[i]? = some (.ob P m)) (r : Av K G tA ρ Ps) : Av K G (tCons (tVar i) tA) ρ (P :: Ps) := av_cons m (tg_ob h) r
end
/-! ### comprehensions -/
def wipeS (ρ : List Sl) : List Nat → List Sl
  | [] => ρ
  | v :: vs => (wipeS ρ vs).set v .no
theorem En.wipe {K : PySem.W.Frag} {G : Bs} {O : Addr → Prop} {σ : L2.St} {H : Hp} {ρ : List Sl} (h : En K G O σ H ρ) : ∀ vs : List Nat, En K G O (wipe σ vs) H (wipeS ρ vs)
  | [] => h
  | v :: vs => (h.wipe vs).set0
theorem wipe_none {σ : L2.St} {j : Nat} : ∀ {vs : List Nat}, j ∈ vs → j < σ.length → (wipe σ vs)[j]? = some none
  | v :: vs, h, l => by
    unfold wipe
    rw [List.getElem?_set]
    split
    · rename_i e
      rw [if_pos (by rw [wipe_length]; omega)]
    · rename_i e
      exact wipe_none ((List.mem_cons.mp h).resolve_left fun z => e z.symm) l
theorem wipe_idem {σ : L2.St} : ∀ (ws vs : List Nat), (∀ w ∈ ws, w ∈ vs) → wipe (wipe σ vs) ws = wipe σ vs
  | [], _, _ => rfl
  | w :: ws, vs, h => by
    show (wipe (wipe σ vs) ws).set w none = wipe σ vs
    rw [wipe_idem ws vs fun x hx => h x (List.mem_cons_of_mem _ hx)]
    refine List.ext_getElem? fun k => ?_
    rw [List.getElem?_set]
    split
    · rename_i e
      subst e
      split
      · rename_i l
        rw [wipe_length] at l
        exact (wipe_none (h _ List.mem_cons_self) l).symm
      · rename_i l
        rw [List.getElem?_eq_none (by omega)]
    · rfl
theorem wipe_set {σ : L2.St} {j : Nat} {x : Option V} : ∀ {vs : List Nat}, j ∈ vs → wipe (σ.set j x) vs = wipe σ vs
  | v :: vs, h => by
    show (wipe (σ.set j x) vs).set v none = (wipe σ vs).set v none
    by_cases e : j ∈ vs
    · rw [wipe_set e]
    · have e2 : v = j := ((List.mem_cons.mp h).resolve_right e).symm
      subst e2
      have com : ∀ ws : List Nat, v ∉ ws → wipe (σ.set v x) ws = (wipe σ ws).set v x := by
        intro ws
        induction ws with
        | nil => intro _; rfl
        | cons w ws ih =>
          intro hw
          show (wipe (σ.set v x) ws).set w none = ((wipe σ ws).set w none).set v x
          rw [ih fun z => hw (List.mem_cons_of_mem _ z), List.set_comm _ _ fun z => hw (by rw [z]; exact List.mem_cons_self)]
      rw [com vs e, List.set_set]
theorem wipe_back {σ : L2.St} {j : Nat} {x : Option V} {vs : List Nat} (h : j ∈ vs) : wipe ((wipe σ vs).set j x) vs = wipe σ vs := by
  rw [wipe_set h, wipe_idem vs vs fun _ h => h]
section
variable {K : PySem.W.Frag} {G : Bs} {te tl : TE} {tt : TT} {tA : TA} {ρ : List Sl} {j : Nat} {vs : List Nat}
/-- the new list of a comprehension as it grows -/
def Gr (K : PySem.W.Frag) (O : Addr → Prop) (H1 : Hp) (D : Addr) (es : List PyData) (i : Nat) (H' : Hp) : Prop := Ex H1 H' ∧ ∃ ys, H' D = some (.lst ys) ∧ DpAll K (rs (addO O D) H') ys es ∧ es.length ≤ i
theorem gr_zero {O : Addr → Prop} {H1 : Hp} {D : Addr} (h : H1 D = none) : Gr K O H1 D [] 0 (upd H1 D (.lst [])) := ⟨Ex.new h, [], upd_same, .nil, Nat.le_refl _⟩
theorem En.addO {O : Addr → Prop} {H1 H' : Hp} {σ : L2.St} {D : Addr} {ys : List V} (h : En K G O σ H1 ρ) (nD : H1 D = none) (e : Ex H1 H') (hD : H' D = some (.lst ys)) : En K G (addO O D) σ H' ρ := by
  have ea : Ex (rs O H1) (rs (My.addO O D) H') := rs_add nD e
  obtain ⟨S, hI, hS, hn⟩ := h.xt
  exact ⟨h.ex.trans ea, li_add h e hD, h.sl.map (SlOk.step ea fun b ys o hb => ⟨Or.inl o, e _ _ hb⟩), h.ds, S, G.x.mono _ _ _ _ S ea (fun b s => mt_ex e (h.li b (hS b s))) hI, fun b s => Or.inl (hS b s), hn⟩
theorem gr_turn {O : Addr → Prop} {H1 H' : Hp} {σ2 : L2.St} {ρ2 : List Sl} {D : Addr} {es : List PyData} {i : Nat} {b : Bool} {d : PyData} (g : Gr K O H1 D es i H') (nD : H1 D = none) (hi : i < 50000) (en : En K G (addO O D) σ2 H' ρ2) (ht : Bt K G tt ρ2 b) (he : b = true → Sv K G te ρ2 d) :
    tt σ2 H' fun c H3 => if c = true then te σ2 H3 fun y H4 => ∃ acc, H4 D = some (.lst acc) ∧ acc.length < sizeLine ∧ Gr K O H1 D (es ++ (if b then [d] else [])) (i + 1) (upd H4 D (.lst (acc ++ [y]))) else Gr K O H1 D (es ++ (if b then [d] else [])) (i + 1) H3 := by
  obtain ⟨g1, ys, hy, hd, hl⟩ := g
  refine ht σ2 H' _ en _ fun H3 e3 => ?_
  cases b with
  | false =>
    rw [if_neg (by decide)]
    exact ⟨g1.trans e3, ys, e3 _ _ hy, by simpa using dpa_ex (rs_mono e3) hd, by simpa using Nat.le_succ_of_le hl⟩
  | true =>
    rw [if_pos rfl]
    refine he rfl σ2 H3 _ (en.mono e3) _ fun y H4 e4 hy4 => ⟨ys, (e3.trans e4) _ _ hy, sz_lt (by rw [dpa_len hd]; omega), Ex.mut ((g1.trans e3).trans e4) nD, _, upd_same, ?_, by simpa using Nat.succ_le_succ hl⟩
    rw [rs_upd (Or.inr rfl)]
    exact dpa_app (dpa_ex (rs_mono (e3.trans e4)) hd) (.cons hy4 .nil)
def fmD {α : Type} (P : α → Bool) (E : α → PyData) (as : List α) : List PyData := (as.filter P).map E
theorem fmD_succ {α : Type} {P : α → Bool} {E : α → PyData} {as : List α} {i : Nat} {a : α} (h : as[i]? = some a) : fmD P E (as.take (i + 1)) = fmD P E (as.take i) ++ (if P a then [E a] else []) := by
  unfold fmD
  rw [List.take_succ, h, List.filter_append, List.map_append]
  cases e : P a <;> simp [List.filter, e]
/-- [e for x in a list if t] -/
theorem nv_lcL {α : Type} {as : List α} {Dt : α → PyData} (P : α → Bool) (E : α → PyData) (h : Lv K G tl ρ (as.map Dt)) (hz : as.length ≤ 40000) (hj : j ∈ vs) (ht : ∀ a ∈ as, Bt K G tt ((wipeS ρ vs).set j (.dat (Dt a))) (P a)) (he : ∀ a ∈ as, P a = true → Sv K G te ((wipeS ρ vs).set j (.dat (Dt a))) (E a)) :
    Nv K G (tLc (iList K tl) (gName j) tt te vs) ρ ((as.filter P).map E) := fun σ H O en Q q => h σ H O en _ fun a xs H1 e1 hs hd => ⟨a, rfl, ⟨xs, hs⟩, fun D nD => by
  have en1 := en.mono e1
  have lx : xs.length = as.length := by rw [dpa_len hd, List.length_map]
  refine lc_list (xs := xs) (fun i H' => Gr K O H1 D (fmD P E (as.take i)) i H') (gr_zero nD) (fun i H' _ g => ex_l g.1 hs) (fun i x H' hx g => ?_) fun H' g => ?_
  · obtain ⟨y, hy, my, dy⟩ := item_at Dt hd hx
    refine ⟨wipe_back hj, ?_⟩
    obtain ⟨g1, ys, hys, hds, hl⟩ := id g
    have en2 : En K G (addO O D) ((wipe σ vs).set j (some x)) H' ((wipeS ρ vs).set j (.dat (Dt y))) := ((en1.addO nD g1 hys).wipe vs).dat (dp_ex (rs_add nD g1) dy)
    have hi := (List.getElem?_eq_some_iff.mp hx).1
    rw [fmD_succ hy]
    exact gr_turn g nD (by omega) en2 (ht y my) (he y my)
  · obtain ⟨g1, ys, hys, hds, hl⟩ := g
    rw [lx, List.take_of_length_le (Nat.le_refl _)] at hds
    exact q D ys H' (e1.trans g1) (fresh_back e1 nD) hys hds⟩
theorem nv_lcT {α : Type} {as : List α} {Dt : α → PyData} (P : α → Bool) (E : α → PyData) (h : Sv K G tl ρ (.tuple (as.map Dt))) (hz : as.length ≤ 40000) (hj : j ∈ vs) (ht : ∀ a ∈ as, Bt K G tt ((wipeS ρ vs).set j (.dat (Dt a))) (P a)) (he : ∀ a ∈ as, P a = true → Sv K G te ((wipeS ρ vs).set j (.dat (Dt a))) (E a)) :
    Nv K G (tLc (iTup K tl) (gName j) tt te vs) ρ ((as.filter P).map E) := fun σ H O en Q q => h σ H O en _ fun v H1 e1 hv => by
  obtain ⟨a, xs, rfl, hs0, hd⟩ := Dp.tup_inv hv
  have hs := ex_t (rs_ex (O := O)) hs0
  refine ⟨a, rfl, ⟨xs, hs⟩, fun D nD => ?_⟩
  have en1 := en.mono e1
  have lx : xs.length = as.length := by rw [dpa_len hd, List.length_map]
  refine lc_tup (xs := xs) (fun i H' => Gr K O H1 D (fmD P E (as.take i)) i H') (gr_zero nD) (fun i H' _ g => ex_t g.1 hs) (fun i x H' hx g => ?_) fun H' g => ?_
  · obtain ⟨y, hy, my, dy⟩ := item_at Dt hd hx
    refine ⟨wipe_back hj, ?_⟩
    obtain ⟨g1, ys, hys, hds, hl⟩ := id g
    have en2 : En K G (addO O D) ((wipe σ vs).set j (some x)) H' ((wipeS ρ vs).set j (.dat (Dt y))) := ((en1.addO nD g1 hys).wipe vs).dat (dp_ex (rs_add nD g1) dy)
    have hi := (List.getElem?_eq_some_iff.mp hx).1
    rw [fmD_succ hy]
    exact gr_turn g nD (by omega) en2 (ht y my) (he y my)
  · obtain ⟨g1, ys, hys, hds, hl⟩ := g
    rw [lx, List.take_of_length_le (Nat.le_refl _)] at hds
    exact q D ys H' (e1.trans g1) (fresh_back e1 nD) hys hds
end
end My
namespace My
open PySem PySem.Spec PyProof.Rows L2 Evl
section
variable {K : PySem.W.Frag} {G : Bs} {te : TE} {tA : TA} {ρ : List Sl} {ds es : List PyData}
theorem ad_starL (h : Lv K G te ρ ds) (r : Ad K G tA ρ es) : Ad K G (StX.tStar K te tA) ρ (ds ++ es) := fun σ H O en Q q =>
  h σ H O en _ fun a xs H1 e1 hs hd => ⟨a, xs, rfl, .inr hs, r σ H1 O (en.mono e1) _ fun ys H2 e2 hy => q _ H2 (e1.trans e2) (dpa_app (dpa_ex (rs_mono e2) hd) hy)⟩
theorem ad_starT (h : Sv K G te ρ (.tuple ds)) (r : Ad K G tA ρ es) : Ad K G (StX.tStar K te tA) ρ (ds ++ es) := fun σ H O en Q q =>
  h σ H O en _ fun v H1 e1 hv => by
    obtain ⟨a, xs, rfl, hs, hd⟩ := Dp.tup_inv hv
    exact ⟨a, xs, rfl, .inl (ex_t rs_ex hs), r σ H1 O (en.mono e1) _ fun ys H2 e2 hy => q _ H2 (e1.trans e2) (dpa_app (dpa_ex (rs_mono e2) hd) hy)⟩
end
end My
namespace My
open PySem PySem.Spec PyProof.Rows L2 Evl
section
variable {K : PySem.W.Frag} {G : Bs} {te tl : TE} {tt : TT} {ρ : List Sl} {j : Nat} {vs : List Nat}
theorem flt_true {α : Type} (xs : List α) : xs.filter (fun _ => true) = xs := List.filter_eq_self.mpr fun _ _ => rfl
theorem nv_mapL {α : Type} {as : List α} {Dt : α → PyData} (E : α → PyData) (h : Lv K G tl ρ (as.map Dt)) (hz : as.length ≤ 40000) (he : ∀ a ∈ as, Sv K G te ((wipeS ρ vs).set j (.dat (Dt a))) (E a)) (hj : j ∈ vs := by decide) :
    Nv K G (tLc (iList K tl) (gName j) tYes te vs) ρ (as.map E) := (nv_lcL (fun _ => true) E h hz hj (fun _ _ => bt_yes) fun a ha _ => he a ha).is (by rw [flt_true])
theorem nv_mapT {α : Type} {as : List α} {Dt : α → PyData} (E : α → PyData) (h : Sv K G tl ρ (.tuple (as.map Dt))) (hz : as.length ≤ 40000) (he : ∀ a ∈ as, Sv K G te ((wipeS ρ vs).set j (.dat (Dt a))) (E a)) (hj : j ∈ vs := by decide) :
    Nv K G (tLc (iTup K tl) (gName j) tYes te vs) ρ (as.map E) := (nv_lcT (fun _ => true) E h hz hj (fun _ _ => bt_yes) fun a ha _ => he a ha).is (by rw [flt_true])
/-- [x for x in .. if t], texts -/
theorem nv_fltL {α : Type} {as : List α} {Dt : α → PyData} (P : α → Bool) (h : Lv K G tl ρ (as.map Dt)) (hz : as.length ≤ 40000) (ht : ∀ a ∈ as, Bt K G tt ((wipeS ρ vs).set j (.dat (Dt a))) (P a)) (hj : j ∈ vs := by decide) (hl : j < ρ.length := by decide) :
    Nv K G (tLc (iList K tl) (gName j) tt (tVar j) vs) ρ ((as.filter P).map Dt) := nv_lcL P Dt h hz hj ht fun a _ _ => sv_var (by
      have l : ∀ ws : List Nat, (wipeS ρ ws).length = ρ.length := fun ws => by
        induction ws with
        | nil => rfl
        | cons w r ih => show ((wipeS ρ r).set w .no).length = _; rw [List.length_set, ih]
      rw [List.getElem?_set, if_pos rfl, if_pos (by rw [l]; exact hl)])
theorem sv_allM {α : Type} {as : List α} (f : α → Bool) (h : Nv K G te ρ (as.map fun a => .bool (f a))) : Sv K G (tCB (rAll K) (tCons te tNil)) ρ (.bool (as.all f)) :=
  Sg.is (sv_all (bs := as.map f) (Lx.l (Nv.x (h.is (by rw [List.map_map]; rfl))))) (by rw [List.all_map]; rfl)
theorem sv_anyM {α : Type} {as : List α} (f : α → Bool) (h : Nv K G te ρ (as.map fun a => .bool (f a))) : Sv K G (tCB (rAny K) (tCons te tNil)) ρ (.bool (as.any f)) :=
  Sg.is (sv_any (bs := as.map f) (Lx.l (Nv.x (h.is (by rw [List.map_map]; rfl))))) (by rw [List.any_map]; rfl)
theorem sv_sumM {α : Type} {as : List α} (f : α → Int) (h : Nv K G te ρ (as.map fun a => .int (f a))) : Sv K G (tCB (rSum K) (tCons te tNil)) ρ (.int (as.map f).sum) :=
  sv_sum (bs := as.map f) (Lx.l (Nv.x (h.is (by rw [List.map_map]; rfl))))
end
end My
namespace My
open PySem PySem.Spec PyProof.Rows L2 Evl
section
variable {K : PySem.W.Frag} {G : Bs} {te ta tb : TE} {tA : TA} {ρ : List Sl} {d e f : PyData} {ds : List PyData} {r : R2}
theorem sv_opX (ha : Tv K G ta ρ d) (hb : Tv K G tb ρ e) (hr : Rd2 K r d e f) (n : noL f = true) : Sv K G (tOp r ta tb) ρ f := sv_op ha hb hr n
theorem sv_tupX (h : Ad K G tA ρ ds) (hl : ds.length ≤ 100000) : Sv K G (tTup tA) ρ (.tuple ds) := sv_tup h hl
theorem nv_lstX (h : Ad K G tA ρ ds) (hl : ds.length ≤ 100000) : Nv K G (tLst tA) ρ ds := nv_lst h hl
theorem tv_own {i : Nat} (h : ρ[i]? = some (.own ds)) : Tv K G (tVar i) ρ (.list ds) := (lx_own h).l.t
theorem tv_var {i : Nat} (h : ρ[i]? = some (.dat d)) : Tv K G (tVar i) ρ d := Sg.tv (sv_var h)
theorem lv_own {i : Nat} (h : ρ[i]? = some (.own ds)) : Lv K G (tVar i) ρ ds := (lx_own h).l
theorem lv_var {i : Nat} (h : ρ[i]? = some (.dat (.list ds))) : Lv K G (tVar i) ρ ds := Sg.l (sv_var h)
theorem lv_nv (h : Nv K G te ρ ds) : Lv K G te ρ ds := h.x.l
end
end My
set_option Elab.async false
set_option linter.all false
set_option maxRecDepth 100000
set_option maxHeartbeats 1000000
/-! ### blocks, told by data alone -/
namespace My
open PySem PySem.Spec PyProof.Rows L2 Evl
def BD (K : PySem.W.Frag) (G : Bs) (t : TS) (D : Ends) (ρ : List Sl) : Prop := ∀ σ H O, En K G O σ H ρ → t D σ H
def NxE (K : PySem.W.Frag) (G : Bs) (M : List Sl → Prop) : L2.St → Hp → Prop := fun σ H => ∃ O ρ, En K G O σ H ρ ∧ M ρ
def GA (K : PySem.W.Frag) (G : Bs) (g : TG) (d : PyData) (ρ ρ' : List Sl) : Prop := ∀ σ H O v, En K G O σ H ρ → Dp K (rs O H) v d → ∀ k : L2.St → Hp → Prop, (∀ σ', En K G O σ' H ρ' → k σ' H) → g v σ H k
section
variable {K : PySem.W.Frag} {G : Bs} {te ta tb tl tc : TE} {tt : TT} {tA : TA} {ρ ρ' : List Sl} {P : Pr} {d : PyData} {ds es : List PyData} {b : Bool} {i j : Nat} {t tu tw tz : TS} {D : Ends} {g : TG}
theorem bd_last (h : BD K G (tSeq t tNext) D ρ) : BD K G t D ρ := h
theorem bd_nxt (h : BD K G t D ρ) : BD K G tNext { D with nx := t D } ρ := h
theorem bd_asg (h : Sv K G te ρ d) (k : BD K G tz D (ρ.set i (.dat d))) : BD K G (tSeq (tAsg te (gName i)) tz) D ρ := fun σ H O en => q_asgG (h.g en) fun v H1 e1 hv => k _ _ _ ((en.mono e1).dat hv)
theorem bd_asgO {m : Mono P} (h : Sg K G te ρ P) (k : BD K G tz D (ρ.set i (.ob P m))) : BD K G (tSeq (tAsg te (gName i)) tz) D ρ := fun σ H O en => q_asgG (h.g en) fun v H1 e1 hv => k _ _ _ ((en.mono e1).ob hv)
theorem bd_asgN (h : Nv K G te ρ ds) (k : BD K G tz D (ρ.set i (.own ds))) : BD K G (tSeq (tAsg te (gName i)) tz) D ρ := fun σ H O en =>
  h σ H O en _ fun a xs H' e na ha hd => k _ _ _ (en.own e na ha hd)
theorem bd_asgG (h : Sv K G te ρ d) (ga : GA K G g d ρ ρ') (k : BD K G tz D ρ') : BD K G (tSeq (tAsg te g) tz) D ρ := fun σ H O en =>
  h σ H O en _ fun v H1 e1 hv => ga σ H1 O v (en.mono e1) hv _ fun σ' en' => k _ _ _ en'
theorem bd_if (h : Bt K G tt ρ b) (h1 : b = true → BD K G tu { D with nx := tz D } ρ) (h2 : b = false → BD K G tw { D with nx := tz D } ρ) : BD K G (tSeq (tIfS tt tu tw) tz) D ρ := fun σ H O en =>
  q_if (h.g en) (fun hb H1 e1 => h1 hb _ _ _ (en.mono e1)) fun hb H1 e1 => h2 hb _ _ _ (en.mono e1)
theorem bd_when (h : Bt K G tt ρ b) (h1 : b = true → BD K G tu { D with nx := tz D } ρ) (h2 : b = false → BD K G tz D ρ) : BD K G (tSeq (tIfS tt tu tNext) tz) D ρ := fun σ H O en =>
  q_when (h.g en) (fun hb H1 e1 => h1 hb _ _ _ (en.mono e1)) fun hb H1 e1 => h2 hb _ _ _ (en.mono e1)
theorem bd_join (M : List Sl → Prop) (h : ∀ N : L2.St → Hp → Prop, (∀ ρ', M ρ' → BD K G tNext { D with nx := N } ρ') → BD K G t { D with nx := N } ρ) (tail : ∀ ρ', M ρ' → BD K G tz D ρ') : BD K G (tSeq t tz) D ρ := fun σ H O en =>
  q_join (Pm := NxE K G M) (fun σ' H' ⟨O', ρ', en', m⟩ => tail ρ' m _ _ _ en') fun N hN => h N (fun ρ' m σ' H' O' en' => hN _ _ ⟨O', ρ', en', m⟩) σ H O en
theorem bd_ret (h : Tg K G te ρ P) (k : ∀ v H', Ex G.h H' → P v H' → D.rt v H') : BD K G (tRet te) D ρ := fun σ H O en =>
  h σ H O en _ fun v H1 e1 hv => k v H1 (en.out.trans e1) hv
theorem bd_retV (h : Tv K G te ρ d) (k : ∀ v H', Ex G.h H' → Dp K H' v d → D.rt v H') : BD K G (tRet te) D ρ := bd_ret h k
theorem bd_retN (h : Nv K G te ρ ds) (k : ∀ v H', Ex G.h H' → NewD K ds G.h v H' → D.rt v H') : BD K G (tRet te) D ρ := fun σ H O en =>
  h σ H O en _ fun a xs H1 e1 na ha hd => k _ H1 (en.out.trans e1) ⟨a, xs, rfl, fresh_back en.out na, ha, dpa_ex rs_ex hd⟩
theorem bd_retO (hi : ρ[i]? = some (.own ds)) (k : ∀ v H', Ex G.h H' → NewD K ds G.h v H' → D.rt v H') : BD K G (tRet (tVar i)) D ρ := fun σ H O en => by
  obtain ⟨s, hs, a, xs, rfl, oa, ha, hd⟩ := en.sl.get hi
  refine ⟨_, hs, k _ H en.out ⟨a, xs, rfl, ?_, ha, dpa_ex rs_ex hd⟩⟩
  cases e : G.h a with
  | none => rfl
  | some u => have := en.ex _ _ e; rw [rs_own oa] at this; cases this
theorem bd_retNone (k : ∀ H', Ex G.h H' → D.rt .non H') : BD K G tRetN D ρ := fun σ H O en => k H en.out
theorem bd_nx (k : ∀ σ H, Ex G.h H → D.nx σ H) : BD K G tNext D ρ := fun σ H O en => k σ H en.out
theorem bd_break {D' : Ends} (h : BD K G tNext { D' with nx := D.bk } ρ) : BD K G tBreak D ρ := fun σ H O en => h σ H O en
theorem bd_do (h : Tg K G te ρ P) (k : BD K G tz D ρ) : BD K G (tSeq (tDrop te) tz) D ρ := fun σ H O en => h σ H O en _ fun v H1 e1 _ => k _ _ _ (en.mono e1)
theorem bd_frz (hi : ρ[i]? = some (.own ds)) (k : BD K G t D (ρ.set i (.dat (.list ds)))) : BD K G t D ρ := fun σ H O en => by
  obtain ⟨O', en'⟩ := en.frz hi
  exact k σ H O' en'
theorem En.grow {O : Addr → Prop} {σ : L2.St} {H : Hp} {a : Addr} {xs : List V} (en : En K G O σ H ρ) (hi : ρ[i]? = some (.own ds)) (hs : σ[i]? = some (some (.ref a))) (oa : O a) (hd : DpAll K (rs O H) xs es) : En K G O σ (upd H a (.lst xs)) (ρ.set i (.own es)) := by
  have er : rs O (upd H a (.lst xs)) = rs O H := rs_upd oa
  refine ⟨by rw [er]; exact en.ex, fun b o => ?_, SlAll.of (by rw [List.length_set]; exact en.sl.len) fun k s r h1 h2 => ?_, fun p q b d1 d2 h1 h2 h3 h4 => ?_, ?_⟩
  · by_cases e : b = a
    · exact .inl ⟨xs, by rw [e]; exact upd_same⟩
    · rw [upd_ne e]; exact en.li b o
  · rcases getset h2 with ⟨rfl, rfl⟩ | ⟨n, h2⟩
    · rw [hs] at h1
      cases h1
      exact ⟨a, xs, rfl, oa, upd_same, by rw [er]; exact hd⟩
    · obtain ⟨s2, hs2, ok⟩ := en.sl.get h2
      rw [h1] at hs2
      cases hs2
      cases r with
      | no => trivial
      | self => exact ok
      | dat d => exact ok.imp fun v z => ⟨z.1, by rw [er]; exact z.2⟩
      | ob P m => exact ok.imp fun v z => ⟨z.1, by rw [er]; exact z.2⟩
      | own fs =>
        obtain ⟨c, ys, rfl, oc, hc, dc⟩ := ok
        exact ⟨c, ys, rfl, oc, by rw [upd_ne fun z => n (en.ds _ _ a _ _ hi h2 hs (by rw [← z]; exact h1))]; exact hc, by rw [er]; exact dc⟩
  · rcases getset h1 with ⟨e1, f1⟩ | ⟨n1, h1⟩ <;> rcases getset h2 with ⟨e2, f2⟩ | ⟨n2, h2⟩
    · exact e1.symm.trans e2
    · subst e1; exact en.ds _ _ b _ _ hi h2 h3 h4
    · subst e2; exact en.ds _ _ b _ _ h1 hi h3 h4
    · exact en.ds p q b _ _ h1 h2 h3 h4
  · obtain ⟨S, hI, hS, hn⟩ := en.xt
    have nS : ¬ S a := hn i a ds hi hs
    refine ⟨S, G.x.mono _ _ _ _ S (by rw [er]; exact Ex.refl _) (fun b s => upd_ne fun z => nS (by rw [← z]; exact s)) hI, hS, fun p b d1 h1 h3 => ?_⟩
    rcases getset h1 with ⟨e1, f1⟩ | ⟨n1, h1⟩
    · subst e1
      rw [hs] at h3
      cases h3
      exact nS
    · exact hn p b _ h1 h3
theorem bd_app (hi : ρ[i]? = some (.own ds)) (h : Sv K G te ρ d) (hz : ds.length < 100000) (k : BD K G tz D (ρ.set i (.own (ds ++ [d])))) : BD K G (tSeq (tDrop (tBM K "list" rAppend (tVar i) (tCons te tNil))) tz) D ρ := fun σ H O en => by
  obtain ⟨s, hs, a, xs, rfl, oa, ha, hd⟩ := en.sl.get hi
  refine s_appG (D := { D with nx := tz D }) ha (ev_var hs) (h.g en) (by rw [dpa_len hd]; exact hz) fun v H1 e1 hv => k _ _ O ?_
  exact (en.mono e1).grow hi hs oa (dpa_app (dpa_ex (rs_mono e1) hd) (.cons hv .nil))
/-! targets -/
theorem ga_name : GA K G (gName i) d ρ (ρ.set i (.dat d)) := fun σ H O v en hv k q => q _ (en.dat hv)
inductive GAs (K : PySem.W.Frag) (G : Bs) : TGs → List PyData → List Sl → List Sl → Prop
  | nil {ρ : List Sl} : GAs K G gNil [] ρ ρ
  | cons {g : TG} {gs : TGs} {d : PyData} {ds : List PyData} {ρ ρ1 ρ2 : List Sl} : GA K G g d ρ ρ1 → GAs K G gs ds ρ1 ρ2 → GAs K G (gCons g gs) (d :: ds) ρ ρ2
theorem GAs.run {gs : TGs} : ∀ {ds : List PyData} {ρ ρ' : List Sl}, GAs K G gs ds ρ ρ' → ∀ σ H O vs, En K G O σ H ρ → DpAll K (rs O H) vs ds → ∀ k : L2.St → Hp → Prop, (∀ σ', En K G O σ' H ρ' → k σ' H) → gs vs σ H k := by
  intro ds ρ ρ' h
  induction h with
  | nil => intro σ H O vs en hd k q; cases hd; exact ⟨rfl, q _ en⟩
  | cons h1 _ ih =>
    intro σ H O vs en hd k q
    obtain ⟨v, vr, rfl, d1, d2⟩ := DpAll.cons_inv hd
    exact ⟨v, vr, rfl, h1 σ H O v en d1 _ fun σ' en' => ih σ' H O vr en' d2 k q⟩
theorem ga_tup {n : Nat} {gs : TGs} (h : GAs K G gs ds ρ ρ') (hn : ds.length = n := by rfl) : GA K G (gTup K n gs) (.tuple ds) ρ ρ' := fun σ H O v en hv k q => by
  obtain ⟨a, xs, rfl, hs, hd⟩ := Dp.tup_inv hv
  exact ⟨a, xs, rfl, ex_t rs_ex hs, (dpa_len hd).trans hn, h.run σ H O xs en hd k q⟩
/-! loops -/
theorem bd_inv {M : List Sl → Prop} (h : M ρ) (hD : D.nx = NxE K G M := by rfl) : BD K G tNext D ρ := fun σ H O en => by
  show D.nx σ H
  rw [hD]
  exact ⟨O, ρ, en, h⟩
theorem bd_cont {M : List Sl → Prop} (h : M ρ) (hD : D.ct = NxE K G M := by rfl) : BD K G tCont D ρ := fun σ H O en => by
  show D.ct σ H
  rw [hD]
  exact ⟨O, ρ, en, h⟩
/-- ends within a loop's body -/
def Dl (K : PySem.W.Frag) (G : Bs) (D : Ends) (B : L2.St → Hp → Prop) (M : List Sl → Prop) : Ends := { D with nx := NxE K G M, ct := NxE K G M, bk := B }
theorem bd_forL {α : Type} {as : List α} {Dt : α → PyData} (h : Sv K G tl ρ (.list (as.map Dt))) (I : Nat → List Sl → Prop) (h0 : I 0 ρ)
    (hs : ∀ G' : Hp, Ex G.h G' → ∀ i a ρ', as[i]? = some a → I i ρ' → ∃ ρ2, GA K ⟨G', G.x⟩ g (Dt a) ρ' ρ2 ∧ BD K ⟨G', G.x⟩ tu (Dl K ⟨G', G.x⟩ D (tz D) (I (i + 1))) ρ2) (hd : ∀ G' : Hp, Ex G.h G' → ∀ ρ', I as.length ρ' → BD K ⟨G', G.x⟩ tz D ρ') : BD K G (tSeq (tFor (iList K tl) g tu) tz) D ρ := fun σ H O en =>
  h σ H O en _ fun v H1 e1 hv => by
    obtain ⟨a, xs, rfl, hq, ha⟩ := dp_lst_inv hv
    have en1 := en.mono e1
    have lx : xs.length = as.length := by rw [dpa_len ha, List.length_map]
    have eG : Ex G.h (rs O H1) := en1.ex
    refine ⟨a, rfl, ⟨xs, ex_l rs_ex hq⟩, for_list (D := { D with nx := tz D }) (fun i => NxE K ⟨rs O H1, G.x⟩ (I i)) ⟨O, ρ, ⟨Ex.refl _, en1.li, en1.sl, en1.ds, en1.xt⟩, h0⟩ (fun i σ' H' _ ⟨O', ρ', en', _⟩ => ex_l (en'.ex.trans rs_ex) hq) (fun i x σ' H' hx ⟨O', ρ', en', hI⟩ => ?_) fun σ' H' ⟨O', ρ', en', hI⟩ => hd _ eG ρ' (by rw [← lx]; exact hI) _ _ _ en'⟩
    obtain ⟨y, hy, _, dy⟩ := item_at Dt ha hx
    obtain ⟨ρ2, ga, k⟩ := hs _ eG i y ρ' hy hI
    exact ga σ' H' O' x en' (dp_ex en'.ex dy) _ fun σ2 en2 => k _ _ _ en2
theorem bd_forT {α : Type} {as : List α} {Dt : α → PyData} (h : Sv K G tl ρ (.tuple (as.map Dt))) (I : Nat → List Sl → Prop) (h0 : I 0 ρ)
    (hs : ∀ G' : Hp, Ex G.h G' → ∀ i a ρ', as[i]? = some a → I i ρ' → ∃ ρ2, GA K ⟨G', G.x⟩ g (Dt a) ρ' ρ2 ∧ BD K ⟨G', G.x⟩ tu (Dl K ⟨G', G.x⟩ D (tz D) (I (i + 1))) ρ2) (hd : ∀ G' : Hp, Ex G.h G' → ∀ ρ', I as.length ρ' → BD K ⟨G', G.x⟩ tz D ρ') : BD K G (tSeq (tFor (iTup K tl) g tu) tz) D ρ := fun σ H O en =>
  h σ H O en _ fun v H1 e1 hv => by
    obtain ⟨a, xs, rfl, hq, ha⟩ := Dp.tup_inv hv
    have en1 := en.mono e1
    have lx : xs.length = as.length := by rw [dpa_len ha, List.length_map]
    have eG : Ex G.h (rs O H1) := en1.ex
    refine ⟨a, rfl, ⟨xs, ex_t rs_ex hq⟩, for_tup (D := { D with nx := tz D }) (fun i => NxE K ⟨rs O H1, G.x⟩ (I i)) ⟨O, ρ, ⟨Ex.refl _, en1.li, en1.sl, en1.ds, en1.xt⟩, h0⟩ (fun i σ' H' _ ⟨O', ρ', en', _⟩ => ex_t (en'.ex.trans rs_ex) hq) (fun i x σ' H' hx ⟨O', ρ', en', hI⟩ => ?_) fun σ' H' ⟨O', ρ', en', hI⟩ => hd _ eG ρ' (by rw [← lx]; exact hI) _ _ _ en'⟩
    obtain ⟨y, hy, _, dy⟩ := item_at Dt ha hx
    obtain ⟨ρ2, ga, k⟩ := hs _ eG i y ρ' hy hI
    exact ga σ' H' O' x en' (dp_ex en'.ex dy) _ fun σ2 en2 => k _ _ _ en2
theorem bd_forR {n : Int} (h : Tv K G te ρ (.int n)) (hn : 0 ≤ n ∧ n ≤ 100000) (I : Nat → List Sl → Prop) (h0 : I 0 ρ)
    (hs : ∀ G' : Hp, Ex G.h G' → ∀ (i : Nat) ρ', (i : Int) < n → I i ρ' → BD K ⟨G', G.x⟩ tu (Dl K ⟨G', G.x⟩ D (tz D) (I (i + 1))) (ρ'.set j (.dat (.int (i : Int))))) (hd : ∀ G' : Hp, Ex G.h G' → ∀ ρ', I n.toNat ρ' → BD K ⟨G', G.x⟩ tz D ρ') : BD K G (tSeq (tFor (iRng1 (tCons te tNil)) (gName j) tu) tz) D ρ := fun σ H O en =>
  h σ H O en _ fun v H1 e1 hv => by
    obtain rfl := Dp.int_inv hv
    have en1 := en.mono e1
    have eG : Ex G.h (rs O H1) := en1.ex
    have z : ∀ i : Nat, (0 : Int) + (i : Int) = (i : Int) := fun i => Int.zero_add _
    exact ⟨n, rfl, by omega, by omega, for_range (D := { D with nx := tz D }) (lo := 0) (n := n.toNat) (fun i => NxE K ⟨rs O H1, G.x⟩ (I i)) ⟨O, ρ, ⟨Ex.refl _, en1.li, en1.sl, en1.ds, en1.xt⟩, h0⟩ (fun i σ' H' hi ⟨O', ρ', en', hI⟩ => by
      have k := hs _ eG i ρ' (by omega) hI
      show tu _ (σ'.set j (some (.int ((0 : Int) + (i : Int))))) H'
      rw [z i]
      exact k _ _ _ (en'.dat (.int _))) fun σ' H' ⟨O', ρ', en', hI⟩ => hd _ eG ρ' hI _ _ _ en'⟩
/-! the way in -/
def noOwn : List Sl → Bool
  | [] => true
  | .own _ :: _ => false
  | _ :: r => noOwn r
theorem noOwn_at : ∀ {ρ : List Sl} {i : Nat} {ds : List PyData}, noOwn ρ = true → ρ[i]? = some (.own ds) → False
  | .no :: r, 0, _, _, e => by cases e
  | .dat _ :: r, 0, _, _, e => by cases e
  | .ob _ _ :: r, 0, _, _, e => by cases e
  | .self :: r, 0, _, _, e => by cases e
  | .own _ :: r, _, _, h, _ => by cases h
  | .no :: r, i + 1, _, h, e => noOwn_at (ρ := r) (i := i) h e
  | .dat _ :: r, i + 1, _, h, e => noOwn_at (ρ := r) (i := i) h e
  | .ob _ _ :: r, i + 1, _, h, e => noOwn_at (ρ := r) (i := i) h e
  | .self :: r, i + 1, _, h, e => noOwn_at (ρ := r) (i := i) h e
theorem hf_go {H : Hp} {σ : L2.St} (h : BD K (b0 H) t D ρ) (sl : SlAll K 0 (fun _ => False) H σ ρ) (no : noOwn ρ = true := by rfl) : t D σ H :=
  h σ H _ ⟨by rw [rs_zero]; exact Ex.refl H, fun _ z => z.elim, sl, fun _ _ _ _ _ h1 => (noOwn_at no h1).elim, fun _ => False, fun _ z => z, fun _ z => z, fun _ _ _ _ _ z => z⟩
theorem sl_d {H : Hp} {v : V} {σ : L2.St} (h : Dp K H v d) (r : SlAll K 0 (fun _ => False) H σ ρ) : SlAll K 0 (fun _ => False) H (some v :: σ) (.dat d :: ρ) := ⟨⟨v, rfl, by rw [rs_zero]; exact h⟩, r⟩
theorem sl_o {H : Hp} {v : V} {σ : L2.St} {m : Mono P} (h : P v H) (r : SlAll K 0 (fun _ => False) H σ ρ) : SlAll K 0 (fun _ => False) H (some v :: σ) (.ob P m :: ρ) := ⟨⟨v, rfl, by rw [rs_zero]; exact h⟩, r⟩
theorem sl_n {H : Hp} {s : Option V} {σ : L2.St} (r : SlAll K 0 (fun _ => False) H σ ρ) : SlAll K 0 (fun _ => False) H (s :: σ) (.no :: ρ) := ⟨trivial, r⟩
theorem sl_z {H : Hp} : SlAll K 0 (fun _ => False) H [] [] := trivial
end
/-! ### promises by data -/
def spU {ι : Type} (Ps : ι → List Pr) (pre : ι → Prop) (R : ι → Hp → Pr) : Sp := fun vs H Q _ => ∃ i, pre i ∧ AllP H vs (Ps i) ∧ ∀ v H', Ex H H' → R i H v H' → Q v H'
theorem spU_r {ι : Type} {Ps : ι → List Pr} {pre : ι → Prop} {R : ι → Hp → Pr} {i : ι} (h : pre i) : SpR (spU Ps pre R) (Ps i) (R i) := fun _ _ _ _ a q => ⟨i, h, a, q⟩
theorem spU_len {ι : Type} {Ps : ι → List Pr} {pre : ι → Prop} {R : ι → Hp → Pr} {n : Nat} (hn : ∀ i, (Ps i).length = n) : ∀ vs H Q E, spU Ps pre R vs H Q E → vs.length = n := fun vs H Q E ⟨i, _, a, _⟩ => a.len.trans (hn i)
section
variable {H : Hp} {vs : List V} {P1 P2 P3 P4 P5 P6 P7 : Pr}
theorem AllP.l1 (h : AllP H vs [P1]) : ∃ a, vs = [a] ∧ P1 a H := by cases h with | cons h r => cases r; exact ⟨_, rfl, h⟩
theorem AllP.l2 (h : AllP H vs [P1, P2]) : ∃ a b, vs = [a, b] ∧ P1 a H ∧ P2 b H := by cases h with | cons h r => cases r with | cons h2 r => cases r; exact ⟨_, _, rfl, h, h2⟩
theorem AllP.l3 (h : AllP H vs [P1, P2, P3]) : ∃ a b c, vs = [a, b, c] ∧ P1 a H ∧ P2 b H ∧ P3 c H := by cases h with | cons h r => obtain ⟨b, c, rfl, x⟩ := r.l2; exact ⟨_, b, c, rfl, h, x⟩
theorem AllP.l4 (h : AllP H vs [P1, P2, P3, P4]) : ∃ a b c d, vs = [a, b, c, d] ∧ P1 a H ∧ P2 b H ∧ P3 c H ∧ P4 d H := by cases h with | cons h r => obtain ⟨b, c, d, rfl, x⟩ := r.l3; exact ⟨_, b, c, d, rfl, h, x⟩
theorem AllP.l5 (h : AllP H vs [P1, P2, P3, P4, P5]) : ∃ a b c d e, vs = [a, b, c, d, e] ∧ P1 a H ∧ P2 b H ∧ P3 c H ∧ P4 d H ∧ P5 e H := by cases h with | cons h r => obtain ⟨b, c, d, e, rfl, x⟩ := r.l4; exact ⟨_, b, c, d, e, rfl, h, x⟩
theorem AllP.l6 (h : AllP H vs [P1, P2, P3, P4, P5, P6]) : ∃ a b c d e f, vs = [a, b, c, d, e, f] ∧ P1 a H ∧ P2 b H ∧ P3 c H ∧ P4 d H ∧ P5 e H ∧ P6 f H := by cases h with | cons h r => obtain ⟨b, c, d, e, f, rfl, x⟩ := r.l5; exact ⟨_, b, c, d, e, f, rfl, h, x⟩
end
end My
set_option Elab.async false
set_option linter.all false
set_option maxRecDepth 100000
set_option maxHeartbeats 1000000
/-! ### sorted texts, sets; books, told by data -/
namespace My
open PySem PySem.Spec PyProof.Rows L2 Evl
def leS (a b : Str) : Bool := !ltCps b.cps.toList a.cps.toList
def sortS (xs : List Str) : List Str := xs.mergeSort leS
theorem str_ext {x y : Str} (h : x.cps.toList = y.cps.toList) : x = y := by
  obtain ⟨a⟩ := x
  obtain ⟨b⟩ := y
  exact congrArg _ (Array.toList_inj.mp h)
theorem leS_tot (a b : Str) : (leS a b || leS b a) = true := by
  unfold leS
  cases e : ltCps b.cps.toList a.cps.toList with
  | false => rfl
  | true =>
    cases f : ltCps a.cps.toList b.cps.toList with
    | false => rfl
    | true => have := lt_tr _ _ _ e f; rw [lt_ir] at this; cases this
theorem leS_anti {a b : Str} (h : leS a b = true) (g : leS b a = true) : a = b := by
  unfold leS at h g
  rw [Bool.not_eq_true'] at h g
  refine Classical.byContradiction fun n => ?_
  have := lt_or _ _ g fun e => n (str_ext e)
  rw [h] at this; cases this
theorem leS_tr (a b c : Str) (h : leS a b = true) (g : leS b c = true) : leS a c = true := by
  by_cases e : a = b
  · rw [e]; exact g
  by_cases e2 : b = c
  · rw [← e2]; exact h
  unfold leS at h g ⊢
  rw [Bool.not_eq_true'] at h g ⊢
  have h1 := lt_or _ _ h fun z => e (str_ext z).symm
  have h2 := lt_or _ _ g fun z => e2 (str_ext z).symm
  have h3 := lt_tr _ _ _ h1 h2
  cases e3 : ltCps c.cps.toList a.cps.toList with
  | false => rfl
  | true => have := lt_tr _ _ _ h3 e3; rw [lt_ir] at this; cases this
theorem sortS_perm (xs : List Str) : (sortS xs).Perm xs := List.mergeSort_perm _ _
theorem sortS_pw (xs : List Str) : (sortS xs).Pairwise fun a b => leS a b = true := List.pairwise_mergeSort leS_tr leS_tot xs
theorem sorted_pw : ∀ {ys : List Str}, sortedS ys = true → ys.Pairwise fun a b => leS a b = true := by
  have key : ∀ (ys : List Str) (p : Str), risingS p ys = true → (p :: ys).Pairwise fun a b => leS a b = true := by
    intro ys
    induction ys with
    | nil => exact fun p _ => List.pairwise_cons.mpr ⟨fun _ h => (nomatch h), .nil⟩
    | cons y r ih =>
      intro p h
      have h2 : ((!ltCps y.cps.toList p.cps.toList) && risingS y r) = true := h
      rw [Bool.and_eq_true] at h2
      have rr := ih y h2.2
      refine List.pairwise_cons.mpr ⟨fun z hz => ?_, rr⟩
      rcases List.mem_cons.mp hz with rfl | later
      · exact h2.1
      · exact leS_tr _ _ _ h2.1 ((List.pairwise_cons.mp rr).1 z later)
  intro ys h
  cases ys with
  | nil => exact .nil
  | cons y r => exact key r y h
theorem sortS_eq {xs ys : List Str} (p : ys.Perm xs) (s : sortedS ys = true) : ys = sortS xs :=
  List.Perm.eq_of_pairwise (fun _ _ _ _ => leS_anti) (sorted_pw s) (sortS_pw xs) (p.trans (sortS_perm xs).symm)
theorem sortS_mem {xs : List Str} {x : Str} : x ∈ sortS xs ↔ x ∈ xs := (sortS_perm xs).mem_iff
theorem sortS_len (xs : List Str) : (sortS xs).length = xs.length := (sortS_perm xs).length_eq
def ddS : List Str → List Str
  | [] => []
  | x :: r => if x ∈ r then ddS r else x :: ddS r
theorem ddS_mem {x : Str} : ∀ {xs : List Str}, x ∈ ddS xs ↔ x ∈ xs
  | [] => Iff.rfl
  | y :: r => by
    unfold ddS
    split
    · rename_i h
      rw [ddS_mem, List.mem_cons]
      exact ⟨.inr, fun z => z.elim (fun e => e ▸ h) id⟩
    · rw [List.mem_cons, List.mem_cons, ddS_mem]
theorem ddS_nd : ∀ xs : List Str, (ddS xs).Nodup
  | [] => .nil
  | y :: r => by
    unfold ddS
    split
    · exact ddS_nd r
    · rename_i h
      exact List.nodup_cons.mpr ⟨fun z => h (ddS_mem.mp z), ddS_nd r⟩
/-- sorted(set(xs)) -/
def setS (xs : List Str) : List Str := sortS (ddS xs)
theorem setS_mem {xs : List Str} {x : Str} : x ∈ setS xs ↔ x ∈ xs := sortS_mem.trans ddS_mem
theorem setS_nd (xs : List Str) : (setS xs).Nodup := (sortS_perm _).nodup_iff.mpr (ddS_nd xs)
theorem pw_sorted : ∀ {ys : List Str}, (ys.Pairwise fun a b => leS a b = true) → sortedS ys = true := by
  have key : ∀ (ys : List Str) (p : Str), ((p :: ys).Pairwise fun a b => leS a b = true) → risingS p ys = true := by
    intro ys
    induction ys with
    | nil => exact fun _ _ => rfl
    | cons y r ih =>
      intro p h
      obtain ⟨h1, h2⟩ := List.pairwise_cons.mp h
      show ((!ltCps y.cps.toList p.cps.toList) && risingS y r) = true
      rw [Bool.and_eq_true]
      exact ⟨h1 y List.mem_cons_self, ih y h2⟩
  intro ys h
  cases ys with
  | nil => rfl
  | cons y r => exact key r y h
theorem sortS_so (xs : List Str) : sortedS (sortS xs) = true := pw_sorted (sortS_pw xs)
theorem setS_rises (xs : List Str) : Rises (setS xs) := rises_of _ (setS_nd xs) (sortS_so _)
theorem rises_uniq {xs ys : List Str} (h1 : Rises xs) (h2 : Rises ys) (m : ∀ k, k ∈ xs ↔ k ∈ ys) : xs = ys :=
  rise_eq (r := fun a b : Str => ltCps a.cps.toList b.cps.toList = true) (fun x c => by have c2 := lt_ir x.cps.toList; rw [c] at c2; cases c2) (fun x y z => lt_tr _ _ _) xs ys h1 h2 m
theorem setS_eq {xs ys : List Str} (nd : ys.Nodup) (m : ∀ k, k ∈ ys ↔ k ∈ xs) (s : sortedS ys = true) : ys = setS xs :=
  rises_uniq (rises_of _ nd s) (setS_rises xs) fun k => (m k).trans setS_mem.symm
theorem setS_self {xs : List Str} (h : Rises xs) : setS xs = xs := rises_uniq (setS_rises xs) h fun _ => setS_mem
theorem rises_nd {xs : List Str} (h : Rises xs) : xs.Nodup := h.imp fun {a b} h e => by
  subst e
  rw [lt_ir] at h; cases h
theorem setS_len (xs : List Str) : (setS xs).length ≤ xs.length := str_nodup_lenH _ _ (setS_nd xs) fun x h => setS_mem.mp h
where
  str_nodup_lenH : ∀ (l D : List Str), l.Nodup → (∀ x ∈ l, x ∈ D) → l.length ≤ D.length
  | [], _, _, _ => Nat.zero_le _
  | x :: l, D, hn, hs => by
    obtain ⟨h1, h2⟩ := List.nodup_cons.mp hn
    have hx : x ∈ D := hs x List.mem_cons_self
    have ih := str_nodup_lenH l (D.erase x) h2 fun y hy => by
      have hne : y ≠ x := fun e => h1 (e ▸ hy)
      exact (List.mem_erase_of_ne hne).2 (hs y (List.mem_cons_of_mem _ hy))
    have e := List.length_erase_of_mem hx
    have := List.length_pos_of_mem hx
    rw [List.length_cons]
    omega
section
variable {K : PySem.W.Frag} {G : Bs} {te ta tb tl : TE} {tt : TT} {tA : TA} {ρ : List Sl} {d : PyData} {ds : List PyData} {xs : List Str} {i : Nat}
theorem dpaS_inv {H : Hp} {vs : List V} (h : DpAll K H vs (xs.map .str)) : vs = xs.map V.str := DpAll.texts_inv h
theorem nv_sortS (h : Lv K G te ρ (xs.map .str)) (hz : xs.length < 64) : Nv K G (tCB (rSortedS K) (tCons te tNil)) ρ ((sortS xs).map .str) := fun σ H O en Q q =>
  h σ H O en _ fun a vs H1 e1 hs hd => by
    rw [dpaS_inv hd] at hs
    exact ⟨a, xs, rfl, hs, hz, fun ys p pm so np => by
      rw [sortS_eq pm so]
      exact q p _ _ (e1.trans (Ex.new np)) (fresh_back e1 np) upd_same (dpa_texts _)⟩
theorem nv_sortT (h : Sv K G te ρ (tD xs)) (hz : xs.length ≤ 1000) : Nv K G (tCB (rSortedT K) (tCons te tNil)) ρ ((sortS xs).map .str) := fun σ H O en Q q =>
  h σ H O en _ fun v H1 e1 hv => by
    obtain ⟨a, rfl, hs⟩ := texts_of_dp hv
    exact ⟨a, xs, rfl, ex_t rs_ex hs, hz, fun ys p pm so np => by
      rw [sortS_eq pm so]
      exact q p _ _ (e1.trans (Ex.new np)) (fresh_back e1 np) upd_same (dpa_texts _)⟩
theorem nv_sortSet {X : Cx} (hK : X.K = K) (h : Lv K G te ρ (xs.map .str)) (room : xs.length < 1000) : Nv K G (tCB (rSortTab X) (tCons (tCB (rSetTx X) (tCons te tNil)) tNil)) ρ ((setS xs).map .str) := fun σ H O en Q q =>
  h σ H O en _ fun a vs H1 e1 hs hd => by
    subst hK
    rw [dpaS_inv hd] at hs
    exact ⟨a, xs, rfl, .inl hs, by unfold scanBound; omega, fun p ks nd mem np => ⟨p, ks, rfl, upd_same, fun ys l pm so nl => by
      have e := setS_eq (xs := xs) (pm.nodup_iff.mpr nd) (fun k => pm.mem_iff.trans (mem k)) so
      rw [e]
      exact q l _ _ ((e1.trans (Ex.new np)).trans (Ex.new nl)) (fresh_back (e1.trans (Ex.new np)) nl) upd_same (dpa_texts _)⟩⟩
theorem nv_sortSetT {X : Cx} (hK : X.K = K) (h : Sv K G te ρ (tD xs)) (room : xs.length < 1000) : Nv K G (tCB (rSortTab X) (tCons (tCB (rSetTx X) (tCons te tNil)) tNil)) ρ ((setS xs).map .str) := fun σ H O en Q q =>
  h σ H O en _ fun v H1 e1 hv => by
    subst hK
    obtain ⟨a, rfl, hs⟩ := texts_of_dp hv
    exact ⟨a, xs, rfl, .inr (ex_t rs_ex hs), by unfold scanBound; omega, fun p ks nd mem np => ⟨p, ks, rfl, upd_same, fun ys l pm so nl => by
      have e := setS_eq (xs := xs) (pm.nodup_iff.mpr nd) (fun k => pm.mem_iff.trans (mem k)) so
      rw [e]
      exact q l _ _ ((e1.trans (Ex.new np)).trans (Ex.new nl)) (fresh_back (e1.trans (Ex.new np)) nl) upd_same (dpa_texts _)⟩⟩
end
/-! ### a book -/
def BkP (K : PySem.W.Frag) (C : Addr) (p : Pb) : Pr := fun v H => ∃ B, v = .ref B ∧ BkAt K H B C p
theorem BkP.m {K : PySem.W.Frag} {C : Addr} {p : Pb} : Mono (BkP K C p) := fun _ _ _ e ⟨B, h1, h2⟩ => ⟨B, h1, h2.ex e⟩
abbrev bkS (K : PySem.W.Frag) (C : Addr) (p : Pb) : Sl := .ob (BkP K C p) BkP.m
section
variable {K : PySem.W.Frag} {G : Bs} {te ta tb tl : TE} {tt : TT} {tA : TA} {ρ : List Sl} {d : PyData} {ds : List PyData} {xs : List Str} {i : Nat} {C : Addr} {p : Pb} {E : XK}
theorem sl_bk {H : Hp} {v : V} {σ : L2.St} (h : BkP K C p v H) (r : SlAll K 0 (fun _ => False) H σ ρ) : SlAll K 0 (fun _ => False) H (some v :: σ) (bkS K C p :: ρ) := sl_o h r
theorem tg_bk (h : ρ[i]? = some (bkS K C p)) : Tg K G (tVar i) ρ (BkP K C p) := (sg_var h).t BkP.m
theorem nv_prop {α : Type} {D : α → PyData} {sel : Pb → List α} (hD : ∀ x, noL (D x) = true) (h : Tg K G ta ρ (BkP K C p)) : Nv K G (tProp C (spPropC K C D sel) [] E0 ta) ρ ((sel p).map D) := fun σ H O en Q q =>
  h σ H O en _ fun v H1 e1 ⟨B, hv, b⟩ => by
    subst hv
    have b0 := b
    obtain ⟨dx, fs, hl', bl, pd, dm, dc, da, dr, bs, ms, cs, as, rs, bb⟩ := b0
    exact ⟨B, dx, fs, rfl, bb.ins, B, p, rfl, b, fun a zs H2 na e2 ha hd => q a zs H2 (e1.trans e2) (fresh_back e1 na) ha (dpa_noL (li_add en (e1.trans e2) ha) (noLs_map D hD _) hd)⟩
end
end My
namespace My
open PySem PySem.Spec PyProof.Rows L2 Evl
def sortT (ts : List (List Str)) : List (List Str) := ts.mergeSort (PySem.W.dataLe false fun t => .tuple (t.map .str))
def Pb.sb (p : Pb) : List (List Str) := sortT p.barred
def Pb.sf (p : Pb) : Str := p.mn.headD Str.empty
theorem byTexts_dpa {K : PySem.W.Frag} {H : Hp} {vs : List V} {ts : List (List Str)} (all : DpAll K H vs (ts.map tD)) : DpAll K H ((byTexts vs ts).map (·.1)) ((sortT ts).map tD) := by
  have len : vs.length = ts.length := by rw [dpa_len all, List.length_map]
  have e3 : ((vs.zip ts).mergeSort (PySem.W.dataLe false encT)).map (fun p => p.2) = ((vs.zip ts).map fun p => p.2).mergeSort (PySem.W.dataLe false fun t => .tuple (t.map .str)) := List.map_mergeSort fun _ _ _ _ => rfl
  have e4 : (vs.zip ts).map (fun p => p.2) = ts := List.map_snd_zip (by omega)
  rw [e4] at e3
  unfold byTexts sortT
  rw [← e3, List.map_map]
  have each : ∀ p ∈ (vs.zip ts).mergeSort (PySem.W.dataLe false encT), Dp K H p.1 (tD p.2) := fun p hp => by
    have hp := (List.mergeSort_perm _ _).mem_iff.mp hp
    obtain ⟨i, hi⟩ := List.mem_iff_getElem?.mp hp
    rw [List.getElem?_zip_eq_some] at hi
    obtain ⟨v, hv, dv⟩ := dpa_at _ _ i (tD p.2) all (by rw [List.getElem?_map, hi.2]; rfl)
    rw [hi.1] at hv
    obtain rfl := Option.some.inj hv
    exact dv
  generalize (vs.zip ts).mergeSort (PySem.W.dataLe false encT) = w at each
  induction w with
  | nil => exact .nil
  | cons p r ih => exact .cons (each p List.mem_cons_self) (ih fun q hq => each q (List.mem_cons_of_mem _ hq))
theorem sc_len (p : Pb) : p.sc.length = p.cmds.length := (List.mergeSort_perm _ _).length_eq
def Sh (xs : List Str) : Prop := xs.length ≤ 1000 ∧ ∀ x ∈ xs, PyData.strOk x = true ∧ x.length ≤ sizeLine
end My
set_option Elab.async false
set_option linter.all false
set_option maxRecDepth 100000
set_option maxHeartbeats 1000000
/-! ### a field as a target among others -/
namespace My
open PySem PySem.Spec PyProof.Rows L2 Evl
def gFld (K : PySem.W.Frag) (ta : TE) (f : Str) : TG := fun v σ H Q => ta σ H fun x H1 => ∃ a C dx fs, x = .ref a ∧ H1 a = some (.ins C dx fs) ∧ Cls K C ∧ NoAttr K C f ∧ fs.length < 1000 ∧ Q σ (upd H1 a (.ins C dx (putF f v fs)))
theorem pg_fld {X : Cx} {o : Expr} {f : Str} {pos : Pos} {ta : TE} (ho : PE X o ta)
    (ha : ∀ v, assign (.Attribute o f pos) X.env v = (do
      let ov ← holding [v] (eval o X.env)
      standAt pos.atName
      holding [v, ov] (setAttr ov f v)
      release [v, ov] []) := by intro _; rfl) : PG X (.Attribute o f pos) (gFld X.K ta f) := by
  refine ⟨fun pins s σ H v u Q I r h => ?_⟩
  rw [ha]
  refine wpAny_bind (wpAny_holding (thn (ho.run pins s σ H _ I h) fun ov s1 ⟨x, H1, I1, r1, q1⟩ => ?_))
  obtain ⟨a, C, dx, fs, rfl, ea, c, n, l, q⟩ := q1
  obtain rfl : ov = Value.ref a := r1
  refine wpAny_bind (wpAny_standAt (wpAny_bind (wpAny_holding ?_)))
  exact setattr_ok I1 ea c n l r fun s2 I2 => wpAny_release ⟨σ, _, I2, q⟩
end My
set_option Elab.async false
set_option linter.all false
set_option maxRecDepth 100000
set_option maxHeartbeats 1000000
/-! ### instances, told by their fields' data -/
namespace My
open PySem PySem.Spec PyProof.Rows L2 Evl
inductive Fl where
  | dat (d : PyData)
  | own (ds : List PyData)
  | ob (P : Pr) (m : Mono P)
def FlOk (K : PySem.W.Frag) (F H : Hp) (S : Addr → Prop) : V → Fl → Prop
  | v, .dat d => Dp K F v d
  | v, .ob P _ => P v F
  | v, .own ds => ∃ a xs, v = .ref a ∧ S a ∧ H a = some (.lst xs) ∧ DpAll K F xs ds
def FlAll (K : PySem.W.Frag) (F H : Hp) (S : Addr → Prop) : List V → List Fl → Prop
  | [], [] => True
  | v :: vs, f :: φ => FlOk K F H S v f ∧ FlAll K F H S vs φ
  | _, _ => False
section
variable {K : PySem.W.Frag} {F F' H H' : Hp} {S S' : Addr → Prop}
theorem FlOk.step (e : Ex F F') (ho : ∀ a xs, S a → H a = some (.lst xs) → S' a ∧ H' a = some (.lst xs)) : ∀ {v : V} {f : Fl}, FlOk K F H S v f → FlOk K F' H' S' v f
  | _, .dat d, h => dp_ex e h
  | _, .ob P m, h => m _ _ _ e h
  | _, .own ds, ⟨a, xs, h1, h2, h3, h4⟩ => ⟨a, xs, h1, (ho a xs h2 h3).1, (ho a xs h2 h3).2, dpa_ex e h4⟩
theorem FlAll.map (f : ∀ {v : V} {x : Fl}, FlOk K F H S v x → FlOk K F' H' S' v x) : ∀ {vs : List V} {φ : List Fl}, FlAll K F H S vs φ → FlAll K F' H' S' vs φ
  | [], [], h => h
  | _ :: _, _ :: _, h => ⟨f h.1, FlAll.map f h.2⟩
  | [], _ :: _, h => h.elim
  | _ :: _, [], h => h.elim
theorem FlAll.get : ∀ {vs : List V} {φ : List Fl} {i : Nat} {f : Fl}, FlAll K F H S vs φ → φ[i]? = some f → ∃ v, vs[i]? = some v ∧ FlOk K F H S v f
  | [], [], _, _, _, h => by cases h
  | v :: vs, f :: φ, 0, _, h, e => by cases e; exact ⟨v, rfl, h.1⟩
  | v :: vs, f :: φ, i + 1, _, h, e => FlAll.get (vs := vs) (φ := φ) (i := i) h.2 e
  | [], _ :: _, _, _, h, _ => h.elim
  | _ :: _, [], _, _, h, _ => h.elim
theorem FlAll.len : ∀ {vs : List V} {φ : List Fl}, FlAll K F H S vs φ → vs.length = φ.length
  | [], [], _ => rfl
  | _ :: _, _ :: _, h => congrArg (· + 1) (FlAll.len h.2)
  | [], _ :: _, h => h.elim
  | _ :: _, [], h => h.elim
theorem FlAll.of : ∀ {vs : List V} {φ : List Fl}, vs.length = φ.length → (∀ (i : Nat) v f, vs[i]? = some v → φ[i]? = some f → FlOk K F H S v f) → FlAll K F H S vs φ
  | [], [], _, _ => trivial
  | v :: vs, f :: φ, l, h => ⟨h 0 v f rfl rfl, FlAll.of (Nat.succ.inj l) fun i v' f' h1 h2 => h (i + 1) v' f' h1 h2⟩
  | [], _ :: _, l, _ => by cases l
  | _ :: _, [], l, _ => by cases l
end
structure ClsF (K : PySem.W.Frag) (C : Addr) (FN : List Str) : Prop where
  cl : Cls K C
  no : ∀ f ∈ FN, NoAttr K C f
theorem zip_look {FN : List Str} {vs : List V} {k : Nat} {f : Str} {v : V} (nd : FN.Nodup) (hf : FN[k]? = some f) (hv : vs[k]? = some v) : (FN.zip vs).lookup f = some v := by
  induction FN generalizing vs k with
  | nil => cases hf
  | cons g r ih =>
    obtain ⟨n1, n2⟩ := List.nodup_cons.mp nd
    cases vs with
    | nil => cases hv
    | cons w ws =>
      cases k with
      | zero =>
        cases hf; cases hv
        rw [List.zip_cons_cons, List.lookup_cons, beq_self_eq_true]
      | succ k =>
        have hf' : r[k]? = some f := hf
        have ne : (f == g) = false := beq_false_of_ne fun e => n1 (e ▸ List.mem_of_getElem? hf')
        rw [List.zip_cons_cons, List.lookup_cons, ne]
        exact ih n2 hf' hv
theorem zip_none {FN : List Str} {vs : List V} {m : Str} (h : m ∉ FN) : (FN.zip vs).lookup m = none := by
  induction FN generalizing vs with
  | nil => rfl
  | cons g r ih =>
    cases vs with
    | nil => rfl
    | cons w ws =>
      rw [List.zip_cons_cons, List.lookup_cons, show (m == g) = false from beq_false_of_ne fun e => h (e ▸ List.mem_cons_self)]
      exact ih fun z => h (List.mem_cons_of_mem _ z)
theorem zip_put {FN : List Str} {vs : List V} {k : Nat} {f : Str} {v : V} (nd : FN.Nodup) (hf : FN[k]? = some f) (hk : k < vs.length) : putF f v (FN.zip vs) = FN.zip (vs.set k v) := by
  induction FN generalizing vs k with
  | nil => cases hf
  | cons g r ih =>
    obtain ⟨n1, n2⟩ := List.nodup_cons.mp nd
    cases vs with
    | nil => simp at hk
    | cons w ws =>
      cases k with
      | zero =>
        obtain rfl : g = f := Option.some.inj hf
        show (if g = g then _ else _) = _
        rw [if_pos rfl]; rfl
      | succ k =>
        have hf' : r[k]? = some f := hf
        have ne : ¬ g = f := fun e => n1 (by rw [e]; exact List.mem_of_getElem? hf')
        show (if g = f then _ else _) = _
        rw [if_neg ne]
        show (g, w) :: putF f v (r.zip ws) = _
        rw [ih n2 hf' (by simpa using hk)]; rfl
theorem zip_app {FN : List Str} {vs : List V} {f : Str} {v : V} (nd : FN.Nodup) (hf : FN[vs.length]? = some f) : putF f v (FN.zip vs) = FN.zip (vs ++ [v]) := by
  induction FN generalizing vs with
  | nil => cases hf
  | cons g r ih =>
    obtain ⟨n1, n2⟩ := List.nodup_cons.mp nd
    cases vs with
    | nil =>
      obtain rfl : g = f := Option.some.inj hf
      show putF g v [] = _
      simp [putF]
    | cons w ws =>
      have hf' : r[ws.length]? = some f := hf
      have ne : ¬ g = f := fun e => n1 (by rw [e]; exact List.mem_of_getElem? hf')
      show (if g = f then _ else _) = _
      rw [if_neg ne]
      show (g, w) :: putF f v (r.zip ws) = _
      rw [ih n2 hf']; rfl
/-- the instance at M with these fields -/
structure XI (K : PySem.W.Frag) (C : Addr) (FN : List Str) (M : Addr) (φ : List Fl) (F H : Hp) (S : Addr → Prop) : Prop where
  at_ : ∃ dx vs, H M = some (.ins C dx (FN.zip vs)) ∧ FlAll K F H S vs φ ∧ (∀ (i j : Nat) (a : Addr) (ds es : List PyData), φ[i]? = some (Fl.own ds) → φ[j]? = some (Fl.own es) → vs[i]? = some (V.ref a) → vs[j]? = some (V.ref a) → i = j)
  mem : S M
  li : ∀ a, S a → IsMt (H a)
def xm (K : PySem.W.Frag) (C : Addr) (FN : List Str) (M : Addr) (φ : List Fl) : Xt := ⟨M, XI K C FN M φ, fun F F' H H' S e hs ⟨⟨dx, vs, h1, h2, h3⟩, m, li⟩ =>
  ⟨⟨dx, vs, by rw [hs M m]; exact h1, h2.map (FlOk.step e fun a xs s hx => ⟨s, by rw [hs a s]; exact hx⟩), h3⟩, m, fun a s => by rw [hs a s]; exact li a s⟩⟩
section
variable {K : PySem.W.Frag} {G : Hp} {C M : Addr} {FN : List Str} {φ φ1 φ' : List Fl} {te ta tb : TE} {tt : TT} {tA : TA} {ρ ρ' : List Sl} {P : Pr} {d : PyData} {ds es : List PyData} {b : Bool} {i j k : Nat} {f m : Str} {t tu tw tz : TS} {D : Ends} {g : TG} {O : Addr → Prop} {σ : L2.St} {H H' : Hp}
theorem En.self (en : En K ⟨G, xm K C FN M φ⟩ O σ H ρ) (hs : ρ[i]? = some .self) : σ[i]? = some (some (.ref M)) := by
  obtain ⟨s, h1, h2⟩ := en.sl.get hs
  rw [h1]
  exact congrArg some h2
theorem sg_fldX (TC : ClsF K C FN) (nd : FN.Nodup) (hs : ρ[i]? = some .self) (hn : FN[k]? = some f) {fl : Fl} (hk : φ[k]? = some fl) {Q : VK} (en : En K ⟨G, xm K C FN M φ⟩ O σ H ρ) (q : ∀ v S, (∀ a, S a → O a) → FlOk K (rs O H) H S v fl → Q v H) : tFld K (tVar i) f σ H Q := by
  obtain ⟨S, ⟨⟨dx, vs, h1, h2, h3⟩, mm, li⟩, hS, hn'⟩ := en.xt
  obtain ⟨v, hv, ok⟩ := h2.get hk
  exact ⟨_, en.self hs, M, C, dx, _, v, rfl, h1, TC.cl, TC.no f (List.mem_of_getElem? hn), zip_look nd hn hv, q v S hS ok⟩
theorem sv_fld (TC : ClsF K C FN) (nd : FN.Nodup) (hs : ρ[i]? = some .self) (hn : FN[k]? = some f) (hk : φ[k]? = some (.dat d)) : Sv K ⟨G, xm K C FN M φ⟩ (tFld K (tVar i) f) ρ d := fun σ H O en Q q =>
  sg_fldX TC nd hs hn hk en fun v S hS ok => q v H (Ex.refl H) ok
theorem sg_fld {mo : Mono P} (TC : ClsF K C FN) (nd : FN.Nodup) (hs : ρ[i]? = some .self) (hn : FN[k]? = some f) (hk : φ[k]? = some (.ob P mo)) : Sg K ⟨G, xm K C FN M φ⟩ (tFld K (tVar i) f) ρ P := fun σ H O en Q q =>
  sg_fldX TC nd hs hn hk en fun v S hS ok => q v H (Ex.refl H) ok
theorem lx_fld (TC : ClsF K C FN) (nd : FN.Nodup) (hs : ρ[i]? = some .self) (hn : FN[k]? = some f) (hk : φ[k]? = some (.own ds)) : Lx K ⟨G, xm K C FN M φ⟩ (tFld K (tVar i) f) ρ ds := fun σ H O en Q q =>
  sg_fldX TC nd hs hn hk en fun v S hS ⟨a, xs, e, sa, ha, hd⟩ => by subst e; exact q a xs H (Ex.refl H) ha hd
abbrev Ds (vs : List V) (φ : List Fl) : Prop := ∀ (i j : Nat) (a : Addr) (ds es : List PyData), φ[i]? = some (Fl.own ds) → φ[j]? = some (Fl.own es) → vs[i]? = some (V.ref a) → vs[j]? = some (V.ref a) → i = j
/-- the instance changes -/
theorem en_chg {S : Addr → Prop} {dx : Addr} {vs vs' : List V} (en : En K ⟨G, xm K C FN M φ⟩ O σ H ρ) (h1 : H M = some (.ins C dx (FN.zip vs))) (mm : S M) (li : ∀ a, S a → IsMt (H a)) (hS : ∀ a, S a → O a) (hn : ∀ (i : Nat) (a : Addr) (ds : List PyData), ρ[i]? = some (Sl.own ds) → σ[i]? = some (some (V.ref a)) → ¬ S a)
    (g1 : FlAll K (rs O H) H S vs' φ') (g2 : Ds vs' φ') : En K ⟨G, xm K C FN M φ'⟩ O σ (upd H M (.ins C dx (FN.zip vs'))) ρ := by
  have er : rs O (upd H M (.ins C dx (FN.zip vs'))) = rs O H := rs_upd (hS M mm)
  have neM : ∀ {a : Addr} {xs : List V}, H a = some (.lst xs) → a ≠ M := fun ha z => by rw [z, h1] at ha; cases ha
  refine ⟨by rw [er]; exact en.ex, fun a o' => ?_, en.sl.map fun {s r} ok => ?_, en.ds, S, ⟨⟨dx, vs', upd_same, g1.map (FlOk.step (by rw [er]; exact Ex.refl _) fun a xs s hx => ⟨s, by rw [upd_ne (neM hx)]; exact hx⟩), g2⟩, mm, fun a s => ?_⟩, hS, hn⟩
  · by_cases e : a = M
    · rw [e, upd_same]; exact .inr ⟨_, _, _, rfl⟩
    · rw [upd_ne e]; exact en.li a o'
  · cases r with
    | no => trivial
    | self => exact ok
    | dat d => exact ok.imp fun v z => ⟨z.1, by rw [er]; exact z.2⟩
    | ob P m => exact ok.imp fun v z => ⟨z.1, by rw [er]; exact z.2⟩
    | own fs =>
      obtain ⟨c, ys, rfl, oc, hc, dc⟩ := ok
      exact ⟨c, ys, rfl, oc, by rw [upd_ne (neM hc)]; exact hc, by rw [er]; exact dc⟩
  · by_cases e : a = M
    · rw [e, upd_same]; exact .inr ⟨_, _, _, rfl⟩
    · rw [upd_ne e]; exact li a s
theorem fla_set {F : Hp} {S : Addr → Prop} {vs : List V} {v : V} {fl : Fl} (h : FlAll K F H S vs φ) (hv : FlOk K F H S v fl) : FlAll K F H S (vs.set k v) (φ.set k fl) :=
  FlAll.of (by rw [List.length_set, List.length_set]; exact h.len) fun i v' f' h1 h2 => by
    rcases getset h1 with ⟨rfl, rfl⟩ | ⟨n, h1⟩
    · rcases getset h2 with ⟨_, rfl⟩ | ⟨n, _⟩
      · exact hv
      · exact absurd rfl n
    · rcases getset h2 with ⟨e, _⟩ | ⟨_, h2⟩
      · exact absurd e n
      · obtain ⟨w, hw, ok⟩ := h.get h2
        rw [h1] at hw
        cases hw
        exact ok
theorem ds_set {vs : List V} {v : V} {d : PyData} (h : Ds vs φ) : Ds (vs.set k v) (φ.set k (.dat d)) := fun p q a ds es h1 h2 h3 h4 => by
  rcases getset h1 with ⟨_, e⟩ | ⟨n1, h1⟩
  · cases e
  rcases getset h2 with ⟨_, e⟩ | ⟨n2, h2⟩
  · cases e
  rcases getset h3 with ⟨e, _⟩ | ⟨_, h3⟩
  · exact absurd e n1
  rcases getset h4 with ⟨e, _⟩ | ⟨_, h4⟩
  · exact absurd e n2
  exact h p q a ds es h1 h2 h3 h4
theorem fla_app {F : Hp} {S : Addr → Prop} {vs : List V} {v : V} {fl : Fl} (h : FlAll K F H S vs φ) (hv : FlOk K F H S v fl) : FlAll K F H S (vs ++ [v]) (φ ++ [fl]) := by
  induction vs generalizing φ with
  | nil => cases φ with
    | nil => exact ⟨hv, trivial⟩
    | cons => exact h.elim
  | cons w ws ih => cases φ with
    | nil => exact h.elim
    | cons g r => exact ⟨h.1, ih h.2⟩
theorem getapp {α : Type} {l : List α} {x y : α} {k : Nat} (h : (l ++ [x])[k]? = some y) : (k = l.length ∧ y = x) ∨ (k < l.length ∧ l[k]? = some y) := by
  by_cases e : k < l.length
  · rw [List.getElem?_append_left e] at h; exact .inr ⟨e, h⟩
  · rw [List.getElem?_append_right (by omega)] at h
    cases n : k - l.length with
    | zero => rw [n] at h; cases h; exact .inl ⟨by omega, rfl⟩
    | succ n' => rw [n] at h; cases h
theorem ds_appD {vs : List V} {v : V} {fl : Fl} (hl : vs.length = φ.length) (h : Ds vs φ) (no : ∀ ds, fl ≠ .own ds) : Ds (vs ++ [v]) (φ ++ [fl]) := fun p q a ds es h1 h2 h3 h4 => by
  rcases getapp h1 with ⟨_, e⟩ | ⟨n1, h1⟩
  · exact absurd e.symm (no _)
  rcases getapp h2 with ⟨_, e⟩ | ⟨n2, h2⟩
  · exact absurd e.symm (no _)
  rcases getapp h3 with ⟨e, _⟩ | ⟨_, h3⟩
  · omega
  rcases getapp h4 with ⟨e, _⟩ | ⟨_, h4⟩
  · omega
  exact h p q a ds es h1 h2 h3 h4
theorem z1000 {vs : List V} (h : FN.length < 1000) : (FN.zip vs).length < 1000 := by rw [List.length_zip]; omega
/-- self.f = data -/
theorem bd_fld (TC : ClsF K C FN) (nd : FN.Nodup) (lf : FN.length < 1000) (hs : ρ[i]? = some .self) (hn : FN[k]? = some f) {fl0 : Fl} (hk0 : φ[k]? = some fl0) (h : Sv K ⟨G, xm K C FN M φ⟩ te ρ d) (kk : BD K ⟨G, xm K C FN M (φ.set k (.dat d))⟩ tz D ρ) : BD K ⟨G, xm K C FN M φ⟩ (tSeq (sFld K (tVar i) te f) tz) D ρ := fun σ H O en =>
  h σ H O en _ fun v H1 e1 hv => by
    have en1 := en.mono e1
    obtain ⟨S, ⟨⟨dx, vs, h1, h2, h3⟩, mm, li⟩, hS, hn'⟩ := en1.xt
    have hk := (List.getElem?_eq_some_iff.mp hk0).1
    refine ⟨_, en1.self hs, M, C, dx, _, rfl, h1, TC.cl, TC.no f (List.mem_of_getElem? hn), z1000 lf, ?_⟩
    rw [zip_put nd hn (by rw [h2.len]; exact hk)]
    exact kk _ _ _ (en_chg en1 h1 mm li hS hn' (fla_set h2 hv) (ds_set h3))
/-- self.f = data, a new field -/
theorem bd_fldA (TC : ClsF K C FN) (nd : FN.Nodup) (lf : FN.length < 1000) (hs : ρ[i]? = some .self) (hn : FN[φ.length]? = some f) (h : Sv K ⟨G, xm K C FN M φ⟩ te ρ d) (kk : BD K ⟨G, xm K C FN M (φ ++ [.dat d])⟩ tz D ρ) : BD K ⟨G, xm K C FN M φ⟩ (tSeq (sFld K (tVar i) te f) tz) D ρ := fun σ H O en =>
  h σ H O en _ fun v H1 e1 hv => by
    have en1 := en.mono e1
    obtain ⟨S, ⟨⟨dx, vs, h1, h2, h3⟩, mm, li⟩, hS, hn'⟩ := en1.xt
    refine ⟨_, en1.self hs, M, C, dx, _, rfl, h1, TC.cl, TC.no f (List.mem_of_getElem? hn), z1000 lf, ?_⟩
    rw [zip_app nd (by rw [h2.len]; exact hn)]
    exact kk _ _ _ (en_chg en1 h1 mm li hS hn' (fla_app h2 hv) (ds_appD h2.len h3 fun _ z => by cases z))
theorem bd_fldAO {mo : Mono P} (TC : ClsF K C FN) (nd : FN.Nodup) (lf : FN.length < 1000) (hs : ρ[i]? = some .self) (hn : FN[φ.length]? = some f) (h : Sg K ⟨G, xm K C FN M φ⟩ te ρ P) (kk : BD K ⟨G, xm K C FN M (φ ++ [.ob P mo])⟩ tz D ρ) : BD K ⟨G, xm K C FN M φ⟩ (tSeq (sFld K (tVar i) te f) tz) D ρ := fun σ H O en =>
  h σ H O en _ fun v H1 e1 hv => by
    have en1 := en.mono e1
    obtain ⟨S, ⟨⟨dx, vs, h1, h2, h3⟩, mm, li⟩, hS, hn'⟩ := en1.xt
    refine ⟨_, en1.self hs, M, C, dx, _, rfl, h1, TC.cl, TC.no f (List.mem_of_getElem? hn), z1000 lf, ?_⟩
    rw [zip_app nd (by rw [h2.len]; exact hn)]
    exact kk _ _ _ (en_chg en1 h1 mm li hS hn' (fla_app h2 hv) (ds_appD h2.len h3 fun _ z => by cases z))
/-- self.f = a new list, a new field -/
theorem bd_fldAN (TC : ClsF K C FN) (nd : FN.Nodup) (lf : FN.length < 1000) (hs : ρ[i]? = some .self) (hn : FN[φ.length]? = some f) (h : Nv K ⟨G, xm K C FN M φ⟩ te ρ ds) (kk : BD K ⟨G, xm K C FN M (φ ++ [.own ds])⟩ tz D ρ) : BD K ⟨G, xm K C FN M φ⟩ (tSeq (sFld K (tVar i) te f) tz) D ρ := fun σ H O en =>
  h σ H O en _ fun a xs H1 e1 na ha hd => by
    have en1 := en.addO na e1 ha
    obtain ⟨S, ⟨⟨dx, vs, h1, h2, h3⟩, mm, li⟩, hS, hn'⟩ := en.xt
    have h1' := e1 _ _ h1
    have nS : ¬ S a := fun s => mt_ne (li a s) na
    refine ⟨_, en1.self hs, M, C, dx, _, rfl, h1', TC.cl, TC.no f (List.mem_of_getElem? hn), z1000 lf, ?_⟩
    rw [zip_app nd (by rw [h2.len]; exact hn)]
    have h2' : FlAll K (rs (addO O a) H1) H1 (addO S a) vs φ := h2.map (FlOk.step (rs_add na e1) fun b ys s hx => ⟨.inl s, e1 _ _ hx⟩)
    refine kk _ _ _ (en_chg (S := addO S a) en1 h1' (.inl mm) (fun b s => s.elim (fun s => by rw [mt_ex e1 (li b s)]; exact li b s) fun z => .inl ⟨xs, z ▸ ha⟩) (fun b s => s.imp (hS b) id) (fun p b ds0 g1 g2 s => s.elim (hn' p b ds0 g1 g2) fun z => ?_) (fla_app h2' ⟨a, xs, rfl, .inr rfl, ha, hd⟩) ?_)
    · obtain ⟨s0, k1, b', ys, rfl, ob, hb, _⟩ := en.sl.get g1
      rw [g2] at k1
      cases k1
      rw [z, na] at hb
      cases hb
    · have noa : ∀ {p : Nat} {es : List PyData}, φ[p]? = some (Fl.own es) → vs[p]? = some (V.ref a) → False := fun {p es} q1 q2 => by
        obtain ⟨w, hw, b', ys, rfl, sb, hb, _⟩ := h2.get q1
        rw [q2] at hw
        cases hw
        exact nS sb
      intro p q b d1 d2 q1 q2 q3 q4
      rcases getapp q1 with ⟨e1', _⟩ | ⟨n1, q1⟩ <;> rcases getapp q2 with ⟨e2', _⟩ | ⟨n2, q2⟩ <;> rcases getapp q3 with ⟨e3', f3⟩ | ⟨n3, q3⟩ <;> rcases getapp q4 with ⟨e4', f4⟩ | ⟨n4, q4⟩ <;> (try (have := h2.len; omega))
      · cases f3; exact (noa q2 q4).elim
      · cases f4; exact (noa q1 q3).elim
      · exact h3 p q b _ _ q1 q2 q3 q4
/-- self.f.append(data) -/
theorem bd_appF (TC : ClsF K C FN) (nd : FN.Nodup) (hs : ρ[i]? = some .self) (hn : FN[k]? = some f) (hk : φ[k]? = some (.own ds)) (h : Sv K ⟨G, xm K C FN M φ⟩ te ρ d) (hz : ds.length < 100000) (kk : BD K ⟨G, xm K C FN M (φ.set k (.own (ds ++ [d])))⟩ tz D ρ) : BD K ⟨G, xm K C FN M φ⟩ (tSeq (tDrop (tBM K "list" rAppend (tFld K (tVar i) f) (tCons te tNil))) tz) D ρ := fun σ H O en => by
  obtain ⟨S, ⟨⟨dx, vs, h1, h2, h3⟩, mm, li⟩, hS, hn'⟩ := en.xt
  obtain ⟨v, hv, a, xs, rfl, sa, ha, hd⟩ := h2.get hk
  refine s_appG (D := { D with nx := tz D }) ha (ev_fld (ev_var (en.self hs)) h1 TC.cl (TC.no f (List.mem_of_getElem? hn)) (zip_look nd hn hv)) (h.g en) (by rw [dpa_len hd]; exact hz) fun v H1 e1 hv1 => kk _ _ O ?_
  have en1 := en.mono e1
  have oa := hS a sa
  have er : rs O (upd H1 a (.lst (xs ++ [v]))) = rs O H1 := rs_upd oa
  have nM : M ≠ a := fun z => by rw [← z, h1] at ha; cases ha
  have neA : ∀ {b : Addr} {c : Nat} {es : List PyData}, ρ[c]? = some (Sl.own es) → σ[c]? = some (some (V.ref b)) → b ≠ a := fun g1 g2 z => hn' _ _ _ g1 g2 (z ▸ sa)
  refine ⟨by rw [er]; exact en1.ex, fun b ob => ?_, SlAll.of en1.sl.len fun p s r g1 g2 => ?_, en1.ds, S, ⟨⟨dx, vs, by rw [upd_ne nM]; exact e1 _ _ h1, FlAll.of (by rw [List.length_set]; exact h2.len) fun p w fl g1 g2 => ?_, fun p q b d1 d2 g1 g2 g3 g4 => ?_⟩, mm, fun b sb => ?_⟩, hS, hn'⟩
  · by_cases z : b = a
    · rw [z, upd_same]; exact .inl ⟨_, rfl⟩
    · rw [upd_ne z]; exact en1.li b ob
  · obtain ⟨s', k1, ok⟩ := en1.sl.get g2
    rw [g1] at k1
    cases k1
    cases r with
    | no => trivial
    | self => exact ok
    | dat d => exact ok.imp fun v z => ⟨z.1, by rw [er]; exact z.2⟩
    | ob P m => exact ok.imp fun v z => ⟨z.1, by rw [er]; exact z.2⟩
    | own fs =>
      obtain ⟨c, ys, rfl, oc, hc, dc⟩ := ok
      exact ⟨c, ys, rfl, oc, by rw [upd_ne (neA g2 g1)]; exact hc, by rw [er]; exact dc⟩
  · have st : Ex (rs O H) (rs O (upd H1 a (.lst (xs ++ [v])))) := by rw [er]; exact rs_mono e1
    rcases getset g2 with ⟨rfl, rfl⟩ | ⟨n, g2⟩
    · rw [hv] at g1
      cases g1
      exact ⟨a, _, rfl, sa, upd_same, by rw [er]; exact dpa_app (dpa_ex (rs_mono e1) hd) (.cons hv1 .nil)⟩
    · obtain ⟨w', k1, ok⟩ := h2.get g2
      rw [g1] at k1
      cases k1
      cases fl with
      | dat d => exact dp_ex st ok
      | ob P m => exact m _ _ _ st ok
      | own fs =>
        obtain ⟨c, ys, rfl, sc, hc, dc⟩ := ok
        have nc : c ≠ a := fun z => n (h3 _ _ a _ _ hk g2 hv (z ▸ g1))
        exact ⟨c, ys, rfl, sc, by rw [upd_ne nc]; exact e1 _ _ hc, dpa_ex st dc⟩
  · have own1 : ∀ {c : Nat} {d : List PyData}, (φ.set k (.own (ds ++ [‹PyData›])))[c]? = some (Fl.own d) → ∃ d', φ[c]? = some (Fl.own d') := fun {c d} g => by
      rcases getset g with ⟨rfl, _⟩ | ⟨_, g⟩
      · exact ⟨_, hk⟩
      · exact ⟨_, g⟩
    obtain ⟨d1', g1⟩ := own1 g1
    obtain ⟨d2', g2⟩ := own1 g2
    exact h3 p q b _ _ g1 g2 g3 g4
  · by_cases z : b = a
    · rw [z, upd_same]; exact .inl ⟨_, rfl⟩
    · rw [upd_ne z, mt_ex e1 (li b sb)]; exact li b sb
end
end My
set_option Elab.async false
set_option linter.all false
set_option maxRecDepth 100000
set_option maxHeartbeats 1000000
/-! ### methods on the instance that a frame works on; instances made; ends of methods -/
namespace My
open PySem PySem.Spec PyProof.Rows L2 Evl
section
variable {K : PySem.W.Frag} {G : Hp} {C M : Addr} {FN : List Str} {φ φ1 φ2 φ' : List Fl} {te ta tb : TE} {tt : TT} {tA : TA} {ρ ρ' : List Sl} {P : Pr} {d : PyData} {ds es : List PyData} {b : Bool} {i j k : Nat} {f m : Str} {t tu tw tz : TS} {D : Ends} {g : TG} {O : Addr → Prop} {σ : L2.St} {H H' : Hp}
/-! targets that are fields -/
def GX (K : PySem.W.Frag) (G : Hp) (C : Addr) (FN : List Str) (M : Addr) (g : TG) (d : PyData) (ρ : List Sl) (φ φ' : List Fl) : Prop := ∀ σ H O v, En K ⟨G, xm K C FN M φ⟩ O σ H ρ → Dp K (rs O H) v d → ∀ k : L2.St → Hp → Prop, (∀ H', rs O H' = rs O H → En K ⟨G, xm K C FN M φ'⟩ O σ H' ρ → k σ H') → g v σ H k
theorem gx_fld (TC : ClsF K C FN) (nd : FN.Nodup) (lf : FN.length < 1000) (hs : ρ[i]? = some .self) (hn : FN[k]? = some f) {fl0 : Fl} (hk0 : φ[k]? = some fl0) : GX K G C FN M (gFld K (tVar i) f) d ρ φ (φ.set k (.dat d)) := fun σ H O v en hv kk q => by
  have hk := (List.getElem?_eq_some_iff.mp hk0).1
  obtain ⟨S, ⟨⟨dx, vs, h1, h2, h3⟩, mm, li⟩, hS, hn'⟩ := en.xt
  refine ⟨_, en.self hs, M, C, dx, _, rfl, h1, TC.cl, TC.no f (List.mem_of_getElem? hn), z1000 lf, ?_⟩
  rw [zip_put nd hn (by rw [h2.len]; exact hk)]
  exact q _ (rs_upd (hS M mm)) (en_chg en h1 mm li hS hn' (fla_set h2 hv) (ds_set h3))
theorem gx_fldA (TC : ClsF K C FN) (nd : FN.Nodup) (lf : FN.length < 1000) (hs : ρ[i]? = some .self) (hn : FN[φ.length]? = some f) : GX K G C FN M (gFld K (tVar i) f) d ρ φ (φ ++ [.dat d]) := fun σ H O v en hv kk q => by
  obtain ⟨S, ⟨⟨dx, vs, h1, h2, h3⟩, mm, li⟩, hS, hn'⟩ := en.xt
  refine ⟨_, en.self hs, M, C, dx, _, rfl, h1, TC.cl, TC.no f (List.mem_of_getElem? hn), z1000 lf, ?_⟩
  rw [zip_app nd (by rw [h2.len]; exact hn)]
  exact q _ (rs_upd (hS M mm)) (en_chg en h1 mm li hS hn' (fla_app h2 hv) (ds_appD h2.len h3 fun _ z => by cases z))
inductive GXs (K : PySem.W.Frag) (G : Hp) (C : Addr) (FN : List Str) (M : Addr) (ρ : List Sl) : TGs → List PyData → List Fl → List Fl → Prop
  | nil {φ : List Fl} : GXs K G C FN M ρ gNil [] φ φ
  | cons {g : TG} {gs : TGs} {d : PyData} {ds : List PyData} {φ φ1 φ2 : List Fl} : GX K G C FN M g d ρ φ φ1 → GXs K G C FN M ρ gs ds φ1 φ2 → GXs K G C FN M ρ (gCons g gs) (d :: ds) φ φ2
theorem GXs.run {gs : TGs} {ds : List PyData} {φ φ' : List Fl} (h : GXs K G C FN M ρ gs ds φ φ') : ∀ σ H O vs, En K ⟨G, xm K C FN M φ⟩ O σ H ρ → DpAll K (rs O H) vs ds → ∀ k : L2.St → Hp → Prop, (∀ H', En K ⟨G, xm K C FN M φ'⟩ O σ H' ρ → k σ H') → gs vs σ H k := by
  induction h with
  | nil => intro σ H O vs en hd k q; cases hd; exact ⟨rfl, q _ en⟩
  | cons h1 _ ih =>
    intro σ H O vs en hd k q
    obtain ⟨v, vr, rfl, d1, d2⟩ := DpAll.cons_inv hd
    exact ⟨v, vr, rfl, h1 σ H O v en d1 _ fun H' er en' => ih σ H' O vr en' (by rw [er]; exact d2) k q⟩
theorem bd_asgX {n : Nat} {gs : TGs} (h : Sv K ⟨G, xm K C FN M φ⟩ te ρ (.tuple ds)) (gx : GXs K G C FN M ρ gs ds φ φ') (hn : ds.length = n) (k : BD K ⟨G, xm K C FN M φ'⟩ tz D ρ) : BD K ⟨G, xm K C FN M φ⟩ (tSeq (tAsg te (gTup K n gs)) tz) D ρ := fun σ H O en =>
  h σ H O en _ fun v H1 e1 hv => by
    obtain ⟨a, xs, rfl, hs, hd⟩ := Dp.tup_inv hv
    exact ⟨a, xs, rfl, ex_t rs_ex hs, (dpa_len hd).trans hn, gx.run σ H1 O xs (en.mono e1) hd _ fun H' en' => k _ _ _ en'⟩
/-! methods -/
def spM (K : PySem.W.Frag) (C : Addr) (FN : List Str) {ι : Type} (φ0 : ι → List Fl) (Ps : ι → List Pr) (pre : ι → Prop) (φ1 : ι → List Fl) (R : ι → Pr) : Sp := fun vs H Q _ => ∃ i M us S, vs = .ref M :: us ∧ pre i ∧ XI K C FN M (φ0 i) (rs S H) H S ∧ AllP (rs S H) us (Ps i) ∧
  ∀ v H' S', XI K C FN M (φ1 i) (rs S' H') H' S' → Ex (rs S H) (rs S' H') → R i v (rs S' H') → Q v H'
theorem spM_len {ι : Type} {φ0 φ1 : ι → List Fl} {Ps : ι → List Pr} {pre : ι → Prop} {R : ι → Pr} {n : Nat} (hn : ∀ i, (Ps i).length = n) : ∀ vs H Q E, spM K C FN φ0 Ps pre φ1 R vs H Q E → vs.length = n + 1 := fun vs H Q E ⟨i, M, us, S, e, _, _, a, _⟩ => by
  rw [e, List.length_cons, a.len, hn]
def rsub {O S : Addr → Prop} {H : Hp} (h : ∀ a, S a → O a) : Ex (rs O H) (rs S H) := fun a u e => by
  obtain ⟨n, e⟩ := rs_some e
  rw [rs_no fun s => n (h a s)]; exact e
/-- a frame without lists of its own owns what belongs to its instance, nothing else -/
theorem En.shrink {G : Bs} (en : En K G O σ H ρ) (no : noOwn ρ = true) : ∃ S, En K G S σ H ρ ∧ G.x.I (rs S H) H S := by
  obtain ⟨S, hI, hS, hn⟩ := en.xt
  have st : Ex (rs O H) (rs S H) := rsub hS
  have I2 := G.x.mono _ _ _ _ S st (fun _ _ => rfl) hI
  refine ⟨S, ⟨en.ex.trans st, fun a s => en.li a (hS a s), SlAll.of en.sl.len fun p s r g1 g2 => ?_, en.ds, S, I2, fun _ s => s, hn⟩, I2⟩
  obtain ⟨s', k1, ok⟩ := en.sl.get g2
  rw [g1] at k1
  cases k1
  cases r with
  | no => trivial
  | self => exact ok
  | dat d => exact ok.imp fun v z => ⟨z.1, dp_ex st z.2⟩
  | ob P m => exact ok.imp fun v z => ⟨z.1, m _ _ _ st z.2⟩
  | own fs => exact (noOwn_at no g2).elim
theorem En.meth {S S' : Addr → Prop} (en : En K ⟨G, xm K C FN M φ⟩ S σ H ρ) (no : noOwn ρ = true) (X : XI K C FN M φ' (rs S' H') H' S') (e : Ex (rs S H) (rs S' H')) : En K ⟨G, xm K C FN M φ'⟩ S' σ H' ρ := by
  refine ⟨en.ex.trans e, X.li, SlAll.of en.sl.len fun p s r g1 g2 => ?_, en.ds, S', X, fun _ s => s, fun p a d1 g1 g2 => (noOwn_at no g1).elim⟩
  obtain ⟨s', k1, ok⟩ := en.sl.get g2
  rw [g1] at k1
  cases k1
  cases r with
  | no => trivial
  | self => exact ok
  | dat d => exact ok.imp fun v z => ⟨z.1, dp_ex e z.2⟩
  | ob P m => exact ok.imp fun v z => ⟨z.1, m _ _ _ e z.2⟩
  | own fs => exact (noOwn_at no g2).elim
theorem as_nil {G : Bs} : As K G tNil ρ [] := fun _ H _ _ _ q => q [] H (Ex.refl H) .nil
theorem as_cons {G : Bs} {Ps : List Pr} (m : Mono P) (h : Sg K G te ρ P) (r : As K G tA ρ Ps) : As K G (tCons te tA) ρ (P :: Ps) := fun σ H O en Q q =>
  h σ H O en _ fun v H1 e1 hv => r σ H1 O (en.mono e1) _ fun vs H2 e2 hvs => q _ H2 (e1.trans e2) (.cons (m _ _ _ (rs_mono e2) hv) hvs)
theorem as_d {G : Bs} {Ps : List Pr} (h : Sv K G te ρ d) (r : As K G tA ρ Ps) : As K G (tCons te tA) ρ (Dq K d :: Ps) := as_cons Dq.m h r
/-- an expression that changes the instance -/
def Mg (K : PySem.W.Frag) (G : Hp) (C : Addr) (FN : List Str) (M : Addr) (te : TE) (ρ : List Sl) (φ φ' : List Fl) (P : Pr) : Prop := ∀ σ H O, En K ⟨G, xm K C FN M φ⟩ O σ H ρ → ∀ Q : VK, (∀ v H' O', En K ⟨G, xm K C FN M φ'⟩ O' σ H' ρ → P v (rs O' H') → Q v H') → te σ H Q
def Mt (K : PySem.W.Frag) (G : Hp) (C : Addr) (FN : List Str) (M : Addr) (tt : TT) (ρ : List Sl) (φ φ' : List Fl) (b : Bool) : Prop := ∀ σ H O, En K ⟨G, xm K C FN M φ⟩ O σ H ρ → ∀ Q : Bool → Hp → Prop, (∀ H' O', En K ⟨G, xm K C FN M φ'⟩ O' σ H' ρ → Q b H') → tt σ H Q
theorem mg_meth {ι : Type} {φ0 φ1 : ι → List Fl} {Ps : ι → List Pr} {pre : ι → Prop} {R : ι → Pr} {E : XK} {sp : Sp} (n : ι) (hs : ρ[i]? = some .self) (no : noOwn ρ = true) (nm : m ∉ FN) (hsp : ∀ vs H Q, spM K C FN φ0 Ps pre φ1 R vs H Q E → sp vs H Q E) (hp : pre n) (ha : As K ⟨G, xm K C FN M (φ0 n)⟩ tA ρ (Ps n)) : Mg K G C FN M (tMeth C m sp [] E (tVar i) tA) ρ (φ0 n) (φ1 n) (R n) := fun σ H O en Q q => by
  obtain ⟨S, en, I⟩ := en.shrink no
  obtain ⟨⟨dx, vs, h1, h2, h3⟩, mm, li⟩ := id I
  refine ⟨_, en.self hs, M, dx, _, rfl, h1, zip_none nm, ha σ H S en _ fun us H2 e2 hu => ?_⟩
  have en2 := en.mono e2
  rw [List.append_nil]
  refine hsp _ _ _ ⟨n, M, us, S, rfl, hp, (xm K C FN M (φ0 n)).mono _ _ _ _ S (rs_mono e2) (fun a s => mt_ex e2 (li a s)) I, hu, fun v H' S' X e r => q v H' S' (en2.meth no X e) r⟩
theorem mt_B (h : Mg K G C FN M te ρ φ φ' (Dq K (.bool b))) : Mt K G C FN M (tB te) ρ φ φ' b := fun σ H O en Q q => h σ H O en _ fun v H' O' en' hv => by
  cases hv
  exact ⟨b, rfl, q H' O' en'⟩
theorem mt_not (h : Mt K G C FN M tt ρ φ φ' b) : Mt K G C FN M (tNot tt) ρ φ φ' (!b) := fun σ H O en Q q => h σ H O en _ fun H' O' en' => q H' O' en'
theorem bd_doM (h : Mg K G C FN M te ρ φ φ' P) (k : BD K ⟨G, xm K C FN M φ'⟩ tz D ρ) : BD K ⟨G, xm K C FN M φ⟩ (tSeq (tDrop te) tz) D ρ := fun σ H O en => h σ H O en _ fun v H' O' en' _ => k _ _ _ en'
theorem bd_whenM (h : Mt K G C FN M tt ρ φ φ' b) (h1 : b = true → BD K ⟨G, xm K C FN M φ'⟩ tu { D with nx := tz D } ρ) (h2 : b = false → BD K ⟨G, xm K C FN M φ'⟩ tz D ρ) : BD K ⟨G, xm K C FN M φ⟩ (tSeq (tIfS tt tu tNext) tz) D ρ := fun σ H O en =>
  h σ H O en _ fun H' O' en' => by
    cases b with
    | true => exact h1 rfl _ _ _ en'
    | false => exact h2 rfl _ _ _ en'
/-! ends of methods -/
theorem En.fin (en : En K ⟨G, xm K C FN M φ⟩ O σ H ρ) : ∃ S, XI K C FN M φ (rs S H) H S ∧ Ex G (rs S H) ∧ Ex (rs O H) (rs S H) := by
  obtain ⟨S, hI, hS, hn⟩ := en.xt
  exact ⟨S, (xm K C FN M φ).mono _ _ _ _ S (rsub hS) (fun _ _ => rfl) hI, en.ex.trans (rsub hS), rsub hS⟩
theorem bd_retM (mo : Mono P) (h : Sg K ⟨G, xm K C FN M φ⟩ te ρ P) (k : ∀ v H' S', XI K C FN M φ (rs S' H') H' S' → Ex G (rs S' H') → P v (rs S' H') → D.rt v H') : BD K ⟨G, xm K C FN M φ⟩ (tRet te) D ρ := fun σ H O en =>
  h σ H O en _ fun v H1 e1 hv => by
    obtain ⟨S, X, e, e2⟩ := (en.mono e1).fin
    exact k v H1 S X e (mo _ _ _ e2 hv)
theorem bd_retMN (k : ∀ H' S', XI K C FN M φ (rs S' H') H' S' → Ex G (rs S' H') → D.rt .non H') : BD K ⟨G, xm K C FN M φ⟩ tRetN D ρ := fun σ H O en => by
  obtain ⟨S, X, e, _⟩ := en.fin
  exact k H S X e
theorem bd_nxM (k : ∀ σ H' S', XI K C FN M φ (rs S' H') H' S' → Ex G (rs S' H') → D.nx σ H') : BD K ⟨G, xm K C FN M φ⟩ tNext D ρ := fun σ H O en => by
  obtain ⟨S, X, e, _⟩ := en.fin
  exact k σ H S X e
/-! the way in -/
theorem hfm_go {S : Addr → Prop} (X : XI K C FN M φ (rs S H) H S) (h : BD K ⟨rs S H, xm K C FN M φ⟩ t D ρ) (sl : SlAll K M S H σ ρ) (no : noOwn ρ = true := by rfl) : t D σ H :=
  h σ H S ⟨Ex.refl _, X.li, sl, fun _ _ _ _ _ h1 => (noOwn_at no h1).elim, S, X, fun _ s => s, fun _ _ _ h1 => (noOwn_at no h1).elim⟩
theorem ml_s {S : Addr → Prop} {σ : L2.St} (r : SlAll K M S H σ ρ) : SlAll K M S H (some (.ref M) :: σ) (.self :: ρ) := ⟨rfl, r⟩
theorem ml_d {S : Addr → Prop} {σ : L2.St} {v : V} (h : Dp K (rs S H) v d) (r : SlAll K M S H σ ρ) : SlAll K M S H (some v :: σ) (.dat d :: ρ) := ⟨⟨v, rfl, h⟩, r⟩
theorem ml_o {S : Addr → Prop} {σ : L2.St} {v : V} {mo : Mono P} (h : P v (rs S H)) (r : SlAll K M S H σ ρ) : SlAll K M S H (some v :: σ) (.ob P mo :: ρ) := ⟨⟨v, rfl, h⟩, r⟩
theorem ml_bk {C' : Addr} {p : Pb} {S : Addr → Prop} {σ : L2.St} {v : V} (h : BkP K C' p v (rs S H)) (r : SlAll K M S H σ ρ) : SlAll K M S H (some v :: σ) (bkS K C' p :: ρ) := ⟨⟨v, rfl, h⟩, r⟩
theorem ml_n {S : Addr → Prop} {σ : L2.St} {s : Option V} (r : SlAll K M S H σ ρ) : SlAll K M S H (s :: σ) (.no :: ρ) := ⟨trivial, r⟩
theorem ml_z {S : Addr → Prop} : SlAll K M S H [] [] := trivial
/-! an instance made -/
theorem bd_make {G : Hp} {ι : Type} {φ1 : ι → List Fl} {Ps : ι → List Pr} {pre : ι → Prop} {R : ι → Pr} {E : XK} {sp : Sp} (n : ι) (no : noOwn ρ = true) (hsp : ∀ vs H Q, spM K C FN (fun _ => []) Ps pre φ1 R vs H Q E → sp vs H Q E) (hR : ∀ v H, R n v H → v = .non) (hp : pre n) (mo : ∀ P ∈ Ps n, Mono P) (ha : As K ⟨G, x0⟩ tA ρ (Ps n)) (k : ∀ M, BD K ⟨G, xm K C FN M (φ1 n)⟩ tz D (ρ.set i .self)) (hi : noOwn (ρ.set i .self) = true := by rfl) (hns : ∀ p : Nat, ρ[p]? ≠ some .self := by intro p; rcases p with _ | _ | _ | _ | _ | _ | _ | _ | _ | _ <;> exact fun z => by cases z) : BD K ⟨G, x0⟩ (tSeq (tAsg (tMake C sp [] E tA) (gName i)) tz) D ρ := fun σ H O en => by
  obtain ⟨S0, en, I0⟩ := en.shrink no
  have S0no : ∀ a, ¬ S0 a := I0
  have r0 : ∀ H, rs S0 H = H := fun H => funext fun a => rs_no (S0no a)
  refine ha σ H S0 en _ fun us H1 e1 hu x dx nx ndx ne => ?_
  have nx' : upd H1 dx (.own x) x = none := by rw [upd_ne fun z => ne z.symm]; exact nx
  have e : Ex H1 (upd (upd H1 dx (.own x)) x (.ins C dx [])) := (Ex.new ndx).trans (Ex.new nx')
  have en2 := en.mono e1
  let S : Addr → Prop := fun a => a = x
  have eS : Ex H1 (rs S (upd (upd H1 dx (.own x)) x (.ins C dx []))) := fun a u h => by
    have na : a ≠ x := fun z => by rw [z, nx] at h; cases h
    rw [rs_no (show ¬ S a from na)]; exact e a u h
  have X : XI K C FN x [] (rs S (upd (upd H1 dx (.own x)) x (.ins C dx []))) (upd (upd H1 dx (.own x)) x (.ins C dx [])) S := by
    refine ⟨⟨dx, [], ?_, trivial, fun i j a ds es h => by cases h⟩, rfl, fun a s => ?_⟩
    · rw [upd_same]; simp
    · rw [show a = x from s, upd_same]; exact .inr ⟨_, _, _, rfl⟩
  rw [List.append_nil]
  have hu' : AllP (rs S (upd (upd H1 dx (.own x)) x (.ins C dx []))) us (Ps n) := by
    rw [r0] at hu
    exact hu.ex eS mo
  refine hsp _ _ _ ⟨n, x, us, S, rfl, hp, X, hu', fun v H' S' X' e' r => ⟨hR _ _ r, k x _ _ S' ?_⟩⟩
  have st : Ex (rs S0 H1) (rs S' H') := by rw [r0]; exact eS.trans e'
  refine ⟨en2.ex.trans st, X'.li, SlAll.of (by rw [List.length_set, List.length_set]; exact en2.sl.len) fun p s r g1 g2 => ?_, fun p q a d1 d2 g1 => (noOwn_at hi g1).elim, S', X', fun _ s => s, fun p a d1 g1 => (noOwn_at hi g1).elim⟩
  rcases getset g2 with ⟨rfl, rfl⟩ | ⟨n', g2⟩
  · rcases getset g1 with ⟨_, rfl⟩ | ⟨n', _⟩
    · rfl
    · exact absurd rfl n'
  · rcases getset g1 with ⟨e1', _⟩ | ⟨_, g1⟩
    · exact absurd e1' n'
    obtain ⟨s', k1, ok⟩ := en2.sl.get g2
    rw [g1] at k1
    cases k1
    cases r with
    | no => trivial
    | self =>
      exact absurd g2 (hns p)
    | dat d => exact ok.imp fun v z => ⟨z.1, dp_ex st z.2⟩
    | ob P m => exact ok.imp fun v z => ⟨z.1, m _ _ _ st z.2⟩
    | own fs => exact (noOwn_at no g2).elim
/-- a loop whose body changes the instance -/
theorem bd_forX {α : Type} {as : List α} {Dt : α → PyData} {tl : TE} (Φ : Nat → List Fl) (h : Sv K ⟨G, xm K C FN M (Φ 0)⟩ tl ρ (.list (as.map Dt))) (I : Nat → List Sl → Prop) (h0 : I 0 ρ)
    (hs : ∀ G' : Hp, Ex G G' → ∀ i a ρ', as[i]? = some a → I i ρ' → ∃ ρ2, GA K ⟨G', xm K C FN M (Φ i)⟩ g (Dt a) ρ' ρ2 ∧ BD K ⟨G', xm K C FN M (Φ i)⟩ tu { D with nx := NxE K ⟨G', xm K C FN M (Φ (i + 1))⟩ (I (i + 1)), ct := NxE K ⟨G', xm K C FN M (Φ (i + 1))⟩ (I (i + 1)), bk := tz D } ρ2)
    (hd : ∀ G' : Hp, Ex G G' → ∀ ρ', I as.length ρ' → BD K ⟨G', xm K C FN M (Φ as.length)⟩ tz D ρ') : BD K ⟨G, xm K C FN M (Φ 0)⟩ (tSeq (tFor (iList K tl) g tu) tz) D ρ := fun σ H O en =>
  h σ H O en _ fun v H1 e1 hv => by
    obtain ⟨a, xs, rfl, hq, ha⟩ := dp_lst_inv hv
    have en1 := en.mono e1
    have lx : xs.length = as.length := by rw [dpa_len ha, List.length_map]
    have eG : Ex G (rs O H1) := en1.ex
    refine ⟨a, rfl, ⟨xs, ex_l rs_ex hq⟩, for_list (D := { D with nx := tz D }) (fun i => NxE K ⟨rs O H1, xm K C FN M (Φ i)⟩ (I i)) ⟨O, ρ, ⟨Ex.refl _, en1.li, en1.sl, en1.ds, en1.xt⟩, h0⟩ (fun i σ' H' _ ⟨O', ρ', en', _⟩ => ex_l (en'.ex.trans rs_ex) hq) (fun i x σ' H' hx ⟨O', ρ', en', hI⟩ => ?_) fun σ' H' ⟨O', ρ', en', hI⟩ => ?_⟩
    · obtain ⟨y, hy, _, dy⟩ := item_at Dt ha hx
      obtain ⟨ρ2, ga, k⟩ := hs _ eG i y ρ' hy hI
      exact ga σ' H' O' x en' (dp_ex en'.ex dy) _ fun σ2 en2 => k _ _ _ en2
    · rw [lx] at en' hI
      exact hd _ eG ρ' hI _ _ _ en'
end
end My
set_option Elab.async false
set_option linter.all false
set_option maxRecDepth 100000
set_option maxHeartbeats 1000000
/-! ### more rules by data: slices -/
namespace My
open PySem PySem.Spec PyProof.Rows L2 Evl
section
variable {K : PySem.W.Frag} {G : Bs} {te ta tb tl tc : TE} {tt : TT} {tA : TA} {ρ : List Sl} {P : Pr} {d e : PyData} {ds es : List PyData} {b : Bool} {i j : Nat} {H : Hp}
theorem sv_un {j : Int} (h : Tv K G te ρ (.int j)) : Sv K G (tUn (rU fun i => .int (-i)) te) ρ (.int (-j)) := fun σ H O en Q q => h σ H O en _ fun v H1 e1 hv => by
  obtain rfl := Dp.int_inv hv
  exact ⟨j, rfl, q _ H1 e1 (.int _)⟩
def cutD {α : Type} (xs : List α) (lo hi : Option Int) : List α := (xs.drop (HT.sIx xs.length 0 lo)).take (HT.sIx xs.length xs.length hi - HT.sIx xs.length 0 lo)
theorem dpa_drop : ∀ {vs : List V} {ds : List PyData} (n : Nat), DpAll K H vs ds → DpAll K H (vs.drop n) (ds.drop n)
  | _, _, 0, h => h
  | _, _, _ + 1, .nil => .nil
  | _, _, n + 1, .cons _ r => dpa_drop n r
theorem dpa_take : ∀ {vs : List V} {ds : List PyData} (n : Nat), DpAll K H vs ds → DpAll K H (vs.take n) (ds.take n)
  | _, _, 0, _ => .nil
  | _, _, _ + 1, .nil => .nil
  | _, _, n + 1, .cons h r => .cons h (dpa_take n r)
theorem dpa_cut {vs : List V} {lo hi : Option Int} (h : DpAll K H vs ds) : DpAll K H (cutV vs lo hi) (cutD ds lo hi) := by
  unfold cutV cutD
  rw [dpa_len h]
  exact dpa_take _ (dpa_drop _ h)
def To (K : PySem.W.Frag) (G : Bs) (to : TO) (ρ : List Sl) (o : Option Int) : Prop := ∀ σ H O, En K G O σ H ρ → ∀ Q : Option Int → Hp → Prop, (∀ H', Ex H H' → Q o H') → to σ H Q
theorem En.evO {to : TO} {o : Option Int} {σ : L2.St} {O : Addr → Prop} (h : ∀ H1, Ex H H1 → EvO to σ H1 o) (en : En K G O σ H ρ) (Q : Option Int → Hp → Prop) (q : ∀ H', Ex H H' → Q o H') : to σ H Q := h H (Ex.refl H) H (Ex.refl H) Q q
theorem to_none : To K G tNoPart ρ none := fun _ H _ _ _ q => q H (Ex.refl H)
theorem to_some {i : Int} (h : Tv K G te ρ (.int i)) : To K G (tPart te) ρ (some i) := fun σ H O en Q q => h σ H O en _ fun v H1 e1 hv => by
  obtain rfl := Dp.int_inv hv
  exact ⟨i, rfl, q H1 e1⟩
theorem nv_slL {tl th : TO} {lo hi : Option Int} (h : Lv K G te ρ ds) (h1 : To K G tl ρ lo) (h2 : To K G th ρ hi) : Nv K G (tSl (rSlL K) te tl th) ρ (cutD ds lo hi) := fun σ H O en Q q =>
  h σ H O en _ fun a xs H1 e1 hs hd => h1 σ H1 O (en.mono e1) _ fun H2 e2 => h2 σ H2 O (en.mono (e1.trans e2)) _ fun H3 e3 => by
    have e := e2.trans e3
    exact ⟨a, xs, rfl, ex_l e hs, fun p np => q p _ _ ((e1.trans e).trans (Ex.new np)) (fresh_back (e1.trans e) np) upd_same (dpa_ex ((rs_mono e).trans (rs_add np (Ex.new np))) (dpa_cut hd))⟩
theorem sv_slT {tl th : TO} {lo hi : Option Int} (h : Sv K G te ρ (.tuple ds)) (h1 : To K G tl ρ lo) (h2 : To K G th ρ hi) (nw : ¬ (HT.sIx ds.length 0 lo = 0 ∧ HT.sIx ds.length ds.length hi = ds.length)) : Sv K G (tSl (rSlT K) te tl th) ρ (.tuple (cutD ds lo hi)) := fun σ H O en Q q =>
  h σ H O en _ fun v H1 e1 hv => h1 σ H1 O (en.mono e1) _ fun H2 e2 => h2 σ H2 O (en.mono (e1.trans e2)) _ fun H3 e3 => by
    obtain ⟨a, xs, rfl, hs, hd⟩ := Dp.tup_inv hv
    have e := e2.trans e3
    exact ⟨a, xs, rfl, ex_t (rs_ex.trans e) hs, by rw [dpa_len hd]; exact nw, fun p np => q _ _ ((e1.trans e).trans (Ex.new np)) (.tup (st_of (by rw [rs_no fun z => mt_ne (li_mono en (e1.trans e) p z) np]; exact upd_same)) (dpa_ex (rs_mono (e.trans (Ex.new np))) (dpa_cut hd)))⟩
end
end My
set_option Elab.async false
set_option linter.all false
set_option maxRecDepth 100000
set_option maxHeartbeats 1000000
/-! ### instances that are told: new ones, ones that are read -/
namespace My
open PySem PySem.Spec PyProof.Rows L2 Evl
/-- a new instance with these fields -/
def NewI (K : PySem.W.Frag) (C : Addr) (FN : List Str) (φ : List Fl) (H : Hp) : Pr := fun v H' => ∃ x S, v = .ref x ∧ (∀ a, S a → H a = none) ∧ XI K C FN x φ (rs S H') H' S
/-- an instance that is read: its fields' data -/
def InD (K : PySem.W.Frag) (C : Addr) (FN : List Str) (ds : List PyData) : Pr := fun v H => ∃ x dx vs, v = .ref x ∧ H x = some (.ins C dx (FN.zip vs)) ∧ DpAll K H vs ds
theorem InD.m {K : PySem.W.Frag} {C : Addr} {FN : List Str} {ds : List PyData} : Mono (InD K C FN ds) := fun _ _ _ e ⟨x, dx, vs, h1, h2, h3⟩ => ⟨x, dx, vs, h1, e _ _ h2, dpa_ex e h3⟩
section
variable {K : PySem.W.Frag} {G : Bs} {C M : Addr} {FN : List Str} {φ φ1 φ' : List Fl} {te ta tb : TE} {tt : TT} {tA : TA} {ρ ρ' : List Sl} {P : Pr} {d : PyData} {ds es : List PyData} {b : Bool} {i j k : Nat} {f m : Str} {t tu tw tz : TS} {D : Ends} {g : TG} {O : Addr → Prop} {σ : L2.St} {H H' : Hp}
/-- C(..) as a value -/
theorem tg_make {ι : Type} {φ1 : ι → List Fl} {Ps : ι → List Pr} {pre : ι → Prop} {R : ι → Pr} {E : XK} {sp : Sp} (n : ι) (hsp : ∀ vs H Q, spM K C FN (fun _ => []) Ps pre φ1 R vs H Q E → sp vs H Q E) (hR : ∀ v H, R n v H → v = .non) (hp : pre n) (mo : ∀ P ∈ Ps n, Mono P) (ha : Av K G tA ρ (Ps n)) : ∀ σ H O, En K G O σ H ρ → ∀ Q : VK, (∀ v H', Ex H H' → NewI K C FN (φ1 n) H v H' → Q v H') → (tMake C sp [] E tA) σ H Q := fun σ H O en Q q => by
  refine ha σ H O en _ fun us H1 e1 hu x dx nx ndx ne => ?_
  have nx' : upd H1 dx (.own x) x = none := by rw [upd_ne fun z => ne z.symm]; exact nx
  have e : Ex H1 (upd (upd H1 dx (.own x)) x (.ins C dx [])) := (Ex.new ndx).trans (Ex.new nx')
  let S : Addr → Prop := fun a => a = x
  have eS : Ex H1 (rs S (upd (upd H1 dx (.own x)) x (.ins C dx []))) := fun a u h => by
    have na : a ≠ x := fun z => by rw [z, nx] at h; cases h
    rw [rs_no (show ¬ S a from na)]; exact e a u h
  have X : XI K C FN x [] (rs S (upd (upd H1 dx (.own x)) x (.ins C dx []))) (upd (upd H1 dx (.own x)) x (.ins C dx [])) S := by
    refine ⟨⟨dx, [], ?_, trivial, fun i j a ds es h => by cases h⟩, rfl, fun a s => ?_⟩
    · rw [upd_same]; simp
    · rw [show a = x from s, upd_same]; exact .inr ⟨_, _, _, rfl⟩
  rw [List.append_nil]
  refine hsp _ _ _ ⟨n, x, us, S, rfl, hp, X, hu.ex eS mo, fun v H' S' X' e' r => ⟨hR _ _ r, q _ H' (e1.trans ((eS.trans e').trans rs_ex)) ⟨x, S', rfl, fun a s => ?_, X'⟩⟩⟩
  cases h : H a with
  | none => rfl
  | some u =>
    have := (eS.trans e') a u (e1 a u h)
    exact absurd s (rs_some this).1
def ownD : Fl → Option PyData
  | .dat d => if noL d then some d else none
  | .own ds => if noLs ds then some (.list ds) else none
  | .ob _ _ => none
theorem fl_dpa {F : Hp} {S : Addr → Prop} (e : Ex F H) (li : ∀ a, O a → IsMt (H a)) (nO : ∀ a, S a → ¬ O a) : ∀ {vs : List V} {φ : List Fl} {ds : List PyData}, FlAll K F H S vs φ → φ.map ownD = ds.map some → DpAll K (rs O H) vs ds
  | [], [], [], _, _ => .nil
  | v :: vs, f :: φ, d :: ds, h, z => by
    rw [List.map_cons, List.map_cons] at z
    injection z with z1 z2
    refine .cons ?_ (fl_dpa e li nO h.2 z2)
    cases f with
    | dat d' =>
      have z1 : (if noL d' = true then some d' else none) = some d := z1
      by_cases n : noL d' = true
      · rw [if_pos n] at z1; cases z1; exact dp_noL li n (dp_ex e h.1)
      · rw [if_neg n] at z1; cases z1
    | own es =>
      have z1 : (if noLs es = true then some (PyData.list es) else none) = some d := z1
      by_cases n : noLs es = true
      · rw [if_pos n] at z1
        cases z1
        obtain ⟨a, xs, rfl, sa, ha, hd⟩ := h.1
        exact .lst (sq_of (by rw [rs_no (nO a sa)]; exact ha)) (dpa_noL li n (dpa_ex e hd))
      · rw [if_neg n] at z1; cases z1
    | ob P m => cases z1
  | [], [], _ :: _, _, z => by cases z
  | [], _ :: _, _, h, _ => h.elim
  | _ :: _, [], _, h, _ => h.elim
  | _ :: _, _ :: _, [], _, z => by cases z
/-- a new instance that is only read from now on -/
theorem NewI.rd {v : V} (h : NewI K C FN φ H v H') (en : En K G O σ H ρ) (e : Ex H H') (hd : φ.map ownD = ds.map some) : InD K C FN ds v (rs O H') := by
  obtain ⟨x, S, rfl, fr, ⟨⟨dx, vs, h1, h2, h3⟩, mm, li⟩⟩ := h
  have nO : ∀ a, S a → ¬ O a := fun a s o => mt_ne (en.li a o) (fr a s)
  exact ⟨x, dx, vs, rfl, by rw [rs_no (nO x mm)]; exact h1, fl_dpa rs_ex (li_mono en e) nO h2 hd⟩
/-- a call that tells a new instance -/
def Tk (K : PySem.W.Frag) (G : Bs) (C : Addr) (FN : List Str) (te : TE) (ρ : List Sl) (φ : List Fl) : Prop := ∀ σ H O, En K G O σ H ρ → ∀ Q : VK, (∀ v H', Ex H H' → NewI K C FN φ H v H' → Q v H') → te σ H Q
theorem tk_call {sp : Sp} {Ps : List Pr} {E : XK} (h : Av K G tA ρ Ps) (hs : SpR sp Ps (NewI K C FN φ)) : Tk K G C FN (tCall sp [] E tA) ρ φ := fun σ H O en Q q =>
  h σ H O en _ fun vs H1 e1 hv => (by
    rw [List.append_nil]
    exact hs H1 vs E Q hv fun v H2 e2 ⟨x, S, e, fr, X⟩ => q v H2 (e1.trans e2) ⟨x, S, e, fun a s => fresh_back e1 (fr a s), X⟩)
theorem tk_make {ι : Type} {φ1 : ι → List Fl} {Ps : ι → List Pr} {pre : ι → Prop} {R : ι → Pr} {E : XK} {sp : Sp} (n : ι) (hsp : ∀ vs H Q, spM K C FN (fun _ => []) Ps pre φ1 R vs H Q E → sp vs H Q E) (hR : ∀ v H, R n v H → v = .non) (hp : pre n) (mo : ∀ P ∈ Ps n, Mono P) (ha : Av K G tA ρ (Ps n)) : Tk K G C FN (tMake C sp [] E tA) ρ (φ1 n) := tg_make n hsp hR hp mo ha
theorem sg_new (h : Tk K G C FN te ρ φ) (hd : φ.map ownD = ds.map some) : Sg K G te ρ (InD K C FN ds) := fun σ H O en Q q => h σ H O en Q fun v H' e n => q v H' e (n.rd en e hd)
theorem bd_retK (h : Tk K G C FN te ρ φ) (k : ∀ v H', Ex G.h H' → NewI K C FN φ G.h v H' → D.rt v H') : BD K G (tRet te) D ρ := fun σ H O en =>
  h σ H O en _ fun v H' e ⟨x, S, e1, fr, X⟩ => k v H' (en.out.trans e) ⟨x, S, e1, fun a s => fresh_back en.out (fr a s), X⟩
/-- a name for a new instance that the frame works on -/
theorem bd_asgK {G : Hp} (no : noOwn ρ = true) (h : Tk K ⟨G, x0⟩ C FN te ρ φ) (k : ∀ M, BD K ⟨G, xm K C FN M φ⟩ tz D (ρ.set i .self)) (hi : noOwn (ρ.set i .self) = true := by rfl) (hns : ∀ p : Nat, ρ[p]? ≠ some .self) : BD K ⟨G, x0⟩ (tSeq (tAsg te (gName i)) tz) D ρ := fun σ H O en =>
  h σ H O en _ fun v H' e ⟨x, S, e1, fr, X⟩ => by
    subst e1
    have nO : ∀ a, S a → ¬ O a := fun a s o => mt_ne (en.li a o) (fr a s)
    obtain ⟨S0, en0, I0⟩ := en.shrink no
    have S0no : ∀ a, ¬ S0 a := I0
    have r0 : ∀ H, rs S0 H = H := fun H => funext fun a => rs_no (S0no a)
    have st : Ex (rs S0 H) (rs S H') := by
      rw [r0]
      intro a u h
      rw [rs_no fun s => by rw [fr a s] at h; cases h]
      exact e a u h
    refine k x _ _ S ⟨en0.ex.trans st, X.li, SlAll.of (by rw [List.length_set, List.length_set]; exact en0.sl.len) fun p s r g1 g2 => ?_, fun p q a d1 d2 g1 => (noOwn_at hi g1).elim, S, X, fun _ s => s, fun p a d1 g1 => (noOwn_at hi g1).elim⟩
    rcases getset g2 with ⟨rfl, rfl⟩ | ⟨n', g2⟩
    · rcases getset g1 with ⟨_, rfl⟩ | ⟨n', _⟩
      · rfl
      · exact absurd rfl n'
    · rcases getset g1 with ⟨e1', _⟩ | ⟨_, g1⟩
      · exact absurd e1' n'
      obtain ⟨s', k1, ok⟩ := en0.sl.get g2
      rw [g1] at k1
      cases k1
      cases r with
      | no => trivial
      | self => exact absurd g2 (hns p)
      | dat d => exact ok.imp fun v z => ⟨z.1, dp_ex st z.2⟩
      | ob P m => exact ok.imp fun v z => ⟨z.1, m _ _ _ st z.2⟩
      | own fs => exact (noOwn_at no g2).elim
/-- the instance is worked on no more -/
theorem bd_drop {G : Hp} {M : Addr} (hns : ∀ p : Nat, ρ[p]? = some .self → ρ'[p]? = some .no) (hsame : ∀ p : Nat, ρ[p]? ≠ some .self → ρ'[p]? = ρ[p]?) (k : BD K ⟨G, x0⟩ t D ρ') : BD K ⟨G, xm K C FN M φ⟩ t D ρ := fun σ H O en => by
  have lookS : ∀ {p : Nat} {r : Sl}, ρ'[p]? = some r → (r = .no) ∨ ρ[p]? = some r := fun {p r} h => by
    by_cases c : ρ[p]? = some Sl.self
    · rw [hns p c] at h; cases h; exact .inl rfl
    · rw [hsame p c] at h; exact .inr h
  have len : ρ'.length = ρ.length := by
    have a : ∀ n : Nat, ρ'[n]? = none ↔ ρ[n]? = none := fun n => by
      by_cases c : ρ[n]? = some Sl.self
      · rw [hns n c, c]; simp
      · rw [hsame n c]
    have h1 := (a ρ.length).mpr (List.getElem?_eq_none (Nat.le_refl _))
    have h2 := (a ρ'.length).mp (List.getElem?_eq_none (Nat.le_refl _))
    rw [List.getElem?_eq_none_iff] at h1 h2
    omega
  refine k σ H O ⟨en.ex, en.li, SlAll.of (en.sl.len.trans len.symm) fun p s r g1 g2 => ?_, fun p q a d1 d2 g1 g2 => ?_, fun _ => False, fun _ z => z, fun _ z => z.elim, fun _ _ _ _ _ z => z⟩
  · rcases lookS g2 with rfl | g3
    · trivial
    · obtain ⟨s', k1, ok⟩ := en.sl.get g3
      rw [g1] at k1
      cases k1
      cases r with
      | no => trivial
      | self => rw [hns p g3] at g2; cases g2
      | dat d => exact ok
      | ob P m => exact ok
      | own fs => exact ok
  · rcases lookS g1 with z | g1
    · cases z
    rcases lookS g2 with z | g2
    · cases z
    exact en.ds p q a d1 d2 g1 g2
/-- a field of an instance that is read -/
theorem sv_fldR (TC : ClsF K C FN) (nd : FN.Nodup) (h : Sg K G te ρ (InD K C FN ds)) (hn : FN[k]? = some f) (hk : ds[k]? = some d) : Sv K G (tFld K te f) ρ d := fun σ H O en Q q =>
  h σ H O en _ fun v H1 e1 ⟨x, dx, vs, ev, h1, h2⟩ => by
    subst ev
    obtain ⟨w, hw, dw⟩ := dpa_at _ _ k d h2 hk
    exact ⟨x, C, dx, _, w, rfl, rs_ex _ _ h1, TC.cl, TC.no f (List.mem_of_getElem? hn), zip_look nd hn hw, q w H1 e1 dw⟩
/-- tuples of what holds just now -/
theorem tv_tup (h : Av K G tA ρ (ds.map (Dq K))) (hl : ds.length ≤ 100000 := by first | decide | simp) : Tv K G (tTup tA) ρ (.tuple ds) := fun σ H O en Q q =>
  h σ H O en _ fun vs H1 e1 hv => by
    have hd : DpAll K H1 vs ds := by
      have : ∀ {vs : List V} {ds : List PyData}, AllP H1 vs (ds.map (Dq K)) → DpAll K H1 vs ds := by
        intro vs ds
        induction ds generalizing vs with
        | nil => intro h; cases h; exact .nil
        | cons d r ih => intro h; cases h with | cons a b => exact .cons a (ih b)
      exact this hv
    exact ⟨sz_of (by rw [dpa_len hd]; exact hl), fun p np => q _ _ (e1.trans (Ex.new np)) (.tup (st_of upd_same) (dpa_ex (Ex.new np) hd))⟩
theorem En.of_xi {S : Addr → Prop} (X : XI K C FN M φ (rs S H) H S) (sl : SlAll K M S H σ ρ) (no : noOwn ρ = true := by rfl) : En K ⟨rs S H, xm K C FN M φ⟩ S σ H ρ :=
  ⟨Ex.refl _, X.li, sl, fun _ _ _ _ _ h1 => (noOwn_at no h1).elim, S, X, fun _ s => s, fun _ _ _ h1 => (noOwn_at no h1).elim⟩
/-- a method that reads the instance -/
def spRd (K : PySem.W.Frag) (C : Addr) (FN : List Str) {ι : Type} (φ0 : ι → List Fl) (R : ι → Hp → Pr) : Sp := fun vs H Q _ => ∃ (i : ι) (M : Addr) (S : Addr → Prop), vs = [.ref M] ∧ XI K C FN M (φ0 i) (rs S H) H S ∧ ∀ v H', Ex H H' → R i H v H' → Q v H'
theorem rd_meth {G : Hp} {ι : Type} {φ0 : ι → List Fl} {R : ι → Hp → Pr} {E : XK} {sp : Sp} (n : ι) (hs : ρ[i]? = some .self) (nm : m ∉ FN) (hsp : ∀ vs H Q, spRd K C FN φ0 R vs H Q E → sp vs H Q E) : ∀ σ H O, En K ⟨G, xm K C FN M (φ0 n)⟩ O σ H ρ → ∀ Q : VK, (∀ v H', Ex H H' → R n H v H' → Q v H') → tMeth C m sp [] E (tVar i) tNil σ H Q := fun σ H O en Q q => by
  obtain ⟨S, I, hS, hn⟩ := en.xt
  obtain ⟨⟨dx, vs, h1, h2, h3⟩, mm, li⟩ := id I
  exact ⟨_, en.self hs, M, dx, _, rfl, h1, zip_none nm, hsp _ _ _ ⟨n, M, S, rfl, (xm K C FN M (φ0 n)).mono _ _ _ _ S (rsub hS) (fun _ _ => rfl) I, q⟩⟩
end
end My
set_option Elab.async false
set_option linter.all false
set_option maxRecDepth 100000
set_option maxHeartbeats 400000

namespace My_farword_k01_books_taken
open PySem PySem.Spec PyProof.Rows L2 Evl My
open LamX (Tabs TabB ExtN CodeO)
/-- the values' evaluation, told by the term: the value is found on the way -/
local macro_rules | `(tactic| walk_at "rv") => `(tactic| first
  | exact rv_I0
  | exact ru_neg
  | exact rv_eq rfl
  | exact rv_ne rfl
  | (refine' rv_I ?hc; case hc => first | (show (0 : Int) < _; omega) | (unfold CDiv; omega) | (unfold CPow; omega) | (unfold CMul; omega) | omega | decide))
local macro_rules | `(tactic| walk_at "ea") => `(tactic| first
  | exact ea_nil
  | (refine' ea_cons ?eah ?eat; (case eah => walk_at "ev"); (case eat => walk_at "ea")))
local macro_rules | `(tactic| walk_at "et") => `(tactic| first
  | (refine' et_test ?h; case h => walk_at "ev")
  | (refine' et_B ?h; case h => walk_at "ev")
  | (refine' et_not ?h; case h => walk_at "et"))
local macro_rules | `(tactic| walk_at "ev") => `(tactic| first
  | exact ev_c
  | exact ev_var rfl
  | (refine' ev_lenL ?h ?hl; (case h => walk_at "ev"); (case hl => walk_at "sq"))
  | (refine' ev_op ?eva ?evb ?evr; (case eva => walk_at "ev"); (case evb => walk_at "ev"); (case evr => walk_at "rv"))
  | (refine' ev_un ?eva ?evr; (case eva => walk_at "ev"); (case evr => walk_at "rv"))
  | (refine' ev_abs ?h; case h => walk_at "ea")
  | (refine' ev_int ?h; case h => walk_at "ea")
  | (refine' ev_intB ?h; case h => walk_at "ea")
  | (refine' ev_max1 ?h; case h => walk_at "ea")
  | (refine' ev_call ?h ?hs; (case h => walk_at "ea"); (case hs => walk_at "sp"))
  | (refine' ev_notV ?h; case h => walk_at "ev"))
local macro_rules | `(tactic| walk_at "sq") => `(tactic| first
  | assumption
  | (refine sq_of ?hq; case hq => assumption))
local macro_rules | `(tactic| walk_at "sp") => `(tactic| first
  | exact SpPlaces (by omega) (by omega)
  | exact SpOnes (by omega)
  | exact SpSpot (by omega) (by omega) (by omega))

/-! what evaluates to what data, found by the term -/
local macro_rules | `(tactic| walk_at "sz") => `(tactic| first
  | assumption
  | omega
  | decide
  | (simp only [List.length_map, List.length_append, List.length_cons, List.length_nil]; omega)
  | simp)
local macro_rules | `(tactic| walk_at "rd") => `(tactic| first
  | exact rd_I0
  | exact rd_Ib
  | exact rd_eqS
  | exact rd_neS
  | exact rd_eqI
  | exact rd_neI
  | exact rd_isN
  | exact rd_notN
  | exact rd_inS
  | exact rd_inT
  | (refine rd_addS ?z; case z => walk_at "sz")
  | (refine rd_I ?hc; case hc => first | (show (0 : Int) < _; omega) | (unfold CDiv; omega) | (unfold CPow; omega) | (unfold CMul; omega) | omega | decide))
local macro_rules | `(tactic| walk_at "tv") => `(tactic| first
  | ((with_reducible refine' tv_var ?h); (case h => exact rfl))
  | ((with_reducible refine' tv_own ?h); (case h => exact rfl))
  | (refine' Sg.tv ?s; (case s => walk_at "sv")))
local macro_rules | `(tactic| walk_at "sv") => `(tactic| first
  | ((with_reducible refine' sv_var ?h); (case h => exact rfl))
  | with_reducible exact sv_int
  | with_reducible exact sv_str
  | with_reducible exact sv_bool
  | with_reducible exact sv_none
  | ((with_reducible refine' sv_ixT ?a ?b ?h); (case a => walk_at "sv"); (case b => walk_at "tv"); (case h => exact rfl))
  | ((with_reducible refine' sv_ixL ?a ?b ?h); (case a => walk_at "lv"); (case b => walk_at "tv"); (case h => first | rfl | assumption))
  | ((with_reducible refine' sv_opX ?a ?b ?r ?n); (case a => walk_at "tv"); (case b => walk_at "tv"); (case r => walk_at "rd"); (case n => exact rfl))
  | ((with_reducible refine' sv_tupX ?a ?z); (case a => walk_at "ad"); (case z => walk_at "sz"))
  | ((with_reducible refine' sv_lenL ?a); (case a => walk_at "lv"))
  | ((with_reducible refine' sv_lenT ?a); (case a => walk_at "sv"))
  | ((with_reducible refine' sv_lenS ?a ?z); (case a => walk_at "tv"); (case z => walk_at "sz"))
  | ((with_reducible refine' sv_tupL ?a); (case a => walk_at "lv"))
  | ((with_reducible refine' sv_intI ?a); (case a => walk_at "tv"))
  | ((with_reducible refine' sv_intB ?a); (case a => walk_at "tv"))
  | ((with_reducible refine' sv_not ?a); (case a => walk_at "tv"))
  | ((with_reducible refine' sv_and ?a ?b); (case a => walk_at "tv"); (case b => intro _; walk_at "tv"))
  | ((with_reducible refine' sv_or ?a ?b); (case a => walk_at "tv"); (case b => intro _; walk_at "tv"))
  | ((with_reducible refine' sv_chain ?a ?b ?r ?c ?s); (case a => walk_at "tv"); (case b => walk_at "tv"); (case r => walk_at "rd"); (case c => intro _; walk_at "tv"); (case s => intro _; walk_at "rd"))
  | ((with_reducible refine' sv_if ?a ?b ?c); (case a => walk_at "bt"); (case b => intro _; walk_at "sv"); (case c => intro _; walk_at "sv"))
  | walk_at "sp"
  | (refine' Nv.s ?a; (case a => walk_at "nv")))
local macro_rules | `(tactic| walk_at "lv") => `(tactic| first
  | ((with_reducible refine' lv_own ?h); (case h => exact rfl))
  | ((with_reducible refine' lv_var ?h); (case h => exact rfl))
  | (refine' lv_nv ?a; (case a => walk_at "nv"))
  | (refine' Sg.l ?a; (case a => walk_at "sv")))
local macro_rules | `(tactic| walk_at "lx") => `(tactic| first
  | ((with_reducible refine' lx_own ?h); (case h => exact rfl))
  | (refine' Nv.x ?a; (case a => walk_at "nv")))
local macro_rules | `(tactic| walk_at "nv") => `(tactic| first
  | ((with_reducible refine' nv_lstX ?a ?z); (case a => walk_at "ad"); (case z => walk_at "sz"))
  | ((with_reducible refine' nv_cat ?a ?b ?z); (case a => walk_at "lx"); (case b => walk_at "lx"); (case z => walk_at "sz"))
  | ((with_reducible refine' nv_list ?a); (case a => walk_at "lv"))
  | ((with_reducible refine' nv_listT ?a); (case a => walk_at "sv"))
  | ((with_reducible refine' nv_sortS ?a ?z); (case a => walk_at "lv"); (case z => walk_at "sz"))
  | ((with_reducible refine' nv_sortT ?a ?z); (case a => walk_at "sv"); (case z => walk_at "sz"))
  | (refine' nv_sortSet rfl ?a ?z; (case a => walk_at "lv"); (case z => walk_at "sz"))
  | (refine' nv_sortSetT rfl ?a ?z; (case a => walk_at "sv"); (case z => walk_at "sz"))
  | walk_at "np")
local macro_rules | `(tactic| walk_at "ad") => `(tactic| first
  | with_reducible exact ad_nil
  | ((with_reducible refine' ad_starT ?a ?b); (case a => walk_at "sv"); (case b => walk_at "ad"))
  | ((with_reducible refine' ad_starL ?a ?b); (case a => walk_at "lv"); (case b => walk_at "ad"))
  | ((with_reducible refine' ad_cons ?a ?b); (case a => walk_at "sv"); (case b => walk_at "ad")))
local macro_rules | `(tactic| walk_at "av") => `(tactic| first
  | with_reducible exact av_nil
  | ((with_reducible refine' av_d ?a ?b); (case a => walk_at "tv"); (case b => walk_at "av"))
  | ((with_reducible refine' av_cons BkP.m ?a ?b); (case a => walk_at "bk"); (case b => walk_at "av")))
local macro_rules | `(tactic| walk_at "as") => `(tactic| first
  | with_reducible exact as_nil
  | ((with_reducible refine' as_d ?a ?b); (case a => walk_at "sv"); (case b => walk_at "as")))
local macro_rules | `(tactic| walk_at "bt") => `(tactic| first
  | with_reducible exact bt_yes
  | ((with_reducible refine' bt_test ?a); (case a => walk_at "tv"))
  | ((with_reducible refine' bt_B ?a); (case a => walk_at "tv"))
  | ((with_reducible refine' bt_not ?a); (case a => walk_at "bt"))
  | ((with_reducible refine' bt_and ?a ?b); (case a => walk_at "bt"); (case b => intro _; walk_at "bt"))
  | ((with_reducible refine' bt_or ?a ?b); (case a => walk_at "bt"); (case b => intro _; walk_at "bt")))
local macro_rules | `(tactic| walk_at "ga") => `(tactic| first
  | with_reducible exact ga_name
  | (refine' ga_tup ?a rfl; (case a => walk_at "gas")))
local macro_rules | `(tactic| walk_at "gas") => `(tactic| first
  | exact .nil
  | (refine' .cons ?a ?b; (case a => walk_at "ga"); (case b => walk_at "gas")))

/-! ### the text -/
def topS (i : Nat) : Stmt := PySem.Challenge.pw_farword_k01_books_taken.main.body.getD i (.Pass ⟨0, 0, 0, 0⟩)
abbrev s__wall : Stmt := topS 0
abbrev N__wall : List Str := ["k"]
abbrev p__wall : List Str := ["k"]
theorem sc__wall : FnScope N__wall p__wall (defScope s__wall) := ⟨rfl, rfl, rfl, by decide +kernel, rfl, by decide +kernel, by decide +kernel⟩
abbrev s_UnknownName___init__ : Stmt := inClass (topS 4) 0
abbrev N_UnknownName___init__ : List Str := ["self", "name"]
abbrev p_UnknownName___init__ : List Str := ["self", "name"]
abbrev s_is_name : Stmt := topS 17
abbrev N_is_name : List Str := ["text", "sign"]
abbrev p_is_name : List Str := ["text"]
theorem sc_is_name : FnScope N_is_name p_is_name (defScope s_is_name) := ⟨rfl, rfl, rfl, by decide +kernel, rfl, by decide +kernel, by decide +kernel⟩
abbrev s_is_lot : Stmt := topS 18
abbrev N_is_lot : List Str := ["names", "name"]
abbrev p_is_lot : List Str := ["names"]
theorem sc_is_lot : FnScope N_is_lot p_is_lot (defScope s_is_lot) := ⟨rfl, rfl, rfl, by decide +kernel, rfl, by decide +kernel, by decide +kernel⟩
abbrev s_demand : Stmt := topS 19
abbrev N_demand : List Str := ["holds_true", "why"]
abbrev p_demand : List Str := ["holds_true", "why"]
theorem sc_demand : FnScope N_demand p_demand (defScope s_demand) := ⟨rfl, rfl, rfl, by decide +kernel, rfl, by decide +kernel, by decide +kernel⟩
abbrev s_names_of : Stmt := topS 20
abbrev N_names_of : List Str := ["parts", "part"]
abbrev p_names_of : List Str := ["parts"]
theorem sc_names_of : FnScope N_names_of p_names_of (defScope s_names_of) := ⟨rfl, rfl, rfl, by decide +kernel, rfl, by decide +kernel, by decide +kernel⟩
abbrev s_check_count : Stmt := topS 21
abbrev N_check_count : List Str := ["things", "least", "most", "what"]
abbrev p_check_count : List Str := ["things", "least", "most", "what"]
theorem sc_check_count : FnScope N_check_count p_check_count (defScope s_check_count) := ⟨rfl, rfl, rfl, by decide +kernel, rfl, by decide +kernel, by decide +kernel⟩
abbrev s_check_names : Stmt := topS 22
abbrev N_check_names : List Str := ["names", "what", "name"]
abbrev p_check_names : List Str := ["names", "what"]
theorem sc_check_names : FnScope N_check_names p_check_names (defScope s_check_names) := ⟨rfl, rfl, rfl, by decide +kernel, rfl, by decide +kernel, by decide +kernel⟩
abbrev s_check_width : Stmt := topS 23
abbrev N_check_width : List Str := ["part", "width", "what"]
abbrev p_check_width : List Str := ["part", "width", "what"]
theorem sc_check_width : FnScope N_check_width p_check_width (defScope s_check_width) := ⟨rfl, rfl, rfl, by decide +kernel, rfl, by decide +kernel, by decide +kernel⟩
abbrev s_check_parts : Stmt := topS 24
abbrev N_check_parts : List Str := ["parts", "least", "most", "width", "what", "part"]
abbrev p_check_parts : List Str := ["parts", "least", "most", "width", "what"]
theorem sc_check_parts : FnScope N_check_parts p_check_parts (defScope s_check_parts) := ⟨rfl, rfl, rfl, by decide +kernel, rfl, by decide +kernel, by decide +kernel⟩
abbrev s_check_lot : Stmt := topS 25
abbrev N_check_lot : List Str := ["lot", "names", "what", "name"]
abbrev p_check_lot : List Str := ["lot", "names", "what"]
theorem sc_check_lot : FnScope N_check_lot p_check_lot (defScope s_check_lot) := ⟨rfl, rfl, rfl, by decide +kernel, rfl, by decide +kernel, by decide +kernel⟩
abbrev s_check_effect : Stmt := topS 26
abbrev N_check_effect : List Str := ["on", "off", "holds", "what", "hold"]
abbrev p_check_effect : List Str := ["on", "off", "holds", "what"]
theorem sc_check_effect : FnScope N_check_effect p_check_effect (defScope s_check_effect) := ⟨rfl, rfl, rfl, by decide +kernel, rfl, by decide +kernel, by decide +kernel⟩
abbrev s_check_target : Stmt := topS 27
abbrev N_check_target : List Str := ["to", "modes", "what"]
abbrev p_check_target : List Str := ["to", "modes", "what"]
theorem sc_check_target : FnScope N_check_target p_check_target (defScope s_check_target) := ⟨rfl, rfl, rfl, by decide +kernel, rfl, by decide +kernel, by decide +kernel⟩
abbrev s_check_holds : Stmt := topS 28
abbrev N_check_holds : List Str := ["holds"]
abbrev p_check_holds : List Str := ["holds"]
theorem sc_check_holds : FnScope N_check_holds p_check_holds (defScope s_check_holds) := ⟨rfl, rfl, rfl, by decide +kernel, rfl, by decide +kernel, by decide +kernel⟩
abbrev s_check_modes : Stmt := topS 29
abbrev N_check_modes : List Str := ["modes", "holds", "_", "on", "off"]
abbrev p_check_modes : List Str := ["modes", "holds"]
theorem sc_check_modes : FnScope N_check_modes p_check_modes (defScope s_check_modes) := ⟨rfl, rfl, rfl, by decide +kernel, rfl, by decide +kernel, by decide +kernel⟩
abbrev s_check_barred : Stmt := topS 30
abbrev N_check_barred : List Str := ["barred", "holds", "lot"]
abbrev p_check_barred : List Str := ["barred", "holds"]
theorem sc_check_barred : FnScope N_check_barred p_check_barred (defScope s_check_barred) := ⟨rfl, rfl, rfl, by decide +kernel, rfl, by decide +kernel, by decide +kernel⟩
abbrev s_check_commands : Stmt := topS 31
abbrev N_check_commands : List Str := ["commands", "holds", "modes", "_", "let", "on", "off", "to"]
abbrev p_check_commands : List Str := ["commands", "holds", "modes"]
theorem sc_check_commands : FnScope N_check_commands p_check_commands (defScope s_check_commands) := ⟨rfl, rfl, rfl, by decide +kernel, rfl, by decide +kernel, by decide +kernel⟩
abbrev s_check_alarms : Stmt := topS 32
abbrev N_check_alarms : List Str := ["alarms", "holds", "modes", "_", "on", "off", "to"]
abbrev p_check_alarms : List Str := ["alarms", "holds", "modes"]
theorem sc_check_alarms : FnScope N_check_alarms p_check_alarms (defScope s_check_alarms) := ⟨rfl, rfl, rfl, by decide +kernel, rfl, by decide +kernel, by decide +kernel⟩
abbrev s_check_rows : Stmt := topS 33
abbrev N_check_rows : List Str := ["rows", "commands", "_", "steps", "step"]
abbrev p_check_rows : List Str := ["rows", "commands"]
theorem sc_check_rows : FnScope N_check_rows p_check_rows (defScope s_check_rows) := ⟨rfl, rfl, rfl, by decide +kernel, rfl, by decide +kernel, by decide +kernel⟩
abbrev s_check_quiet : Stmt := topS 34
abbrev N_check_quiet : List Str := ["quiet"]
abbrev p_check_quiet : List Str := ["quiet"]
theorem sc_check_quiet : FnScope N_check_quiet p_check_quiet (defScope s_check_quiet) := ⟨rfl, rfl, rfl, by decide +kernel, rfl, by decide +kernel, by decide +kernel⟩
abbrev s_Book___init__ : Stmt := inClass (topS 35) 0
abbrev N_Book___init__ : List Str := ["self", "holds", "modes", "barred", "commands", "alarms", "rows", "quiet", "ordered", "part"]
abbrev p_Book___init__ : List Str := ["self", "holds", "modes", "barred", "commands", "alarms", "rows", "quiet"]
theorem sc_Book___init__ : FnScope N_Book___init__ p_Book___init__ (defScope s_Book___init__) := ⟨rfl, rfl, rfl, by decide +kernel, rfl, by decide +kernel, by decide +kernel⟩
abbrev s_Book_holds : Stmt := inClass (topS 35) 1
abbrev N_Book_holds : List Str := ["self"]
abbrev p_Book_holds : List Str := ["self"]
theorem sc_Book_holds : FnScope N_Book_holds p_Book_holds (defScope s_Book_holds) := ⟨rfl, rfl, rfl, by decide +kernel, rfl, by decide +kernel, by decide +kernel⟩
abbrev s_Book_modes : Stmt := inClass (topS 35) 2
abbrev N_Book_modes : List Str := ["self"]
abbrev p_Book_modes : List Str := ["self"]
theorem sc_Book_modes : FnScope N_Book_modes p_Book_modes (defScope s_Book_modes) := ⟨rfl, rfl, rfl, by decide +kernel, rfl, by decide +kernel, by decide +kernel⟩
abbrev s_Book_barred : Stmt := inClass (topS 35) 3
abbrev N_Book_barred : List Str := ["self"]
abbrev p_Book_barred : List Str := ["self"]
theorem sc_Book_barred : FnScope N_Book_barred p_Book_barred (defScope s_Book_barred) := ⟨rfl, rfl, rfl, by decide +kernel, rfl, by decide +kernel, by decide +kernel⟩
abbrev s_Book_commands : Stmt := inClass (topS 35) 4
abbrev N_Book_commands : List Str := ["self"]
abbrev p_Book_commands : List Str := ["self"]
theorem sc_Book_commands : FnScope N_Book_commands p_Book_commands (defScope s_Book_commands) := ⟨rfl, rfl, rfl, by decide +kernel, rfl, by decide +kernel, by decide +kernel⟩
abbrev s_Book_alarms : Stmt := inClass (topS 35) 5
abbrev N_Book_alarms : List Str := ["self"]
abbrev p_Book_alarms : List Str := ["self"]
theorem sc_Book_alarms : FnScope N_Book_alarms p_Book_alarms (defScope s_Book_alarms) := ⟨rfl, rfl, rfl, by decide +kernel, rfl, by decide +kernel, by decide +kernel⟩
abbrev s_Book_rows : Stmt := inClass (topS 35) 6
abbrev N_Book_rows : List Str := ["self"]
abbrev p_Book_rows : List Str := ["self"]
theorem sc_Book_rows : FnScope N_Book_rows p_Book_rows (defScope s_Book_rows) := ⟨rfl, rfl, rfl, by decide +kernel, rfl, by decide +kernel, by decide +kernel⟩
abbrev s_Book_quiet : Stmt := inClass (topS 35) 7
abbrev N_Book_quiet : List Str := ["self"]
abbrev p_Book_quiet : List Str := ["self"]
theorem sc_Book_quiet : FnScope N_Book_quiet p_Book_quiet (defScope s_Book_quiet) := ⟨rfl, rfl, rfl, by decide +kernel, rfl, by decide +kernel, by decide +kernel⟩
abbrev s_Book_safe : Stmt := inClass (topS 35) 8
abbrev N_Book_safe : List Str := ["self"]
abbrev p_Book_safe : List Str := ["self"]
theorem sc_Book_safe : FnScope N_Book_safe p_Book_safe (defScope s_Book_safe) := ⟨rfl, rfl, rfl, by decide +kernel, rfl, by decide +kernel, by decide +kernel⟩
abbrev s_Book_mode_named : Stmt := inClass (topS 35) 9
abbrev N_Book_mode_named : List Str := ["self", "name"]
abbrev p_Book_mode_named : List Str := ["self", "name"]
theorem sc_Book_mode_named : FnScope N_Book_mode_named p_Book_mode_named (defScope s_Book_mode_named) := ⟨rfl, rfl, rfl, by decide +kernel, rfl, by decide +kernel, by decide +kernel⟩
abbrev s_Book_command_named : Stmt := inClass (topS 35) 10
abbrev N_Book_command_named : List Str := ["self", "name"]
abbrev p_Book_command_named : List Str := ["self", "name"]
theorem sc_Book_command_named : FnScope N_Book_command_named p_Book_command_named (defScope s_Book_command_named) := ⟨rfl, rfl, rfl, by decide +kernel, rfl, by decide +kernel, by decide +kernel⟩
abbrev s_Book_alarm_named : Stmt := inClass (topS 35) 11
abbrev N_Book_alarm_named : List Str := ["self", "name"]
abbrev p_Book_alarm_named : List Str := ["self", "name"]
theorem sc_Book_alarm_named : FnScope N_Book_alarm_named p_Book_alarm_named (defScope s_Book_alarm_named) := ⟨rfl, rfl, rfl, by decide +kernel, rfl, by decide +kernel, by decide +kernel⟩
abbrev s_Book_row_named : Stmt := inClass (topS 35) 12
abbrev N_Book_row_named : List Str := ["self", "name"]
abbrev p_Book_row_named : List Str := ["self", "name"]
theorem sc_Book_row_named : FnScope N_Book_row_named p_Book_row_named (defScope s_Book_row_named) := ⟨rfl, rfl, rfl, by decide +kernel, rfl, by decide +kernel, by decide +kernel⟩
abbrev s_Book_with_part : Stmt := inClass (topS 35) 13
abbrev N_Book_with_part : List Str := ["self", "sort", "part"]
abbrev p_Book_with_part : List Str := ["self", "sort", "part"]
theorem sc_Book_with_part : FnScope N_Book_with_part p_Book_with_part (defScope s_Book_with_part) := ⟨rfl, rfl, rfl, by decide +kernel, rfl, by decide +kernel, by decide +kernel⟩
abbrev s_Book_without_part : Stmt := inClass (topS 35) 14
abbrev N_Book_without_part : List Str := ["self", "sort", "name"]
abbrev p_Book_without_part : List Str := ["self", "sort", "name"]
theorem sc_Book_without_part : FnScope N_Book_without_part p_Book_without_part (defScope s_Book_without_part) := ⟨rfl, rfl, rfl, by decide +kernel, rfl, by decide +kernel, by decide +kernel⟩
abbrev s_Book_with_barred : Stmt := inClass (topS 35) 15
abbrev N_Book_with_barred : List Str := ["self", "lot"]
abbrev p_Book_with_barred : List Str := ["self", "lot"]
theorem sc_Book_with_barred : FnScope N_Book_with_barred p_Book_with_barred (defScope s_Book_with_barred) := ⟨rfl, rfl, rfl, by decide +kernel, rfl, by decide +kernel, by decide +kernel⟩
abbrev s_Book_without_barred : Stmt := inClass (topS 35) 16
abbrev N_Book_without_barred : List Str := ["self", "lot"]
abbrev p_Book_without_barred : List Str := ["self", "lot"]
theorem sc_Book_without_barred : FnScope N_Book_without_barred p_Book_without_barred (defScope s_Book_without_barred) := ⟨rfl, rfl, rfl, by decide +kernel, rfl, by decide +kernel, by decide +kernel⟩
abbrev s_Book_with_quiet : Stmt := inClass (topS 35) 17
abbrev N_Book_with_quiet : List Str := ["self", "quiet"]
abbrev p_Book_with_quiet : List Str := ["self", "quiet"]
theorem sc_Book_with_quiet : FnScope N_Book_with_quiet p_Book_with_quiet (defScope s_Book_with_quiet) := ⟨rfl, rfl, rfl, by decide +kernel, rfl, by decide +kernel, by decide +kernel⟩
abbrev s_Book_same_as : Stmt := inClass (topS 35) 18
abbrev N_Book_same_as : List Str := ["self", "other"]
abbrev p_Book_same_as : List Str := ["self", "other"]
theorem sc_Book_same_as : FnScope N_Book_same_as p_Book_same_as (defScope s_Book_same_as) := ⟨rfl, rfl, rfl, by decide +kernel, rfl, by decide +kernel, by decide +kernel⟩
abbrev s_Book__part_named : Stmt := inClass (topS 35) 19
abbrev N_Book__part_named : List Str := ["self", "sort", "name"]
abbrev p_Book__part_named : List Str := ["self", "sort", "name"]
theorem sc_Book__part_named : FnScope N_Book__part_named p_Book__part_named (defScope s_Book__part_named) := ⟨rfl, rfl, rfl, by decide +kernel, rfl, by decide +kernel, by decide +kernel⟩
abbrev s_Book__is_needed : Stmt := inClass (topS 35) 20
abbrev N_Book__is_needed : List Str := ["self", "sort", "name"]
abbrev p_Book__is_needed : List Str := ["self", "sort", "name"]
theorem sc_Book__is_needed : FnScope N_Book__is_needed p_Book__is_needed (defScope s_Book__is_needed) := ⟨rfl, rfl, rfl, by decide +kernel, rfl, by decide +kernel, by decide +kernel⟩
abbrev s_Book__with_parts : Stmt := inClass (topS 35) 21
abbrev N_Book__with_parts : List Str := ["self", "sort", "parts"]
abbrev p_Book__with_parts : List Str := ["self", "sort", "parts"]
theorem sc_Book__with_parts : FnScope N_Book__with_parts p_Book__with_parts (defScope s_Book__with_parts) := ⟨rfl, rfl, rfl, by decide +kernel, rfl, by decide +kernel, by decide +kernel⟩
abbrev s_Book__with_lots : Stmt := inClass (topS 35) 22
abbrev N_Book__with_lots : List Str := ["self", "barred"]
abbrev p_Book__with_lots : List Str := ["self", "barred"]
theorem sc_Book__with_lots : FnScope N_Book__with_lots p_Book__with_lots (defScope s_Book__with_lots) := ⟨rfl, rfl, rfl, by decide +kernel, rfl, by decide +kernel, by decide +kernel⟩
abbrev s_Book__all_parts : Stmt := inClass (topS 35) 23
abbrev N_Book__all_parts : List Str := ["self"]
abbrev p_Book__all_parts : List Str := ["self"]
theorem sc_Book__all_parts : FnScope N_Book__all_parts p_Book__all_parts (defScope s_Book__all_parts) := ⟨rfl, rfl, rfl, by decide +kernel, rfl, by decide +kernel, by decide +kernel⟩
abbrev s__law_row : Stmt := topS 37
abbrev N__law_row : List Str := ["cell", "many", "row", "rest", "state", "k"]
abbrev p__law_row : List Str := ["cell", "many"]
theorem sc__law_row : FnScope N__law_row p__law_row (defScope s__law_row) := ⟨rfl, rfl, rfl, by decide +kernel, rfl, by decide +kernel, by decide +kernel⟩
abbrev s__law_numbers : Stmt := topS 38
abbrev N__law_numbers : List Str := ["script", "many", "cells", "each", "numbers", "cell", "number"]
abbrev p__law_numbers : List Str := ["script", "many"]
theorem sc__law_numbers : FnScope N__law_numbers p__law_numbers (defScope s__law_numbers) := ⟨rfl, rfl, rfl, by decide +kernel, rfl, by decide +kernel, by decide +kernel⟩
abbrev s__law_pick : Stmt := topS 39
abbrev N__law_pick : List Str := ["names", "number", "without", "found", "rest", "name"]
abbrev p__law_pick : List Str := ["names", "number", "without"]
theorem sc__law_pick : FnScope N__law_pick p__law_pick (defScope s__law_pick) := ⟨rfl, rfl, rfl, by decide +kernel, rfl, by decide +kernel, by decide +kernel⟩
abbrev s__law_effect : Stmt := topS 40
abbrev N__law_effect : List Str := ["holds", "modes", "numbers", "at", "on", "off"]
abbrev p__law_effect : List Str := ["holds", "modes", "numbers", "at"]
theorem sc__law_effect : FnScope N__law_effect p__law_effect (defScope s__law_effect) := ⟨rfl, rfl, rfl, by decide +kernel, rfl, by decide +kernel, by decide +kernel⟩
abbrev s__law_parts : Stmt := topS 41
abbrev N__law_parts : List Str := ["numbers", "at", "holds", "modes", "found", "k", "on", "off", "to", "barred", "lot", "commands", "alarms", "rows", "steps", "j", "quiet"]
abbrev p__law_parts : List Str := ["numbers", "at"]
theorem sc__law_parts : FnScope N__law_parts p__law_parts (defScope s__law_parts) := ⟨rfl, rfl, rfl, by decide +kernel, rfl, by decide +kernel, by decide +kernel⟩
abbrev s__law_made : Stmt := topS 42
abbrev N__law_made : List Str := ["parts", "holds", "modes", "barred", "commands", "alarms", "rows", "quiet"]
abbrev p__law_made : List Str := ["parts"]
theorem sc__law_made : FnScope N__law_made p__law_made (defScope s__law_made) := ⟨rfl, rfl, rfl, by decide +kernel, rfl, by decide +kernel, by decide +kernel⟩
abbrev s__law_due : Stmt := topS 43
abbrev N__law_due : List Str := ["parts", "holds", "modes", "barred", "commands", "alarms", "rows", "quiet"]
abbrev p__law_due : List Str := ["parts"]
theorem sc__law_due : FnScope N__law_due p__law_due (defScope s__law_due) := ⟨rfl, rfl, rfl, by decide +kernel, rfl, by decide +kernel, by decide +kernel⟩
abbrev s__law_first : Stmt := topS 44
abbrev N__law_first : List Str := ["part"]
abbrev p__law_first : List Str := ["part"]
theorem sc__law_first : FnScope N__law_first p__law_first (defScope s__law_first) := ⟨rfl, rfl, rfl, by decide +kernel, rfl, by decide +kernel, by decide +kernel⟩
abbrev s__law_told : Stmt := topS 45
abbrev N__law_told : List Str := ["book"]
abbrev p__law_told : List Str := ["book"]
theorem sc__law_told : FnScope N__law_told p__law_told (defScope s__law_told) := ⟨rfl, rfl, rfl, by decide +kernel, rfl, by decide +kernel, by decide +kernel⟩
abbrev s__law_unknown : Stmt := topS 46
abbrev N__law_unknown : List Str := ["book", "many", "error"]
abbrev p__law_unknown : List Str := ["book"]
theorem sc__law_unknown : FnScope N__law_unknown p__law_unknown (defScope s__law_unknown) := ⟨rfl, rfl, rfl, by decide +kernel, rfl, by decide +kernel, by decide +kernel⟩
abbrev s__law_right : Stmt := topS 47
abbrev N__law_right : List Str := ["parts", "given", "book", "k", "due", "turn", "told", "mode", "command", "alarm", "row", "part"]
abbrev p__law_right : List Str := ["parts"]
theorem sc__law_right : FnScope N__law_right p__law_right (defScope s__law_right) := ⟨rfl, rfl, rfl, by decide +kernel, rfl, by decide +kernel, by decide +kernel⟩
abbrev s_law : Stmt := topS 48
abbrev N_law : List Str := ["script", "numbers", "holds", "barred", "modes", "commands", "alarms", "rows", "k"]
abbrev p_law : List Str := ["script"]
theorem sc_law : FnScope N_law p_law (defScope s_law) := ⟨rfl, rfl, rfl, by decide +kernel, rfl, by decide +kernel, by decide +kernel⟩

section
variable {P : Program} {w : World} {K : PySem.W.Frag} {mg : Str → Option Value} {base : Heap}
/-! ### the drawn numbers: all that is wanted of them is how many there are, and that each is from 0 to 1008 -/
def Small (ns : List Int) : Prop := ∀ n ∈ ns, 0 ≤ n ∧ n < 1009
theorem Small.app {ns : List Int} {n : Int} (h : Small ns) (h0 : 0 ≤ n) (h1 : n < 1009) : Small (ns ++ [n]) := fun z hz => by
  rcases List.mem_append.mp hz with hz | hz
  · exact h z hz
  · rw [List.mem_singleton.mp hz]
    exact ⟨h0, h1⟩
def spRow : Sp := fun vs H Q _ => ∃ (c m : Int), vs = [.int c, .int m] ∧ 0 ≤ m ∧ m ≤ 1000 ∧ ∀ (ns : List Int) p H', (ns.length : Int) = m → Small ns → H p = none → Ex H H' → H' p = some (.lst (ns.map V.int)) → Q (.ref p) H'
def spNumbers (K : PySem.W.Frag) : Sp := fun vs H Q _ => ∃ (a : Addr) (xs : List Int) (m : Int), vs = [.ref a, .int m] ∧ SqL K H a (xs.map V.int) ∧ xs.length ≤ 63 ∧ 0 ≤ m ∧ m ≤ 900 ∧
  ∀ (ns : List Int) p H', (ns.length : Int) = m → Small ns → H p = none → Ex H H' → H' p = some (.lst (ns.map V.int)) → Q (.ref p) H'
section
variable {P : Program} {w : World} {K : PySem.W.Frag} {mg : Str → Option Value} {base : Heap}
theorem ok_row (A : At K mg "_law_row" s__law_row) (mz_abs : mg "abs" = none) (mz_int : mg "int" = none) (mz_range : mg "range" = none) : Dfn P w K mg base 1 "_law_row" p__law_row spRow := by
  refine dfn_ok A sc__law_row (fun _ _ _ _ _ _ us hl => match us, hl with | [_, _], _ => rfl) (fun vs H Q E h => ?_) (fun f cdv A outer s H vs Q E hr h => ?_)
  · obtain ⟨c, m, rfl, _⟩ := h
    rfl
  · obtain ⟨c, m, rfl, hm, hm2, q⟩ := h
    refine ⟨_, (pss_cons (ps_set (i := 2) sc__law_row.nd rfl (Or.inl rfl) (pe_lst pa_nil))
  (pss_cons (ps_set (i := 3) sc__law_row.nd rfl (Or.inl rfl) pe_int)
  (pss_cons (ps_if (pt_cmpR op_ge (pe_callB call_abs (by rfl) mz_abs (by decide +kernel) (pa_cons (pv 0) pa_nil)) (pe_op op_pow pe_int pe_int) (by first | exact nomark _ | rfl))
    (pss_one (ps_set (i := 3) sc__law_row.nd rfl (Or.inl rfl) (pe_callB call_abs (by rfl) mz_abs (by decide +kernel) (pa_cons (pv 0) pa_nil))))
    pss_nil)
  (pss_cons (ps_set (i := 4) sc__law_row.nd rfl (Or.inl rfl) (pe_op op_mod (pe_callTy call_int1 (by rfl) mz_int (by decide +kernel) (pa_cons (pe_callB call_abs (by rfl) mz_abs (by decide +kernel) (pa_cons (pv 0) pa_nil)) pa_nil)) pe_int))
  (pss_cons (ps_for PassesOwn.never rfl (pi_range1 (by rfl) mz_range (pa_cons (pv 1) pa_nil)) (pg_name (i := 5) sc__law_row.nd rfl (Or.inl rfl))
    (pss_cons (ps_set (i := 4) sc__law_row.nd rfl (Or.inl rfl) (pe_op op_mod (pe_callTy call_int1 (by rfl) mz_int (by decide +kernel) (pa_cons (pe_op op_add (pe_op op_mul (pe_op op_add (pv 4) pe_int) pe_int) (pe_op op_mul pe_int (pv 5))) pa_nil)) pe_int))
  (pss_one (ps_if (pt_cmpR op_gt (pv 3) pe_int (by first | exact nomark _ | rfl))
    (pss_cons (ps_expr (show PE _ _ (tBM K "list" _ _ _) from pe_bm PySem.F.plainAttrs_list PySem.F.slot_list_append PySem.F.type_list_append mt_append (pv 2) (pa_cons (pe_op op_mod (pe_callTy call_int1 (by rfl) mz_int (by decide +kernel) (pa_cons (pv 3) pa_nil)) pe_int) pa_nil)))
  (pss_one (ps_set (i := 3) sc__law_row.nd rfl (Or.inl rfl) (pe_op op_fdiv (pv 3) pe_int))))
    (pss_one (ps_expr (show PE _ _ (tBM K "list" _ _ _) from pe_bm PySem.F.plainAttrs_list PySem.F.slot_list_append PySem.F.type_list_append mt_append (pv 2) (pa_cons (pe_op op_mod (pe_callTy call_int1 (by rfl) mz_int (by decide +kernel) (pa_cons (pe_op op_fdiv (pv 4) pe_int) pa_nil)) pe_int) pa_nil))))))))
  (pss_one (ps_ret (pv 2)))))))), ?_⟩
    refine q_asgL (xs := []) (by refine el_lst ea_nil (by decide)) fun p H1 np e1 h1 => ?_
    refine' q_asg (v := ?v2) ?e2 fun H2 e2 => ?_
    case e2 => walk_at "ev"
    refine' q_ifAsg (b := decide ((10:Int) ^ (18:Int).toNat ≤ if c < 0 then -c else c)) (v := .int (if (10:Int) ^ (18:Int).toNat ≤ (if c < 0 then -c else c) then (if c < 0 then -c else c) else 0)) ?b3 ?t3 ?f3 fun H3 e3 => ?_
    case b3 => walk_at "et"
    case t3 =>
      intro hb
      rw [if_pos (of_decide_eq_true hb)]
      walk_at "ev"
    case f3 =>
      intro hb
      rw [if_neg (of_decide_eq_false hb)]
      rfl
    generalize hr0 : (if (10:Int) ^ (18:Int).toNat ≤ (if c < 0 then -c else c) then (if c < 0 then -c else c) else 0) = r0
    have hr00 : 0 ≤ r0 := by
      rw [← hr0]
      split
      · split <;> omega
      · omega
    refine' q_asg (v := ?v4) ?e4 fun H4 e4 => ?_
    case e4 => walk_at "ev"
    have hs0 : 0 ≤ (if c < 0 then -c else c) % 2147483647 ∧ (if c < 0 then -c else c) % 2147483647 < 2147483647 := ⟨Int.emod_nonneg _ (by decide), Int.emod_lt_of_pos _ (by decide)⟩
    generalize (if c < 0 then -c else c) % 2147483647 = st0 at hs0
    refine q_forR1 (n := m) (by walk_at "ea") ⟨hm, by omega⟩ (fun i σ' H' => ∃ (st r : Int) (k : Option V) (ns : List Int), σ' = [some (.int c), some (.int m), some (.ref p), some (.int r), some (.int st), k] ∧ 0 ≤ st ∧ st < 2147483647 ∧ ns.length = i ∧ Small ns ∧ Ex H H' ∧ H' p = some (.lst (ns.map V.int))) ?h0 ?hs ?hd
    case h0 => exact fun H5 e5 => ⟨st0, r0, none, [], rfl, hs0.1, hs0.2, rfl, (fun _ z => nomatch z), (((e1.trans e2).trans e3).trans e4).trans e5, e5 _ _ (e4 _ _ (e3 _ _ (e2 _ _ h1)))⟩
    case hs =>
      rintro i σ' H' hi ⟨st, r, k, ns, rfl, s0, s1, hl, hS, eH, hp⟩
      refine' q_asg (v := ?v5) ?e5 fun H5 e5 => ?_
      case e5 => walk_at "ev"
      have hs2 : 0 ≤ ((st + 1) * 48271 + 69621 * (i : Int)) % 2147483647 ∧ ((st + 1) * 48271 + 69621 * (i : Int)) % 2147483647 < 2147483647 := ⟨Int.emod_nonneg _ (by decide), Int.emod_lt_of_pos _ (by decide)⟩
      generalize ((st + 1) * 48271 + 69621 * (i : Int)) % 2147483647 = st2 at hs2
      have hp5 := e5 _ _ hp
      have last : ∀ (x y : Int) H6, Ex H5 H6 → 0 ≤ x → x < 1009 → ∃ (st r : Int) (k : Option V) (ns' : List Int), ([some (.int c), some (.int m), some (.ref p), some (.int y), some (.int st2), some (.int (i : Int))] : L2.St) = [some (.int c), some (.int m), some (.ref p), some (.int r), some (.int st), k] ∧ 0 ≤ st ∧ st < 2147483647 ∧ ns'.length = i + 1 ∧ Small ns' ∧ Ex H (upd H6 p (.lst (ns.map V.int ++ [.int x]))) ∧ (upd H6 p (.lst (ns.map V.int ++ [.int x]))) p = some (.lst (ns'.map V.int)) := fun x y H6 e6 h0 h1 =>
        ⟨st2, y, _, ns ++ [x], rfl, hs2.1, hs2.2, by rw [List.length_append, hl]; rfl, hS.app h0 h1, Ex.mut ((eH.trans e5).trans e6) np, by rw [upd_same, List.map_append]; rfl⟩
      have hz : (ns.map V.int).length < 100000 := by rw [List.length_map]; omega
      refine' s_if (b := decide ((0:Int) < r)) ?b6 ?t6 ?f6
      case b6 => walk_at "et"
      case t6 =>
        intro _ H6 e6
        refine' q_app (e6 _ _ hp5) (ev_var rfl) ?e7 hz fun H7 e7 => ?_
        case e7 => walk_at "ev"
        refine' s_asg (v := ?v8) ?e8 fun H8 e8 => ?_
        case e8 => walk_at "ev"
        obtain ⟨a1, a2, a3, a4, b1, b2, b3, b4, b5, b6, b7⟩ := last (r % 1009) (r / 1009) H7 (e6.trans e7) (Int.emod_nonneg _ (by decide)) (Int.emod_lt_of_pos _ (by decide))
        exact ⟨a1, a2, a3, a4, b1, b2, b3, b4, b5, b6.trans e8, e8 _ _ b7⟩
      case f6 =>
        intro _ H6 e6
        refine' s_app (e6 _ _ hp5) (ev_var rfl) ?e7 hz fun H7 e7 => ?_
        case e7 => walk_at "ev"
        exact last (st2 / 2048 % 1009) r H7 (e6.trans e7) (Int.emod_nonneg _ (by decide)) (Int.emod_lt_of_pos _ (by decide))
    case hd =>
      rintro σ' H' ⟨st, r, k, ns, rfl, s0, s1, hl, hS, eH, hp⟩
      refine s_ret (ev_var rfl) fun H6 e6 => ?_
      exact q ns p H6 (by omega) hS np (eH.trans e6) (e6 _ _ hp)
theorem Small.app2 {ns ms : List Int} (h : Small ns) (h2 : Small ms) : Small (ns ++ ms) := fun z hz => (List.mem_append.mp hz).elim (h z) (h2 z)
theorem Small.take {ns : List Int} (h : Small ns) (k : Nat) : Small (ns.take k) := fun z hz => h z (List.mem_of_mem_take hz)
theorem Small.at {ns : List Int} (h : Small ns) {i : Nat} {n : Int} (e : ns[i]? = some n) : 0 ≤ n ∧ n < 1009 := h n (List.mem_of_getElem? e)
theorem ok_numbers (A : At K mg "_law_numbers" s__law_numbers) (D__law_row : Dfn P w K mg base 1 "_law_row" p__law_row spRow) (mz_len : mg "len" = none) (mz_max : mg "max" = none) : Dfn P w K mg base 2 "_law_numbers" p__law_numbers (spNumbers K) := by
  refine dfn_ok A sc__law_numbers (fun _ _ _ _ _ _ us hl => match us, hl with | [_, _], _ => rfl) (fun vs H Q E h => ?_) (fun f cdv A outer s H vs Q E hr h => ?_)
  · obtain ⟨a, xs, m, rfl, _⟩ := h
    rfl
  · obtain ⟨a, xs, m, rfl, hA, hx, hm, hm2, q⟩ := h
    refine ⟨_, (pss_cons (ps_set (i := 2) sc__law_numbers.nd rfl (Or.inl rfl) (pe_slice (show SlR _ (rSlL K) from sl_list) (pv 0) po_none (po_some pe_int)))
  (pss_cons (ps_set (i := 3) sc__law_numbers.nd rfl (Or.inl rfl) (pe_op op_add pe_int (pe_op op_fdiv (pv 1) (pe_callB (call_max2 rfl) (by rfl) mz_max (by decide +kernel) (pa_cons pe_int (pa_cons (pe_callB (show CallR _ _ (rLenS K) from call_len_seq) (by rfl) mz_len PySem.boot_len (pa_cons (pv 2) pa_nil)) pa_nil))))))
  (pss_cons (ps_set (i := 4) sc__law_numbers.nd rfl (Or.inl rfl) (pe_lst pa_nil))
  (pss_cons (ps_for PassesOwn.never rfl (show PI _ _ _ (iList K _) from pi_list (pv 2)) (pg_name (i := 5) sc__law_numbers.nd rfl (Or.inl rfl))
    (pss_one (ps_for PassesOwn.never rfl (show PI _ _ _ (iList K _) from pi_list (pe_d D__law_row (hr.mono (by decide)) (pa_cons (pv 5) (pa_cons (pv 3) pa_nil)))) (pg_name (i := 6) sc__law_numbers.nd rfl (Or.inl rfl))
    (pss_one (ps_expr (show PE _ _ (tBM K "list" _ _ _) from pe_bm PySem.F.plainAttrs_list PySem.F.slot_list_append PySem.F.type_list_append mt_append (pv 4) (pa_cons (pv 6) pa_nil)))))))
  (pss_cons (ps_while PassesOwn.never (pt_cmpR op_lt (pe_callB (show CallR _ _ (rLenS K) from call_len_seq) (by rfl) mz_len PySem.boot_len (pa_cons (pv 4) pa_nil)) (pv 1) (by first | exact nomark _ | rfl))
    (pss_one (ps_expr (show PE _ _ (tBM K "list" _ _ _) from pe_bm PySem.F.plainAttrs_list PySem.F.slot_list_append PySem.F.type_list_append mt_append (pv 4) (pa_cons pe_int pa_nil)))))
  (pss_one (ps_ret (pe_slice (show SlR _ (rSlL K) from sl_list) (pv 4) po_none (po_some (pv 1)))))))))), ?_⟩
    refine q_asgL (xs := xs.map V.int) ?c1 fun c H1 nc e1 h1 => ?_
    case c1 =>
      have e : xs.map V.int = cutV (xs.map V.int) none (some ((63 : Nat) : Int)) := by
        rw [cut_take, List.take_of_length_le (by rw [List.length_map]; exact hx)]
      rw [e]
      exact el_sl (ev_var rfl) eo_none (eo_some ev_c) hA
    have hlx : ((xs.map V.int).length : Int) ≤ 63 := by rw [List.length_map]; omega
    have hmx : 0 < (if ((xs.map V.int).length : Int) > 1 then ((xs.map V.int).length : Int) else 1) ∧ (if ((xs.map V.int).length : Int) > 1 then ((xs.map V.int).length : Int) else 1) < 1073741824 := by split <;> omega
    refine q_asg (ev_op ev_c (ev_op (ev_var rfl) (ev_max1 (ea_cons ev_c (ea_cons (ev_lenL (ev_var rfl) (sq_of h1)) ea_nil))) (rv_I hmx)) rv_I0) fun H2 e2 => ?_
    generalize hz : (1 + m / (if ((xs.map V.int).length : Int) > 1 then ((xs.map V.int).length : Int) else 1)) = each
    have h2 := e2 _ _ h1
    have hz1 : 0 ≤ each ∧ each ≤ 1000 := by
      have a1 := Int.ediv_nonneg hm (Int.le_of_lt hmx.1)
      have a2 := Int.ediv_le_self (if ((xs.map V.int).length : Int) > 1 then ((xs.map V.int).length : Int) else 1) hm
      omega
    clear hz
    refine q_asgL (xs := []) (by refine el_lst ea_nil (by decide)) fun p H3 np e3 h3 => ?_
    have e0 : Ex H H3 := (e1.trans e2).trans e3
    have np0 : H p = none := fresh_back (e1.trans e2) np
    have h3c := e3 _ _ h2
    have ncp : c ≠ p := ne_of_none h2 np
    refine q_forLn (xs := xs.map V.int) (a := c) (ev_var rfl) (sq_of h3c) (fun i σ' H' => ∃ (u v : Option V) (ns : List Int), σ' = [some (.ref a), some (.int m), some (.ref c), some (.int each), some (.ref p), u, v] ∧ ns.length ≤ i * 1000 ∧ Small ns ∧ Ex H H' ∧ H' c = some (.lst (xs.map V.int)) ∧ H' p = some (.lst (ns.map V.int))) ?h0 ?hl ?hs ?hd
    case h0 => exact fun H4 e4 => ⟨none, none, [], rfl, Nat.zero_le _, (fun _ z => nomatch z), e0.trans e4, e4 _ _ h3c, e4 _ _ h3⟩
    case hl => exact fun i σ' H' _ ⟨_, _, _, _, _, _, _, hc, _⟩ => sq_of hc
    case hs =>
      rintro i x σ' H' hi ⟨u, v, ns, rfl, hl, hS, eH, hc, hp⟩
      have hix : i < 63 := by
        have := (List.getElem?_eq_some_iff.mp hi).1
        rw [List.length_map] at this
        omega
      obtain ⟨n, hn, rfl⟩ := int_at hi
      refine s_forP (P := fun ys => ∃ ms : List Int, ys = ms.map V.int ∧ (ms.length : Int) = each ∧ Small ms) ?hp (fun ys q j σ2 H2 => ∃ (v : Option V) (ms : List Int), ys = ms.map V.int ∧ (ms.length : Int) = each ∧ Small ms ∧ σ2 = [some (.ref a), some (.int m), some (.ref c), some (.int each), some (.ref p), some (.int n), v] ∧ Ex H H2 ∧ H2 c = some (.lst (xs.map V.int)) ∧ H2 q = some (.lst ys) ∧ q ≠ p ∧ H2 p = some (.lst ((ns ++ ms.take j).map V.int))) ?g0 ?gl ?gs ?gd
      case hp =>
        refine evP_call (ea_cons (ev_var rfl) (ea_cons (ev_var rfl) ea_nil)) fun H1 e1 Q q E => ⟨n, each, rfl, hz1.1, hz1.2, fun ms p' H2 hm hS np' e2 h2 => q _ p' H2 ⟨ms, rfl, hm, hS⟩ np' e2 h2⟩
      case g0 =>
        rintro ys q' H1 ⟨ms, rfl, hml, hSm⟩ nq e1 hq
        refine ⟨v, ms, rfl, hml, hSm, rfl, eH.trans e1, e1 _ _ hc, hq, (ne_of_none hp nq).symm, ?_⟩
        rw [List.take_zero, List.append_nil]
        exact e1 _ _ hp
      case gl => exact fun ys q' j σ2 H2 _ ⟨_, _, _, _, _, _, _, _, hq, _⟩ => sq_of hq
      case gs =>
        rintro ys q' j x' σ2 H2 hj ⟨v, ms, rfl, hml, hSm, rfl, eH2, hc2, hq, nqp, hp2⟩
        obtain ⟨n2, hn2, rfl⟩ := int_at hj
        have hj2 := (List.getElem?_eq_some_iff.mp hn2).1
        refine s_app hp2 (ev_var rfl) (ev_var rfl) (by rw [List.length_map, List.length_append, List.length_take]; omega) fun H3 e3 => ?_
        refine ⟨_, ms, rfl, hml, hSm, rfl, Ex.mut (eH2.trans e3) np0, by rw [upd_ne ncp]; exact e3 _ _ hc2, by rw [upd_ne nqp]; exact e3 _ _ hq, nqp, ?_⟩
        rw [upd_same, List.take_add_one, hn2, ← List.append_assoc, List.map_append (l₁ := ns ++ ms.take j)]
        rfl
      case gd =>
        rintro ys q' σ2 H2 ⟨v, ms, rfl, hml, hSm, rfl, eH2, hc2, hq, nqp, hp2⟩
        rw [List.length_map, List.take_of_length_le (Nat.le_refl _)] at hp2
        exact ⟨_, _, _, rfl, by rw [List.length_append]; omega, hS.app2 hSm, eH2, hc2, hp2⟩
    case hd =>
      rintro σ' H' ⟨u, v, ns, rfl, hl, hS, eH, hc, hp⟩
      rw [List.length_map] at hl
      refine q_while (fun d σ2 H2 => ∃ ns : List Int, σ2 = [some (.ref a), some (.int m), some (.ref c), some (.int each), some (.ref p), u, v] ∧ d = m.toNat - ns.length ∧ ns.length ≤ 70000 ∧ Small ns ∧ Ex H H2 ∧ H2 p = some (.lst (ns.map V.int))) _ ⟨ns, rfl, rfl, by omega, hS, eH, hp⟩ ?_
      rintro d σ2 H2 ⟨ns, rfl, rfl, hl, hS, eH, hp⟩
      refine ⟨decide (((ns.map V.int).length : Int) < m), et_test (ev_op (ev_lenL (ev_var rfl) (sq_of hp)) (ev_var rfl) rv_I0), fun hb H3 e3 => ?_, fun hb H3 e3 => ?_⟩
      · have hb := of_decide_eq_true hb
        rw [List.length_map] at hb
        refine ⟨fun σ3 H4 => ∃ ns' : List Int, σ3 = [some (.ref a), some (.int m), some (.ref c), some (.int each), some (.ref p), u, v] ∧ ns'.length = ns.length + 1 ∧ Small ns' ∧ Ex H H4 ∧ H4 p = some (.lst (ns'.map V.int)), fun σ3 H4 ⟨ns', z1, z2, z3, z4, z5⟩ => ⟨_, by omega, ns', z1, rfl, by omega, z3, z4, z5⟩, ?_⟩
        refine s_app (e3 _ _ hp) (ev_var rfl) ev_c (by rw [List.length_map]; omega) fun H4 e4 => ?_
        exact ⟨ns ++ [0], rfl, by rw [List.length_append]; rfl, hS.app (by decide) (by decide), Ex.mut ((eH.trans e3).trans e4) np0, by rw [upd_same, List.map_append]; rfl⟩
      · have hb := of_decide_eq_false hb
        rw [List.length_map] at hb
        refine s_retL (el_sl (ev_var rfl) eo_none (eo_some (ev_var rfl)) (sq_of (e3 _ _ hp))) fun r H4 nr e4 h4 => ?_
        have em : m = ((m.toNat : Nat) : Int) := by omega
        rw [em, cut_take, ← List.map_take] at h4
        exact q _ r H4 (by rw [List.length_take]; omega) (hS.take _) (fresh_back (eH.trans e3) nr) ((eH.trans e3).trans e4) h4
end

def spIsName : Sp := fun vs H Q _ => ∃ x : Str, vs = [.str x] ∧ x.length ≤ sizeLine ∧ ∀ H', Ex H H' → Q (.bl (isName x)) H'
theorem given_all (l : List Nat) (p : Nat → Bool) : given l.length (fun _ => true) (fun i => V.bl (p (l.getD i 0))) = (l.map p).map V.bl := by
  rw [show (fun i => V.bl (p (l.getD i 0))) = fun i => V.bl ((fun i => p (l.getD i 0)) i) from rfl]
  unfold given
  rw [List.filter_eq_self.mpr (fun _ _ => rfl), List.map_map]
  apply List.ext_getElem
  · simp
  · intro i h1 h2
    have hi : i < l.length := by simpa using h1
    simp [hi, List.getElem?_eq_getElem hi]
theorem ok_is_name (A : At K mg "is_name" s_is_name) (gNS : ∃ u, mg "NAME_SIGNS" = some u ∧ RelV (.str My.signs) u) (gLN : ∃ u, mg "LONGEST_NAME" = some u ∧ RelV (.int 12) u) (mz_len : mg "len" = none) (mz_all : mg "all" = none) :
    Dfn P w K mg base 1 "is_name" p_is_name spIsName := by
  refine dfn_ok A sc_is_name (fun _ _ _ _ _ _ us hl => match us, hl with | [_], _ => rfl) (fun vs H Q E h => ?_) (fun f cdv A outer s H vs Q E hr h => ?_)
  · obtain ⟨x, rfl, _⟩ := h
    rfl
  · obtain ⟨x, rfl, hz, q⟩ := h
    refine ⟨_, (pss_one (ps_ret (pe_and (pe_chain op_le op_le pe_int (pe_callB call_len_str (by rfl) mz_len PySem.boot_len (pa_cons (pv 0) pa_nil)) (C8.pe_gc (v := .int 12) (by rfl) gLN)) (pe_one (pe_callB (show CallR _ _ (rAll K) from (cr_all rfl)) (by rfl) mz_all (by decide +kernel) (pa_cons (pe_lc (own := [("sign", 1)]) (g := gName 1) (tt := tYes) rfl sc_is_name.nd (pi_str (pv 0)) (blkOk_by (N := N_is_name) (sc := defScope s_is_name) (by decide +kernel)) (fun _ _ _ _ _ => (pg_name (i := 1) sc_is_name.nd rfl (Or.inl rfl))) (fun _ _ _ _ _ => pts_nil) (fun _ _ _ _ _ => (pe_cmpR op_in_sign (pv 1) (C8.pe_gc (v := .str My.signs) (by rfl) gNS) (by first | exact nomark _ | rfl)))) pa_nil)))))), ?_⟩
    have hb : (decide ((1 : Int) ≤ (x.length : Int)) && decide ((x.length : Int) ≤ 12)) = decide (1 ≤ x.length ∧ x.length ≤ 12) := by
      rw [← Bool.decide_and]; exact decide_eq_decide.mpr (by omega)
    refine s_ret (ev_is (ev_andV (a := decide (1 ≤ x.length ∧ x.length ≤ 12)) (b := x.cps.toList.all fun c => decide (c ∈ My.signs.cps.toList)) ?ha fun ht => ?hb) rfl) q
    case ha =>
      rw [← hb]
      refine rv_chain (y := .int (x.length : Int)) ev_c (ev_cb (ea_cons (ev_var rfl) ea_nil) fun H1 e _ q => ⟨x, rfl, hz, q H1 (Ex.refl H1)⟩) rv_I0 (fun _ => ev_c) (fun _ => rv_I0)
    case hb =>
      have h12 := (of_decide_eq_true ht).2
      refine ev_is (ev_allL (bs := x.cps.toList.map fun c => decide (c ∈ My.signs.cps.toList)) (el_is (el_lcS (x := x) (fun _ => true) (fun i => V.bl (decide (x.cps.toList.getD i 0 ∈ My.signs.cps.toList))) (ev_var rfl) (by have : x.cps.size = x.length := rfl; omega) (fun _ => rfl) (fun _ _ _ _ _ => fun H2 _ Q q => q H2 (Ex.refl H2)) (fun i c H1 e1 hc _ => ?ee)) ?ll)) ?vv
      case ee =>
        have e : x.cps.toList.getD i 0 = c := by rw [List.getD_eq_getElem?_getD, Array.getElem?_toList, hc]; rfl
        rw [e]
        exact ev_op (ev_var rfl) ev_c fun H1 e1 Q q => ⟨c, My.signs, rfl, rfl, q H1 (Ex.refl H1)⟩
      case ll =>
        exact given_all x.cps.toList fun c => decide (c ∈ My.signs.cps.toList)
      case vv => rw [List.all_map]; rfl

def spIsLot (K : PySem.W.Frag) : Sp := fun vs H Q _ => ∃ (a : Addr) (xs : List Str), vs = [.ref a] ∧ SqT K H a (xs.map V.str) ∧ xs.length ≤ 4000 ∧ (∀ x ∈ xs, PyData.strOk x = true ∧ x.length ≤ sizeLine) ∧ ∀ H', Ex H H' → Q (.bl (isLot xs)) H'
theorem SpIsName {x : Str} {H : Hp} (hx : x.length ≤ sizeLine) : SpV spIsName [.str x] H (.bl (isName x)) := fun H1 e Q q E => ⟨x, rfl, hx, fun H' e' => q H' e'⟩
theorem ok_is_lot (A : At K mg "is_lot" s_is_lot) (D_is_name : Dfn P w K mg base 1 "is_name" p_is_name spIsName) (mz_all : mg "all" = none) (mz_list : mg "list" = none) (mz_set : mg "set" = none) (mz_sorted : mg "sorted" = none) :
    Dfn P w K mg base 2 "is_lot" p_is_lot (spIsLot K) := by
  refine dfn_ok A sc_is_lot (fun _ _ _ _ _ _ us hl => match us, hl with | [_], _ => rfl) (fun vs H Q E h => ?_) (fun f cdv A outer s H vs Q E hr h => ?_)
  · obtain ⟨a, xs, rfl, _⟩ := h
    rfl
  · obtain ⟨a, xs, rfl, hA, hz, hx, q⟩ := h
    refine ⟨_, (pss_one (ps_ret (pe_and (pe_callB (show CallR _ _ (rAll K) from (cr_all rfl)) (by rfl) mz_all (by decide +kernel) (pa_cons (pe_lc (own := [("name", 1)]) (g := gName 1) (tt := tYes) rfl sc_is_lot.nd (show PI _ _ _ (iTup K _) from pi_tup (pv 0)) (blkOk_by (N := N_is_lot) (sc := defScope s_is_lot) (by decide +kernel)) (fun _ _ _ _ _ => (pg_name (i := 1) sc_is_lot.nd rfl (Or.inl rfl))) (fun _ _ _ _ _ => pts_nil) (fun _ _ _ _ _ => (pe_d D_is_name (hr.mono (by decide)) (pa_cons (pv 1) pa_nil)))) pa_nil)) (pe_one (pe_cmpR (show OpR _ _ (rEqD K) from (op_eqD hr.units)) (pe_callTy (show CallR _ _ (rListS K) from call_list_of) (by rfl) mz_list (by decide +kernel) (pa_cons (pv 0) pa_nil)) (pe_callB (cr_sortTab rfl) (by rfl) mz_sorted (by decide +kernel) (pa_cons (pe_callTy (cr_setTx rfl) (by rfl) mz_set (by decide +kernel) (pa_cons (pv 0) pa_nil)) pa_nil)) (by first | exact nomark _ | rfl)))))), ?_⟩
    refine s_ret (ev_is (ev_andV (a := xs.all isName) (b := decide (Rises xs)) ?ha fun ht => ?hb) rfl) q
    case ha =>
      refine ev_is (ev_allL (bs := xs.map isName) (el_is (el_lcU (xs := xs.map V.str) (fun _ => true) (fun i => V.bl (isName (xs.getD i Str.empty))) (ev_var rfl) hA (by rw [List.length_map]; omega) (fun _ => rfl) (fun _ _ _ _ _ => fun H2 _ Q q => q H2 (Ex.refl H2)) (fun i x H1 e1 hi _ => ?ee)) ?ll)) ?vv
      case ee =>
        obtain ⟨y, hy, rfl⟩ : ∃ y, xs[i]? = some y ∧ x = V.str y := by
          rw [List.getElem?_map] at hi
          cases e : xs[i]? with
          | none => rw [e] at hi; cases hi
          | some y => rw [e] at hi; exact ⟨y, rfl, (Option.some.inj hi).symm⟩
        have e : xs.getD i Str.empty = y := by rw [List.getD_eq_getElem?_getD, hy]; rfl
        rw [e]
        exact ev_call (ea_cons (ev_var rfl) ea_nil) (SpIsName (hx y (List.mem_of_getElem? hy)).2)
      case ll =>
        unfold given
        rw [List.filter_eq_self.mpr (fun _ _ => rfl), List.length_map]
        apply List.ext_getElem
        · simp
        · intro i h1 h2
          have hi : i < xs.length := by simpa using h1
          simp [hi, List.getElem?_eq_getElem hi]
      case vv => rw [List.all_map]; rfl
    case hb =>
      refine opG (P1 := fun v H' => ∃ p, v = .ref p ∧ H' p = some (.lst (xs.map V.str))) (P2 := fun v H' => ∃ p ys, v = .ref p ∧ H' p = some (.lst (ys.map V.str)) ∧ ys.Nodup ∧ (∀ k, k ∈ ys ↔ k ∈ xs) ∧ sortedS ys = true) ?h1 ?m1 ?h2 ?hr
      case h1 =>
        intro H1 e Q q
        refine (ea_cons (ev_var rfl) ea_nil : EvA _ _ H1 [.ref a]) H1 (Ex.refl _) _ fun H2 e2 => ⟨a, xs.map V.str, rfl, .inr (ex_t (e.trans e2) hA), fun l nl => q _ _ (e2.trans (Ex.new nl)) ⟨l, rfl, upd_same⟩⟩
      case m1 =>
        rintro v H1 H2 e ⟨p, rfl, hp⟩
        exact ⟨p, rfl, e _ _ hp⟩
      case h2 => exact evG_sortSet (ea_cons (ev_var rfl) ea_nil) hA (by unfold scanBound; omega)
      case hr =>
        rintro u v H1 e ⟨p, rfl, hp⟩ ⟨p2, ys, rfl, hp2, nd, mem, so⟩
        have r := rv_eqD (K := K) (dp_texts (sq_of hp)) (dp_texts (sq_of hp2)) (lay_texts (n := 3) xs fun x h => (hx x h).1).sh (lay_texts (n := 3) ys fun y h => (hx y ((mem y).mp h)).1).sh
        rw [eqv_list_texts, rises_iff nd mem so] at r
        exact r

/-! ### the checks of a book -/
def spDemand : Sp := fun vs H Q _ => ∃ y : V, vs = [.bl true, y] ∧ ∀ v H', Ex H H' → Q v H'
theorem ok_demand (A : At K mg "demand" s_demand) : Dfn P w K mg base 1 "demand" p_demand spDemand := by
  refine dfn_ok A sc_demand (fun _ _ _ _ _ _ us hl => match us, hl with | [_, _], _ => rfl) (fun vs H Q E h => ?_) (fun f cdv A outer s H vs Q E hr h => ?_)
  · obtain ⟨y, rfl, _⟩ := h
    rfl
  · obtain ⟨y, rfl, q⟩ := h
    refine ⟨_, (pss_one (ps_if (pt_not (pt_val (pv 0)))
    (pss_one ps_never)
    pss_nil)), ?_⟩
    exact s_when (b := false) (et_is (et_not (et_B (ev_var rfl))) rfl) (fun h => Bool.noConfusion h) fun _ H1 e1 => q _ H1 e1
theorem en_demand {σ : L2.St} {H : Hp} {E : XK} {t1 t2 : TE} {n : Nat} (h1 : Ev t1 σ H (.bl true)) (h2 : EvG t2 σ H (Tx n)) : EvN (tCall spDemand [] E (tCons t1 (tCons t2 tNil))) σ H :=
  en_call (Ps := [IsW (.bl true), Tx n]) (eaP_cons IsW.m (ea_w h1) (eaP_cons Tx.m h2 eaP_nil)) fun vs H1 e1 hv => by
    cases hv with | cons a1 hv =>
    cases hv with | cons a2 hv =>
    cases hv
    obtain rfl := a1
    exact fun H2 e2 Q q E => ⟨_, rfl, q⟩
def spNames (K : PySem.W.Frag) : Sp := fun vs H Q _ => ∃ (a : Addr) (xs : List V) (ns : List Str), vs = [.ref a] ∧ SqL K H a xs ∧ Named K H xs ns ∧ xs.length ≤ 1000 ∧ ∀ p H', H p = none → Ex H H' → H' p = some (.lst (ns.map V.str)) → Q (.ref p) H'
theorem SpNames {H : Hp} {a : Addr} {xs : List V} {ns : List Str} (h : SqL K H a xs) (hn : Named K H xs ns) (few : xs.length ≤ 1000) : SpL (spNames K) [.ref a] H (ns.map V.str) := fun H1 e Q q E => ⟨a, xs, ns, rfl, ex_l e h, hn.ex e, few, fun p H' np e' hp => q p H' np e' hp⟩
theorem ok_names (A : At K mg "names_of" s_names_of) : Dfn P w K mg base 1 "names_of" p_names_of (spNames K) := by
  refine dfn_ok A sc_names_of (fun _ _ _ _ _ _ us hl => match us, hl with | [_], _ => rfl) (fun vs H Q E h => ?_) (fun f cdv A outer s H vs Q E hr h => ?_)
  · obtain ⟨a, xs, ns, rfl, _⟩ := h
    rfl
  · obtain ⟨a, xs, ns, rfl, hA, hn, few, q⟩ := h
    refine ⟨_, (pss_one (ps_ret (pe_lc (own := [("part", 1)]) (g := gName 1) (tt := tYes) rfl sc_names_of.nd (show PI _ _ _ (iList K _) from pi_list (pv 0)) (blkOk_by (N := N_names_of) (sc := defScope s_names_of) (by decide +kernel)) (fun _ _ _ _ _ => (pg_name (i := 1) sc_names_of.nd rfl (Or.inl rfl))) (fun _ _ _ _ _ => pts_nil) (fun _ _ _ _ _ => (pe_ix (show IxR _ (rIxT K) from ix_tup) (pv 1) pe_int (fun _ _ => rfl)))))), ?_⟩
    refine s_retL (el_is (el_lcL (xs := xs) (fun _ => true) (fun i => V.str (ns.getD i Str.empty)) (ev_var rfl) hA (by omega) (fun _ => rfl) (fun _ _ _ _ _ => tyes) (fun i x H1 e1 hx _ => ?_)) (by rw [hn.len, given_true ns Str.empty V.str])) fun p H1 np e1 hp => q p H1 np e1 hp
    obtain ⟨p, n, r, h1, rfl, h2⟩ := hn.at hx
    rw [show ns.getD i Str.empty = n by rw [List.getD_eq_getElem?_getD, h1]; rfl]
    exact ev_op (ev_var rfl) ev_c (rv_ixT (ex_t e1 h2) (atI_nat (j := 0) rfl))
def spCount (K : PySem.W.Frag) : Sp := fun vs H Q _ => ∃ (a : Addr) (n : Nat) (lo hi : Int) (x : Str), vs = [.ref a, .int lo, .int hi, .str x] ∧ LenIs K H a n ∧ lo ≤ n ∧ (n : Int) ≤ hi ∧ Tn lo ∧ Tn hi ∧ x.length ≤ 100 ∧ ∀ v H', Ex H H' → Q v H'
theorem SpCount {H : Hp} {a : Addr} {n : Nat} {lo hi : Int} {x : Str} (h : LenIs K H a n) (h1 : lo ≤ n) (h2 : (n : Int) ≤ hi) (t1 : Tn lo) (t2 : Tn hi) (hx : x.length ≤ 100) : SpN (spCount K) [.ref a, .int lo, .int hi, .str x] H := fun H1 e Q q E => ⟨a, n, lo, hi, x, rfl, h.ex e, h1, h2, t1, t2, hx, q⟩
theorem ok_count (A : At K mg "check_count" s_check_count) (mz_len : mg "len" = none) (D_demand : Dfn P w K mg base 1 "demand" p_demand spDemand) : Dfn P w K mg base 2 "check_count" p_check_count (spCount K) := by
  refine dfn_ok A sc_check_count (fun _ _ _ _ _ _ us hl => match us, hl with | [_, _, _, _], _ => rfl) (fun vs H Q E h => ?_) (fun f cdv A outer s H vs Q E hr h => ?_)
  · obtain ⟨a, n, lo, hi, x, rfl, _⟩ := h
    rfl
  · obtain ⟨a, n, lo, hi, x, rfl, hA, h1, h2, t1, t2, hx, q⟩ := h
    refine ⟨_, (pss_one (ps_expr (pe_d D_demand (hr.mono (by decide)) (pa_cons (pe_chain op_le op_le (pv 1) (pe_callB (show CallR _ _ (rLenS K) from call_len_seq) (by rfl) mz_len PySem.boot_len (pa_cons (pv 0) pa_nil)) (pv 2)) (pa_cons (pe_joined (.cons pe_str (.cons (pe_fmt (pv 1)) (.cons pe_str (.cons (pe_fmt (pv 2)) (.cons pe_str (.cons (pe_fmt (pv 3)) .nil))))))) pa_nil))))), ?_⟩
    refine s_do (en_demand (n := 200) (ev_is (rv_chain (y := .int (n : Int)) (ev_var rfl) (ev_lenS (ev_var rfl) hA) rv_I0 (fun _ => ev_var rfl) fun _ => rv_I0) (congrArg V.bl (by rw [decide_eq_true h1, decide_eq_true h2]; rfl))) ?js) fun H1 e1 => q _ H1 e1
    exact EvG.imp (tx_join (js_cons (tx_c (n := 20) (by decide +kernel)) (js_cons (tx_fI (ev_var rfl) t1) (js_cons (tx_c (n := 20) (by decide +kernel)) (js_cons (tx_fI (ev_var rfl) t2) (js_cons (tx_c (n := 20) (by decide +kernel)) (js_cons (tx_fS (ev_var rfl) hx (by decide)) js_nil)))))) (by decide)) fun v H' _ ⟨y, e, h⟩ => ⟨y, e, Nat.le_trans h (by decide)⟩
def spNms (K : PySem.W.Frag) : Sp := fun vs H Q _ => ∃ (a : Addr) (xs : List Str) (x : Str), vs = [.ref a, .str x] ∧ SqL K H a (xs.map V.str) ∧ NmsOk xs ∧ x.length ≤ 100 ∧ ∀ v H', Ex H H' → Q v H'
theorem SpNms {H : Hp} {a : Addr} {xs : List Str} {x : Str} (h : SqL K H a (xs.map V.str)) (ok : NmsOk xs) (hx : x.length ≤ 100) : SpN (spNms K) [.ref a, .str x] H := fun H1 e Q q E => ⟨a, xs, x, rfl, ex_l e h, ok, hx, q⟩
theorem ok_nms (A : At K mg "check_names" s_check_names) (mz_len : mg "len" = none) (mz_all : mg "all" = none) (mz_set : mg "set" = none) (D_is_name : Dfn P w K mg base 1 "is_name" p_is_name spIsName) (D_demand : Dfn P w K mg base 1 "demand" p_demand spDemand) : Dfn P w K mg base 2 "check_names" p_check_names (spNms K) := by
  refine dfn_ok A sc_check_names (fun _ _ _ _ _ _ us hl => match us, hl with | [_, _], _ => rfl) (fun vs H Q E h => ?_) (fun f cdv A outer s H vs Q E hr h => ?_)
  · obtain ⟨a, xs, x, rfl, _⟩ := h
    rfl
  · obtain ⟨a, xs, x, rfl, hA, ok, hx, q⟩ := h
    refine ⟨_, (pss_cons (ps_expr (pe_d D_demand (hr.mono (by decide)) (pa_cons (pe_callB (show CallR _ _ (rAll K) from (cr_all rfl)) (by rfl) mz_all (by decide +kernel) (pa_cons (pe_lc (own := [("name", 2)]) (g := gName 2) (tt := tYes) rfl sc_check_names.nd (show PI _ _ _ (iList K _) from pi_list (pv 0)) (blkOk_by (N := N_check_names) (sc := defScope s_check_names) (by decide +kernel)) (fun _ _ _ _ _ => (pg_name (i := 2) sc_check_names.nd rfl (Or.inl rfl))) (fun _ _ _ _ _ => pts_nil) (fun _ _ _ _ _ => (pe_d D_is_name (hr.mono (by decide)) (pa_cons (pv 2) pa_nil)))) pa_nil)) (pa_cons (pe_joined (.cons pe_str (.cons (pe_fmt (pv 1)) .nil))) pa_nil))))
  (pss_one (ps_expr (pe_d D_demand (hr.mono (by decide)) (pa_cons (pe_cmpR op_eq (pe_callB (cr_lenTab (kk := PySem.strKind _ _)) (by rfl) mz_len PySem.boot_len (pa_cons (pe_callTy (cr_setTx rfl) (by rfl) mz_set (by decide +kernel) (pa_cons (pv 0) pa_nil)) pa_nil)) (pe_callB (show CallR _ _ (rLenS K) from call_len_seq) (by rfl) mz_len PySem.boot_len (pa_cons (pv 0) pa_nil)) (by first | exact nomark _ | rfl)) (pa_cons (pe_joined (.cons pe_str (.cons (pe_fmt (pv 1)) .nil))) pa_nil)))))), ?_⟩
    have few := ok.few
    refine q_do (en_demand (n := 200) (ev_is (ev_allTxL isName (ev_var rfl) hA (by omega) (fun _ => rfl) fun y hy H1 e1 => ev_call (ea_cons (ev_var rfl) ea_nil) (SpIsName (isName_sz (ok.all y hy)))) (congrArg V.bl (List.all_eq_true.mpr ok.all))) ?j1) fun H1 e1 => ?_
    case j1 => exact EvG.imp (tx_join (js_cons (tx_c (n := 40) (by decide +kernel)) (js_cons (tx_fS (ev_var rfl) hx (by decide)) js_nil)) (by decide)) fun v H' _ ⟨y, e, h⟩ => ⟨y, e, Nat.le_trans h (by decide)⟩
    refine s_do (en_demand (n := 200) (ev_is (ev_op (ev_lenTx (n := xs.length) (ev_var rfl) (ex_l e1 hA) (by unfold scanBound; omega) fun zs nz mz => same_many id xs zs ok.nd nz (fun _ _ _ _ h => h) fun y => ⟨fun h => ⟨y, (mz y).mp h, rfl⟩, fun ⟨z, h, e⟩ => (mz y).mpr (e ▸ h)⟩) (ev_len (ev_var rfl) (ex_l e1 hA)) (rv_eq rfl)) (congrArg V.bl (by rw [List.length_map]; exact decide_eq_true rfl))) ?j2) fun H2 e2 => q _ H2 (e1.trans e2)
    case j2 => exact EvG.imp (tx_join (js_cons (tx_c (n := 40) (by decide +kernel)) (js_cons (tx_fS (ev_var rfl) hx (by decide)) js_nil)) (by decide)) fun v H' _ ⟨y, e, h⟩ => ⟨y, e, Nat.le_trans h (by decide)⟩
def spWidth (K : PySem.W.Frag) : Sp := fun vs H Q _ => ∃ (a : Addr) (n : Nat) (x : Str), vs = [.ref a, .int (n : Int), .str x] ∧ LenIs K H a n ∧ Tn (n : Int) ∧ x.length ≤ 100 ∧ ∀ v H', Ex H H' → Q v H'
theorem SpWidth {H : Hp} {a : Addr} {n : Nat} {x : Str} (h : LenIs K H a n) (t1 : Tn (n : Int)) (hx : x.length ≤ 100) : SpN (spWidth K) [.ref a, .int (n : Int), .str x] H := fun H1 e Q q E => ⟨a, n, x, rfl, h.ex e, t1, hx, q⟩
theorem ok_width (A : At K mg "check_width" s_check_width) (mz_len : mg "len" = none) (D_demand : Dfn P w K mg base 1 "demand" p_demand spDemand) : Dfn P w K mg base 2 "check_width" p_check_width (spWidth K) := by
  refine dfn_ok A sc_check_width (fun _ _ _ _ _ _ us hl => match us, hl with | [_, _, _], _ => rfl) (fun vs H Q E h => ?_) (fun f cdv A outer s H vs Q E hr h => ?_)
  · obtain ⟨a, n, x, rfl, _⟩ := h
    rfl
  · obtain ⟨a, n, x, rfl, hA, t1, hx, q⟩ := h
    refine ⟨_, (pss_one (ps_expr (pe_d D_demand (hr.mono (by decide)) (pa_cons (pe_cmpR op_eq (pe_callB (show CallR _ _ (rLenS K) from call_len_seq) (by rfl) mz_len PySem.boot_len (pa_cons (pv 0) pa_nil)) (pv 1) (by first | exact nomark _ | rfl)) (pa_cons (pe_joined (.cons pe_str (.cons (pe_fmt (pv 2)) (.cons pe_str (.cons (pe_fmt (pv 1)) (.cons pe_str .nil)))))) pa_nil))))), ?_⟩
    refine s_do (en_demand (n := 200) (ev_is (ev_op (ev_lenS (ev_var rfl) hA) (ev_var rfl) (rv_eq rfl)) (congrArg V.bl (decide_eq_true rfl))) ?js) fun H1 e1 => q _ H1 e1
    exact EvG.imp (tx_join (js_cons (tx_c (n := 20) (by decide +kernel)) (js_cons (tx_fS (ev_var rfl) hx (by decide)) (js_cons (tx_c (n := 20) (by decide +kernel)) (js_cons (tx_fI (ev_var rfl) t1) (js_cons (tx_c (n := 20) (by decide +kernel)) js_nil))))) (by decide)) fun v H' _ ⟨y, e, h⟩ => ⟨y, e, Nat.le_trans h (by decide)⟩
def spParts (K : PySem.W.Frag) : Sp := fun vs H Q _ => ∃ (a : Addr) (xs : List V) (ns : List Str) (lo hi : Int) (n : Nat) (x : Str), vs = [.ref a, .int lo, .int hi, .int (n : Int), .str x] ∧ SqL K H a xs ∧ Named K H xs ns ∧ NmsOk ns ∧ (∀ v ∈ xs, ∃ p, v = .ref p ∧ LenIs K H p n) ∧ lo ≤ xs.length ∧ (xs.length : Int) ≤ hi ∧ Tn lo ∧ Tn hi ∧ Tn (n : Int) ∧ x.length ≤ 100 ∧ ∀ v H', Ex H H' → Q v H'
theorem SpParts {H : Hp} {a : Addr} {xs : List V} {ns : List Str} {lo hi : Int} {n : Nat} {x : Str} (h : SqL K H a xs) (hn : Named K H xs ns) (ok : NmsOk ns) (hw : ∀ v ∈ xs, ∃ p, v = .ref p ∧ LenIs K H p n) (h1 : lo ≤ xs.length) (h2 : (xs.length : Int) ≤ hi) (t1 : Tn lo) (t2 : Tn hi) (t3 : Tn (n : Int)) (hx : x.length ≤ 100) : SpN (spParts K) [.ref a, .int lo, .int hi, .int (n : Int), .str x] H := fun H1 e Q q E => ⟨a, xs, ns, lo, hi, n, x, rfl, ex_l e h, hn.ex e, ok, (fun v hv => by obtain ⟨p, e1, l⟩ := hw v hv; exact ⟨p, e1, l.ex e⟩), h1, h2, t1, t2, t3, hx, q⟩
theorem ok_parts (A : At K mg "check_parts" s_check_parts) (D_check_count : Dfn P w K mg base 2 "check_count" p_check_count (spCount K)) (D_check_width : Dfn P w K mg base 2 "check_width" p_check_width (spWidth K)) (D_check_names : Dfn P w K mg base 2 "check_names" p_check_names (spNms K)) (D_names_of : Dfn P w K mg base 1 "names_of" p_names_of (spNames K)) : Dfn P w K mg base 3 "check_parts" p_check_parts (spParts K) := by
  refine dfn_ok A sc_check_parts (fun _ _ _ _ _ _ us hl => match us, hl with | [_, _, _, _, _], _ => rfl) (fun vs H Q E h => ?_) (fun f cdv A outer s H vs Q E hr h => ?_)
  · obtain ⟨a, xs, ns, lo, hi, n, x, rfl, _⟩ := h
    rfl
  · obtain ⟨a, xs, ns, lo, hi, n, x, rfl, hA, hn, ok, hw, h1, h2, t1, t2, t3, hx, q⟩ := h
    refine ⟨_, (pss_cons (ps_expr (pe_d D_check_count (hr.mono (by decide)) (pa_cons (pv 0) (pa_cons (pv 1) (pa_cons (pv 2) (pa_cons (pv 4) pa_nil))))))
  (pss_cons (ps_for PassesOwn.never rfl (show PI _ _ _ (iList K _) from pi_list (pv 0)) (pg_name (i := 5) sc_check_parts.nd rfl (Or.inl rfl))
    (pss_one (ps_expr (pe_d D_check_width (hr.mono (by decide)) (pa_cons (pv 5) (pa_cons (pv 3) (pa_cons (pv 4) pa_nil)))))))
  (pss_one (ps_expr (pe_d D_check_names (hr.mono (by decide)) (pa_cons (pe_d D_names_of (hr.mono (by decide)) (pa_cons (pv 0) pa_nil)) (pa_cons (pv 4) pa_nil))))))), ?_⟩
    have few := ok.few
    have ln := hn.len
    refine q_do (en_callA (ea_cons (ev_var rfl) (ea_cons (ev_var rfl) (ea_cons (ev_var rfl) (ea_cons (ev_var rfl) ea_nil)))) (SpCount ⟨xs, .inl hA, rfl⟩ h1 h2 t1 t2 hx)) fun H1 e1 => ?_
    refine q_forLn (a := a) (xs := xs) (ev_var rfl) (ex_l e1 hA) (fun _ σ' H' => ∃ u, σ' = [some (.ref a), some (.int lo), some (.int hi), some (.int (n : Int)), some (.str x), u] ∧ Ex H H') (fun H2 e2 => ⟨_, rfl, e1.trans e2⟩) (fun _ _ _ _ ⟨_, _, e⟩ => ex_l e hA) ?hs ?hd
    case hs =>
      rintro i v σ' H2 hv ⟨u, rfl, e2⟩
      obtain ⟨p, rfl, hl⟩ := hw v (List.mem_of_getElem? hv)
      exact s_do (en_callA (ea_cons (ev_var rfl) (ea_cons (ev_var rfl) (ea_cons (ev_var rfl) ea_nil))) (SpWidth (hl.ex e2) t3 hx)) fun H3 e3 => ⟨_, rfl, e2.trans e3⟩
    case hd =>
      rintro σ' H2 ⟨u, rfl, e2⟩
      refine s_do (en_call (Ps := [fun v H' => ∃ p, v = .ref p ∧ H' p = some (.lst (ns.map V.str)), IsW (.str x)]) (eaP_cons (fun _ _ _ e ⟨p, h1, h2⟩ => ⟨p, h1, e _ _ h2⟩) (EvG.imp (EvL.g (el_call (ea_cons (ev_var rfl) ea_nil) (SpNames (ex_l e2 hA) (hn.ex e2) (by omega)))) fun v H' _ ⟨p, h1, _, h2⟩ => ⟨p, h1, h2⟩) (eaP_cons IsW.m (ea_w (ev_var rfl)) eaP_nil)) fun vs H3 e3 hv => ?_) fun H3 e3 => q _ H3 (e2.trans e3)
      cases hv with | cons a1 hv =>
      cases hv with | cons a2 hv =>
      cases hv
      obtain rfl := a2
      obtain ⟨p, rfl, hp⟩ := a1
      exact SpNms (sq_of hp) ok hx
def spLotC (K : PySem.W.Frag) : Sp := fun vs H Q _ => ∃ (l n : Addr) (lot ns : List Str) (x : Str), vs = [.ref l, .ref n, .str x] ∧ SqT K H l (lot.map V.str) ∧ SqL K H n (ns.map V.str) ∧ LotOk ns lot ∧ x.length ≤ 100 ∧ ∀ v H', Ex H H' → Q v H'
theorem SpLotC {H : Hp} {l n : Addr} {lot ns : List Str} {x : Str} (hl : SqT K H l (lot.map V.str)) (hn : SqL K H n (ns.map V.str)) (ok : LotOk ns lot) (hx : x.length ≤ 100) : SpN (spLotC K) [.ref l, .ref n, .str x] H := fun H1 e Q q E => ⟨l, n, lot, ns, x, rfl, ex_t e hl, ex_l e hn, ok, hx, q⟩
theorem SpIsLot {H : Hp} {a : Addr} {xs : List Str} (h : SqT K H a (xs.map V.str)) (few : xs.length ≤ 4000) (hx : ∀ x ∈ xs, PyData.strOk x = true ∧ x.length ≤ sizeLine) : SpV (spIsLot K) [.ref a] H (.bl (isLot xs)) := fun H1 e Q q E => ⟨a, xs, rfl, ex_t e h, few, hx, fun H' e' => q H' e'⟩
theorem ok_lotc (A : At K mg "check_lot" s_check_lot) (mz_all : mg "all" = none) (D_is_lot : Dfn P w K mg base 2 "is_lot" p_is_lot (spIsLot K)) (D_demand : Dfn P w K mg base 1 "demand" p_demand spDemand) : Dfn P w K mg base 3 "check_lot" p_check_lot (spLotC K) := by
  refine dfn_ok A sc_check_lot (fun _ _ _ _ _ _ us hl => match us, hl with | [_, _, _], _ => rfl) (fun vs H Q E h => ?_) (fun f cdv A outer s H vs Q E hr h => ?_)
  · obtain ⟨l, n, lot, ns, x, rfl, _⟩ := h
    rfl
  · obtain ⟨l, n, lot, ns, x, rfl, hl, hn, ok, hx, q⟩ := h
    refine ⟨_, (pss_cons (ps_expr (pe_d D_demand (hr.mono (by decide)) (pa_cons (pe_d D_is_lot (hr.mono (by decide)) (pa_cons (pv 0) pa_nil)) (pa_cons (pe_joined (.cons pe_str (.cons (pe_fmt (pv 2)) .nil))) pa_nil))))
  (pss_one (ps_expr (pe_d D_demand (hr.mono (by decide)) (pa_cons (pe_callB (show CallR _ _ (rAll K) from (cr_all rfl)) (by rfl) mz_all (by decide +kernel) (pa_cons (pe_lc (own := [("name", 3)]) (g := gName 3) (tt := tYes) rfl sc_check_lot.nd (show PI _ _ _ (iTup K _) from pi_tup (pv 0)) (blkOk_by (N := N_check_lot) (sc := defScope s_check_lot) (by decide +kernel)) (fun _ _ _ _ _ => (pg_name (i := 3) sc_check_lot.nd rfl (Or.inl rfl))) (fun _ _ _ _ _ => pts_nil) (fun _ _ _ _ _ => (pe_cmpR (show OpR _ _ (rIn K false) from op_in_seq) (pv 3) (pv 1) (by first | exact nomark _ | rfl)))) pa_nil)) (pa_cons (pe_joined (.cons pe_str (.cons (pe_fmt (pv 2)) .nil))) pa_nil)))))), ?_⟩
    have few := ok.few
    refine q_do (en_demand (n := 200) (ev_is (ev_call (ea_cons (ev_var rfl) ea_nil) (SpIsLot hl (by omega) fun y hy => ⟨(isName_gt (ok.nm y hy)).1, isName_sz (ok.nm y hy)⟩)) (congrArg V.bl ok.lot)) ?j1) fun H1 e1 => ?_
    case j1 => exact EvG.imp (tx_join (js_cons (tx_c (n := 40) (by decide +kernel)) (js_cons (tx_fS (ev_var rfl) hx (by decide)) js_nil)) (by decide)) fun v H' _ ⟨y, e, h⟩ => ⟨y, e, Nat.le_trans h (by decide)⟩
    refine s_do (en_demand (n := 200) (ev_is (ev_allTxT (fun y => decide (y ∈ ns)) (ev_var rfl) (ex_t e1 hl) (by omega) (fun _ => rfl) fun y hy H2 e2 => ev_is (ev_op (ev_var rfl) (ev_var rfl) (rv_isL (ex_l (e1.trans e2) hn) rfl (flat_txs _))) (congrArg V.bl inV_txs)) (congrArg V.bl (List.all_eq_true.mpr fun y hy => decide_eq_true (ok.inn y hy)))) ?j2) fun H2 e2 => q _ H2 (e1.trans e2)
    case j2 => exact EvG.imp (tx_join (js_cons (tx_c (n := 40) (by decide +kernel)) (js_cons (tx_fS (ev_var rfl) hx (by decide)) js_nil)) (by decide)) fun v H' _ ⟨y, e, h⟩ => ⟨y, e, Nat.le_trans h (by decide)⟩
def spEffC (K : PySem.W.Frag) : Sp := fun vs H Q _ => ∃ (po pf n : Addr) (on off ns : List Str) (x : Str), vs = [.ref po, .ref pf, .ref n, .str x] ∧ SqT K H po (on.map V.str) ∧ SqT K H pf (off.map V.str) ∧ SqL K H n (ns.map V.str) ∧ EffOk ns on off ∧ x.length ≤ 100 ∧ ∀ v H', Ex H H' → Q v H'
theorem SpEffC {H : Hp} {po pf n : Addr} {on off ns : List Str} {x : Str} (ho : SqT K H po (on.map V.str)) (hf : SqT K H pf (off.map V.str)) (hn : SqL K H n (ns.map V.str)) (ok : EffOk ns on off) (hx : x.length ≤ 100) : SpN (spEffC K) [.ref po, .ref pf, .ref n, .str x] H := fun H1 e Q q E => ⟨po, pf, n, on, off, ns, x, rfl, ex_t e ho, ex_t e hf, ex_l e hn, ok, hx, q⟩
theorem ok_effc (A : At K mg "check_effect" s_check_effect) (mz_any : mg "any" = none) (D_check_lot : Dfn P w K mg base 3 "check_lot" p_check_lot (spLotC K)) (D_demand : Dfn P w K mg base 1 "demand" p_demand spDemand) : Dfn P w K mg base 4 "check_effect" p_check_effect (spEffC K) := by
  refine dfn_ok A sc_check_effect (fun _ _ _ _ _ _ us hl => match us, hl with | [_, _, _, _], _ => rfl) (fun vs H Q E h => ?_) (fun f cdv A outer s H vs Q E hr h => ?_)
  · obtain ⟨po, pf, n, on, off, ns, x, rfl, _⟩ := h
    rfl
  · obtain ⟨po, pf, n, on, off, ns, x, rfl, ho, hf, hn, ok, hx, q⟩ := h
    refine ⟨_, (pss_cons (ps_expr (pe_d D_check_lot (hr.mono (by decide)) (pa_cons (pv 0) (pa_cons (pv 2) (pa_cons (pv 3) pa_nil)))))
  (pss_cons (ps_expr (pe_d D_check_lot (hr.mono (by decide)) (pa_cons (pv 1) (pa_cons (pv 2) (pa_cons (pv 3) pa_nil)))))
  (pss_one (ps_expr (pe_d D_demand (hr.mono (by decide)) (pa_cons (pe_not (pe_callB (show CallR _ _ (rAny K) from (cr_any rfl)) (by rfl) mz_any (by decide +kernel) (pa_cons (pe_lc (own := [("hold", 4)]) (g := gName 4) (tt := tYes) rfl sc_check_effect.nd (show PI _ _ _ (iTup K _) from pi_tup (pv 0)) (blkOk_by (N := N_check_effect) (sc := defScope s_check_effect) (by decide +kernel)) (fun _ _ _ _ _ => (pg_name (i := 4) sc_check_effect.nd rfl (Or.inl rfl))) (fun _ _ _ _ _ => pts_nil) (fun _ _ _ _ _ => (pe_cmpR (show OpR _ _ (rIn K false) from op_in_seq) (pv 4) (pv 1) (by first | exact nomark _ | rfl)))) pa_nil))) (pa_cons (pe_joined (.cons pe_str (.cons (pe_fmt (pv 3)) .nil))) pa_nil))))))), ?_⟩
    have few := ok.hon.few
    refine q_do (en_callA (ea_cons (ev_var rfl) (ea_cons (ev_var rfl) (ea_cons (ev_var rfl) ea_nil))) (SpLotC ho hn ok.hon hx)) fun H1 e1 => ?_
    refine q_do (en_callA (ea_cons (ev_var rfl) (ea_cons (ev_var rfl) (ea_cons (ev_var rfl) ea_nil))) (SpLotC (ex_t e1 hf) (ex_l e1 hn) ok.hoff hx)) fun H2 e2 => ?_
    have e12 := e1.trans e2
    refine s_do (en_demand (n := 200) (ev_is (ev_notV (ev_anyTxT (fun y => decide (y ∈ off)) (ev_var rfl) (ex_t e12 ho) (by omega) (fun _ => rfl) fun y hy H3 e3 => ev_is (ev_op (ev_var rfl) (ev_var rfl) (rv_isT (ex_t (e12.trans e3) hf) rfl (flat_txs _))) (congrArg V.bl inV_txs))) (congrArg V.bl (by
      rw [Bool.not_eq_true', List.any_eq_false]
      exact fun y hy h => ok.apart y hy (of_decide_eq_true h)))) ?j2) fun H3 e3 => q _ H3 (e12.trans e3)
    case j2 => exact EvG.imp (tx_join (js_cons (tx_c (n := 40) (by decide +kernel)) (js_cons (tx_fS (ev_var rfl) hx (by decide)) js_nil)) (by decide)) fun v H' _ ⟨y, e, h⟩ => ⟨y, e, Nat.le_trans h (by decide)⟩
def spToC (K : PySem.W.Frag) : Sp := fun vs H Q _ => ∃ (o : Option Str) (n : Addr) (ns : List Str) (x : Str), vs = [toV o, .ref n, .str x] ∧ SqL K H n (ns.map V.str) ∧ ToOk ns o ∧ x.length ≤ 100 ∧ ∀ v H', Ex H H' → Q v H'
theorem SpToC {H : Hp} {o : Option Str} {n : Addr} {ns : List Str} {x : Str} (hn : SqL K H n (ns.map V.str)) (ok : ToOk ns o) (hx : x.length ≤ 100) : SpN (spToC K) [toV o, .ref n, .str x] H := fun H1 e Q q E => ⟨o, n, ns, x, rfl, ex_l e hn, ok, hx, q⟩
theorem ok_toc (A : At K mg "check_target" s_check_target) (D_demand : Dfn P w K mg base 1 "demand" p_demand spDemand) : Dfn P w K mg base 2 "check_target" p_check_target (spToC K) := by
  refine dfn_ok A sc_check_target (fun _ _ _ _ _ _ us hl => match us, hl with | [_, _, _], _ => rfl) (fun vs H Q E h => ?_) (fun f cdv A outer s H vs Q E hr h => ?_)
  · obtain ⟨o, n, ns, x, rfl, _⟩ := h
    rfl
  · obtain ⟨o, n, ns, x, rfl, hn, ok, hx, q⟩ := h
    refine ⟨_, (pss_one (ps_expr (pe_d D_demand (hr.mono (by decide)) (pa_cons (pe_or (pe_cmpR op_isN (pv 0) pe_non (by first | exact nomark _ | rfl)) (pe_one (pe_cmpR (show OpR _ _ (rIn K false) from op_in_seq) (pv 0) (pv 1) (by first | exact nomark _ | rfl)))) (pa_cons (pe_joined (.cons pe_str (.cons (pe_fmt (pv 2)) .nil))) pa_nil))))), ?_⟩
    refine s_do (en_demand (n := 200) ?cond ?js) fun H1 e1 => q _ H1 e1
    case js => exact EvG.imp (tx_join (js_cons (tx_c (n := 40) (by decide +kernel)) (js_cons (tx_fS (ev_var rfl) hx (by decide)) js_nil)) (by decide)) fun v H' _ ⟨y, e, h⟩ => ⟨y, e, Nat.le_trans h (by decide)⟩
    case cond =>
      cases o with
      | none => exact ev_is (ev_orV (a := true) (b := true) (ev_is (ev_op (ev_var rfl) ev_c rv_isN0) rfl) fun h => Bool.noConfusion h) rfl
      | some y => exact ev_is (ev_orV (a := false) (b := true) (ev_is (ev_op (ev_var rfl) ev_c rv_isN0) rfl) fun _ => ev_is (ev_op (ev_var rfl) (ev_var rfl) (rv_isL (ex_l (Ex.refl _) hn) rfl (flat_txs _))) (congrArg V.bl (inV_txs.trans (decide_eq_true (ok y rfl))))) rfl

theorem tn_of {i : Int} (h : (decide (i.natAbs.log2 < 1920) && decide ((toString i : Str).length ≤ 20)) = true) : Tn i := by
  rw [Bool.and_eq_true] at h
  exact ⟨of_decide_eq_true h.1, of_decide_eq_true h.2⟩
def spHoldsC (K : PySem.W.Frag) : Sp := fun vs H Q _ => ∃ (a : Addr) (xs : List Str), vs = [.ref a] ∧ SqL K H a (xs.map V.str) ∧ NmsOk xs ∧ 1 ≤ xs.length ∧ xs.length ≤ 6 ∧ ∀ v H', Ex H H' → Q v H'
theorem ok_holdsc (A : At K mg "check_holds" s_check_holds) (gMOST_HOLDS : ∃ u, mg "MOST_HOLDS" = some u ∧ RelV (.int 6) u) (D_check_count : Dfn P w K mg base 2 "check_count" p_check_count (spCount K)) (D_check_names : Dfn P w K mg base 2 "check_names" p_check_names (spNms K)) : Dfn P w K mg base 3 "check_holds" p_check_holds (spHoldsC K) := by
  refine dfn_ok A sc_check_holds (fun _ _ _ _ _ _ us hl => match us, hl with | [_], _ => rfl) (fun vs H Q E h => ?_) (fun f cdv A outer s H vs Q E hr h => ?_)
  · obtain ⟨a, xs, rfl, _⟩ := h
    rfl
  · obtain ⟨a, xs, rfl, hA, ok, h1, h6, q⟩ := h
    refine ⟨_, (pss_cons (ps_expr (pe_d D_check_count (hr.mono (by decide)) (pa_cons (pv 0) (pa_cons pe_int (pa_cons (C8.pe_gc (v := .int 6) (by rfl) gMOST_HOLDS) (pa_cons pe_str pa_nil))))))
  (pss_one (ps_expr (pe_d D_check_names (hr.mono (by decide)) (pa_cons (pv 0) (pa_cons pe_str pa_nil)))))), ?_⟩
    refine q_do (en_callA (ea_cons (ev_var rfl) (ea_cons ev_c (ea_cons ev_c (ea_cons ev_c ea_nil)))) (SpCount (n := xs.length) ⟨_, .inl hA, List.length_map ..⟩ (by omega) (by omega) (tn_of (by decide +kernel)) (tn_of (by decide +kernel)) (by decide +kernel))) fun H1 e1 => ?_
    exact s_do (en_callA (ea_cons (ev_var rfl) (ea_cons ev_c ea_nil)) (SpNms (ex_l e1 hA) ok (by decide +kernel))) fun H2 e2 => q _ H2 (e1.trans e2)
theorem wide {α : Type} (D : α → PyData) (n : Nat) {H : Hp} (hD : ∀ (x : α) (v : V), Dp K H v (D x) → ∃ p xs, v = .ref p ∧ SqT K H p xs ∧ xs.length = n) {vs : List V} {xs : List α} (all : DpAll K H vs (xs.map D)) : ∀ v ∈ vs, ∃ p, v = .ref p ∧ LenIs K H p n := fun v hv => by
  obtain ⟨i, hi⟩ := List.mem_iff_getElem?.mp hv
  obtain ⟨x, _, _, dx⟩ := item_at D all hi
  obtain ⟨p, ys, rfl, h, l⟩ := hD x v dx
  exact ⟨p, rfl, ys, .inr h, l⟩
def spModesC (K : PySem.W.Frag) : Sp := fun vs H Q _ => ∃ (a n : Addr) (xs : List V) (ms : List Md) (hs : List Str), vs = [.ref a, .ref n] ∧ SqL K H a xs ∧ DpAll K H xs (ms.map mdD) ∧ SqL K H n (hs.map V.str) ∧ NmsOk (ms.map fun m => m.1) ∧ 1 ≤ ms.length ∧ ms.length ≤ 5 ∧ (∀ m ∈ ms, EffOk hs m.2.1 m.2.2) ∧ ∀ v H', Ex H H' → Q v H'
theorem ok_modesc (A : At K mg "check_modes" s_check_modes) (gMOST_MODES : ∃ u, mg "MOST_MODES" = some u ∧ RelV (.int 5) u) (D_check_parts : Dfn P w K mg base 3 "check_parts" p_check_parts (spParts K)) (D_check_effect : Dfn P w K mg base 4 "check_effect" p_check_effect (spEffC K)) : Dfn P w K mg base 5 "check_modes" p_check_modes (spModesC K) := by
  refine dfn_ok A sc_check_modes (fun _ _ _ _ _ _ us hl => match us, hl with | [_, _], _ => rfl) (fun vs H Q E h => ?_) (fun f cdv A outer s H vs Q E hr h => ?_)
  · obtain ⟨a, n, xs, ms, hs, rfl, _⟩ := h
    rfl
  · obtain ⟨a, n, xs, ms, hs, rfl, hA, hd, hn, ok, h1, h5, eff, q⟩ := h
    refine ⟨_, (pss_cons (ps_expr (pe_d D_check_parts (hr.mono (by decide)) (pa_cons (pv 0) (pa_cons pe_int (pa_cons (C8.pe_gc (v := .int 5) (by rfl) gMOST_MODES) (pa_cons pe_int (pa_cons pe_str pa_nil)))))))
  (pss_one (ps_for PassesOwn.never rfl (show PI _ _ _ (iList K _) from pi_list (pv 0)) (show PG _ _ (gTup K 3 _) from pg_tup rfl (pgs_cons (pg_name (i := 2) sc_check_modes.nd rfl (Or.inl rfl)) (pgs_cons (pg_name (i := 3) sc_check_modes.nd rfl (Or.inl rfl)) (pgs_cons (pg_name (i := 4) sc_check_modes.nd rfl (Or.inl rfl)) pgs_nil))))
    (pss_one (ps_expr (pe_d D_check_effect (hr.mono (by decide)) (pa_cons (pv 3) (pa_cons (pv 4) (pa_cons (pv 1) (pa_cons pe_str pa_nil)))))))))), ?_⟩
    have lx : xs.length = ms.length := by rw [dpa_len hd, List.length_map]
    refine q_do (en_callA (ea_cons (ev_var rfl) (ea_cons ev_c (ea_cons ev_c (ea_cons ev_c (ea_cons ev_c ea_nil))))) (SpParts (n := 3) hA (named_of mdD (fun m : Md => m.1) (fun m => ⟨_, rfl⟩) hd) ok (wide mdD 3 (fun m v d => by obtain ⟨p, po, pf, rfl, h, _⟩ := md_inv d; exact ⟨p, _, rfl, h, rfl⟩) hd) (by omega) (by omega) (tn_of (by decide +kernel)) (tn_of (by decide +kernel)) (tn_of (by decide +kernel)) (by decide +kernel))) fun H1 e1 => ?_
    refine s_forL (a := a) (xs := xs) (ev_var rfl) (ex_l e1 hA) (fun _ σ' H' => ∃ u2 u3 u4, σ' = [some (.ref a), some (.ref n), u2, u3, u4] ∧ Ex H H') (fun H2 e2 => ⟨_, _, _, rfl, e1.trans e2⟩) (fun _ _ _ _ ⟨_, _, _, _, e⟩ => ex_l e hA) ?hs ?hd
    case hd =>
      rintro σ' H2 ⟨_, _, _, rfl, e2⟩
      exact q _ H2 e2
    case hs =>
      rintro i v σ' H2 hv ⟨_, _, _, rfl, e2⟩
      obtain ⟨m, _, hm, dm⟩ := item_at mdD hd hv
      obtain ⟨p, po, pf, rfl, hp, ho, hf⟩ := md_inv dm
      exact g_t3 (ex_t e2 hp) (s_do (en_callA (ea_cons (ev_var rfl) (ea_cons (ev_var rfl) (ea_cons (ev_var rfl) (ea_cons ev_c ea_nil)))) (SpEffC (ex_t e2 ho) (ex_t e2 hf) (ex_l e2 hn) (eff m hm) (by decide +kernel))) fun H3 e3 => ⟨_, _, _, rfl, e2.trans e3⟩)
def spBarC (K : PySem.W.Frag) : Sp := fun vs H Q _ => ∃ (a n : Addr) (xs : List V) (bs : List (List Str)) (hs : List Str), vs = [.ref a, .ref n] ∧ SqL K H a xs ∧ DpAll K H xs (bs.map tD) ∧ SqL K H n (hs.map V.str) ∧ bs.length ≤ 8 ∧ bs.Nodup ∧ (∀ l ∈ bs, LotOk hs l ∧ 2 ≤ l.length) ∧ ∀ v H', Ex H H' → Q v H'
theorem ok_barc (A : At K mg "check_barred" s_check_barred) (mz_len : mg "len" = none) (mz_set : mg "set" = none) (gMOST_BARRED : ∃ u, mg "MOST_BARRED" = some u ∧ RelV (.int 8) u) (D_check_count : Dfn P w K mg base 2 "check_count" p_check_count (spCount K)) (D_check_lot : Dfn P w K mg base 3 "check_lot" p_check_lot (spLotC K)) (D_demand : Dfn P w K mg base 1 "demand" p_demand spDemand) : Dfn P w K mg base 4 "check_barred" p_check_barred (spBarC K) := by
  refine dfn_ok A sc_check_barred (fun _ _ _ _ _ _ us hl => match us, hl with | [_, _], _ => rfl) (fun vs H Q E h => ?_) (fun f cdv A outer s H vs Q E hr h => ?_)
  · obtain ⟨a, n, xs, bs, hs, rfl, _⟩ := h
    rfl
  · obtain ⟨a, n, xs, bs, hs, rfl, hA, hd, hn, h8, nd, ok, q⟩ := h
    refine ⟨_, (pss_cons (ps_expr (pe_d D_check_count (hr.mono (by decide)) (pa_cons (pv 0) (pa_cons pe_int (pa_cons (C8.pe_gc (v := .int 8) (by rfl) gMOST_BARRED) (pa_cons pe_str pa_nil))))))
  (pss_cons (ps_for PassesOwn.never rfl (show PI _ _ _ (iList K _) from pi_list (pv 0)) (pg_name (i := 2) sc_check_barred.nd rfl (Or.inl rfl))
    (pss_cons (ps_expr (pe_d D_check_lot (hr.mono (by decide)) (pa_cons (pv 2) (pa_cons (pv 1) (pa_cons pe_str pa_nil)))))
  (pss_one (ps_expr (pe_d D_demand (hr.mono (by decide)) (pa_cons (pe_cmpR op_ge (pe_callB (show CallR _ _ (rLenS K) from call_len_seq) (by rfl) mz_len PySem.boot_len (pa_cons (pv 2) pa_nil)) pe_int (by first | exact nomark _ | rfl)) (pa_cons pe_str pa_nil)))))))
  (pss_one (ps_expr (pe_d D_demand (hr.mono (by decide)) (pa_cons (pe_cmpR op_eq (pe_callB cr_lenK (by rfl) mz_len PySem.boot_len (pa_cons (pe_callTy (cr_setK rfl hr.units) (by rfl) mz_set (by decide +kernel) (pa_cons (pv 0) pa_nil)) pa_nil)) (pe_callB (show CallR _ _ (rLenS K) from call_len_seq) (by rfl) mz_len PySem.boot_len (pa_cons (pv 0) pa_nil)) (by first | exact nomark _ | rfl)) (pa_cons pe_str pa_nil))))))), ?_⟩
    have lx : xs.length = bs.length := by rw [dpa_len hd, List.length_map]
    refine q_do (en_callA (ea_cons (ev_var rfl) (ea_cons ev_c (ea_cons ev_c (ea_cons ev_c ea_nil)))) (SpCount (n := xs.length) ⟨_, .inl hA, rfl⟩ (by omega) (by omega) (tn_of (by decide +kernel)) (tn_of (by decide +kernel)) (by decide +kernel))) fun H1 e1 => ?_
    refine q_forLn (a := a) (xs := xs) (ev_var rfl) (ex_l e1 hA) (fun _ σ' H' => ∃ u2, σ' = [some (.ref a), some (.ref n), u2] ∧ Ex H H') (fun H2 e2 => ⟨_, rfl, e1.trans e2⟩) (fun _ _ _ _ ⟨_, _, e⟩ => ex_l e hA) ?hs ?hd
    case hs =>
      rintro i v σ' H2 hv ⟨_, rfl, e2⟩
      obtain ⟨l, _, hl, dl⟩ := item_at tD hd hv
      obtain ⟨p, rfl, hp⟩ := texts_of_dp dl
      obtain ⟨lo, l2⟩ := ok l hl
      refine q_do (en_callA (ea_cons (ev_var rfl) (ea_cons (ev_var rfl) (ea_cons ev_c ea_nil))) (SpLotC (ex_t e2 hp) (ex_l e2 hn) lo (by decide +kernel))) fun H3 e3 => ?_
      exact s_do (en_demand (n := 100) (ev_is (ev_op (ev_lenS (n := l.length) (ev_var rfl) ⟨_, .inr (ex_t (e2.trans e3) hp), List.length_map ..⟩) ev_c rv_I0) (congrArg V.bl (decide_eq_true (by omega)))) (tx_c (by decide +kernel))) fun H4 e4 => ⟨_, rfl, (e2.trans e3).trans e4⟩
    case hd =>
      rintro σ' H2 ⟨_, rfl, e2⟩
      exact s_do (en_demand (n := 100) (ev_is (ev_op (ev_lenTT (ev_var rfl) (ex_l e2 hA) (dpa_ex e2 hd) nd (by omega)) (ev_len (ev_var rfl) (ex_l e2 hA)) (rv_eq rfl)) (congrArg V.bl (by rw [lx]; exact decide_eq_true rfl))) (tx_c (by decide +kernel))) fun H3 e3 => q _ H3 (e2.trans e3)
def spCmdsC (K : PySem.W.Frag) : Sp := fun vs H Q _ => ∃ (a n m : Addr) (xs : List V) (cs : List Cd) (hs ms : List Str), vs = [.ref a, .ref n, .ref m] ∧ SqL K H a xs ∧ DpAll K H xs (cs.map cdD) ∧ SqL K H n (hs.map V.str) ∧ SqL K H m (ms.map V.str) ∧ NmsOk (cs.map Cd.n) ∧ cs.length ≤ 8 ∧ (∀ c ∈ cs, LotOk ms c.lets ∧ EffOk hs c.on c.off ∧ ToOk ms c.to) ∧ ∀ v H', Ex H H' → Q v H'
theorem ok_cmdsc (A : At K mg "check_commands" s_check_commands) (gMOST_COMMANDS : ∃ u, mg "MOST_COMMANDS" = some u ∧ RelV (.int 8) u) (D_check_parts : Dfn P w K mg base 3 "check_parts" p_check_parts (spParts K)) (D_check_lot : Dfn P w K mg base 3 "check_lot" p_check_lot (spLotC K)) (D_check_effect : Dfn P w K mg base 4 "check_effect" p_check_effect (spEffC K)) (D_check_target : Dfn P w K mg base 2 "check_target" p_check_target (spToC K)) : Dfn P w K mg base 5 "check_commands" p_check_commands (spCmdsC K) := by
  refine dfn_ok A sc_check_commands (fun _ _ _ _ _ _ us hl => match us, hl with | [_, _, _], _ => rfl) (fun vs H Q E h => ?_) (fun f cdv A outer s H vs Q E hr h => ?_)
  · obtain ⟨a, n, m, xs, cs, hs, ms, rfl, _⟩ := h
    rfl
  · obtain ⟨a, n, m, xs, cs, hs, ms, rfl, hA, hd, hn, hm, ok, h8, each, q⟩ := h
    refine ⟨_, (pss_cons (ps_expr (pe_d D_check_parts (hr.mono (by decide)) (pa_cons (pv 0) (pa_cons pe_int (pa_cons (C8.pe_gc (v := .int 8) (by rfl) gMOST_COMMANDS) (pa_cons pe_int (pa_cons pe_str pa_nil)))))))
  (pss_one (ps_for PassesOwn.never rfl (show PI _ _ _ (iList K _) from pi_list (pv 0)) (show PG _ _ (gTup K 5 _) from pg_tup rfl (pgs_cons (pg_name (i := 3) sc_check_commands.nd rfl (Or.inl rfl)) (pgs_cons (pg_name (i := 4) sc_check_commands.nd rfl (Or.inl rfl)) (pgs_cons (pg_name (i := 5) sc_check_commands.nd rfl (Or.inl rfl)) (pgs_cons (pg_name (i := 6) sc_check_commands.nd rfl (Or.inl rfl)) (pgs_cons (pg_name (i := 7) sc_check_commands.nd rfl (Or.inl rfl)) pgs_nil))))))
    (pss_cons (ps_expr (pe_d D_check_lot (hr.mono (by decide)) (pa_cons (pv 4) (pa_cons (pv 2) (pa_cons pe_str pa_nil)))))
  (pss_cons (ps_expr (pe_d D_check_effect (hr.mono (by decide)) (pa_cons (pv 5) (pa_cons (pv 6) (pa_cons (pv 1) (pa_cons pe_str pa_nil))))))
  (pss_one (ps_expr (pe_d D_check_target (hr.mono (by decide)) (pa_cons (pv 7) (pa_cons (pv 2) (pa_cons pe_str pa_nil))))))))))), ?_⟩
    have lx : xs.length = cs.length := by rw [dpa_len hd, List.length_map]
    refine q_do (en_callA (ea_cons (ev_var rfl) (ea_cons ev_c (ea_cons ev_c (ea_cons ev_c (ea_cons ev_c ea_nil))))) (SpParts (n := 5) hA (named_of cdD Cd.n (fun m => ⟨_, rfl⟩) hd) ok (wide cdD 5 (fun m v d => by obtain ⟨p, pl, po, pf, rfl, h, _⟩ := cd_inv d; exact ⟨p, _, rfl, h, rfl⟩) hd) (by omega) (by omega) (tn_of (by decide +kernel)) (tn_of (by decide +kernel)) (tn_of (by decide +kernel)) (by decide +kernel))) fun H1 e1 => ?_
    refine s_forL (a := a) (xs := xs) (ev_var rfl) (ex_l e1 hA) (fun _ σ' H' => ∃ u2 u3 u4 u5 u6, σ' = [some (.ref a), some (.ref n), some (.ref m), u2, u3, u4, u5, u6] ∧ Ex H H') (fun H2 e2 => ⟨_, _, _, _, _, rfl, e1.trans e2⟩) (fun _ _ _ _ ⟨_, _, _, _, _, _, e⟩ => ex_l e hA) ?hs ?hd
    case hd =>
      rintro σ' H2 ⟨_, _, _, _, _, rfl, e2⟩
      exact q _ H2 e2
    case hs =>
      rintro i v σ' H2 hv ⟨_, _, _, _, _, rfl, e2⟩
      obtain ⟨c, _, hc, dc⟩ := item_at cdD hd hv
      obtain ⟨p, pl, po, pf, rfl, hp, hl, ho, hf⟩ := cd_inv dc
      obtain ⟨k1, k2, k3⟩ := each c hc
      refine g_t5 (ex_t e2 hp) (q_do (en_callA (ea_cons (ev_var rfl) (ea_cons (ev_var rfl) (ea_cons ev_c ea_nil))) (SpLotC (ex_t e2 hl) (ex_l e2 hm) k1 (by decide +kernel))) fun H3 e3 => ?_)
      have e23 := e2.trans e3
      refine q_do (en_callA (ea_cons (ev_var rfl) (ea_cons (ev_var rfl) (ea_cons (ev_var rfl) (ea_cons ev_c ea_nil)))) (SpEffC (ex_t e23 ho) (ex_t e23 hf) (ex_l e23 hn) k2 (by decide +kernel))) fun H4 e4 => ?_
      exact s_do (en_callA (ea_cons (ev_var rfl) (ea_cons (ev_var rfl) (ea_cons ev_c ea_nil))) (SpToC (ex_l (e23.trans e4) hm) k3 (by decide +kernel))) fun H5 e5 => ⟨_, _, _, _, _, rfl, (e23.trans e4).trans e5⟩
def spAlsC (K : PySem.W.Frag) : Sp := fun vs H Q _ => ∃ (a n m : Addr) (xs : List V) (cs : List Al) (hs ms : List Str), vs = [.ref a, .ref n, .ref m] ∧ SqL K H a xs ∧ DpAll K H xs (cs.map alD) ∧ SqL K H n (hs.map V.str) ∧ SqL K H m (ms.map V.str) ∧ NmsOk (cs.map Al.n) ∧ cs.length ≤ 4 ∧ (∀ c ∈ cs, EffOk hs c.on c.off ∧ ToOk ms c.to) ∧ ∀ v H', Ex H H' → Q v H'
theorem ok_alsc (A : At K mg "check_alarms" s_check_alarms) (gMOST_ALARMS : ∃ u, mg "MOST_ALARMS" = some u ∧ RelV (.int 4) u) (D_check_parts : Dfn P w K mg base 3 "check_parts" p_check_parts (spParts K)) (D_check_effect : Dfn P w K mg base 4 "check_effect" p_check_effect (spEffC K)) (D_check_target : Dfn P w K mg base 2 "check_target" p_check_target (spToC K)) : Dfn P w K mg base 5 "check_alarms" p_check_alarms (spAlsC K) := by
  refine dfn_ok A sc_check_alarms (fun _ _ _ _ _ _ us hl => match us, hl with | [_, _, _], _ => rfl) (fun vs H Q E h => ?_) (fun f cdv A outer s H vs Q E hr h => ?_)
  · obtain ⟨a, n, m, xs, cs, hs, ms, rfl, _⟩ := h
    rfl
  · obtain ⟨a, n, m, xs, cs, hs, ms, rfl, hA, hd, hn, hm, ok, h8, each, q⟩ := h
    refine ⟨_, (pss_cons (ps_expr (pe_d D_check_parts (hr.mono (by decide)) (pa_cons (pv 0) (pa_cons pe_int (pa_cons (C8.pe_gc (v := .int 4) (by rfl) gMOST_ALARMS) (pa_cons pe_int (pa_cons pe_str pa_nil)))))))
  (pss_one (ps_for PassesOwn.never rfl (show PI _ _ _ (iList K _) from pi_list (pv 0)) (show PG _ _ (gTup K 4 _) from pg_tup rfl (pgs_cons (pg_name (i := 3) sc_check_alarms.nd rfl (Or.inl rfl)) (pgs_cons (pg_name (i := 4) sc_check_alarms.nd rfl (Or.inl rfl)) (pgs_cons (pg_name (i := 5) sc_check_alarms.nd rfl (Or.inl rfl)) (pgs_cons (pg_name (i := 6) sc_check_alarms.nd rfl (Or.inl rfl)) pgs_nil)))))
    (pss_cons (ps_expr (pe_d D_check_effect (hr.mono (by decide)) (pa_cons (pv 4) (pa_cons (pv 5) (pa_cons (pv 1) (pa_cons pe_str pa_nil))))))
  (pss_one (ps_expr (pe_d D_check_target (hr.mono (by decide)) (pa_cons (pv 6) (pa_cons (pv 2) (pa_cons pe_str pa_nil)))))))))), ?_⟩
    have lx : xs.length = cs.length := by rw [dpa_len hd, List.length_map]
    refine q_do (en_callA (ea_cons (ev_var rfl) (ea_cons ev_c (ea_cons ev_c (ea_cons ev_c (ea_cons ev_c ea_nil))))) (SpParts (n := 4) hA (named_of alD Al.n (fun m => ⟨_, rfl⟩) hd) ok (wide alD 4 (fun m v d => by obtain ⟨p, po, pf, rfl, h, _⟩ := al_inv d; exact ⟨p, _, rfl, h, rfl⟩) hd) (by omega) (by omega) (tn_of (by decide +kernel)) (tn_of (by decide +kernel)) (tn_of (by decide +kernel)) (by decide +kernel))) fun H1 e1 => ?_
    refine s_forL (a := a) (xs := xs) (ev_var rfl) (ex_l e1 hA) (fun _ σ' H' => ∃ u2 u3 u4 u5, σ' = [some (.ref a), some (.ref n), some (.ref m), u2, u3, u4, u5] ∧ Ex H H') (fun H2 e2 => ⟨_, _, _, _, rfl, e1.trans e2⟩) (fun _ _ _ _ ⟨_, _, _, _, _, e⟩ => ex_l e hA) ?hs ?hd
    case hd =>
      rintro σ' H2 ⟨_, _, _, _, rfl, e2⟩
      exact q _ H2 e2
    case hs =>
      rintro i v σ' H2 hv ⟨_, _, _, _, rfl, e2⟩
      obtain ⟨c, _, hc, dc⟩ := item_at alD hd hv
      obtain ⟨p, po, pf, rfl, hp, ho, hf⟩ := al_inv dc
      obtain ⟨k2, k3⟩ := each c hc
      refine g_t4 (ex_t e2 hp) (q_do (en_callA (ea_cons (ev_var rfl) (ea_cons (ev_var rfl) (ea_cons (ev_var rfl) (ea_cons ev_c ea_nil)))) (SpEffC (ex_t e2 ho) (ex_t e2 hf) (ex_l e2 hn) k2 (by decide +kernel))) fun H4 e4 => ?_)
      exact s_do (en_callA (ea_cons (ev_var rfl) (ea_cons (ev_var rfl) (ea_cons ev_c ea_nil))) (SpToC (ex_l (e2.trans e4) hm) k3 (by decide +kernel))) fun H5 e5 => ⟨_, _, _, _, rfl, (e2.trans e4).trans e5⟩
def spRowsC (K : PySem.W.Frag) : Sp := fun vs H Q _ => ∃ (a n : Addr) (xs : List V) (rs : List Rw) (cs : List Str), vs = [.ref a, .ref n] ∧ SqL K H a xs ∧ DpAll K H xs (rs.map rwD) ∧ SqL K H n (cs.map V.str) ∧ NmsOk (rs.map fun r => r.1) ∧ rs.length ≤ 3 ∧ (∀ r ∈ rs, 1 ≤ r.2.length ∧ r.2.length ≤ 4 ∧ ∀ s ∈ r.2, 1 ≤ s.1 ∧ s.1 ≤ 9 ∧ s.2 ∈ cs) ∧ ∀ v H', Ex H H' → Q v H'
theorem ok_rowsc (A : At K mg "check_rows" s_check_rows) (gMOST_ROWS : ∃ u, mg "MOST_ROWS" = some u ∧ RelV (.int 3) u) (gMOST_STEPS : ∃ u, mg "MOST_STEPS" = some u ∧ RelV (.int 4) u) (gMOST_TICKS : ∃ u, mg "MOST_TICKS" = some u ∧ RelV (.int 9) u) (D_check_parts : Dfn P w K mg base 3 "check_parts" p_check_parts (spParts K)) (D_check_count : Dfn P w K mg base 2 "check_count" p_check_count (spCount K)) (D_check_width : Dfn P w K mg base 2 "check_width" p_check_width (spWidth K)) (D_demand : Dfn P w K mg base 1 "demand" p_demand spDemand) : Dfn P w K mg base 5 "check_rows" p_check_rows (spRowsC K) := by
  refine dfn_ok A sc_check_rows (fun _ _ _ _ _ _ us hl => match us, hl with | [_, _], _ => rfl) (fun vs H Q E h => ?_) (fun f cdv A outer s H vs Q E hr h => ?_)
  · obtain ⟨a, n, xs, rs, cs, rfl, _⟩ := h
    rfl
  · obtain ⟨a, n, xs, rs, cs, rfl, hA, hd, hn, ok, h3, each, q⟩ := h
    refine ⟨_, (pss_cons (ps_expr (pe_d D_check_parts (hr.mono (by decide)) (pa_cons (pv 0) (pa_cons pe_int (pa_cons (C8.pe_gc (v := .int 3) (by rfl) gMOST_ROWS) (pa_cons pe_int (pa_cons pe_str pa_nil)))))))
  (pss_one (ps_for PassesOwn.never rfl (show PI _ _ _ (iList K _) from pi_list (pv 0)) (show PG _ _ (gTup K 2 _) from pg_tup rfl (pgs_cons (pg_name (i := 2) sc_check_rows.nd rfl (Or.inl rfl)) (pgs_cons (pg_name (i := 3) sc_check_rows.nd rfl (Or.inl rfl)) pgs_nil)))
    (pss_cons (ps_expr (pe_d D_check_count (hr.mono (by decide)) (pa_cons (pv 3) (pa_cons pe_int (pa_cons (C8.pe_gc (v := .int 4) (by rfl) gMOST_STEPS) (pa_cons pe_str pa_nil))))))
  (pss_one (ps_for PassesOwn.never rfl (show PI _ _ _ (iTup K _) from pi_tup (pv 3)) (pg_name (i := 4) sc_check_rows.nd rfl (Or.inl rfl))
    (pss_cons (ps_expr (pe_d D_check_width (hr.mono (by decide)) (pa_cons (pv 4) (pa_cons pe_int (pa_cons pe_str pa_nil)))))
  (pss_cons (ps_expr (pe_d D_demand (hr.mono (by decide)) (pa_cons (pe_chain op_le op_le pe_int (pe_ix (show IxR _ (rIxT K) from ix_tup) (pv 4) pe_int (fun _ _ => rfl)) (C8.pe_gc (v := .int 9) (by rfl) gMOST_TICKS)) (pa_cons (pe_joined (.cons pe_str (.cons (pe_fmt (C8.pe_gc (v := .int 9) (by rfl) gMOST_TICKS)) .nil))) pa_nil))))
  (pss_one (ps_expr (pe_d D_demand (hr.mono (by decide)) (pa_cons (pe_cmpR (show OpR _ _ (rIn K false) from op_in_seq) (pe_ix (show IxR _ (rIxT K) from ix_tup) (pv 4) pe_int (fun _ _ => rfl)) (pv 1) (by first | exact nomark _ | rfl)) (pa_cons pe_str pa_nil))))))))))))), ?_⟩
    have lx : xs.length = rs.length := by rw [dpa_len hd, List.length_map]
    refine q_do (en_callA (ea_cons (ev_var rfl) (ea_cons ev_c (ea_cons ev_c (ea_cons ev_c (ea_cons ev_c ea_nil))))) (SpParts (n := 2) hA (named_of rwD (fun r : Rw => r.1) (fun m => ⟨_, rfl⟩) hd) ok (wide rwD 2 (fun m v d => by obtain ⟨p, ps, ss, rfl, h, _⟩ := rw_inv d; exact ⟨p, _, rfl, h, rfl⟩) hd) (by omega) (by omega) (tn_of (by decide +kernel)) (tn_of (by decide +kernel)) (tn_of (by decide +kernel)) (by decide +kernel))) fun H1 e1 => ?_
    refine s_forL (a := a) (xs := xs) (ev_var rfl) (ex_l e1 hA) (fun _ σ' H' => ∃ u2 u3 u4, σ' = [some (.ref a), some (.ref n), u2, u3, u4] ∧ Ex H H') (fun H2 e2 => ⟨_, _, _, rfl, e1.trans e2⟩) (fun _ _ _ _ ⟨_, _, _, _, e⟩ => ex_l e hA) ?hs ?hd
    case hd =>
      rintro σ' H2 ⟨_, _, _, rfl, e2⟩
      exact q _ H2 e2
    case hs =>
      rintro i v σ' H2 hv ⟨_, _, u4, rfl, e2⟩
      obtain ⟨r, _, hr, dr⟩ := item_at rwD hd hv
      obtain ⟨p, ps, ss, rfl, hp, hs, hss⟩ := rw_inv dr
      obtain ⟨k1, k4, ks⟩ := each r hr
      have ls : ss.length = r.2.length := by rw [dpa_len hss, List.length_map]
      refine g_t2 (ex_t e2 hp) (q_do (en_callA (ea_cons (ev_var rfl) (ea_cons ev_c (ea_cons ev_c (ea_cons ev_c ea_nil)))) (SpCount (n := ss.length) ⟨_, .inr (ex_t e2 hs), rfl⟩ (by omega) (by omega) (tn_of (by decide +kernel)) (tn_of (by decide +kernel)) (by decide +kernel))) fun H3 e3 => ?_)
      refine s_forT (a := ps) (xs := ss) (ev_var rfl) (ex_t (e2.trans e3) hs) (fun _ σ' H' => ∃ u4, σ' = [some (.ref a), some (.ref n), some (.str r.1), some (.ref ps), u4] ∧ Ex H H') (fun H4 e4 => ⟨_, rfl, (e2.trans e3).trans e4⟩) (fun _ _ _ _ ⟨_, _, e⟩ => ex_t e hs) ?hs2 ?hd2
      case hd2 =>
        rintro σ' H4 ⟨_, rfl, e4⟩
        exact ⟨_, _, _, rfl, e4⟩
      case hs2 =>
        rintro j u σ' H4 hu ⟨_, rfl, e4⟩
        obtain ⟨st, _, hst, dst⟩ := item_at stepD hss hu
        obtain ⟨pp, rfl, hpp⟩ := step_inv dst
        obtain ⟨s1, s9, sc⟩ := ks st hst
        refine q_do (en_callA (ea_cons (ev_var rfl) (ea_cons ev_c (ea_cons ev_c ea_nil))) (SpWidth (n := 2) ⟨_, .inr (ex_t e4 hpp), rfl⟩ (tn_of (by decide +kernel)) (by decide +kernel))) fun H5 e5 => ?_
        have e45 := e4.trans e5
        refine q_do (en_demand (n := 100) (ev_is (rv_chain (y := .int (st.1 : Int)) ev_c (ev_op (ev_var rfl) ev_c (rv_ixT (ex_t e45 hpp) rfl)) rv_I0 (fun _ => ev_c) fun _ => rv_I0) (congrArg V.bl (by rw [decide_eq_true (show (1 : Int) ≤ (st.1 : Int) by omega), decide_eq_true (show (st.1 : Int) ≤ 9 by omega)]; rfl))) ?js) fun H6 e6 => ?_
        case js => exact EvG.imp (tx_join (js_cons (tx_c (n := 40) (by decide +kernel)) (js_cons (tx_fI ev_c (tn_of (by decide +kernel))) js_nil)) (by decide)) fun v H' _ ⟨y, e, h⟩ => ⟨y, e, Nat.le_trans h (by decide)⟩
        have e46 := e45.trans e6
        exact s_do (en_demand (n := 100) (ev_is (ev_op (ev_op (ev_var rfl) ev_c (rv_ixT (ex_t e46 hpp) rfl)) (ev_var rfl) (rv_isL (ex_l e46 hn) rfl (flat_txs _))) (congrArg V.bl (inV_txs.trans (decide_eq_true sc)))) (tx_c (by decide +kernel))) fun H7 e7 => ⟨_, rfl, e46.trans e7⟩
def spQuietC : Sp := fun vs H Q _ => ∃ o : Option Nat, vs = [lmV o] ∧ (∀ n, o = some n → 1 ≤ n ∧ n ≤ 30) ∧ ∀ v H', Ex H H' → Q v H'
theorem ok_quietc (A : At K mg "check_quiet" s_check_quiet) (gMOST_QUIET : ∃ u, mg "MOST_QUIET" = some u ∧ RelV (.int 30) u) (D_demand : Dfn P w K mg base 1 "demand" p_demand spDemand) : Dfn P w K mg base 2 "check_quiet" p_check_quiet spQuietC := by
  refine dfn_ok A sc_check_quiet (fun _ _ _ _ _ _ us hl => match us, hl with | [_], _ => rfl) (fun vs H Q E h => ?_) (fun f cdv A outer s H vs Q E hr h => ?_)
  · obtain ⟨o, rfl, _⟩ := h
    rfl
  · obtain ⟨o, rfl, ok, q⟩ := h
    refine ⟨_, (pss_one (ps_expr (pe_d D_demand (hr.mono (by decide)) (pa_cons (pe_or (pe_cmpR op_isN (pv 0) pe_non (by first | exact nomark _ | rfl)) (pe_one (pe_chain op_le op_le pe_int (pv 0) (C8.pe_gc (v := .int 30) (by rfl) gMOST_QUIET)))) (pa_cons (pe_joined (.cons pe_str (.cons (pe_fmt (C8.pe_gc (v := .int 30) (by rfl) gMOST_QUIET)) .nil))) pa_nil))))), ?_⟩
    refine s_do (en_demand (n := 100) ?cond ?js) fun H1 e1 => q _ H1 e1
    case js => exact EvG.imp (tx_join (js_cons (tx_c (n := 40) (by decide +kernel)) (js_cons (tx_fI ev_c (tn_of (by decide +kernel))) js_nil)) (by decide)) fun v H' _ ⟨y, e, h⟩ => ⟨y, e, Nat.le_trans h (by decide)⟩
    case cond =>
      cases o with
      | none => exact ev_is (ev_orV (a := true) (b := true) (ev_is (ev_op (ev_var rfl) ev_c rv_isN0) rfl) fun h => Bool.noConfusion h) rfl
      | some n =>
        obtain ⟨n1, n30⟩ := ok n rfl
        exact ev_is (ev_orV (a := false) (b := true) (ev_is (ev_op (ev_var rfl) ev_c rv_isN0) rfl) fun _ => ev_is (rv_chain (y := .int (n : Int)) ev_c (ev_var rfl) rv_I0 (fun _ => ev_c) fun _ => rv_I0) (congrArg V.bl (by rw [decide_eq_true (show (1 : Int) ≤ (n : Int) by omega), decide_eq_true (show (n : Int) ≤ 30 by omega)]; rfl))) rfl

/-! ### a book is made -/
theorem ok_init {C c TA_ : Addr} (A : AtMC K C "__init__" "Book.__init__" s_Book___init__ c) (TB : BookC K C) (TBl : TabB base mg c TA_) (mz_sorted : mg "sorted" = none)
    (D_check_holds : Dfn P w K mg base 3 "check_holds" p_check_holds (spHoldsC K)) (D_check_modes : Dfn P w K mg base 5 "check_modes" p_check_modes (spModesC K)) (D_check_barred : Dfn P w K mg base 4 "check_barred" p_check_barred (spBarC K)) (D_check_commands : Dfn P w K mg base 5 "check_commands" p_check_commands (spCmdsC K)) (D_check_alarms : Dfn P w K mg base 5 "check_alarms" p_check_alarms (spAlsC K)) (D_check_rows : Dfn P w K mg base 5 "check_rows" p_check_rows (spRowsC K)) (D_check_quiet : Dfn P w K mg base 2 "check_quiet" p_check_quiet spQuietC) (D_names_of : Dfn P w K mg base 1 "names_of" p_names_of (spNames K)) :
    Mdf P w K mg base CX0 6 C "__init__" p_Book___init__ (spInit K C TA_) := by
  refine mdf_okC A sc_Book___init__ (fun _ _ _ _ _ _ us hl => match us, hl with | [_, _, _, _, _, _, _, _], _ => rfl) (fun vs H Q E h => ?_) (fun f A outer s H vs Q E hr h => ?_)
  · obtain ⟨B, dx, hv, mv, bv, cv, av, rv, p, rfl, _⟩ := h
    rfl
  · obtain ⟨B, dx, hv, mv, bv, cv, av, rv, p, rfl, hB, d1, d2, d3, d4, d5, d6, ok, hT, q⟩ := h
    have hmT : (TA_, (("Book.__init__" : Str) ++ (".<locals>." : Str)) ++ ("<lambda>" : Str)) ∈ [(TA_, lamQ)] := List.mem_singleton.mpr rfl
    have huT : ∀ p ∈ [(TA_, lamQ)], p.1 = TA_ → p.2 = (("Book.__init__" : Str) ++ (".<locals>." : Str)) ++ ("<lambda>" : Str) := fun p hp _ => by rw [List.mem_singleton.mp hp]; rfl
    refine ⟨_, (pss_cons (ps_expr (pe_d D_check_holds (hr.mono (by decide)) (pa_cons (pv 1) pa_nil)))
  (pss_cons (ps_expr (pe_d D_check_modes (hr.mono (by decide)) (pa_cons (pv 2) (pa_cons (pv 1) pa_nil))))
  (pss_cons (ps_expr (pe_d D_check_barred (hr.mono (by decide)) (pa_cons (pv 3) (pa_cons (pv 1) pa_nil))))
  (pss_cons (ps_expr (pe_d D_check_commands (hr.mono (by decide)) (pa_cons (pv 4) (pa_cons (pv 1) (pa_cons (pe_d D_names_of (hr.mono (by decide)) (pa_cons (pv 2) pa_nil)) pa_nil)))))
  (pss_cons (ps_expr (pe_d D_check_alarms (hr.mono (by decide)) (pa_cons (pv 5) (pa_cons (pv 1) (pa_cons (pe_d D_names_of (hr.mono (by decide)) (pa_cons (pv 2) pa_nil)) pa_nil)))))
  (pss_cons (ps_expr (pe_d D_check_rows (hr.mono (by decide)) (pa_cons (pv 6) (pa_cons (pe_d D_names_of (hr.mono (by decide)) (pa_cons (pv 4) pa_nil)) pa_nil))))
  (pss_cons (ps_expr (pe_d D_check_quiet (hr.mono (by decide)) (pa_cons (pv 7) pa_nil)))
  (pss_cons (ps_set (i := 8) sc_Book___init__.nd rfl (Or.inl rfl) (pe_sortLam (by rfl) mz_sorted TBl rfl hmT huT hr rfl (by decide +kernel) (fun _ _ _ _ _ _ => rfl) rfl rfl rfl rfl (by decide) (pa_cons (pv 4) pa_nil)))
  (pss_cons (ps_fld (pv 0) (pe_callB (show CallR _ _ (rSortedS K) from cr_sortedS) (by rfl) mz_sorted (by decide +kernel) (pa_cons (pv 1) pa_nil)) rfl)
  (pss_cons (ps_fld (pv 0) (pe_callB (show CallR _ _ (rSortedTT K) from cr_sortedTT hr.units) (by rfl) mz_sorted (by decide +kernel) (pa_cons (pv 3) pa_nil)) rfl)
  (pss_cons (ps_fld (pv 0) (pe_disp (pps_cons pe_str (pe_dc (own := [("part", 9)]) (g := gName 9) (tt := tYes) rfl sc_Book___init__.nd (show PI _ _ _ (iList K _) from pi_list (pv 2)) (blkOk_by (N := N_Book___init__) (sc := defScope s_Book___init__) (by decide +kernel)) (fun _ _ _ _ _ => (pg_name (i := 9) sc_Book___init__.nd rfl (Or.inl rfl))) (fun _ _ _ _ _ => pts_nil) (fun _ _ _ _ _ => (pe_ix (show IxR _ (rIxT K) from ix_tup) (pv 9) pe_int (fun _ _ => rfl))) (fun _ _ _ _ _ => (pv 9))) (pps_cons pe_str (pe_dc (own := [("part", 9)]) (g := gName 9) (tt := tYes) rfl sc_Book___init__.nd (show PI _ _ _ (iList K _) from pi_list (pv 8)) (blkOk_by (N := N_Book___init__) (sc := defScope s_Book___init__) (by decide +kernel)) (fun _ _ _ _ _ => (pg_name (i := 9) sc_Book___init__.nd rfl (Or.inl rfl))) (fun _ _ _ _ _ => pts_nil) (fun _ _ _ _ _ => (pe_ix (show IxR _ (rIxT K) from ix_tup) (pv 9) pe_int (fun _ _ => rfl))) (fun _ _ _ _ _ => (pv 9))) (pps_cons pe_str (pe_dc (own := [("part", 9)]) (g := gName 9) (tt := tYes) rfl sc_Book___init__.nd (show PI _ _ _ (iList K _) from pi_list (pv 5)) (blkOk_by (N := N_Book___init__) (sc := defScope s_Book___init__) (by decide +kernel)) (fun _ _ _ _ _ => (pg_name (i := 9) sc_Book___init__.nd rfl (Or.inl rfl))) (fun _ _ _ _ _ => pts_nil) (fun _ _ _ _ _ => (pe_ix (show IxR _ (rIxT K) from ix_tup) (pv 9) pe_int (fun _ _ => rfl))) (fun _ _ _ _ _ => (pv 9))) (pps_cons pe_str (pe_dc (own := [("part", 9)]) (g := gName 9) (tt := tYes) rfl sc_Book___init__.nd (show PI _ _ _ (iList K _) from pi_list (pv 6)) (blkOk_by (N := N_Book___init__) (sc := defScope s_Book___init__) (by decide +kernel)) (fun _ _ _ _ _ => (pg_name (i := 9) sc_Book___init__.nd rfl (Or.inl rfl))) (fun _ _ _ _ _ => pts_nil) (fun _ _ _ _ _ => (pe_ix (show IxR _ (rIxT K) from ix_tup) (pv 9) pe_int (fun _ _ => rfl))) (fun _ _ _ _ _ => (pv 9))) pps_nil)))) (by rfl) (by rfl) (by decide) (by decide)) rfl)
  (pss_one (ps_fld (pv 0) (pv 7) rfl))))))))))))), ?_⟩
    obtain ⟨ah, rfl, hh⟩ := txl_of_dp d1
    obtain ⟨am, ms, rfl, hm, dm⟩ := dp_lst_inv d2
    obtain ⟨ab, bs, rfl, hb, db⟩ := dp_lst_inv d3
    obtain ⟨ac, cs, rfl, hc, dc⟩ := dp_lst_inv d4
    obtain ⟨aa, as, rfl, ha, da⟩ := dp_lst_inv d5
    obtain ⟨ar, rs, rfl, hr2, dr⟩ := dp_lst_inv d6
    have lm : ms.length = p.modes.length := by rw [dpa_len dm, List.length_map]
    have lc : cs.length = p.cmds.length := by rw [dpa_len dc, List.length_map]
    have la : as.length = p.als.length := by rw [dpa_len da, List.length_map]
    have lr : rs.length = p.rows.length := by rw [dpa_len dr, List.length_map]
    have nm : Named K H ms p.mn := named_of mdD (fun m : Md => m.1) (fun m => ⟨_, rfl⟩) dm
    have nc : Named K H cs p.cn := named_of cdD Cd.n (fun m => ⟨_, rfl⟩) dc
    have na : Named K H as p.an := named_of alD Al.n (fun m => ⟨_, rfl⟩) da
    have nr : Named K H rs p.rn := named_of rwD (fun m : Rw => m.1) (fun m => ⟨_, rfl⟩) dr
    have hm5 := ok.modes.2.2.1
    have hc8 := ok.cmds.2.1
    have ha4 := ok.als.2.1
    have hr3 := ok.rows.2.1
    have hb8 := ok.barred.1
    have hh6 := ok.holds.2.2
    refine q_do (en_callA (ea_cons (ev_var rfl) ea_nil) fun H1 e Q q E => ⟨ah, p.holds, rfl, ex_l e hh, ok.holds.1, ok.holds.2.1, ok.holds.2.2, q⟩) fun H1 e1 => ?_
    refine q_do (en_callA (ea_cons (ev_var rfl) (ea_cons (ev_var rfl) ea_nil)) fun H2 e Q q E => ⟨am, ah, ms, p.modes, p.holds, rfl, ex_l (e1.trans e) hm, dpa_ex (e1.trans e) dm, ex_l (e1.trans e) hh, ok.modes.1, ok.modes.2.1, ok.modes.2.2.1, ok.modes.2.2.2, q⟩) fun H2 e2 => ?_
    have e02 := e1.trans e2
    refine q_do (en_callA (ea_cons (ev_var rfl) (ea_cons (ev_var rfl) ea_nil)) fun H3 e Q q E => ⟨ab, ah, bs, p.barred, p.holds, rfl, ex_l (e02.trans e) hb, dpa_ex (e02.trans e) db, ex_l (e02.trans e) hh, ok.barred.1, ok.barred.2.1, ok.barred.2.2, q⟩) fun H3 e3 => ?_
    have e03 := e02.trans e3
    have nmE : ∀ {σ : L2.St} {G : Hp} {t : TE} {E : XK} {a : Addr} {vs : List V} {ns : List Str}, Ex H G → Ev t σ G (.ref a) → SqL K H a vs → Named K H vs ns → vs.length ≤ 100 → EvG (tCall (spNames K) [] E (tCons t tNil)) σ G (fun v H' => ∃ q, v = .ref q ∧ H' q = some (.lst (ns.map V.str))) := fun e hv hs hn l => EvG.imp (EvL.g (el_call (ea_cons hv ea_nil) (SpNames (ex_l e hs) (hn.ex e) (by omega)))) fun v H' _ ⟨p, h1, _, h2⟩ => ⟨p, h1, h2⟩
    have mL : ∀ {ns : List Str}, Mono (fun v (H' : Hp) => ∃ q, v = V.ref q ∧ H' q = some (.lst (ns.map V.str))) := fun _ _ _ e ⟨q, h1, h2⟩ => ⟨q, h1, e _ _ h2⟩
    refine q_do (en_call (Ps := [IsW (.ref ac), IsW (.ref ah), fun v H' => ∃ q, v = .ref q ∧ H' q = some (.lst (p.mn.map V.str))]) (eaP_cons IsW.m (ea_w (ev_var rfl)) (eaP_cons IsW.m (ea_w (ev_var rfl)) (eaP_cons mL (nmE e03 (ev_var rfl) hm nm (by omega)) eaP_nil))) fun vs G eg hv => ?c4) fun H4 e4 => ?_
    case c4 =>
      cases hv with | cons a1 hv =>
      cases hv with | cons a2 hv =>
      cases hv with | cons a3 hv =>
      cases hv
      obtain rfl := a1
      obtain rfl := a2
      obtain ⟨qm, rfl, hqm⟩ := a3
      exact fun G2 e Q q E => ⟨ac, ah, qm, cs, p.cmds, p.holds, p.mn, rfl, ex_l ((e03.trans eg).trans e) hc, dpa_ex ((e03.trans eg).trans e) dc, ex_l ((e03.trans eg).trans e) hh, sq_of (e _ _ hqm), ok.cmds.1, ok.cmds.2.1, ok.cmds.2.2, q⟩
    have e04 := e03.trans e4
    refine q_do (en_call (Ps := [IsW (.ref aa), IsW (.ref ah), fun v H' => ∃ q, v = .ref q ∧ H' q = some (.lst (p.mn.map V.str))]) (eaP_cons IsW.m (ea_w (ev_var rfl)) (eaP_cons IsW.m (ea_w (ev_var rfl)) (eaP_cons mL (nmE e04 (ev_var rfl) hm nm (by omega)) eaP_nil))) fun vs G eg hv => ?c5) fun H5 e5 => ?_
    case c5 =>
      cases hv with | cons a1 hv =>
      cases hv with | cons a2 hv =>
      cases hv with | cons a3 hv =>
      cases hv
      obtain rfl := a1
      obtain rfl := a2
      obtain ⟨qm, rfl, hqm⟩ := a3
      exact fun G2 e Q q E => ⟨aa, ah, qm, as, p.als, p.holds, p.mn, rfl, ex_l ((e04.trans eg).trans e) ha, dpa_ex ((e04.trans eg).trans e) da, ex_l ((e04.trans eg).trans e) hh, sq_of (e _ _ hqm), ok.als.1, ok.als.2.1, ok.als.2.2, q⟩
    have e05 := e04.trans e5
    refine q_do (en_call (Ps := [IsW (.ref ar), fun v H' => ∃ q, v = .ref q ∧ H' q = some (.lst (p.cn.map V.str))]) (eaP_cons IsW.m (ea_w (ev_var rfl)) (eaP_cons mL (nmE e05 (ev_var rfl) hc nc (by omega)) eaP_nil)) fun vs G eg hv => ?c6) fun H6 e6 => ?_
    case c6 =>
      cases hv with | cons a1 hv =>
      cases hv with | cons a3 hv =>
      cases hv
      obtain rfl := a1
      obtain ⟨qm, rfl, hqm⟩ := a3
      exact fun G2 e Q q E => ⟨ar, qm, rs, p.rows, p.cn, rfl, ex_l ((e05.trans eg).trans e) hr2, dpa_ex ((e05.trans eg).trans e) dr, sq_of (e _ _ hqm), ok.rows.1, ok.rows.2.1, ok.rows.2.2, q⟩
    have e06 := e05.trans e6
    refine q_do (en_callA (ea_cons (ev_var rfl) ea_nil) fun G e Q q E => ⟨p.quiet, rfl, ok.quiet, q⟩) fun H7 e7 => ?_
    have e07 := e06.trans e7
    refine q_sortLam (ev_var rfl) (ex_l e07 hc) (nc.ex e07) (tabs_ex hT e07) fun G0 l eN T0 nl => ?_
    have nlB : l ≠ B := fun z => by
      have := eN _ _ (e07 _ _ hB) (fun ps z => by cases z)
      rw [← z, nl] at this; cases this
    have hB0 : upd G0 l (.lst (byName cs p.cn)) B = some (.ins C dx []) := by rw [upd_ne nlB.symm]; exact eN _ _ (e07 _ _ hB) (fun ps z => by cases z)
    have k0 : KtB B H (upd G0 l (.lst (byName cs p.cn))) := ((ktB_e e07).trans (ktB_n eN)).trans (ktB_e (Ex.new nl))
    have T1 : Tabs [(TA_, lamQ)] (upd G0 l (.lst (byName cs p.cn))) := tabs_ex T0 (Ex.new nl)
    have hl0 : upd G0 l (.lst (byName cs p.cn)) l = some (.lst (byName cs p.cn)) := upd_same
    generalize upd G0 l (.lst (byName cs p.cn)) = F0 at hB0 k0 T1 hl0
    have t0 := ktB_kt hB k0
    have selfE : ∀ {v1 v2 v3 v4 v5 v6 v7 v8 v9 : Option V} (H1 : Hp), Ev (tVar 0) ([some (.ref B), v1, v2, v3, v4, v5, v6, v7, v8, v9] : L2.St) H1 (.ref B) := fun _ => ev_var rfl
    -- the fields
    refine q_fldG (fs := []) hB0 (fun H1 => ev_var rfl) (evG_sortedA (ev_var rfl) (kp_l t0 hh) (by omega)) (fun _ _ _ e ⟨q, ys, h1, h0, h2, h3⟩ => ⟨q, ys, h1, h0, e _ _ h2, h3⟩) TB.cl TB.n1 (by decide) fun v G1 g1 hv => ?_
    obtain ⟨hl, ys, rfl, nhl, hhl, pys, sys⟩ := hv
    have offh : ¬ ∃ xs, H hl = some (.lst xs) := fun ⟨xs, z⟩ => by
      have := k0 hl _ (fun e => by rw [e, hB0] at nhl; cases nhl) z (fun _ z => by cases z)
      rw [nhl] at this; cases this
    have hB1 : upd G1 B (.ins C dx (putF "_holds" (.ref hl) [])) B = some (.ins C dx (putF "_holds" (.ref hl) [])) := upd_same
    have k1 : KtB B F0 (upd G1 B (.ins C dx (putF "_holds" (.ref hl) []))) := (ktB_e g1).trans ktB_u
    have T2 : Tabs [(TA_, lamQ)] (upd G1 B (.ins C dx (putF "_holds" (.ref hl) []))) := tabs_u (tabs_ex T1 g1) (g1 _ _ hB0)
    have hhl1 := (kp_ins (o := .ins C dx (putF "_holds" (.ref hl) [])) (g1 _ _ hB0)) _ _ hhl (fun _ _ _ z => by cases z) (fun _ z => by cases z)
    generalize upd G1 B (.ins C dx (putF "_holds" (.ref hl) [])) = F1 at hB1 k1 T2 hhl1
    have t1 := t0.trans (ktB_kt hB0 k1)
    refine q_fldG hB1 (fun H1 => ev_var rfl) (evG_sortedTT (ev_var rfl) (kp_l t1 hb) (kp_a t1 db) fun t ht z => by have := (ok.barred.2.2 t ht).2; rw [z] at this; simp at this) (fun _ _ _ e ⟨q, h1, h0, h2⟩ => ⟨q, h1, h0, e _ _ h2⟩) TB.cl TB.n2 (by have := putF_len "_holds" (.ref hl) []; simp at this; omega) fun v G2 g2 hv => ?_
    obtain ⟨bl, rfl, nbl, hbl⟩ := hv
    have offb : ¬ ∃ xs, H bl = some (.lst xs) := fun ⟨xs, z⟩ => by
      have := (k0.trans k1) bl _ (fun e => by rw [e, hB1] at nbl; cases nbl) z (fun _ z => by cases z)
      rw [nbl] at this; cases this
    have hB2 : upd G2 B (.ins C dx (putF "_barred" (.ref bl) (putF "_holds" (.ref hl) []))) B = some (.ins C dx (putF "_barred" (.ref bl) (putF "_holds" (.ref hl) []))) := upd_same
    have k2 : KtB B F1 (upd G2 B (.ins C dx (putF "_barred" (.ref bl) (putF "_holds" (.ref hl) [])))) := (ktB_e g2).trans ktB_u
    have T3 : Tabs [(TA_, lamQ)] (upd G2 B (.ins C dx (putF "_barred" (.ref bl) (putF "_holds" (.ref hl) [])))) := tabs_u (tabs_ex T2 g2) (g2 _ _ hB1)
    have hbl2 := (kp_ins (o := .ins C dx (putF "_barred" (.ref bl) (putF "_holds" (.ref hl) []))) (g2 _ _ hB1)) _ _ hbl (fun _ _ _ z => by cases z) (fun _ z => by cases z)
    have f1 := putF_len "_holds" (.ref hl) []
    have f2 := putF_len "_barred" (.ref bl) (putF "_holds" (.ref hl) [])
    generalize upd G2 B (.ins C dx (putF "_barred" (.ref bl) (putF "_holds" (.ref hl) []))) = F2 at hB2 k2 T3 hbl2
    have t2 := t1.trans (ktB_kt hB1 k2)
    have t02 := (ktB_kt hB0 k1).trans (ktB_kt hB1 k2)
    have dsc : DpAll K H (byName cs p.cn) (p.sc.map cdD) := byName_dpa cdD Cd.n dc
    have lsc : (byName cs p.cn).length = cs.length := (byName_perm nc.len).length_eq
    have psc : (p.sc.map Cd.n).Perm p.cn := (List.mergeSort_perm _ _).map _
    have hl2 : SqL K F2 l (byName cs p.cn) := kp_l t02 (sq_of hl0)
    have nsc : Named K F2 (byName cs p.cn) (p.sc.map Cd.n) := named_of cdD Cd.n (fun m => ⟨_, rfl⟩) (kp_a t2 dsc)
    refine q_fldG hB2 (fun H1 => ev_var rfl) (evG_disp4 (d1 := kvN p.mn ms) (d2 := kvN (p.sc.map Cd.n) (byName cs p.cn)) (d3 := kvN p.an as) (d4 := kvN p.rn rs) (fun G e => evG_dcN (ev_var rfl) (ex_l e (kp_l t2 hm)) ((kp_n t2 nm).ex e) ok.modes.1.nd (by omega) (fun _ => rfl) fun _ => rfl) (fun G e => evG_dcN (ev_var rfl) (ex_l e hl2) (nsc.ex e) (psc.nodup_iff.mpr ok.cmds.1.nd) (by omega) (fun _ => rfl) fun _ => rfl) (fun G e => evG_dcN (ev_var rfl) (ex_l e (kp_l t2 ha)) ((kp_n t2 na).ex e) ok.als.1.nd (by omega) (fun _ => rfl) fun _ => rfl) (fun G e => evG_dcN (ev_var rfl) (ex_l e (kp_l t2 hr2)) ((kp_n t2 nr).ex e) ok.rows.1.nd (by omega) (fun _ => rfl) fun _ => rfl)) (fun _ _ _ e ⟨q, a, b, c, d, h0, h1, h2, h3, h4, h5⟩ => ⟨q, a, b, c, d, h0, e _ _ h1, e _ _ h2, e _ _ h3, e _ _ h4, e _ _ h5⟩) TB.cl TB.n3 (by simp only [List.length_nil] at f1; omega) fun v G3 g3 hv => ?_
    obtain ⟨pd, q1, q2, q3, q4, rfl, hpd, hq1, hq2, hq3, hq4⟩ := hv
    have hB3 : upd G3 B (.ins C dx (putF "_parts" (.ref pd) (putF "_barred" (.ref bl) (putF "_holds" (.ref hl) [])))) B = some (.ins C dx (putF "_parts" (.ref pd) (putF "_barred" (.ref bl) (putF "_holds" (.ref hl) [])))) := upd_same
    have k3 : KtB B F2 (upd G3 B (.ins C dx (putF "_parts" (.ref pd) (putF "_barred" (.ref bl) (putF "_holds" (.ref hl) []))))) := (ktB_e g3).trans ktB_u
    have T4 : Tabs [(TA_, lamQ)] (upd G3 B (.ins C dx (putF "_parts" (.ref pd) (putF "_barred" (.ref bl) (putF "_holds" (.ref hl) []))))) := tabs_u (tabs_ex T3 g3) (g3 _ _ hB2)
    have keep3 := kp_ins (o := .ins C dx (putF "_parts" (.ref pd) (putF "_barred" (.ref bl) (putF "_holds" (.ref hl) [])))) (g3 _ _ hB2)
    have f3 := putF_len "_parts" (.ref pd) (putF "_barred" (.ref bl) (putF "_holds" (.ref hl) []))
    have hpd3 := keep3 _ _ hpd (fun _ _ _ z => by cases z) (fun _ z => by cases z)
    have hq13 := keep3 _ _ hq1 (fun _ _ _ z => by cases z) (fun _ z => by cases z)
    have hq23 := keep3 _ _ hq2 (fun _ _ _ z => by cases z) (fun _ z => by cases z)
    have hq33 := keep3 _ _ hq3 (fun _ _ _ z => by cases z) (fun _ z => by cases z)
    have hq43 := keep3 _ _ hq4 (fun _ _ _ z => by cases z) (fun _ z => by cases z)
    generalize upd G3 B (.ins C dx (putF "_parts" (.ref pd) (putF "_barred" (.ref bl) (putF "_holds" (.ref hl) [])))) = F3 at hB3 k3 T4 hpd3 hq13 hq23 hq33 hq43
    have t3 := t2.trans (ktB_kt hB2 k3)
    refine s_fldG hB3 (fun H1 => ev_var rfl) (ea_w (ev_var rfl)) IsW.m TB.cl TB.n4 (by simp only [List.length_nil] at f1; omega) fun v G4 g4 hv => ?_
    obtain rfl := hv
    have keep4 := kp_ins (o := .ins C dx (putF "_quiet" (lmV p.quiet) (putF "_parts" (.ref pd) (putF "_barred" (.ref bl) (putF "_holds" (.ref hl) []))))) (g4 _ _ hB3)
    have t34 := (Ex.kt g4).trans keep4
    have t4 := t3.trans t34
    have T5 := tabs_u (o := .ins C dx (putF "_quiet" (lmV p.quiet) (putF "_parts" (.ref pd) (putF "_barred" (.ref bl) (putF "_holds" (.ref hl) []))))) (tabs_ex T4 g4) (g4 _ _ hB3)
    have k4 : KtB B F3 (upd G4 B (.ins C dx (putF "_quiet" (lmV p.quiet) (putF "_parts" (.ref pd) (putF "_barred" (.ref bl) (putF "_holds" (.ref hl) [])))))) := (ktB_e g4).trans ktB_u
    have t14 := (ktB_kt hB1 k2).trans ((ktB_kt hB2 k3).trans t34)
    have t24 := (ktB_kt hB2 k3).trans t34
    have n1 : ¬ Str.ofString "_quiet" = Str.ofString "_holds" := by decide +kernel
    have n2 : ¬ Str.ofString "_parts" = Str.ofString "_holds" := by decide +kernel
    have n3 : ¬ Str.ofString "_barred" = Str.ofString "_holds" := by decide +kernel
    have n4 : ¬ Str.ofString "_quiet" = Str.ofString "_barred" := by decide +kernel
    have n5 : ¬ Str.ofString "_parts" = Str.ofString "_barred" := by decide +kernel
    have n6 : ¬ Str.ofString "_quiet" = Str.ofString "_parts" := by decide +kernel
    have lk : ∀ {H' : Hp} {b : Addr} {u : HO} {G : Hp}, Kt G H' → G b = some u → (∀ C dx fs, u ≠ .ins C dx fs) → (∀ ps, u ≠ .tbl ps) → H' b = some u := fun t h a b => t _ _ h a b
    refine q _ (k0.trans (k1.trans (k2.trans (k3.trans k4)))) T5 ⟨dx, _, hl, bl, pd, q1, q2, q3, q4, bs, ms, byName cs p.cn, as, rs, ⟨upd_same, ?_, ?_, ?_, ?_, ⟨ys, t14 _ _ hhl1 (fun _ _ _ z => by cases z) (fun _ z => by cases z), pys, sys⟩, ⟨t24 _ _ hbl2 (fun _ _ _ z => by cases z) (fun _ z => by cases z), kp_a t4 db⟩, t34 _ _ hpd3 (fun _ _ _ z => by cases z) (fun _ z => by cases z), ⟨t34 _ _ hq13 (fun _ _ _ z => by cases z) (fun _ z => by cases z), kp_a t4 dm⟩, ⟨t34 _ _ hq23 (fun _ _ _ z => by cases z) (fun _ z => by cases z), kp_a t4 dsc⟩, ⟨t34 _ _ hq33 (fun _ _ _ z => by cases z) (fun _ z => by cases z), kp_a t4 da⟩, ⟨t34 _ _ hq43 (fun _ _ _ z => by cases z) (fun _ z => by cases z), kp_a t4 dr⟩, fun m m1 m2 m3 m4 => by rw [lookup_putF, if_neg m4, lookup_putF, if_neg m3, lookup_putF, if_neg m2, lookup_putF, if_neg m1]; rfl⟩, offh, offb⟩
    · rw [lookup_putF, if_neg (fun e => n1 e.symm), lookup_putF, if_neg (fun e => n2 e.symm), lookup_putF, if_neg (fun e => n3 e.symm), lookup_putF, if_pos rfl]
    · rw [lookup_putF, if_neg (fun e => n4 e.symm), lookup_putF, if_neg (fun e => n5 e.symm), lookup_putF, if_pos rfl]
    · rw [lookup_putF, if_neg (fun e => n6 e.symm), lookup_putF, if_pos rfl]
    · rw [lookup_putF, if_pos rfl]
theorem ok_pcommands {C : Addr} (A : AtP K C "commands" "Book.commands" s_Book_commands) (TB : BookC K C) (mz_list : mg "list" = none) : PropD P w K mg base 1 C "commands" (spPropC K C cdD Pb.sc) := by
  refine prop_ok A sc_Book_commands (fun _ _ _ _ _ _ us hl => match us, hl with | [_], _ => rfl) (fun vs H Q E h => ?_) (fun f cdv A outer s H vs Q E hr h => ?_)
  · obtain ⟨B, p, rfl, _⟩ := h
    rfl
  · obtain ⟨B, p, rfl, ⟨dx, fs, hl, bl, pd, dm, dc, da, dr, bs, ms, cs, as, rs, b⟩, q⟩ := h
    refine ⟨_, (pss_one (ps_ret (pe_listVals rfl (pe_dget (hu_of hr) (show PE _ _ (tFld K _ _) from pe_fld (pv 0) rfl) pe_str (fun _ _ => rfl)) (by rfl) mz_list))), ?_⟩
    have len : cs.length = (p.sc.map Cd.n).length := by rw [dpa_len b.c.2, List.length_map, List.length_map]
    exact s_retVals (ev_dgetK (ev_var rfl) b.ins TB.cl TB.n3 b.fp b.parts (parts_c ..)) b.c.1 fun p' H' np e hp => q p' cs H' np e (by rw [hp, kvN_vals len]) (dpa_ex e b.c.2)
theorem ok_palarms {C : Addr} (A : AtP K C "alarms" "Book.alarms" s_Book_alarms) (TB : BookC K C) (mz_list : mg "list" = none) : PropD P w K mg base 1 C "alarms" (spPropC K C alD Pb.als) := by
  refine prop_ok A sc_Book_alarms (fun _ _ _ _ _ _ us hl => match us, hl with | [_], _ => rfl) (fun vs H Q E h => ?_) (fun f cdv A outer s H vs Q E hr h => ?_)
  · obtain ⟨B, p, rfl, _⟩ := h
    rfl
  · obtain ⟨B, p, rfl, ⟨dx, fs, hl, bl, pd, dm, dc, da, dr, bs, ms, cs, as, rs, b⟩, q⟩ := h
    refine ⟨_, (pss_one (ps_ret (pe_listVals rfl (pe_dget (hu_of hr) (show PE _ _ (tFld K _ _) from pe_fld (pv 0) rfl) pe_str (fun _ _ => rfl)) (by rfl) mz_list))), ?_⟩
    have len : as.length = p.an.length := by rw [dpa_len b.a.2, List.length_map, Pb.an, List.length_map]
    exact s_retVals (ev_dgetK (ev_var rfl) b.ins TB.cl TB.n3 b.fp b.parts (parts_a ..)) b.a.1 fun p' H' np e hp => q p' as H' np e (by rw [hp, kvN_vals len]) (dpa_ex e b.a.2)
theorem ok_prows {C : Addr} (A : AtP K C "rows" "Book.rows" s_Book_rows) (TB : BookC K C) (mz_list : mg "list" = none) : PropD P w K mg base 1 C "rows" (spPropC K C rwD Pb.rows) := by
  refine prop_ok A sc_Book_rows (fun _ _ _ _ _ _ us hl => match us, hl with | [_], _ => rfl) (fun vs H Q E h => ?_) (fun f cdv A outer s H vs Q E hr h => ?_)
  · obtain ⟨B, p, rfl, _⟩ := h
    rfl
  · obtain ⟨B, p, rfl, ⟨dx, fs, hl, bl, pd, dm, dc, da, dr, bs, ms, cs, as, rs, b⟩, q⟩ := h
    refine ⟨_, (pss_one (ps_ret (pe_listVals rfl (pe_dget (hu_of hr) (show PE _ _ (tFld K _ _) from pe_fld (pv 0) rfl) pe_str (fun _ _ => rfl)) (by rfl) mz_list))), ?_⟩
    have len : rs.length = p.rn.length := by rw [dpa_len b.r.2, List.length_map, Pb.rn, List.length_map]
    exact s_retVals (ev_dgetK (ev_var rfl) b.ins TB.cl TB.n3 b.fp b.parts (parts_r ..)) b.r.1 fun p' H' np e hp => q p' rs H' np e (by rw [hp, kvN_vals len]) (dpa_ex e b.r.2)

/-! ### the law's own books -/
theorem q_forGs {σ : L2.St} {H : Hp} {tl : TE} {g : TG} {tu tz : TS} {D : Ends} {R : Addr → List V → Hp → Prop} (h : EvG tl σ H (fun v H1 => ∃ p xs, v = .ref p ∧ H1 p = some (.lst xs) ∧ R p xs H1)) (Pv : Addr → List V → Nat → L2.St → Hp → Prop) (h0 : ∀ p xs H1, Ex H H1 → H1 p = some (.lst xs) → R p xs H1 → Pv p xs 0 σ H1)
    (hl : ∀ p xs i σ' H', i ≤ xs.length → Pv p xs i σ' H' → SqL K H' p xs) (hs : ∀ p xs i x σ' H', xs[i]? = some x → Pv p xs i σ' H' → g x σ' H' fun σ2 H2 => tu { D with nx := Pv p xs (i + 1), ct := Pv p xs (i + 1), bk := tz D } σ2 H2)
    (hd : ∀ p xs σ' H', Pv p xs xs.length σ' H' → tz D σ' H') : tSeq (tFor (iList K tl) g tu) tz D σ H := s_forG (D := { D with nx := tz D }) h Pv h0 hl hs hd
theorem isLot_sub {xs ys : List Str} (hn : ∀ x ∈ ys, isName x = true) (hr : Rises ys) (h : xs.Sublist ys) : isLot xs = true := by
  unfold isLot
  rw [Bool.and_eq_true]
  exact ⟨List.all_eq_true.mpr fun x hx => hn x (h.subset hx), decide_eq_true (List.Pairwise.sublist h hr)⟩
def spPick (K : PySem.W.Frag) : Sp := fun vs H Q _ => ∃ (a wo : Addr) (xs ws : List Str) (m : Nat), vs = [.ref a, .int (m : Int), .ref wo] ∧ SqL K H a (xs.map V.str) ∧ NmsOk xs ∧ xs.length < 60 ∧ SqT K H wo (ws.map V.str) ∧ ∀ p lot H', LotOk xs lot → (∀ x ∈ lot, x ∉ ws) → Ex H H' → H' p = some (.tup (lot.map V.str)) → Q (.ref p) H'
theorem ok_pick (A : At K mg "_law_pick" s__law_pick) (mz_int : mg "int" = none) (mz_sorted : mg "sorted" = none) (mz_tuple : mg "tuple" = none) : Dfn P w K mg base 1 "_law_pick" p__law_pick (spPick K) := by
  refine dfn_ok A sc__law_pick (fun _ _ _ _ _ _ us hl => match us, hl with | [_, _, _], _ => rfl) (fun vs H Q E h => ?_) (fun f cdv A outer s H vs Q E hr h => ?_)
  · obtain ⟨a, wo, xs, ws, m, rfl, _⟩ := h
    rfl
  · obtain ⟨a, wo, xs, ws, m, rfl, hA, ok, lx, hw, q⟩ := h
    refine ⟨_, (pss_cons (ps_set (i := 3) sc__law_pick.nd rfl (Or.inl rfl) (pe_lst pa_nil))
  (pss_cons (ps_set (i := 4) sc__law_pick.nd rfl (Or.inl rfl) (pe_callTy call_int1 (by rfl) mz_int (by decide +kernel) (pa_cons (pv 1) pa_nil)))
  (pss_cons (ps_for PassesOwn.never rfl (show PI _ _ _ (iList K _) from pi_list (pe_callB (show CallR _ _ (rSortedS K) from cr_sortedS) (by rfl) mz_sorted (by decide +kernel) (pa_cons (pv 0) pa_nil))) (pg_name (i := 5) sc__law_pick.nd rfl (Or.inl rfl))
    (pss_cons (ps_if (PW.pt (pw_and (pt_cmpR op_eq (pe_op op_mod (pe_callTy call_int1 (by rfl) mz_int (by decide +kernel) (pa_cons (pv 4) pa_nil)) pe_int) pe_int (by first | exact nomark _ | rfl)) (pw_and1 (pt_cmpR (show OpR _ _ (rIn K true) from op_notIn_seq) (pv 5) (pv 2) (by first | exact nomark _ | rfl)))))
    (pss_one (ps_expr (show PE _ _ (tBM K "list" _ _ _) from pe_bm PySem.F.plainAttrs_list PySem.F.slot_list_append PySem.F.type_list_append mt_append (pv 3) (pa_cons (pv 5) pa_nil))))
    pss_nil)
  (pss_one (ps_set (i := 4) sc__law_pick.nd rfl (Or.inl rfl) (pe_op op_fdiv (pv 4) pe_int)))))
  (pss_one (ps_ret (pe_callTy (show CallR _ _ (rTupS K) from call_tuple_of) (by rfl) mz_tuple (by decide +kernel) (pa_cons (pv 3) pa_nil))))))), ?_⟩
    refine q_asgL (xs := []) (el_lst ea_nil (by decide)) fun pf H1 npf e1 hpf => ?_
    refine q_asg (v := .int (m : Int)) (ev_int (ea_cons (ev_var rfl) ea_nil)) fun H2 e2 => ?_
    have e12 := e1.trans e2
    refine q_forGs (R := fun p zs H' => H2 p = none ∧ ∃ ys : List Str, zs = ys.map V.str ∧ ys.Perm xs ∧ sortedS ys = true) (fun G e Q q => (ev_var rfl : Ev (tVar 0) _ H2 (.ref a)) G e _ fun G2 e' => ⟨a, xs, rfl, ex_l ((e12.trans e).trans e') hA, by omega, fun ys p pm so np => q _ _ (e'.trans (Ex.new np)) ⟨p, _, rfl, upd_same, fresh_back (e.trans e') np, ys, rfl, pm, so⟩⟩)
      (fun p zs i σ' H' => ∃ (ys fs : List Str) (r : Nat) (u5 : Option V), zs = ys.map V.str ∧ ys.Perm xs ∧ sortedS ys = true ∧ p ≠ pf ∧ σ' = [some (.ref a), some (.int (m : Int)), some (.ref wo), some (.ref pf), some (.int (r : Int)), u5] ∧ H' p = some (.lst zs) ∧ H' pf = some (.lst (fs.map V.str)) ∧ fs.Sublist (ys.take i) ∧ (∀ x ∈ fs, x ∉ ws) ∧ Ex H H')
      (fun p zs H3 e3 hp ⟨np, ys, ez, pm, so⟩ => ⟨ys, [], m, _, ez, pm, so, (fun z => by rw [z, e2 _ _ hpf] at np; cases np), rfl, hp, (e2.trans e3) _ _ hpf, List.nil_sublist _, fun _ h => (nomatch h), e12.trans e3⟩) (fun p zs i σ' H' _ ⟨_, _, _, _, _, _, _, _, _, hp, _⟩ => sq_of hp) ?hs ?hd
    case hs =>
      rintro p zs i x σ' H3 hx ⟨ys, fs, r, u5, rfl, pm, so, ne, rfl, hp, hpf3, sub, out, e3⟩
      obtain ⟨y, hy, rfl, _⟩ := str_at hx
      have hyi : ys[i]? = some y := by
        rw [List.getElem?_map] at hx
        cases e : ys[i]? with
        | none => rw [e] at hx; cases hx
        | some z => rw [e] at hx; exact congrArg some (V.str.inj (Option.some.inj hx))
      have lf : fs.length ≤ 60 := by
        have := sub.length_le
        rw [List.length_take] at this
        have := pm.length_eq
        omega
      have tk : ys.take (i + 1) = ys.take i ++ [y] := by rw [List.take_succ, hyi]; rfl
      refine q_join (Pm := fun σ' H' => ∃ (fs : List Str), σ' = [some (.ref a), some (.int (m : Int)), some (.ref wo), some (.ref pf), some (.int (r : Int)), some (.str y)] ∧ H' p = some (.lst (ys.map V.str)) ∧ H' pf = some (.lst (fs.map V.str)) ∧ fs.Sublist (ys.take (i + 1)) ∧ (∀ x ∈ fs, x ∉ ws) ∧ Ex H H') ?rest fun N hN => ?mid
      case mid =>
        refine s_when (b := decide (r % 3 = 1) && !decide (y ∈ ws)) (et_and (et_is (et_test (ev_op (ev_op (ev_int (ea_cons (ev_var rfl) ea_nil)) ev_c (rv_I (show (0 : Int) < 3 by decide))) ev_c (rv_eq rfl))) (show decide (V.int ((r : Int) % 3) = V.int 1) = decide (r % 3 = 1) from decide_eq_decide.mpr ⟨fun h => by injection h with h; omega, fun h => congrArg V.int (by omega)⟩)) fun _ => et_is (et_test (ev_op (ev_var rfl) (ev_var rfl) (rv_niT (ex_t e3 hw) rfl (flat_txs _)))) (congrArg (!·) inV_txs)) (fun hb H4 e4 => ?_) fun _ H4 e4 => ?_
        · rw [Bool.and_eq_true, Bool.not_eq_true'] at hb
          refine s_app (v := .str y) (e4 _ _ hpf3) (ev_var rfl) (ev_var rfl) (by rw [List.length_map]; omega) fun H5 e5 => hN _ _ ⟨fs ++ [y], rfl, by rw [upd_ne ne]; exact (e4.trans e5) _ _ hp, by rw [upd_same, List.map_append]; rfl, by rw [tk]; exact sub.append (List.Sublist.refl _), fun x hx => ?_, Ex.mut (e3.trans (e4.trans e5)) npf⟩
          rcases List.mem_append.mp hx with h | h
          · exact out x h
          · rw [List.mem_singleton.mp h]; exact of_decide_eq_false hb.2
        · exact hN _ _ ⟨fs, rfl, e4 _ _ hp, e4 _ _ hpf3, by rw [tk]; exact sub.trans (List.sublist_append_left _ _), out, e3.trans e4⟩
      case rest =>
        rintro σ' H4 ⟨fs, rfl, hp4, hpf4, sub, out, e4⟩
        exact s_asg (v := .int ((r / 3 : Nat) : Int)) (ev_is (ev_op (ev_var rfl) ev_c (rv_I (by unfold CDiv; omega))) (congrArg V.int (by omega))) fun H5 e5 => ⟨ys, fs, r / 3, _, rfl, pm, so, ne, rfl, e5 _ _ hp4, e5 _ _ hpf4, sub, out, e4.trans e5⟩
    case hd =>
      rintro p zs σ' H3 ⟨ys, fs, r, u5, rfl, pm, so, ne, rfl, hp, hpf3, sub, out, e3⟩
      rw [List.length_map, List.take_of_length_le (Nat.le_refl _)] at sub
      have nms : ∀ x ∈ ys, isName x = true := fun x hx => ok.all x (pm.mem_iff.mp hx)
      have ris : Rises ys := rises_of ys (pm.nodup_iff.mpr ok.nd) so
      refine s_retU (eu_tupleL (ev_var rfl) (sq_of hpf3)) fun p' H4 np' e4 hp' => q p' fs H4 ⟨isLot_sub nms ris sub, fun x hx => pm.mem_iff.mp (sub.subset hx), ?_⟩ out (e3.trans e4) hp'
      have := sub.length_le
      have := pm.length_eq
      omega
def IsEff (K : PySem.W.Frag) (hs ms : List Str) : V → Hp → Prop := fun v H => ∃ p po pf on off o, v = .ref p ∧ H p = some (.tup [.ref po, .ref pf, toV o]) ∧ SqT K H po ((on : List Str).map V.str) ∧ SqT K H pf ((off : List Str).map V.str) ∧ EffOk hs on off ∧ ToOk ms o
theorem evG_pick {σ : L2.St} {H : Hp} {E : XK} {t0 t1 t2 : TE} {a : Addr} {xs : List Str} {m : Nat} {P : List Str → Prop} (hA : SqL K H a (xs.map V.str)) (ok : NmsOk xs) (lx : xs.length < 60) (h0 : Ev t0 σ H (.ref a)) (h1 : Ev t1 σ H (.int (m : Int))) (h2 : EvG t2 σ H (fun v H' => ∃ wo ws, v = .ref wo ∧ SqT K H' wo ((ws : List Str).map V.str) ∧ P ws)) :
    EvG (tCall (spPick K) [] E (tCons t0 (tCons t1 (tCons t2 tNil)))) σ H (fun v H' => ∃ p lot ws, v = .ref p ∧ H' p = some (.tup ((lot : List Str).map V.str)) ∧ LotOk xs lot ∧ (∀ x ∈ lot, x ∉ ws) ∧ P ws) := fun H1 e Q q =>
  h0 H1 e _ fun H2 e2 => h1 H2 (e.trans e2) _ fun H3 e3 => h2 H3 ((e.trans e2).trans e3) _ fun v H4 e4 ⟨wo, ws, hv, hw, pw⟩ => by
    subst hv
    exact ⟨a, wo, xs, ws, m, rfl, ex_l (((e.trans e2).trans e3).trans e4) hA, ok, lx, hw, fun p lot H' lo out e5 hp => q _ H' (((e2.trans e3).trans e4).trans e5) ⟨p, lot, ws, rfl, hp, lo, out, pw⟩⟩
theorem evG_empty {σ : L2.St} {H : Hp} : EvG (tTup tNil) σ H (fun v H' => ∃ wo ws, v = V.ref wo ∧ SqT K H' wo ((ws : List Str).map V.str) ∧ ws = []) :=
  EvG.imp (evD_tup (K := K) eaD_nil (by simp)) fun v H' _ d => by
    obtain ⟨a, rfl, h⟩ := texts_of_dp (xs := []) d
    exact ⟨a, [], rfl, h, rfl⟩
def spEffP (K : PySem.W.Frag) : Sp := fun vs H Q _ => ∃ (h m n : Addr) (hs ms : List Str) (ns : List Int) (at_ : Nat), vs = [.ref h, .ref m, .ref n, .int (at_ : Int)] ∧ H h = some (.lst (hs.map V.str)) ∧ NmsOk hs ∧ hs.length < 60 ∧ H m = some (.lst (ms.map V.str)) ∧ ms.length < 60 ∧ SqL K H n (ns.map V.int) ∧ Small ns ∧ at_ + 2 < ns.length ∧ ∀ v H', IsEff K hs ms v H' → Ex H H' → Q v H'
theorem to_at (pre : List (Option Str)) (names : List Str) (i : Nat) (hi : i < names.length + pre.length) : ∃ o, (names.map V.str ++ pre.map toV)[i]? = some (toV o) ∧ (o ∈ pre ∨ ∃ y ∈ names, o = some y) := by
  have e : names.map V.str ++ pre.map toV = (names.map some ++ pre).map toV := by
    rw [List.map_append, List.map_map]; rfl
  have hl : i < (names.map some ++ pre).length := by rw [List.length_append, List.length_map]; exact hi
  refine ⟨(names.map some ++ pre)[i], ?_, ?_⟩
  · rw [e, List.getElem?_map, List.getElem?_eq_getElem hl]; rfl
  · rcases List.mem_append.mp (List.getElem_mem hl) with h | h
    · obtain ⟨y, hy, e⟩ := List.mem_map.mp h
      exact .inr ⟨y, hy, e.symm⟩
    · exact .inl h
theorem small_at {ns : List Int} (hS : Small ns) {j : Nat} (hj : j < ns.length) : ∃ m : Nat, (ns.map V.int)[j]? = some (.int (m : Int)) := by
  have h1 := hS _ (List.getElem_mem hj)
  refine ⟨ns[j].toNat, ?_⟩
  rw [List.getElem?_map, List.getElem?_eq_getElem hj, Int.toNat_of_nonneg h1.1]
  rfl
theorem ok_effp (A : At K mg "_law_effect" s__law_effect) (mz_int : mg "int" = none) (mz_len : mg "len" = none) (D__law_pick : Dfn P w K mg base 1 "_law_pick" p__law_pick (spPick K)) : Dfn P w K mg base 2 "_law_effect" p__law_effect (spEffP K) := by
  refine dfn_ok A sc__law_effect (fun _ _ _ _ _ _ us hl => match us, hl with | [_, _, _, _], _ => rfl) (fun vs H Q E h => ?_) (fun f cdv A outer s H vs Q E hr h => ?_)
  · obtain ⟨h, m, n, hs, ms, ns, at_, rfl, _⟩ := h
    rfl
  · obtain ⟨h, m, n, hs, ms, ns, at_, rfl, hh, okh, lh, hm, lm, hN, hS, hat, q⟩ := h
    refine ⟨_, (pss_cons (ps_set (i := 4) sc__law_effect.nd rfl (Or.inl rfl) (pe_d D__law_pick (hr.mono (by decide)) (pa_cons (pv 0) (pa_cons (pe_ix (show IxR _ (rIxL K) from ix_list) (pv 2) (pv 3) (fun _ _ => rfl)) (pa_cons (pe_tup pa_nil) pa_nil)))))
  (pss_cons (ps_set (i := 5) sc__law_effect.nd rfl (Or.inl rfl) (pe_d D__law_pick (hr.mono (by decide)) (pa_cons (pv 0) (pa_cons (pe_ix (show IxR _ (rIxL K) from ix_list) (pv 2) (pe_op op_add (pv 3) pe_int) (fun _ _ => rfl)) (pa_cons (pv 4) pa_nil)))))
  (pss_one (ps_ret (pe_tup (pa_cons (pv 4) (pa_cons (pv 5) (pa_cons (pe_ix (show IxR _ (rIxL K) from ix_list) (pe_op op_cat (pv 1) (pe_lst (pa_cons pe_non (pa_cons pe_non pa_nil)))) (pe_op op_mod (pe_callTy call_int1 (by rfl) mz_int (by decide +kernel) (pa_cons (pe_ix (show IxR _ (rIxL K) from ix_list) (pv 2) (pe_op op_add (pv 3) pe_int) (fun _ _ => rfl)) pa_nil)) (pe_op op_add (pe_callB (show CallR _ _ (rLenS K) from call_len_seq) (by rfl) mz_len PySem.boot_len (pa_cons (pv 1) pa_nil)) pe_int)) (fun _ _ => rfl)) pa_nil)))))))), ?_⟩
    obtain ⟨m0, hm0⟩ := small_at hS (j := at_) (by omega)
    obtain ⟨m1, hm1⟩ := small_at hS (j := at_ + 1) (by omega)
    obtain ⟨m2, hm2⟩ := small_at hS (j := at_ + 2) (by omega)
    have nE : ∀ {σ : L2.St} {H4 : Hp} {tb : TE} {j m : Nat}, Ex H H4 → σ[2]? = some (some (.ref n)) → Ev tb σ H4 (.int (j : Int)) → (ns.map V.int)[j]? = some (.int (m : Int)) → Ev (tOp (rIxL K) (tVar 2) tb) σ H4 (.int (m : Int)) := fun e hs hb hm => ev_ixI (ev_var hs) hb (ex_l e hN) (atI_nat hm)
    have a1 : ∀ {σ : L2.St} {H4 : Hp} (c : Nat), σ[3]? = some (some (.int (at_ : Int))) → Ev (tOp (rI0 fun i j => V.int (i + j)) (tVar 3) (tC (.int (c : Int)))) σ H4 (.int ((at_ + c : Nat) : Int)) := fun c h1 => ev_is (ev_op (ev_var h1) ev_c rv_I0) (congrArg V.int (by push_cast; rfl))
    refine q_asgG (P := fun v H' => ∃ p lot ws, v = .ref p ∧ H' p = some (.tup ((lot : List Str).map V.str)) ∧ LotOk hs lot ∧ (∀ x ∈ lot, x ∉ ws) ∧ ws = []) (evG_pick (sq_of hh) okh lh (ev_var rfl) (nE (j := at_) (Ex.refl _) rfl (ev_var rfl) hm0) evG_empty) fun v H1 e1 hv => ?_
    obtain ⟨po, on, _, rfl, hpo, lo, _, _⟩ := hv
    refine q_asgG (P := fun v H' => ∃ p lot ws, v = .ref p ∧ H' p = some (.tup ((lot : List Str).map V.str)) ∧ LotOk hs lot ∧ (∀ x ∈ lot, x ∉ ws) ∧ ws = on) (evG_pick (sq_of (e1 _ _ hh)) okh lh (ev_var rfl) (nE (j := at_ + 1) e1 rfl (a1 1 rfl) hm1) (Ev.gi (ev_var rfl) fun H' e => ⟨po, on, rfl, st_of (e _ _ hpo), rfl⟩)) fun v H2 e2 hv => ?_
    obtain ⟨pf, off, ws, rfl, hpf, lf, out, ew⟩ := hv
    rw [ew] at out
    have e12 := e1.trans e2
    obtain ⟨o, ho, oo⟩ := to_at [none, none] ms (m2 % (ms.length + 2)) (by have := Nat.mod_lt m2 (show 0 < ms.length + 2 by omega); simp only [List.length_cons, List.length_nil]; omega)
    refine s_retU (eu_tup (vs := [.ref po, .ref pf, toV o]) (ea_cons (ev_var rfl) (ea_cons (ev_var rfl) (ea_cons (ev_ixN (i := ((m2 % (ms.length + 2) : Nat) : Int)) (xs := ms.map V.str ++ [none, none].map toV) (el_catA (ev_var rfl) (e12 _ _ hm) (el_lst (ea_cons ev_c (ea_cons ev_c ea_nil)) (by simp)) (by simp; omega)) (ev_is (ev_op (ev_int (ea_cons (nE (j := at_ + 2) e12 rfl (a1 2 rfl) hm2) ea_nil)) (ev_op (ev_len (ev_var rfl) (sq_of (e12 _ _ hm))) ev_c rv_I0) (rv_I (by rw [List.length_map]; omega))) (congrArg V.int (by rw [List.length_map]; push_cast; rfl))) (atI_nat ho)) ea_nil))) (by simp)) fun p H3 np e3 hp => q _ H3 ⟨p, po, pf, on, off, o, rfl, hp, st_of ((e2.trans e3) _ _ hpo), st_of (e3 _ _ hpf), ⟨lo, lf, fun x hx hx2 => out x hx2 hx⟩, fun x hx => ?_⟩ (e12.trans e3)
    rcases oo with h | ⟨y, hy, e⟩
    · rw [hx] at h; simp at h
    · rw [hx] at e; rw [Option.some.inj e]; exact hy

def bkH : List Str := [Str.ofString "heat", Str.ofString "a", Str.ofString "wheel", Str.ofString "b9"]
def bkM : List Str := [Str.ofString "safe", Str.ofString "a", Str.ofString "run"]
def bkC : List Str := [Str.ofString "go", Str.ofString "a", Str.ofString "burn"]
def bkA : List Str := [Str.ofString "low", Str.ofString "a"]
def bkR : List Str := [Str.ofString "plan", Str.ofString "a"]
theorem nms_of {xs : List Str} (h : (xs.all isName && decide xs.Nodup && decide (xs.length ≤ 100)) = true) : NmsOk xs := by
  rw [Bool.and_eq_true, Bool.and_eq_true] at h
  exact ⟨List.all_eq_true.mp h.1.1, of_decide_eq_true h.1.2, of_decide_eq_true h.2⟩
theorem okH0 : NmsOk bkH := nms_of (by decide +kernel)
theorem okM0 : NmsOk bkM := nms_of (by decide +kernel)
theorem okC0 : NmsOk bkC := nms_of (by decide +kernel)
theorem okA0 : NmsOk bkA := nms_of (by decide +kernel)
theorem okR0 : NmsOk bkR := nms_of (by decide +kernel)
theorem evG_effP {σ : L2.St} {H : Hp} {E : XK} {t0 t1 t2 t3 : TE} {h m n : Addr} {hs ms : List Str} {ns : List Int} {at_ : Nat} (hh : H h = some (.lst (hs.map V.str))) (okh : NmsOk hs) (lh : hs.length < 60) (hm : H m = some (.lst (ms.map V.str))) (lm : ms.length < 60) (hN : SqL K H n (ns.map V.int)) (hS : Small ns) (hat : at_ + 2 < ns.length) (h0 : Ev t0 σ H (.ref h)) (h1 : Ev t1 σ H (.ref m)) (h2 : Ev t2 σ H (.ref n)) (h3 : Ev t3 σ H (.int (at_ : Int))) :
    EvG (tCall (spEffP K) [] E (tCons t0 (tCons t1 (tCons t2 (tCons t3 tNil))))) σ H (IsEff K hs ms) :=
  evG_call (ea_cons h0 (ea_cons h1 (ea_cons h2 (ea_cons h3 ea_nil)))) fun H1 e Q q E => ⟨h, m, n, hs, ms, ns, at_, rfl, e _ _ hh, okh, lh, e _ _ hm, lm, ex_l e hN, hS, hat, fun v H' hv e' => q v H' e' hv⟩
theorem evG_tupA {σ : L2.St} {H : Hp} {tA : TA} {Ps : List (V → Hp → Prop)} (h : EaP tA σ H Ps) (hl : Ps.length ≤ 100000) : EvG (tTup tA) σ H (fun v H' => ∃ p vs H2, v = .ref p ∧ H' p = some (.tup vs) ∧ Ex H2 H' ∧ AllP H2 vs Ps) := fun H1 e Q q =>
  h H1 e _ fun vs H2 e2 hvs => ⟨sz_of (by rw [hvs.len]; exact hl), fun p np => q _ _ (e2.trans (Ex.new np)) ⟨p, vs, H2, rfl, upd_same, Ex.new np, hvs⟩⟩
theorem mDp {d : PyData} : Mono fun v H' => Dp K H' v d := fun _ _ _ e h => dp_ex e h
def NoN (p : Pb) : Prop := Str.ofString "none" ∉ p.mn ∧ Str.ofString "none" ∉ p.cn ∧ Str.ofString "none" ∉ p.an ∧ Str.ofString "none" ∉ p.rn
def IsParts (K : PySem.W.Frag) : V → Hp → Prop := fun v H => ∃ (a : Addr) (p : Pb) (hv mv bv cv av rv : V), v = .ref a ∧ SqT K H a [hv, mv, bv, cv, av, rv, lmV p.quiet] ∧ Dp K H hv (.list (p.holds.map .str)) ∧ Dp K H mv (.list (p.modes.map mdD)) ∧ Dp K H bv (.list (p.barred.map tD)) ∧ Dp K H cv (.list (p.cmds.map cdD)) ∧ Dp K H av (.list (p.als.map alD)) ∧ Dp K H rv (.list (p.rows.map rwD)) ∧ PbOk p ∧ NoN p
def spLParts (K : PySem.W.Frag) : Sp := fun vs H Q _ => ∃ (n : Addr) (ns : List Int) (at_ : Nat), vs = [.ref n, .int (at_ : Int)] ∧ SqL K H n (ns.map V.int) ∧ Small ns ∧ at_ + 55 < ns.length ∧ ∀ v H', IsParts K v H' → Ex H H' → Q v H'
theorem ok_lparts (A : At K mg "_law_parts" s__law_parts) (mz_int : mg "int" = none) (mz_range : mg "range" = none) (mz_len : mg "len" = none) (mz_tuple : mg "tuple" = none) (D__law_pick : Dfn P w K mg base 1 "_law_pick" p__law_pick (spPick K)) (D__law_effect : Dfn P w K mg base 2 "_law_effect" p__law_effect (spEffP K)) : Dfn P w K mg base 3 "_law_parts" p__law_parts (spLParts K) := by
  refine dfn_ok A sc__law_parts (fun _ _ _ _ _ _ us hl => match us, hl with | [_, _], _ => rfl) (fun vs H Q E h => ?_) (fun f cdv A outer s H vs Q E hr h => ?_)
  · obtain ⟨n, ns, at_, rfl, _⟩ := h
    rfl
  · obtain ⟨n, ns, at_, rfl, hN, hS, hat, q⟩ := h
    refine ⟨_, (pss_cons (ps_set (i := 2) sc__law_parts.nd rfl (Or.inl rfl) (pe_slice (show SlR _ (rSlL K) from sl_list) (pe_lst (pa_cons pe_str (pa_cons pe_str (pa_cons pe_str (pa_cons pe_str pa_nil))))) po_none (po_some (pe_op op_add pe_int (pe_op op_mod (pe_callTy call_int1 (by rfl) mz_int (by decide +kernel) (pa_cons (pe_ix (show IxR _ (rIxL K) from ix_list) (pv 0) (pv 1) (fun _ _ => rfl)) pa_nil)) pe_int)))))
  (pss_cons (ps_set (i := 3) sc__law_parts.nd rfl (Or.inl rfl) (pe_slice (show SlR _ (rSlL K) from sl_list) (pe_lst (pa_cons pe_str (pa_cons pe_str (pa_cons pe_str pa_nil)))) po_none (po_some (pe_op op_add pe_int (pe_op op_mod (pe_callTy call_int1 (by rfl) mz_int (by decide +kernel) (pa_cons (pe_ix (show IxR _ (rIxL K) from ix_list) (pv 0) (pe_op op_add (pv 1) pe_int) (fun _ _ => rfl)) pa_nil)) pe_int)))))
  (pss_cons (ps_set (i := 4) sc__law_parts.nd rfl (Or.inl rfl) (pe_lst pa_nil))
  (pss_cons (ps_for PassesOwn.never rfl (pi_range1 (by rfl) mz_range (pa_cons (pe_callB (show CallR _ _ (rLenS K) from call_len_seq) (by rfl) mz_len PySem.boot_len (pa_cons (pv 3) pa_nil)) pa_nil)) (pg_name (i := 5) sc__law_parts.nd rfl (Or.inl rfl))
    (pss_cons (ps_asg (pe_d D__law_effect (hr.mono (by decide)) (pa_cons (pv 2) (pa_cons (pv 3) (pa_cons (pv 0) (pa_cons (pe_op op_add (pe_op op_add (pv 1) pe_int) (pe_op op_mul pe_int (pv 5))) pa_nil))))) (show PG _ _ (gTup K 3 _) from pg_tup rfl (pgs_cons (pg_name (i := 6) sc__law_parts.nd rfl (Or.inl rfl)) (pgs_cons (pg_name (i := 7) sc__law_parts.nd rfl (Or.inl rfl)) (pgs_cons (pg_name (i := 8) sc__law_parts.nd rfl (Or.inl rfl)) pgs_nil)))))
  (pss_one (ps_expr (show PE _ _ (tBM K "list" _ _ _) from pe_bm PySem.F.plainAttrs_list PySem.F.slot_list_append PySem.F.type_list_append mt_append (pv 4) (pa_cons (pe_tup (pa_cons (pe_ix (show IxR _ (rIxL K) from ix_list) (pv 3) (pv 5) (fun _ _ => rfl)) (pa_cons (pv 6) (pa_cons (pv 7) pa_nil)))) pa_nil))))))
  (pss_cons (ps_set (i := 9) sc__law_parts.nd rfl (Or.inl rfl) (pe_lst pa_nil))
  (pss_cons (ps_for PassesOwn.never rfl (pi_range1 (by rfl) mz_range (pa_cons (pe_op op_mod (pe_callTy call_int1 (by rfl) mz_int (by decide +kernel) (pa_cons (pe_ix (show IxR _ (rIxL K) from ix_list) (pv 0) (pe_op op_add (pv 1) pe_int) (fun _ _ => rfl)) pa_nil)) pe_int) pa_nil)) (pg_name (i := 5) sc__law_parts.nd rfl (Or.inl rfl))
    (pss_cons (ps_set (i := 10) sc__law_parts.nd rfl (Or.inl rfl) (pe_d D__law_pick (hr.mono (by decide)) (pa_cons (pv 2) (pa_cons (pe_ix (show IxR _ (rIxL K) from ix_list) (pv 0) (pe_op op_add (pe_op op_add (pv 1) pe_int) (pv 5)) (fun _ _ => rfl)) (pa_cons (pe_tup pa_nil) pa_nil)))))
  (pss_one (ps_if (PW.pt (pw_and (pt_cmpR op_gt (pe_callB (show CallR _ _ (rLenS K) from call_len_seq) (by rfl) mz_len PySem.boot_len (pa_cons (pv 10) pa_nil)) pe_int (by first | exact nomark _ | rfl)) (pw_and1 (pt_cmpR (show OpR _ _ (rNotInD K) from op_notInD (My.Room.u65 hr)) (pv 10) (pv 9) (by first | exact nomark _ | rfl)))))
    (pss_one (ps_expr (show PE _ _ (tBM K "list" _ _ _) from pe_bm PySem.F.plainAttrs_list PySem.F.slot_list_append PySem.F.type_list_append mt_append (pv 9) (pa_cons (pv 10) pa_nil))))
    pss_nil))))
  (pss_cons (ps_set (i := 11) sc__law_parts.nd rfl (Or.inl rfl) (pe_lst pa_nil))
  (pss_cons (ps_for PassesOwn.never rfl (pi_range1 (by rfl) mz_range (pa_cons (pe_op op_mod (pe_callTy call_int1 (by rfl) mz_int (by decide +kernel) (pa_cons (pe_ix (show IxR _ (rIxL K) from ix_list) (pv 0) (pe_op op_add (pv 1) pe_int) (fun _ _ => rfl)) pa_nil)) pe_int) pa_nil)) (pg_name (i := 5) sc__law_parts.nd rfl (Or.inl rfl))
    (pss_cons (ps_asg (pe_d D__law_effect (hr.mono (by decide)) (pa_cons (pv 2) (pa_cons (pv 3) (pa_cons (pv 0) (pa_cons (pe_op op_add (pe_op op_add (pv 1) pe_int) (pe_op op_mul pe_int (pv 5))) pa_nil))))) (show PG _ _ (gTup K 3 _) from pg_tup rfl (pgs_cons (pg_name (i := 6) sc__law_parts.nd rfl (Or.inl rfl)) (pgs_cons (pg_name (i := 7) sc__law_parts.nd rfl (Or.inl rfl)) (pgs_cons (pg_name (i := 8) sc__law_parts.nd rfl (Or.inl rfl)) pgs_nil)))))
  (pss_one (ps_expr (show PE _ _ (tBM K "list" _ _ _) from pe_bm PySem.F.plainAttrs_list PySem.F.slot_list_append PySem.F.type_list_append mt_append (pv 11) (pa_cons (pe_tup (pa_cons (pe_ix (show IxR _ (rIxL K) from ix_list) (pe_lst (pa_cons pe_str (pa_cons pe_str (pa_cons pe_str pa_nil)))) (pv 5) (fun _ _ => rfl)) (pa_cons (pe_d D__law_pick (hr.mono (by decide)) (pa_cons (pv 3) (pa_cons (pe_ix (show IxR _ (rIxL K) from ix_list) (pv 0) (pe_op op_add (pe_op op_add (pv 1) pe_int) (pe_op op_mul pe_int (pv 5))) (fun _ _ => rfl)) (pa_cons (pe_tup pa_nil) pa_nil)))) (pa_cons (pv 6) (pa_cons (pv 7) (pa_cons (pv 8) pa_nil)))))) pa_nil))))))
  (pss_cons (ps_set (i := 12) sc__law_parts.nd rfl (Or.inl rfl) (pe_lst pa_nil))
  (pss_cons (ps_for PassesOwn.never rfl (pi_range1 (by rfl) mz_range (pa_cons (pe_op op_mod (pe_callTy call_int1 (by rfl) mz_int (by decide +kernel) (pa_cons (pe_ix (show IxR _ (rIxL K) from ix_list) (pv 0) (pe_op op_add (pv 1) pe_int) (fun _ _ => rfl)) pa_nil)) pe_int) pa_nil)) (pg_name (i := 5) sc__law_parts.nd rfl (Or.inl rfl))
    (pss_cons (ps_asg (pe_d D__law_effect (hr.mono (by decide)) (pa_cons (pv 2) (pa_cons (pv 3) (pa_cons (pv 0) (pa_cons (pe_op op_add (pe_op op_add (pv 1) pe_int) (pe_op op_mul pe_int (pv 5))) pa_nil))))) (show PG _ _ (gTup K 3 _) from pg_tup rfl (pgs_cons (pg_name (i := 6) sc__law_parts.nd rfl (Or.inl rfl)) (pgs_cons (pg_name (i := 7) sc__law_parts.nd rfl (Or.inl rfl)) (pgs_cons (pg_name (i := 8) sc__law_parts.nd rfl (Or.inl rfl)) pgs_nil)))))
  (pss_one (ps_expr (show PE _ _ (tBM K "list" _ _ _) from pe_bm PySem.F.plainAttrs_list PySem.F.slot_list_append PySem.F.type_list_append mt_append (pv 12) (pa_cons (pe_tup (pa_cons (pe_ix (show IxR _ (rIxL K) from ix_list) (pe_lst (pa_cons pe_str (pa_cons pe_str pa_nil))) (pv 5) (fun _ _ => rfl)) (pa_cons (pv 6) (pa_cons (pv 7) (pa_cons (pv 8) pa_nil))))) pa_nil))))))
  (pss_cons (ps_set (i := 13) sc__law_parts.nd rfl (Or.inl rfl) (pe_lst pa_nil))
  (pss_cons (ps_for PassesOwn.never rfl (pi_range1 (by rfl) mz_range (pa_cons (pe_op op_mod (pe_callTy call_int1 (by rfl) mz_int (by decide +kernel) (pa_cons (pe_ix (show IxR _ (rIxL K) from ix_list) (pv 0) (pe_op op_add (pv 1) pe_int) (fun _ _ => rfl)) pa_nil)) pe_int) pa_nil)) (pg_name (i := 5) sc__law_parts.nd rfl (Or.inl rfl))
    (pss_cons (ps_set (i := 14) sc__law_parts.nd rfl (Or.inl rfl) (pe_lst pa_nil))
  (pss_cons (ps_for PassesOwn.never rfl (pi_range1 (by rfl) mz_range (pa_cons (pe_op op_add pe_int (pe_op op_mod (pe_callTy call_int1 (by rfl) mz_int (by decide +kernel) (pa_cons (pe_ix (show IxR _ (rIxL K) from ix_list) (pv 0) (pe_op op_add (pe_op op_add (pv 1) pe_int) (pv 5)) (fun _ _ => rfl)) pa_nil)) pe_int)) pa_nil)) (pg_name (i := 15) sc__law_parts.nd rfl (Or.inl rfl))
    (pss_one (ps_if (pt_cmpR op_gt (pe_callB (show CallR _ _ (rLenS K) from call_len_seq) (by rfl) mz_len PySem.boot_len (pa_cons (pv 11) pa_nil)) pe_int (by first | exact nomark _ | rfl))
    (pss_one (ps_expr (show PE _ _ (tBM K "list" _ _ _) from pe_bm PySem.F.plainAttrs_list PySem.F.slot_list_append PySem.F.type_list_append mt_append (pv 14) (pa_cons (pe_tup (pa_cons (pe_op op_add pe_int (pe_op op_mod (pe_callTy call_int1 (by rfl) mz_int (by decide +kernel) (pa_cons (pe_ix (show IxR _ (rIxL K) from ix_list) (pv 0) (pe_op op_add (pe_op op_add (pe_op op_add (pv 1) pe_int) (pe_op op_mul pe_int (pv 5))) (pe_op op_mul pe_int (pv 15))) (fun _ _ => rfl)) pa_nil)) pe_int)) (pa_cons (pe_ix (show IxR _ (rIxT K) from ix_tup) (pe_ix (show IxR _ (rIxL K) from ix_list) (pv 11) (pe_op op_mod (pe_callTy call_int1 (by rfl) mz_int (by decide +kernel) (pa_cons (pe_ix (show IxR _ (rIxL K) from ix_list) (pv 0) (pe_op op_add (pe_op op_add (pe_op op_add (pv 1) pe_int) (pe_op op_mul pe_int (pv 5))) (pe_op op_mul pe_int (pv 15))) (fun _ _ => rfl)) pa_nil)) (pe_callB (show CallR _ _ (rLenS K) from call_len_seq) (by rfl) mz_len PySem.boot_len (pa_cons (pv 11) pa_nil))) (fun _ _ => rfl)) pe_int (fun _ _ => rfl)) pa_nil))) pa_nil))))
    pss_nil)))
  (pss_one (ps_if (pt_cmpR op_gt (pe_callB (show CallR _ _ (rLenS K) from call_len_seq) (by rfl) mz_len PySem.boot_len (pa_cons (pv 14) pa_nil)) pe_int (by first | exact nomark _ | rfl))
    (pss_one (ps_expr (show PE _ _ (tBM K "list" _ _ _) from pe_bm PySem.F.plainAttrs_list PySem.F.slot_list_append PySem.F.type_list_append mt_append (pv 13) (pa_cons (pe_tup (pa_cons (pe_ix (show IxR _ (rIxL K) from ix_list) (pe_lst (pa_cons pe_str (pa_cons pe_str pa_nil))) (pv 5) (fun _ _ => rfl)) (pa_cons (pe_callTy (show CallR _ _ (rTupS K) from call_tuple_of) (by rfl) mz_tuple (by decide +kernel) (pa_cons (pv 14) pa_nil)) pa_nil))) pa_nil))))
    pss_nil)))))
  (pss_cons (ps_set (i := 16) sc__law_parts.nd rfl (Or.inl rfl) (pe_ix (show IxR _ (rIxL K) from ix_list) (pe_lst (pa_cons pe_non (pa_cons pe_int (pa_cons pe_int (pa_cons pe_int (pa_cons pe_int pa_nil)))))) (pe_op op_mod (pe_callTy call_int1 (by rfl) mz_int (by decide +kernel) (pa_cons (pe_ix (show IxR _ (rIxL K) from ix_list) (pv 0) (pe_op op_add (pv 1) pe_int) (fun _ _ => rfl)) pa_nil)) pe_int) (fun _ _ => rfl)))
  (pss_one (ps_ret (pe_tup (pa_cons (pv 2) (pa_cons (pv 4) (pa_cons (pv 9) (pa_cons (pv 11) (pa_cons (pv 12) (pa_cons (pv 13) (pa_cons (pv 16) pa_nil))))))))))))))))))))))), ?_⟩
    have get : ∀ {j : Nat}, j < ns.length → ∃ m : Nat, (ns.map V.int)[j]? = some (.int (m : Int)) := fun hj => small_at hS hj
    have nE : ∀ {σ : L2.St} {H4 : Hp} {tb : TE} {j m : Nat}, Ex H H4 → σ[0]? = some (some (.ref n)) → Ev tb σ H4 (.int (j : Int)) → (ns.map V.int)[j]? = some (.int (m : Int)) → Ev (tOp (rIxL K) (tVar 0) tb) σ H4 (.int (m : Int)) := fun e hs hb hm => ev_ixI (ev_var hs) hb (ex_l e hN) (atI_nat hm)
    have a1 : ∀ {σ : L2.St} {H4 : Hp} (c : Nat), σ[1]? = some (some (.int (at_ : Int))) → Ev (tOp (rI0 fun i j => V.int (i + j)) (tVar 1) (tC (.int (c : Int)))) σ H4 (.int ((at_ + c : Nat) : Int)) := fun c h1 => ev_is (ev_op (ev_var h1) ev_c rv_I0) (congrArg V.int (by push_cast; rfl))
    have a2 : ∀ {σ : L2.St} {H4 : Hp} (c i : Nat), σ[1]? = some (some (.int (at_ : Int))) → σ[5]? = some (some (.int (i : Int))) → Ev (tOp (rI0 fun i j => V.int (i + j)) (tOp (rI0 fun i j => V.int (i + j)) (tVar 1) (tC (.int (c : Int)))) (tVar 5)) σ H4 (.int ((at_ + c + i : Nat) : Int)) := fun c i h1 h5 => ev_is (ev_op (ev_op (ev_var h1) ev_c rv_I0) (ev_var h5) rv_I0) (congrArg V.int (by push_cast; rfl))
    have a3 : ∀ {σ : L2.St} {H4 : Hp} (c d i : Nat), d < 100 → σ[1]? = some (some (.int (at_ : Int))) → σ[5]? = some (some (.int (i : Int))) → Ev (tOp (rI0 fun i j => V.int (i + j)) (tOp (rI0 fun i j => V.int (i + j)) (tVar 1) (tC (.int (c : Int)))) (tOp (rI CMul fun i j => V.int (i * j)) (tC (.int (d : Int))) (tVar 5))) σ H4 (.int ((at_ + c + d * i : Nat) : Int)) := fun c d i hd h1 h5 => ev_is (ev_op (ev_op (ev_var h1) ev_c rv_I0) (ev_op ev_c (ev_var h5) (rv_I (C := CMul) (Or.inl ⟨by omega, by omega⟩))) rv_I0) (congrArg V.int (by push_cast; rfl))
    have a4 : ∀ {σ : L2.St} {H4 : Hp} (c i j : Nat), σ[1]? = some (some (.int (at_ : Int))) → σ[5]? = some (some (.int (i : Int))) → σ[15]? = some (some (.int (j : Int))) → Ev (tOp (rI0 fun i j => V.int (i + j)) (tOp (rI0 fun i j => V.int (i + j)) (tOp (rI0 fun i j => V.int (i + j)) (tVar 1) (tC (.int (c : Int)))) (tOp (rI CMul fun i j => V.int (i * j)) (tC (.int 6)) (tVar 5))) (tOp (rI CMul fun i j => V.int (i * j)) (tC (.int 2)) (tVar 15))) σ H4 (.int ((at_ + c + 6 * i + 2 * j : Nat) : Int)) := fun c i j h1 h5 h15 => ev_is (ev_op (ev_op (ev_op (ev_var h1) ev_c rv_I0) (ev_op ev_c (ev_var h5) (rv_I (C := CMul) (Or.inl ⟨by decide, by decide⟩))) rv_I0) (ev_op ev_c (ev_var h15) (rv_I (C := CMul) (Or.inl ⟨by decide, by decide⟩))) rv_I0) (congrArg V.int (by push_cast; rfl))
    obtain ⟨m0, hm0⟩ := get (j := at_) (by omega)
    obtain ⟨m1, hm1⟩ := get (j := at_ + 1) (by omega)
    obtain ⟨m11, hm11⟩ := get (j := at_ + 11) (by omega)
    obtain ⟨m14, hm14⟩ := get (j := at_ + 14) (by omega)
    obtain ⟨m27, hm27⟩ := get (j := at_ + 27) (by omega)
    obtain ⟨m34, hm34⟩ := get (j := at_ + 34) (by omega)
    obtain ⟨m49, hm49⟩ := get (j := at_ + 49) (by omega)
    -- holds, modes
    refine q_asgL (xs := (bkH.take (1 + m0 % 4)).map V.str) (el_is (el_slN (xs := bkH.map V.str) (el_lst (ea_cons ev_c (ea_cons ev_c (ea_cons ev_c (ea_cons ev_c ea_nil)))) (by decide)) eo_none (eo_some (i := ((1 + m0 % 4 : Nat) : Int)) (ev_is (ev_op ev_c (ev_op (ev_int (ea_cons (nE (j := at_) (Ex.refl _) rfl (ev_var rfl) hm0) ea_nil)) ev_c (rv_I (show (0 : Int) < 4 by decide))) rv_I0) (congrArg V.int (by push_cast; rfl))))) (by rw [cut_take, List.map_take])) fun ph H1 _ e1 hph => ?_
    have okHo : NmsOk (bkH.take (1 + m0 % 4)) := okH0.sub (List.take_sublist _ _)
    have lH : 1 ≤ (bkH.take (1 + m0 % 4)).length ∧ (bkH.take (1 + m0 % 4)).length ≤ 4 := by
      rw [List.length_take, show bkH.length = 4 from rfl]; omega
    generalize bkH.take (1 + m0 % 4) = holds at hph okHo lH
    refine q_asgL (xs := (bkM.take (1 + m1 % 3)).map V.str) (el_is (el_slN (xs := bkM.map V.str) (el_lst (ea_cons ev_c (ea_cons ev_c (ea_cons ev_c ea_nil))) (by decide)) eo_none (eo_some (i := ((1 + m1 % 3 : Nat) : Int)) (ev_is (ev_op ev_c (ev_op (ev_int (ea_cons (nE (j := at_ + 1) e1 rfl (a1 1 rfl) hm1) ea_nil)) ev_c (rv_I (show (0 : Int) < 3 by decide))) rv_I0) (congrArg V.int (by push_cast; rfl))))) (by rw [cut_take, List.map_take])) fun pn H2 _ e2 hpn => ?_
    have okMo : NmsOk (bkM.take (1 + m1 % 3)) := okM0.sub (List.take_sublist _ _)
    have lM : 1 ≤ (bkM.take (1 + m1 % 3)).length ∧ (bkM.take (1 + m1 % 3)).length ≤ 3 := by
      rw [List.length_take, show bkM.length = 3 from rfl]; omega
    have noM : Str.ofString "none" ∉ bkM.take (1 + m1 % 3) := fun h => absurd (List.mem_of_mem_take h) (by decide +kernel)
    generalize bkM.take (1 + m1 % 3) = names at hpn okMo lM noM
    have e12 := e1.trans e2
    -- modes
    refine q_asgL (xs := []) (el_lst ea_nil (by decide)) fun pm H3 npm e3 hpm => ?_
    refine q_forR1 (n := (names.length : Int)) (ea_cons (ev_is (ev_len (ev_var rfl) (sq_of (e3 _ _ hpn))) (by rw [List.length_map])) ea_nil) (by omega) (fun i σ' H' => ∃ (u5 u6 u7 u8 : Option V) (zs : List V) (mds : List Md), σ' = [some (.ref n), some (.int (at_ : Int)), some (.ref ph), some (.ref pn), some (.ref pm), u5, u6, u7, u8, none, none, none, none, none, none, none, none] ∧ H' pm = some (.lst zs) ∧ DpAll K H' zs (mds.map mdD) ∧ mds.map (fun m => m.1) = names.take i ∧ (∀ m ∈ mds, EffOk holds m.2.1 m.2.2) ∧ Ex H2 H') (fun H4 e4 => ⟨none, none, none, none, [], [], rfl, e4 _ _ hpm, .nil, rfl, fun _ h => (nomatch h), e3.trans e4⟩) ?ms ?md
    case ms =>
      rintro i σ' H4 hi ⟨u5, u6, u7, u8, zs, mds, rfl, hpm4, dz, nm, ok, e4⟩
      have hi : i < names.length := by omega
      have lm : mds.length = i := by
        have := congrArg List.length nm
        rw [List.length_map, List.length_take] at this
        omega
      refine q_unG3 (P := IsEff K holds names) (evG_effP (at_ := at_ + 2 + 3 * i) ((e2.trans e4) _ _ hph) okHo (by omega) (e4 _ _ hpn) (by omega) (ex_l (e12.trans e4) hN) hS (by omega) (ev_var rfl) (ev_var rfl) (ev_var rfl) (a3 2 3 i (by decide) rfl rfl)) fun v H5 e5 hv => ?_
      obtain ⟨pp, po, pf, on, off, o, rfl, hpp, ho, hf, eff, to⟩ := hv
      refine ⟨pp, _, _, _, rfl, hpp, ?_⟩
      refine s_appG (P := fun v H' => Dp K H' v (mdD (names.getD i Str.empty, on, off))) (e5 _ _ hpm4) (ev_var rfl) (evD_tup (eaD_cons (evD_str (ev_ixI (ev_var rfl) (ev_var rfl) (sq_of ((e4.trans e5) _ _ hpn)) (atI_nat (lit_at names i hi)))) (eaD_cons (Ev.gi (ev_var rfl) fun H' e => .tup (ex_t e ho) (dpa_texts on)) (eaD_cons (Ev.gi (ev_var rfl) fun H' e => .tup (ex_t e hf) (dpa_texts off)) eaD_nil))) (by simp)) (by rw [dpa_len dz, List.length_map]; omega) fun v H6 e6 hv => ?_
      have hpm6 := (e5.trans e6) _ _ hpm4
      refine ⟨_, _, _, _, zs ++ [v], mds ++ [(names.getD i Str.empty, on, off)], rfl, upd_same, dpa_grow mdD noL_md hpm6 (dpa_ex (e5.trans e6) dz) hv, ?_, ?_, Ex.mut ((e4.trans e5).trans e6) npm⟩
      · rw [List.map_append, nm, take_getD hi]; rfl
      · intro m hm
        rcases List.mem_append.mp hm with h | h
        · exact ok m h
        · rw [List.mem_singleton.mp h]; exact eff
    case md =>
      rintro σ' H4 ⟨u5, u6, u7, u8, zsm, mds, rfl, hpm4, dm, nm, okM, e4⟩
      rw [Int.toNat_natCast, List.take_of_length_le (Nat.le_refl _)] at nm
      have e24 := e12.trans e4
      have hph4 := (e2.trans e4) _ _ hph
      have hpn4 := e4 _ _ hpn
      -- barred
      refine q_asgL (xs := []) (el_lst ea_nil (by decide)) fun pb H5 npb e5 hpb => ?_
      refine q_forR1 (n := ((m11 % 3 : Nat) : Int)) (ea_cons (ev_is (ev_op (ev_int (ea_cons (nE (j := at_ + 11) (e24.trans e5) rfl (a1 11 rfl) hm11) ea_nil)) ev_c (rv_I (show (0 : Int) < 3 by decide))) (congrArg V.int (by push_cast; rfl))) ea_nil) (by omega) (fun i σ' H' => ∃ (u5 u10 : Option V) (zs : List V) (bs : List (List Str)), σ' = [some (.ref n), some (.int (at_ : Int)), some (.ref ph), some (.ref pn), some (.ref pm), u5, u6, u7, u8, some (.ref pb), u10, none, none, none, none, none, none] ∧ H' pb = some (.lst zs) ∧ DpAll K H' zs (bs.map tD) ∧ bs.length ≤ i ∧ bs.Nodup ∧ (∀ l ∈ bs, LotOk holds l ∧ 2 ≤ l.length) ∧ Ex H4 H') (fun H6 e6 => ⟨_, none, [], [], rfl, e6 _ _ hpb, .nil, Nat.le_refl _, .nil, fun _ h => (nomatch h), e5.trans e6⟩) ?bs ?bd
      case bs =>
        rintro i σ' H6 hi ⟨u5, u10, zs, bs, rfl, hpb6, dz, lb, nd, ok, e6⟩
        have hi : i < 3 := by omega
        obtain ⟨k, hk⟩ := get (j := at_ + 12 + i) (by omega)
        refine q_asgG (P := fun v H' => ∃ p lot ws, v = .ref p ∧ H' p = some (.tup ((lot : List Str).map V.str)) ∧ LotOk holds lot ∧ (∀ x ∈ lot, x ∉ ws) ∧ ws = []) (evG_pick (sq_of (e6 _ _ hph4)) okHo (by omega) (ev_var rfl) (nE (j := at_ + 12 + i) (e24.trans e6) rfl (a2 12 i rfl rfl) hk) evG_empty) fun v H7 e7 hv => ?_
        obtain ⟨pl, lot, _, rfl, hpl, lo, _, _⟩ := hv
        have gL : ∀ {t : List Str}, LotOk holds t → ∀ x ∈ t, PyData.strOk x = true := fun h x hx => (isName_gt (h.nm x hx)).1
        refine s_when (b := decide (1 < lot.length) && !decide (lot ∈ bs)) (et_and (et_is (et_test (ev_op (ev_lenS (n := lot.length) (ev_var rfl) ⟨_, .inr (st_of hpl), List.length_map ..⟩) ev_c rv_I0)) (show decide ((1 : Int) < (lot.length : Int)) = decide (1 < lot.length) from decide_eq_decide.mpr (by omega))) fun _ => et_test (ev_op (ev_var rfl) (ev_var rfl) (rv_niTT (.tup (st_of hpl) (dpa_texts lot)) (.lst (sq_of (e7 _ _ hpb6)) (dpa_ex e7 dz)) (gL lo) fun t ht => gL (ok t ht).1))) (fun hb H8 e8 => ?_) fun _ H8 e8 => ?_
        · rw [Bool.and_eq_true, Bool.not_eq_true'] at hb
          have h1 := of_decide_eq_true hb.1
          have h2 := of_decide_eq_false hb.2
          refine s_app (v := .ref pl) ((e7.trans e8) _ _ hpb6) (ev_var rfl) (ev_var rfl) (by rw [dpa_len dz, List.length_map]; omega) fun H9 e9 => ?_
          have hpb9 := ((e7.trans e8).trans e9) _ _ hpb6
          refine ⟨_, _, zs ++ [.ref pl], bs ++ [lot], rfl, upd_same, dpa_grow tD noL_tD hpb9 (dpa_ex ((e7.trans e8).trans e9) dz) (.tup (st_of ((e8.trans e9) _ _ hpl)) (dpa_texts lot)), by rw [List.length_append]; exact Nat.succ_le_succ lb, ?_, ?_, Ex.mut (((e6.trans e7).trans e8).trans e9) npb⟩
          · rw [List.nodup_append]
            exact ⟨nd, by simp, fun a ha b hb => by rw [List.mem_singleton.mp hb]; exact fun e => h2 (e ▸ ha)⟩
          · intro t ht
            rcases List.mem_append.mp ht with h | h
            · exact ok t h
            · rw [List.mem_singleton.mp h]; exact ⟨lo, h1⟩
        · exact ⟨_, _, zs, bs, rfl, (e7.trans e8) _ _ hpb6, dpa_ex (e7.trans e8) dz, Nat.le_succ_of_le lb, nd, ok, (e6.trans e7).trans e8⟩
      case bd =>
        rintro σ' H6 ⟨u5, u10, zsb, bs, rfl, hpb6, db, lb, ndB, okB, e6⟩
        rw [Int.toNat_natCast] at lb
        have e26 := e24.trans e6
        have hph6 := e6 _ _ hph4
        have hpn6 := e6 _ _ hpn4
        -- commands
        refine q_asgL (xs := []) (el_lst ea_nil (by decide)) fun pc H7 npc e7 hpc => ?_
        refine q_forR1 (n := ((m14 % 4 : Nat) : Int)) (ea_cons (ev_is (ev_op (ev_int (ea_cons (nE (j := at_ + 14) (e26.trans e7) rfl (a1 14 rfl) hm14) ea_nil)) ev_c (rv_I (show (0 : Int) < 4 by decide))) (congrArg V.int (by push_cast; rfl))) ea_nil) (by omega) (fun i σ' H' => ∃ (u5 u6 u7 u8 : Option V) (zs : List V) (cds : List Cd), σ' = [some (.ref n), some (.int (at_ : Int)), some (.ref ph), some (.ref pn), some (.ref pm), u5, u6, u7, u8, some (.ref pb), u10, some (.ref pc), none, none, none, none, none] ∧ H' pc = some (.lst zs) ∧ DpAll K H' zs (cds.map cdD) ∧ cds.map Cd.n = bkC.take i ∧ (∀ c ∈ cds, LotOk names c.lets ∧ EffOk holds c.on c.off ∧ ToOk names c.to) ∧ Ex H6 H') (fun H8 e8 => ⟨_, _, _, _, [], [], rfl, e8 _ _ hpc, .nil, rfl, fun _ h => (nomatch h), e7.trans e8⟩) ?cs ?cd
        case cs =>
          rintro i σ' H8 hi ⟨u5, u6, u7, u8, zs, cds, rfl, hpc8, dz, nmC, ok, e8⟩
          have hi : i < bkC.length := by rw [show bkC.length = 3 from rfl]; omega
          have hi3 : i < 3 := hi
          have lc : cds.length = i := by
            have := congrArg List.length nmC
            rw [List.length_map, List.length_take] at this
            omega
          have e28 := e26.trans e8
          obtain ⟨k, hk⟩ := get (j := at_ + 18 + 4 * i) (by omega)
          refine q_unG3 (P := IsEff K holds names) (evG_effP (at_ := at_ + 15 + 4 * i) (e8 _ _ hph6) okHo (by omega) (e8 _ _ hpn6) (by omega) (ex_l e28 hN) hS (by omega) (ev_var rfl) (ev_var rfl) (ev_var rfl) (a3 15 4 i (by decide) rfl rfl)) fun v H9 e9 hv => ?_
          obtain ⟨pp, po, pf, on, off, o, rfl, hpp, ho, hf, eff, to⟩ := hv
          refine ⟨pp, _, _, _, rfl, hpp, ?_⟩
          have hpn9 := (e8.trans e9) _ _ hpn6
          refine s_appG (P := fun v H' => ∃ lets, LotOk names lets ∧ Dp K H' v (cdD ⟨bkC.getD i Str.empty, lets, on, off, o⟩)) (e9 _ _ hpc8) (ev_var rfl) (EvG.imp (evG_tupA (Ps := [IsW (.str (bkC.getD i Str.empty)), (fun v H' => ∃ lets, LotOk names lets ∧ Dp K H' v (tD lets)), IsW (.ref po), IsW (.ref pf), IsW (toV o)]) (eaP_cons IsW.m (ea_w (ev_ixN (xs := bkC.map V.str) (el_lst (ea_cons ev_c (ea_cons ev_c (ea_cons ev_c ea_nil))) (by decide)) (ev_var rfl) (atI_nat (lit_at bkC i hi)))) (eaP_cons (fun _ _ _ e ⟨l, h1, h2⟩ => ⟨l, h1, dp_ex e h2⟩) (EvG.imp (evG_pick (sq_of hpn9) okMo (by omega) (ev_var rfl) (nE (j := at_ + 18 + 4 * i) (e28.trans e9) rfl (a3 18 4 i (by decide) rfl rfl) hk) evG_empty) fun v H' _ ⟨p, lot, _, h, hp, lo, _⟩ => ⟨lot, lo, h ▸ .tup (st_of hp) (dpa_texts lot)⟩) (eaP_cons IsW.m (ea_w (ev_var rfl)) (eaP_cons IsW.m (ea_w (ev_var rfl)) (eaP_cons IsW.m (ea_w (ev_var rfl)) eaP_nil))))) (by simp)) ?el) (by rw [dpa_len dz, List.length_map]; omega) fun v H10 e10 hv => ?_
          case el =>
            rintro v H10 e10 ⟨p, vs, H2, rfl, hp, e, hv⟩
            cases hv with | cons z1 hv =>
            cases hv with | cons z2 hv =>
            cases hv with | cons z3 hv =>
            cases hv with | cons z4 hv =>
            cases hv with | cons z5 hv =>
            cases hv
            obtain rfl := z1
            obtain ⟨lets, lo, hl⟩ := z2
            obtain rfl := z3
            obtain rfl := z4
            obtain rfl := z5
            exact ⟨lets, lo, .tup (st_of hp) (.cons (.str _) (.cons (dp_ex e hl) (.cons (.tup (ex_t e10 ho) (dpa_texts on)) (.cons (.tup (ex_t e10 hf) (dpa_texts off)) (.cons (dp_toV o) .nil)))))⟩
          obtain ⟨lets, lo, hv⟩ := hv
          have hpc10 := (e9.trans e10) _ _ hpc8
          refine ⟨_, _, _, _, zs ++ [v], cds ++ [⟨bkC.getD i Str.empty, lets, on, off, o⟩], rfl, upd_same, dpa_grow cdD noL_cd hpc10 (dpa_ex (e9.trans e10) dz) hv, ?_, ?_, Ex.mut ((e8.trans e9).trans e10) npc⟩
          · rw [List.map_append, nmC, take_getD hi]; rfl
          · intro c hc
            rcases List.mem_append.mp hc with h | h
            · exact ok c h
            · rw [List.mem_singleton.mp h]; exact ⟨lo, eff, to⟩
        case cd =>
          rintro σ' H8 ⟨u5, u6, u7, u8, zsc, cds, rfl, hpc8, dc, nmC, okC, e8⟩
          rw [Int.toNat_natCast] at nmC
          have lc : cds.length ≤ 3 := by
            have := congrArg List.length nmC
            rw [List.length_map, List.length_take] at this
            omega
          have okCn : NmsOk (cds.map Cd.n) := by rw [nmC]; exact okC0.sub (List.take_sublist _ _)
          have e28 := e26.trans e8
          have hph8 := e8 _ _ hph6
          have hpn8 := e8 _ _ hpn6
          -- alarms
          refine q_asgL (xs := []) (el_lst ea_nil (by decide)) fun pa H9 npa e9 hpa => ?_
          refine q_forR1 (n := ((m27 % 3 : Nat) : Int)) (ea_cons (ev_is (ev_op (ev_int (ea_cons (nE (j := at_ + 27) (e28.trans e9) rfl (a1 27 rfl) hm27) ea_nil)) ev_c (rv_I (show (0 : Int) < 3 by decide))) (congrArg V.int (by push_cast; rfl))) ea_nil) (by omega) (fun i σ' H' => ∃ (u5 u6 u7 u8 : Option V) (zs : List V) (als : List Al), σ' = [some (.ref n), some (.int (at_ : Int)), some (.ref ph), some (.ref pn), some (.ref pm), u5, u6, u7, u8, some (.ref pb), u10, some (.ref pc), some (.ref pa), none, none, none, none] ∧ H' pa = some (.lst zs) ∧ DpAll K H' zs (als.map alD) ∧ als.map Al.n = bkA.take i ∧ (∀ c ∈ als, EffOk holds c.on c.off ∧ ToOk names c.to) ∧ Ex H8 H') (fun H10 e10 => ⟨_, _, _, _, [], [], rfl, e10 _ _ hpa, .nil, rfl, fun _ h => (nomatch h), e9.trans e10⟩) ?as ?ad
          case as =>
            rintro i σ' H10 hi ⟨u5, u6, u7, u8, zs, als, rfl, hpa10, dz, nmA, ok, e10⟩
            have hi : i < bkA.length := by rw [show bkA.length = 2 from rfl]; omega
            have hi2 : i < 2 := hi
            have la : als.length = i := by
              have := congrArg List.length nmA
              rw [List.length_map, List.length_take] at this
              omega
            have e2a := e28.trans e10
            refine q_unG3 (P := IsEff K holds names) (evG_effP (at_ := at_ + 28 + 3 * i) (e10 _ _ hph8) okHo (by omega) (e10 _ _ hpn8) (by omega) (ex_l e2a hN) hS (by omega) (ev_var rfl) (ev_var rfl) (ev_var rfl) (a3 28 3 i (by decide) rfl rfl)) fun v H11 e11 hv => ?_
            obtain ⟨pp, po, pf, on, off, o, rfl, hpp, ho, hf, eff, to⟩ := hv
            refine ⟨pp, _, _, _, rfl, hpp, ?_⟩
            refine s_appG (P := fun v H' => Dp K H' v (alD ⟨bkA.getD i Str.empty, on, off, o⟩)) (e11 _ _ hpa10) (ev_var rfl) (evD_tup (eaD_cons (evD_str (ev_ixN (xs := bkA.map V.str) (el_lst (ea_cons ev_c (ea_cons ev_c ea_nil)) (by decide)) (ev_var rfl) (atI_nat (lit_at bkA i hi)))) (eaD_cons (Ev.gi (ev_var rfl) fun H' e => .tup (ex_t e ho) (dpa_texts on)) (eaD_cons (Ev.gi (ev_var rfl) fun H' e => .tup (ex_t e hf) (dpa_texts off)) (eaD_cons (Ev.gi (ev_var rfl) fun H' e => dp_toV o) eaD_nil)))) (by simp)) (by rw [dpa_len dz, List.length_map]; omega) fun v H12 e12' hv => ?_
            have hpa12 := (e11.trans e12') _ _ hpa10
            refine ⟨_, _, _, _, zs ++ [v], als ++ [⟨bkA.getD i Str.empty, on, off, o⟩], rfl, upd_same, dpa_grow alD noL_al hpa12 (dpa_ex (e11.trans e12') dz) hv, ?_, ?_, Ex.mut ((e10.trans e11).trans e12') npa⟩
            · rw [List.map_append, nmA, take_getD hi]; rfl
            · intro c hc
              rcases List.mem_append.mp hc with h | h
              · exact ok c h
              · rw [List.mem_singleton.mp h]; exact ⟨eff, to⟩
          case ad =>
            rintro σ' H10 ⟨u5, u6, u7, u8, zsa, als, rfl, hpa10, da, nmA, okA, e10⟩
            rw [Int.toNat_natCast] at nmA
            have la : als.length ≤ 2 := by
              have := congrArg List.length nmA
              rw [List.length_map, List.length_take] at this
              omega
            have okAn : NmsOk (als.map Al.n) := by rw [nmA]; exact okA0.sub (List.take_sublist _ _)
            have e2a := e28.trans e10
            have hpc10 := e10 _ _ hpc8
            -- rows
            refine q_asgL (xs := []) (el_lst ea_nil (by decide)) fun pr H11 npr e11 hpr => ?_
            refine q_forR1 (n := ((m34 % 3 : Nat) : Int)) (ea_cons (ev_is (ev_op (ev_int (ea_cons (nE (j := at_ + 34) (e2a.trans e11) rfl (a1 34 rfl) hm34) ea_nil)) ev_c (rv_I (show (0 : Int) < 3 by decide))) (congrArg V.int (by push_cast; rfl))) ea_nil) (by omega) (fun i σ' H' => ∃ (u5 u14 u15 : Option V) (zs : List V) (rws : List Rw), σ' = [some (.ref n), some (.int (at_ : Int)), some (.ref ph), some (.ref pn), some (.ref pm), u5, u6, u7, u8, some (.ref pb), u10, some (.ref pc), some (.ref pa), some (.ref pr), u14, u15, none] ∧ H' pr = some (.lst zs) ∧ DpAll K H' zs (rws.map rwD) ∧ rws.length ≤ i ∧ (rws.map (fun r => r.1)).Sublist (bkR.take i) ∧ (∀ r ∈ rws, 1 ≤ r.2.length ∧ r.2.length ≤ 3 ∧ ∀ s ∈ r.2, 1 ≤ s.1 ∧ s.1 ≤ 3 ∧ s.2 ∈ cds.map Cd.n) ∧ Ex H10 H') (fun H12 e12' => ⟨_, none, none, [], [], rfl, e12' _ _ hpr, .nil, Nat.le_refl _, List.nil_sublist _, fun _ h => (nomatch h), e11.trans e12'⟩) ?rs ?rd
            case rs =>
              rintro i σ' H12 hi ⟨u5, u14, u15, zs, rws, rfl, hpr12, dz, lr, sub, ok, e12'⟩
              have hi : i < bkR.length := by rw [show bkR.length = 2 from rfl]; omega
              have hi2 : i < 2 := hi
              have tk := take_getD hi
              refine q_asgL (xs := []) (el_lst ea_nil (by decide)) fun ps H13 nps e13 hps => ?_
              have e2c := (e2a.trans e12').trans e13
              obtain ⟨k, hk⟩ := get (j := at_ + 35 + i) (by omega)
              refine q_forR1 (n := ((1 + k % 3 : Nat) : Int)) (ea_cons (ev_is (ev_op ev_c (ev_op (ev_int (ea_cons (nE (j := at_ + 35 + i) e2c rfl (a2 35 i rfl rfl) hk) ea_nil)) ev_c (rv_I (show (0 : Int) < 3 by decide))) rv_I0) (congrArg V.int (by push_cast; rfl))) ea_nil) (by omega) (fun j σ' H' => ∃ (u15 : Option V) (ys : List V) (sts : List (Nat × Str)), σ' = [some (.ref n), some (.int (at_ : Int)), some (.ref ph), some (.ref pn), some (.ref pm), some (.int (i : Int)), u6, u7, u8, some (.ref pb), u10, some (.ref pc), some (.ref pa), some (.ref pr), some (.ref ps), u15, none] ∧ H' ps = some (.lst ys) ∧ DpAll K H' ys (sts.map stepD) ∧ sts.length ≤ j ∧ (∀ s ∈ sts, 1 ≤ s.1 ∧ s.1 ≤ 3 ∧ s.2 ∈ cds.map Cd.n) ∧ Ex H12 H') (fun H14 e14 => ⟨_, [], [], rfl, e14 _ _ hps, .nil, Nat.le_refl _, fun _ h => (nomatch h), e13.trans e14⟩) ?ss ?sd
              case ss =>
                rintro j σ' H14 hj ⟨u15, ys, sts, rfl, hps14, dy, ls, okS, e14⟩
                have hj : j < 3 := by omega
                have e8e := (e10.trans e12').trans e14
                have lz : zsc.length = cds.length := by rw [dpa_len dc, List.length_map]
                refine s_when (b := decide (0 < zsc.length)) (et_is (et_test (ev_op (ev_lenS (n := zsc.length) (ev_var rfl) ⟨_, .inl (sq_of (e8e _ _ hpc8)), rfl⟩) ev_c rv_I0)) (show decide ((0 : Int) < (zsc.length : Int)) = decide (0 < zsc.length) from decide_eq_decide.mpr (by omega))) (fun hb H15 e15 => ?_) fun _ H15 e15 => ⟨_, ys, sts, rfl, e15 _ _ hps14, dpa_ex e15 dy, Nat.le_succ_of_le ls, okS, e14.trans e15⟩
                have hb := of_decide_eq_true hb
                obtain ⟨k1, hk1⟩ := get (j := at_ + 37 + 6 * i + 2 * j) (by omega)
                obtain ⟨k2, hk2⟩ := get (j := at_ + 38 + 6 * i + 2 * j) (by omega)
                have hz : k2 % zsc.length < zsc.length := Nat.mod_lt _ hb
                have e8f := e8e.trans e15
                have e2e := e28.trans e8f
                obtain ⟨c, _, hc, dci⟩ := item_at cdD dc (List.getElem?_eq_getElem hz)
                obtain ⟨pcc, pl, po, pf, hu, hpcc, _⟩ := cd_inv dci
                refine s_appG (P := fun v H' => Dp K H' v (stepD (1 + k1 % 3, c.n))) (e15 _ _ hps14) (ev_var rfl) (evD_tup (eaD_cons (evD_int (ev_is (ev_op ev_c (ev_op (ev_int (ea_cons (nE (j := at_ + 37 + 6 * i + 2 * j) e2e rfl (a4 37 i j rfl rfl rfl) hk1) ea_nil)) ev_c (rv_I (show (0 : Int) < 3 by decide))) rv_I0) (congrArg V.int (by push_cast; rfl)))) (eaD_cons (evD_str (ev_op (ev_ixI (i := ((k2 % zsc.length : Nat) : Int)) (ev_var rfl) (ev_is (ev_op (ev_int (ea_cons (nE (j := at_ + 38 + 6 * i + 2 * j) e2e rfl (a4 38 i j rfl rfl rfl) hk2) ea_nil)) (ev_len (ev_var rfl) (sq_of (e8f _ _ hpc8))) (rv_I (by omega))) (congrArg V.int (by push_cast; rfl))) (sq_of (e8f _ _ hpc8)) (atI_nat ((List.getElem?_eq_getElem hz).trans (congrArg some hu)))) ev_c (rv_ixT (ex_t e8f hpcc) rfl))) eaD_nil)) (by simp)) (by rw [dpa_len dy, List.length_map]; omega) fun v H16 e16 hv => ?_
                have hps16 := (e15.trans e16) _ _ hps14
                refine ⟨_, ys ++ [v], sts ++ [(1 + k1 % 3, c.n)], rfl, upd_same, dpa_grow stepD noL_step hps16 (dpa_ex (e15.trans e16) dy) hv, by rw [List.length_append]; exact Nat.succ_le_succ ls, ?_, Ex.mut ((e14.trans e15).trans e16) nps⟩
                intro s hs
                rcases List.mem_append.mp hs with h | h
                · exact okS s h
                · rw [List.mem_singleton.mp h]
                  exact ⟨by show 1 ≤ 1 + k1 % 3; omega, by show 1 + k1 % 3 ≤ 3; omega, List.mem_map.mpr ⟨c, hc, rfl⟩⟩
              case sd =>
                rintro σ' H14 ⟨u15, ys, sts, rfl, hps14, dy, ls, okS, e14⟩
                rw [Int.toNat_natCast] at ls
                have ly : ys.length = sts.length := by rw [dpa_len dy, List.length_map]
                have hpr14 := e14 _ _ hpr12
                refine s_when (b := decide (0 < ys.length)) (et_is (et_test (ev_op (ev_lenS (n := ys.length) (ev_var rfl) ⟨_, .inl (sq_of hps14), rfl⟩) ev_c rv_I0)) (show decide ((0 : Int) < (ys.length : Int)) = decide (0 < ys.length) from decide_eq_decide.mpr (by omega))) (fun hb H15 e15 => ?_) fun _ H15 e15 => ⟨_, _, _, zs, rws, rfl, (e14.trans e15) _ _ hpr12, dpa_ex (e14.trans e15) dz, Nat.le_succ_of_le lr, by rw [tk]; exact sub.trans (List.sublist_append_left _ _), ok, (e12'.trans e14).trans e15⟩
                have hb := of_decide_eq_true hb
                refine s_appG (P := fun v H' => Dp K H' v (rwD (bkR.getD i Str.empty, sts))) (e15 _ _ hpr14) (ev_var rfl) (evD_tup (eaD_cons (evD_str (ev_ixN (xs := bkR.map V.str) (el_lst (ea_cons ev_c (ea_cons ev_c ea_nil)) (by decide)) (ev_var rfl) (atI_nat (lit_at bkR i hi)))) (eaD_cons (evD_tupS (ev_var rfl) (e15 _ _ hps14) (dpa_ex e15 dy)) eaD_nil)) (by simp)) (by rw [dpa_len dz, List.length_map]; omega) fun v H16 e16 hv => ?_
                have hpr16 := (e15.trans e16) _ _ hpr14
                refine ⟨_, _, _, zs ++ [v], rws ++ [(bkR.getD i Str.empty, sts)], rfl, upd_same, dpa_grow rwD noL_rw hpr16 (dpa_ex ((e14.trans e15).trans e16) dz) hv, by rw [List.length_append]; exact Nat.succ_le_succ lr, ?_, ?_, Ex.mut (((e12'.trans e14).trans e15).trans e16) npr⟩
                · rw [List.map_append, tk]; exact sub.append (List.Sublist.refl _)
                · intro r hr2
                  rcases List.mem_append.mp hr2 with h | h
                  · exact ok r h
                  · rw [List.mem_singleton.mp h]
                    exact ⟨by show 1 ≤ sts.length; omega, by show sts.length ≤ 3; omega, okS⟩
            case rd =>
              rintro σ' H12 ⟨u5, u14, u15, zsr, rws, rfl, hpr12, dr, lr, sub, okR, e12'⟩
              rw [Int.toNat_natCast] at lr sub
              have e2c := e2a.trans e12'
              obtain ⟨lim, hlim, lok⟩ : ∃ lim : Option Nat, ([.non, .int 1, .int 2, .int 3, .int 4] : List V)[m49 % 5]? = some (lmV lim) ∧ ∀ n, lim = some n → 1 ≤ n ∧ n ≤ 30 := by
                have h : m49 % 5 = 0 ∨ m49 % 5 = 1 ∨ m49 % 5 = 2 ∨ m49 % 5 = 3 ∨ m49 % 5 = 4 := by omega
                rcases h with h | h | h | h | h <;> rw [h]
                · exact ⟨none, rfl, fun _ h => by cases h⟩
                · exact ⟨some 1, rfl, fun _ h => by cases h; omega⟩
                · exact ⟨some 2, rfl, fun _ h => by cases h; omega⟩
                · exact ⟨some 3, rfl, fun _ h => by cases h; omega⟩
                · exact ⟨some 4, rfl, fun _ h => by cases h; omega⟩
              refine q_asg (v := lmV lim) (ev_ixN (i := ((m49 % 5 : Nat) : Int)) (el_lst (ea_cons ev_c (ea_cons ev_c (ea_cons ev_c (ea_cons ev_c (ea_cons ev_c ea_nil))))) (by simp)) (ev_is (ev_op (ev_int (ea_cons (nE (j := at_ + 49) e2c rfl (a1 49 rfl) hm49) ea_nil)) ev_c (rv_I (show (0 : Int) < 5 by decide))) (congrArg V.int (by push_cast; rfl))) (atI_nat hlim)) fun H13 e13 => ?_
              refine s_retU (eu_tup (vs := [.ref ph, .ref pm, .ref pb, .ref pc, .ref pa, .ref pr, lmV lim]) (ea_cons (ev_var rfl) (ea_cons (ev_var rfl) (ea_cons (ev_var rfl) (ea_cons (ev_var rfl) (ea_cons (ev_var rfl) (ea_cons (ev_var rfl) (ea_cons (ev_var rfl) ea_nil))))))) (by simp)) fun p H14 np e14 hp => ?_
              have x12 := e13.trans e14
              have x10 := e12'.trans x12
              have x8 := e10.trans x10
              have x6 := e8.trans x8
              have x4 := e6.trans x6
              have nmM : (mds.map fun m => m.1) = names := nm
              refine q (.ref p) H14 ⟨p, ⟨holds, mds, bs, cds, als, rws, lim⟩, .ref ph, .ref pm, .ref pb, .ref pc, .ref pa, .ref pr, rfl, st_of hp, .lst (sq_of (x4 _ _ hph4)) (dpa_texts holds), .lst (sq_of (x4 _ _ hpm4)) (dpa_ex x4 dm), .lst (sq_of (x6 _ _ hpb6)) (dpa_ex x6 db), .lst (sq_of (x8 _ _ hpc8)) (dpa_ex x8 dc), .lst (sq_of (x10 _ _ hpa10)) (dpa_ex x10 da), .lst (sq_of (x12 _ _ hpr12)) (dpa_ex x12 dr), ?_, ?non⟩ (e24.trans x4)
              case non =>
                refine ⟨by show _ ∉ mds.map fun m => m.1; rw [nmM]; exact noM, by show _ ∉ cds.map Cd.n; rw [nmC]; exact fun h => absurd (List.mem_of_mem_take h) (by decide +kernel), by show _ ∉ als.map Al.n; rw [nmA]; exact fun h => absurd (List.mem_of_mem_take h) (by decide +kernel), fun h => absurd (List.mem_of_mem_take (sub.subset h)) (by decide +kernel)⟩
              have lmd : mds.length = names.length := by
                have := congrArg List.length nm
                rwa [List.length_map] at this
              refine ⟨⟨okHo, lH.1, by show holds.length ≤ 6; omega⟩, ⟨by show NmsOk (mds.map fun m => m.1); rw [nmM]; exact okMo, by show 1 ≤ mds.length; omega, by show mds.length ≤ 5; omega, okM⟩, ⟨by show bs.length ≤ 8; omega, ndB, okB⟩, ⟨okCn, by show cds.length ≤ 8; omega, fun c hc => ?_⟩, ⟨okAn, by show als.length ≤ 4; omega, fun c hc => ?_⟩, ⟨okR0.sub (sub.trans (List.take_sublist _ _)), by show rws.length ≤ 3; omega, fun r hr2 => ?_⟩, lok⟩
              · obtain ⟨h1, h2, h3⟩ := okC c hc
                refine ⟨?_, h2, ?_⟩
                · show LotOk (mds.map fun m => m.1) _
                  rw [nmM]; exact h1
                · show ToOk (mds.map fun m => m.1) _
                  rw [nmM]; exact h3
              · obtain ⟨h2, h3⟩ := okA c hc
                refine ⟨h2, ?_⟩
                show ToOk (mds.map fun m => m.1) _
                rw [nmM]; exact h3
              · obtain ⟨h1, h2, h3⟩ := okR r hr2
                exact ⟨h1, by omega, fun s hs => ⟨(h3 s hs).1, by have := (h3 s hs).2.1; omega, (h3 s hs).2.2⟩⟩

/-! ### what else a book tells -/
theorem ok_pmodes {C : Addr} (A : AtP K C "modes" "Book.modes" s_Book_modes) (TB : BookC K C) (mz_list : mg "list" = none) : PropD P w K mg base 1 C "modes" (spPropC K C mdD Pb.modes) := by
  refine prop_ok A sc_Book_modes (fun _ _ _ _ _ _ us hl => match us, hl with | [_], _ => rfl) (fun vs H Q E h => ?_) (fun f cdv A outer s H vs Q E hr h => ?_)
  · obtain ⟨B, p, rfl, _⟩ := h
    rfl
  · obtain ⟨B, p, rfl, ⟨dx, fs, hl, bl, pd, dm, dc, da, dr, bs, ms, cs, as, rs, b⟩, q⟩ := h
    refine ⟨_, (pss_one (ps_ret (pe_listVals rfl (pe_dget (hu_of hr) (show PE _ _ (tFld K _ _) from pe_fld (pv 0) rfl) pe_str (fun _ _ => rfl)) (by rfl) mz_list))), ?_⟩
    have len : ms.length = p.mn.length := by rw [dpa_len b.m.2, List.length_map, Pb.mn, List.length_map]
    exact s_retVals (ev_dgetK (ev_var rfl) b.ins TB.cl TB.n3 b.fp b.parts (parts_m ..)) b.m.1 fun p' H' np e hp => q p' ms H' np e (by rw [hp, kvN_vals len]) (dpa_ex e b.m.2)
theorem s_retLst {σ : L2.St} {H : Hp} {te : TE} {D : Ends} {a : Addr} {xs : List V} (h : Ev te σ H (.ref a)) (hs : H a = some (.lst xs)) (k : ∀ q H', H q = none → Ex H H' → H' q = some (.lst xs) → D.rt (.ref q) H') : tRet (tCB (rListS K) (tCons te tNil)) D σ H :=
  h H (Ex.refl _) _ fun H1 e1 => ⟨a, xs, rfl, .inl (sq_of (e1 _ _ hs)), fun p np => k p _ (fresh_back e1 np) (e1.trans (Ex.new np)) upd_same⟩
def spHolds (K : PySem.W.Frag) (C : Addr) : Sp := fun vs H Q _ => ∃ (B : Addr) (p : Pb), vs = [.ref B] ∧ BkAt K H B C p ∧ ∀ q ys H', H q = none → Ex H H' → H' q = some (.lst (ys.map V.str)) → ys.Perm p.holds → sortedS ys = true → Q (.ref q) H'
theorem ok_pholds {C : Addr} (A : AtP K C "holds" "Book.holds" s_Book_holds) (TB : BookC K C) (mz_list : mg "list" = none) : PropD P w K mg base 1 C "holds" (spHolds K C) := by
  refine prop_ok A sc_Book_holds (fun _ _ _ _ _ _ us hl => match us, hl with | [_], _ => rfl) (fun vs H Q E h => ?_) (fun f cdv A outer s H vs Q E hr h => ?_)
  · obtain ⟨B, p, rfl, _⟩ := h
    rfl
  · obtain ⟨B, p, rfl, ⟨dx, fs, hl, bl, pd, dm, dc, da, dr, bs, ms, cs, as, rs, b⟩, q⟩ := h
    refine ⟨_, (pss_one (ps_ret (pe_callTy (show CallR _ _ (rListS K) from call_list_of) (by rfl) mz_list (by decide +kernel) (pa_cons (show PE _ _ (tFld K _ _) from pe_fld (pv 0) rfl) pa_nil)))), ?_⟩
    obtain ⟨ys, hh, pm, so⟩ := b.holds
    exact s_retLst (ev_fld (ev_var rfl) b.ins TB.cl TB.n1 b.fh) hh fun q' H' nq e hq => q q' ys H' nq e hq pm so
def spBarred (K : PySem.W.Frag) (C : Addr) : Sp := fun vs H Q _ => ∃ (B : Addr) (p : Pb), vs = [.ref B] ∧ BkAt K H B C p ∧ ∀ q bs H', H q = none → Ex H H' → H' q = some (.lst ((byTexts bs p.barred).map (·.1))) → DpAll K H' bs (p.barred.map tD) → Q (.ref q) H'
theorem ok_pbarred {C : Addr} (A : AtP K C "barred" "Book.barred" s_Book_barred) (TB : BookC K C) (mz_list : mg "list" = none) : PropD P w K mg base 1 C "barred" (spBarred K C) := by
  refine prop_ok A sc_Book_barred (fun _ _ _ _ _ _ us hl => match us, hl with | [_], _ => rfl) (fun vs H Q E h => ?_) (fun f cdv A outer s H vs Q E hr h => ?_)
  · obtain ⟨B, p, rfl, _⟩ := h
    rfl
  · obtain ⟨B, p, rfl, ⟨dx, fs, hl, bl, pd, dm, dc, da, dr, bs, ms, cs, as, rs, b⟩, q⟩ := h
    refine ⟨_, (pss_one (ps_ret (pe_callTy (show CallR _ _ (rListS K) from call_list_of) (by rfl) mz_list (by decide +kernel) (pa_cons (show PE _ _ (tFld K _ _) from pe_fld (pv 0) rfl) pa_nil)))), ?_⟩
    exact s_retLst (ev_fld (ev_var rfl) b.ins TB.cl TB.n2 b.fb) b.barred.1 fun q' H' nq e hq => q q' bs H' nq e hq (dpa_ex e b.barred.2)
def spQuiet (K : PySem.W.Frag) (C : Addr) : Sp := fun vs H Q _ => ∃ (B : Addr) (p : Pb), vs = [.ref B] ∧ BkAt K H B C p ∧ ∀ H', Ex H H' → Q (lmV p.quiet) H'
theorem ok_pquiet {C : Addr} (A : AtP K C "quiet" "Book.quiet" s_Book_quiet) (TB : BookC K C) : PropD P w K mg base 1 C "quiet" (spQuiet K C) := by
  refine prop_ok A sc_Book_quiet (fun _ _ _ _ _ _ us hl => match us, hl with | [_], _ => rfl) (fun vs H Q E h => ?_) (fun f cdv A outer s H vs Q E hr h => ?_)
  · obtain ⟨B, p, rfl, _⟩ := h
    rfl
  · obtain ⟨B, p, rfl, ⟨dx, fs, hl, bl, pd, dm, dc, da, dr, bs, ms, cs, as, rs, b⟩, q⟩ := h
    refine ⟨_, (pss_one (ps_ret (show PE _ _ (tFld K _ _) from pe_fld (pv 0) rfl))), ?_⟩
    exact s_ret (ev_fld (ev_var rfl) b.ins TB.cl TB.n4 b.fq) q
theorem evG_propD {C : Addr} {σ : L2.St} {H : Hp} {ta : TE} {B : Addr} {p : Pb} {α : Type} {D : α → PyData} {sel : Pb → List α} (h : Ev ta σ H (.ref B)) (b : BkAt K H B C p) : EvG (tProp C (spPropC K C D sel) [] E0 ta) σ H (LsD K ((sel p).map D)) := fun H1 e Q q =>
  h H1 e _ fun H2 e2 => by
    have b2 := b.ex (e.trans e2)
    obtain ⟨dx, fs, hl', bl, pd, dm, dc, da, dr, bs, ms, cs, as, rs, bb⟩ := b2
    exact ⟨B, dx, fs, rfl, bb.ins, B, p, rfl, ⟨dx, fs, hl', bl, pd, dm, dc, da, dr, bs, ms, cs, as, rs, bb⟩, fun q' xs H3 nq e3 hq dq => q _ H3 (e2.trans e3) ⟨q', xs, rfl, hq, dq⟩⟩
def spSafe (K : PySem.W.Frag) (C : Addr) : Sp := fun vs H Q _ => ∃ (B : Addr) (p : Pb), vs = [.ref B] ∧ BkAt K H B C p ∧ PbOk p ∧ ∀ x H', p.mn.head? = some x → Ex H H' → Q (.str x) H'
theorem ok_psafe {C : Addr} (A : AtP K C "safe" "Book.safe" s_Book_safe) (TB : BookC K C) (G_Book_modes : PropD P w K mg base 1 C "modes" (spPropC K C mdD Pb.modes)) : PropD P w K mg base 3 C "safe" (spSafe K C) := by
  have T_Book := TB.cl
  refine prop_ok A sc_Book_safe (fun _ _ _ _ _ _ us hl => match us, hl with | [_], _ => rfl) (fun vs H Q E h => ?_) (fun f cdv A outer s H vs Q E hr h => ?_)
  · obtain ⟨B, p, rfl, _⟩ := h
    rfl
  · obtain ⟨B, p, rfl, bk, ok, q⟩ := h
    refine ⟨_, (pss_one (ps_ret (pe_ix (show IxR _ (rIxT K) from ix_tup) (pe_ix (show IxR _ (rIxL K) from ix_list) (pe_pr G_Book_modes T_Book (hr.mono (by decide)) (pv 0)) pe_int (fun _ _ => rfl)) pe_int (fun _ _ => rfl)))), ?_⟩
    have pos := ok.modes.2.1
    cases e0 : p.modes with
    | nil => rw [e0] at pos; simp at pos
    | cons m r =>
      refine s_ret (v := .str m.1) (opG (P1 := fun v H' => Dp K H' v (mdD m)) (P2 := IsW (.int 0)) (evG_ixD (Dt := mdD) (xs := p.modes) (i := 0) (evG_propD (ev_var rfl) bk) ev_c (by rw [e0]; rfl)) (fun _ _ _ e h => dp_ex e h) (ea_w ev_c) fun u v H1 e hu hv => ?_) fun H' e => q m.1 H' (by unfold Pb.mn; rw [e0]; rfl) e
      obtain rfl := hv
      obtain ⟨p0, po, pf, rfl, hp0, _⟩ := md_inv hu
      exact rv_ixT hp0 rfl
/-! ### a part of its name -/
theorem look_kv {α : Type} (D : α → PyData) (nm : α → Str) {H : Hp} (x : Str) : ∀ {xs : List α} {vs : List V}, DpAll K H vs (xs.map D) → (∃ v y, valV (kvN (xs.map nm) vs) (.inr x) = some v ∧ y ∈ xs ∧ nm y = x ∧ Dp K H v (D y)) ∨ (valV (kvN (xs.map nm) vs) (.inr x) = none ∧ x ∉ xs.map nm)
  | [], vs, h => .inr ⟨rfl, by simp⟩
  | y :: r, vs, h => by
    obtain ⟨v, vr, rfl, h1, h2⟩ := DpAll.cons_inv h
    have e : kvN ((y :: r).map nm) (v :: vr) = (.inr (nm y), v) :: kvN (r.map nm) vr := rfl
    rw [e]
    by_cases hx : nm y = x
    · subst hx
      exact .inl ⟨v, y, valV_pos rfl, .head _, rfl, h1⟩
    · have ne : valV ((.inr (nm y), v) :: kvN (r.map nm) vr) (.inr x) = valV (kvN (r.map nm) vr) (.inr x) := valV_neg fun z => hx (Sum.inr.inj z)
      rw [ne]
      rcases look_kv D nm x h2 with ⟨u, z, h3, h4, h5, h6⟩ | ⟨h3, h4⟩
      · exact .inl ⟨u, z, h3, .tail _ h4, h5, h6⟩
      · exact .inr ⟨h3, fun z => (List.mem_cons.mp z).elim (fun z => hx z.symm) h4⟩
def sortN : Nat → Str
  | 0 => Str.ofString "mode"
  | 1 => Str.ofString "command"
  | 2 => Str.ofString "alarm"
  | _ => Str.ofString "row"
def partsOf : Nat → Pb → List (Str × PyData)
  | 0, p => p.modes.map fun m => (m.1, mdD m)
  | 1, p => p.sc.map fun c => (c.n, cdD c)
  | 2, p => p.als.map fun c => (c.n, alD c)
  | _, p => p.rows.map fun c => (c.1, rwD c)
theorem part_at {C : Addr} {H : Hp} {B dx : Addr} {fs : List (Str × V)} {hl bl pd dm dc da dr : Addr} {bs ms cs as rs : List V} {p : Pb} (b : BkL K H B C dx fs hl bl pd dm dc da dr bs ms cs as rs p) (i : Nat) (x : Str) : ∃ d kvs, valV (partsK dm dc da dr) (.inr (sortN i)) = some (.ref d) ∧ H d = some (.dK kvs) ∧ ((∃ v y, valV kvs (.inr x) = some v ∧ (x, y) ∈ partsOf i p ∧ Dp K H v y) ∨ (valV kvs (.inr x) = none ∧ ∀ y, (x, y) ∉ partsOf i p)) := by
  have go : ∀ {α : Type} (D : α → PyData) (nm : α → Str) {xs : List α} {vs : List V}, DpAll K H vs (xs.map D) → (∃ v y, valV (kvN (xs.map nm) vs) (.inr x) = some v ∧ (x, y) ∈ (xs.map fun m => (nm m, D m)) ∧ Dp K H v y) ∨ (valV (kvN (xs.map nm) vs) (.inr x) = none ∧ ∀ y, (x, y) ∉ (xs.map fun m => (nm m, D m))) := fun {α} D nm {xs vs} h => by
    rcases look_kv D nm x h with ⟨v, y, h1, h2, h3, h4⟩ | ⟨h1, h2⟩
    · exact .inl ⟨v, D y, h1, List.mem_map.mpr ⟨y, h2, by rw [h3]⟩, h4⟩
    · refine .inr ⟨h1, fun y hy => h2 ?_⟩
      obtain ⟨z, hz, e⟩ := List.mem_map.mp hy
      exact List.mem_map.mpr ⟨z, hz, congrArg Prod.fst e⟩
  match i with
  | 0 => exact ⟨dm, _, parts_m .., b.m.1, go mdD (fun m => m.1) b.m.2⟩
  | 1 => exact ⟨dc, _, parts_c .., b.c.1, go cdD Cd.n b.c.2⟩
  | 2 => exact ⟨da, _, parts_a .., b.a.1, go alD Al.n b.a.2⟩
  | n + 3 => exact ⟨dr, _, parts_r .., b.r.1, go rwD (fun m => m.1) b.r.2⟩
theorem ev_dgetV {σ : L2.St} {H : Hp} {td ty : TE} {d : Addr} {kvs : List (L2.Key × V)} {x : Str} {v : V} (h : Ev td σ H (.ref d)) (hy : Ev ty σ H (.str x)) (hp : H d = some (.dK kvs)) (hv : valV kvs (.inr x) = some v) : Ev (tDGet td ty) σ H v := fun H1 e Q q =>
  h H1 e _ fun H2 e2 => hy H2 (e.trans e2) _ fun H3 e3 => ⟨d, v, rfl, hv ▸ DGet.k (k := .inr x) (((e.trans e2).trans e3) _ _ hp), q H3 (e2.trans e3)⟩
theorem ev_dnin {σ : L2.St} {H : Hp} {td ty : TE} {d : Addr} {kvs : List (L2.Key × V)} {x : Str} (hy : Ev ty σ H (.str x)) (h : Ev td σ H (.ref d)) (hp : H d = some (.dK kvs)) : Ev (tDNotIn ty td) σ H (.bl (!(valV kvs (.inr x)).isSome)) := fun H1 e Q q =>
  hy H1 e _ fun H2 e2 => h H2 (e.trans e2) _ fun H3 e3 => ⟨d, _, rfl, DGet.k (k := .inr x) (((e.trans e2).trans e3) _ _ hp), q H3 (e2.trans e3)⟩
def PartK (K : PySem.W.Frag) (CE : Addr) (i : Nat) (p : Pb) (x : Str) (H : Hp) (Q : VK) (E : XK) : Prop := (∀ v y H', (x, y) ∈ partsOf i p → Dp K H' v y → Ex H H' → Q v H') ∧ ((∀ y, (x, y) ∉ partsOf i p) → ∀ d H', H d = none → Ex H H' → H' d = some (.xd [("name", .str x)]) → E (.ref CE) (some d) H')
def spPart (K : PySem.W.Frag) (C CE : Addr) : Sp := fun vs H Q E => ∃ (B : Addr) (p : Pb) (i : Nat) (x : Str), vs = [.ref B, .str (sortN i), .str x] ∧ BkAt K H B C p ∧ x.length ≤ 1000 ∧ PartK K CE i p x H Q E
theorem ok_part {C CE : Addr} (A : AtM K C "_part_named" "Book._part_named" s_Book__part_named) (TB : BookC K C) (Z_UnknownName : ErrC P w K mg base "UnknownName" CE "name" "name") : Mdf P w K mg base (L2.CX P w) 4 C "_part_named" p_Book__part_named (spPart K C CE) := by
  refine mdf_okX A sc_Book__part_named (fun _ _ _ _ _ _ us hl => match us, hl with | [_, _, _], _ => rfl) (fun vs H Q E h => ?_) (fun f cdv A outer s H vs Q E hr h => ?_)
  · obtain ⟨B, p, i, x, rfl, _⟩ := h
    rfl
  · obtain ⟨B, p, i, x, rfl, ⟨dx, fs, hl, bl, pd, dm, dc, da, dr, bs, ms, cs, as, rs, b⟩, hx, q, qE⟩ := h
    refine ⟨_, (pss_cons (ps_if (pt_cmp (pc_dnotin (hu_of hr) (pv 2) (pe_dget (hu_of hr) (show PE _ _ (tFld K _ _) from pe_fld (pv 0) rfl) (pv 1) (fun _ _ => rfl))) (by first | exact nomark _ | rfl))
    (pss_one (ps_raiseE Z_UnknownName (hr.mono (by decide)) (takes_of rfl rfl rfl rfl) (pv 2)))
    pss_nil)
  (pss_one (ps_ret (pe_dget (hu_of hr) (pe_dget (hu_of hr) (show PE _ _ (tFld K _ _) from pe_fld (pv 0) rfl) (pv 1) (fun _ _ => rfl)) (pv 2) (fun _ _ => rfl))))), ?_⟩
    obtain ⟨d, kvs, hd, hk, hh⟩ := part_at b i x
    have dE : ∀ {σ : L2.St} {H1 : Hp}, Ex H H1 → σ[0]? = some (some (.ref B)) → σ[1]? = some (some (.str (sortN i))) → Ev (tDGet (tFld K (tVar 0) "_parts") (tVar 1)) σ H1 (.ref d) := fun e h0 h1 => ev_dgetV (ev_fld (ev_var h0) (e _ _ b.ins) TB.cl TB.n3 b.fp) (ev_var h1) (e _ _ b.parts) hd
    rcases hh with ⟨v, y, hv, hy, dy⟩ | ⟨hv, no⟩
    · refine q_when (b := false) (et_is (et_B (ev_dnin (ev_var rfl) (dE (Ex.refl _) rfl rfl) hk)) (by rw [hv]; rfl)) (fun z => Bool.noConfusion z) fun _ H1 e1 => ?_
      exact s_ret (ev_dgetV (dE e1 rfl rfl) (ev_var rfl) (e1 _ _ hk) hv) fun H2 e2 => q v y H2 hy (dp_ex (e1.trans e2) dy) (e1.trans e2)
    · refine q_when (b := true) (et_is (et_B (ev_dnin (ev_var rfl) (dE (Ex.refl _) rfl rfl) hk)) (by rw [hv]; rfl)) (fun _ H1 e1 => ?_) fun z => Bool.noConfusion z
      exact mk_sup (y := .str x) (ev_var rfl) (Or.inl ⟨_, rfl, hx⟩) fun d' H3 nd e3 hd' => qE no d' H3 (fresh_back e1 nd) (e1.trans e3) hd'
def spNamed (K : PySem.W.Frag) (C CE : Addr) (i : Nat) : Sp := fun vs H Q E => ∃ (B : Addr) (p : Pb) (x : Str), vs = [.ref B, .str x] ∧ BkAt K H B C p ∧ x.length ≤ 1000 ∧ PartK K CE i p x H Q E
theorem ok_mode_named {C CE : Addr} (A : AtM K C "mode_named" "Book.mode_named" s_Book_mode_named) (TB : BookC K C) (M_Book__part_named : Mdf P w K mg base (L2.CX P w) 4 C "_part_named" p_Book__part_named (spPart K C CE)) : Mdf P w K mg base (L2.CX P w) 5 C "mode_named" p_Book_mode_named (spNamed K C CE 0) := by
  have T_Book := TB.cl
  refine mdf_okX A sc_Book_mode_named (fun _ _ _ _ _ _ us hl => match us, hl with | [_, _], _ => rfl) (fun vs H Q E h => ?_) (fun f cdv A outer s H vs Q E hr h => ?_)
  · obtain ⟨B, p, x, rfl, _⟩ := h
    rfl
  · obtain ⟨B, p, x, rfl, bk, hx, pk⟩ := h
    refine ⟨_, (pss_one (ps_ret (pe_mA M_Book__part_named T_Book (hr.mono (by decide)) (takes_of rfl rfl rfl rfl) (pv 0) (pa_cons pe_str (pa_cons (pv 1) pa_nil))))), ?_⟩
    obtain ⟨dx, fs, hl, bl, pd, dm, dc, da, dr, bs, ms, cs, as, rs, b⟩ := id bk
    exact ⟨_, rfl, B, dx, fs, rfl, b.ins, b.no _ (by decide +kernel) (by decide +kernel) (by decide +kernel) (by decide +kernel), _, rfl, B, p, 0, x, rfl, bk, hx, pk⟩
theorem ok_command_named {C CE : Addr} (A : AtM K C "command_named" "Book.command_named" s_Book_command_named) (TB : BookC K C) (M_Book__part_named : Mdf P w K mg base (L2.CX P w) 4 C "_part_named" p_Book__part_named (spPart K C CE)) : Mdf P w K mg base (L2.CX P w) 5 C "command_named" p_Book_command_named (spNamed K C CE 1) := by
  have T_Book := TB.cl
  refine mdf_okX A sc_Book_command_named (fun _ _ _ _ _ _ us hl => match us, hl with | [_, _], _ => rfl) (fun vs H Q E h => ?_) (fun f cdv A outer s H vs Q E hr h => ?_)
  · obtain ⟨B, p, x, rfl, _⟩ := h
    rfl
  · obtain ⟨B, p, x, rfl, bk, hx, pk⟩ := h
    refine ⟨_, (pss_one (ps_ret (pe_mA M_Book__part_named T_Book (hr.mono (by decide)) (takes_of rfl rfl rfl rfl) (pv 0) (pa_cons pe_str (pa_cons (pv 1) pa_nil))))), ?_⟩
    obtain ⟨dx, fs, hl, bl, pd, dm, dc, da, dr, bs, ms, cs, as, rs, b⟩ := id bk
    exact ⟨_, rfl, B, dx, fs, rfl, b.ins, b.no _ (by decide +kernel) (by decide +kernel) (by decide +kernel) (by decide +kernel), _, rfl, B, p, 1, x, rfl, bk, hx, pk⟩
theorem ok_alarm_named {C CE : Addr} (A : AtM K C "alarm_named" "Book.alarm_named" s_Book_alarm_named) (TB : BookC K C) (M_Book__part_named : Mdf P w K mg base (L2.CX P w) 4 C "_part_named" p_Book__part_named (spPart K C CE)) : Mdf P w K mg base (L2.CX P w) 5 C "alarm_named" p_Book_alarm_named (spNamed K C CE 2) := by
  have T_Book := TB.cl
  refine mdf_okX A sc_Book_alarm_named (fun _ _ _ _ _ _ us hl => match us, hl with | [_, _], _ => rfl) (fun vs H Q E h => ?_) (fun f cdv A outer s H vs Q E hr h => ?_)
  · obtain ⟨B, p, x, rfl, _⟩ := h
    rfl
  · obtain ⟨B, p, x, rfl, bk, hx, pk⟩ := h
    refine ⟨_, (pss_one (ps_ret (pe_mA M_Book__part_named T_Book (hr.mono (by decide)) (takes_of rfl rfl rfl rfl) (pv 0) (pa_cons pe_str (pa_cons (pv 1) pa_nil))))), ?_⟩
    obtain ⟨dx, fs, hl, bl, pd, dm, dc, da, dr, bs, ms, cs, as, rs, b⟩ := id bk
    exact ⟨_, rfl, B, dx, fs, rfl, b.ins, b.no _ (by decide +kernel) (by decide +kernel) (by decide +kernel) (by decide +kernel), _, rfl, B, p, 2, x, rfl, bk, hx, pk⟩
theorem ok_row_named {C CE : Addr} (A : AtM K C "row_named" "Book.row_named" s_Book_row_named) (TB : BookC K C) (M_Book__part_named : Mdf P w K mg base (L2.CX P w) 4 C "_part_named" p_Book__part_named (spPart K C CE)) : Mdf P w K mg base (L2.CX P w) 5 C "row_named" p_Book_row_named (spNamed K C CE 3) := by
  have T_Book := TB.cl
  refine mdf_okX A sc_Book_row_named (fun _ _ _ _ _ _ us hl => match us, hl with | [_, _], _ => rfl) (fun vs H Q E h => ?_) (fun f cdv A outer s H vs Q E hr h => ?_)
  · obtain ⟨B, p, x, rfl, _⟩ := h
    rfl
  · obtain ⟨B, p, x, rfl, bk, hx, pk⟩ := h
    refine ⟨_, (pss_one (ps_ret (pe_mA M_Book__part_named T_Book (hr.mono (by decide)) (takes_of rfl rfl rfl rfl) (pv 0) (pa_cons pe_str (pa_cons (pv 1) pa_nil))))), ?_⟩
    obtain ⟨dx, fs, hl, bl, pd, dm, dc, da, dr, bs, ms, cs, as, rs, b⟩ := id bk
    exact ⟨_, rfl, B, dx, fs, rfl, b.ins, b.no _ (by decide +kernel) (by decide +kernel) (by decide +kernel) (by decide +kernel), _, rfl, B, p, 3, x, rfl, bk, hx, pk⟩

/-! ### k01: no part is called none -/
theorem ev_xfB {σ : L2.St} {H : Hp} {ta : TE} {a D dd : Addr} {f : Str} {fs : List (Str × V)} {v : V} (h : Ev ta σ H (.ref a)) (hd : H dd = some (.xd fs)) (hl : fs.lookup f = some v) : Ev (tXf a (.ref D) (some dd) D f ta) σ H v := fun H1 e Q q =>
  h H1 e _ fun H2 e2 => ⟨rfl, rfl, dd, fs, v, rfl, (e.trans e2) _ _ hd, hl, q H2 e2⟩
def spUnknown (K : PySem.W.Frag) (C : Addr) : Sp := fun vs H Q _ => ∃ (B : Addr) (p : Pb), vs = [.ref B] ∧ BkAt K H B C p ∧ (∀ i y, (Str.ofString "none", y) ∉ partsOf i p) ∧ ∀ H', Ex H H' → Q (.bl true) H'
theorem ok_unknown {C CE : Addr} (A : At K mg "_law_unknown" s__law_unknown) (TB : BookC K C) (Z_UnknownName : ErrC P w K mg base "UnknownName" CE "name" "name") (M_Book_mode_named : Mdf P w K mg base (L2.CX P w) 5 C "mode_named" p_Book_mode_named (spNamed K C CE 0)) (M_Book_command_named : Mdf P w K mg base (L2.CX P w) 5 C "command_named" p_Book_command_named (spNamed K C CE 1)) (M_Book_alarm_named : Mdf P w K mg base (L2.CX P w) 5 C "alarm_named" p_Book_alarm_named (spNamed K C CE 2)) (M_Book_row_named : Mdf P w K mg base (L2.CX P w) 5 C "row_named" p_Book_row_named (spNamed K C CE 3)) (mz_int : mg "int" = none) : Dfn P w K mg base 6 "_law_unknown" p__law_unknown (spUnknown K C) := by
  have T_Book := TB.cl
  refine dfn_ok A sc__law_unknown (fun _ _ _ _ _ _ us hl => match us, hl with | [_], _ => rfl) (fun vs H Q E h => ?_) (fun f cdv A outer s H vs Q E hr h => ?_)
  · obtain ⟨B, p, rfl, _⟩ := h
    rfl
  · obtain ⟨B, p, rfl, bk, no, q⟩ := h
    refine ⟨_, (show PSs _ _ _ from (pss_cons (ps_set (i := 1) sc__law_unknown.nd rfl (Or.inl rfl) pe_int)
  (pss_cons (ps_try_as (i := 2) rfl rfl sc__law_unknown.nd rfl rfl ⟨rfl, by decide, Or.inl Z_UnknownName.g⟩ takes0 (fun W pn xe tk _ => (pss_one (ps_expr (pe_mA M_Book_mode_named T_Book (hr.mono (by decide)) tk (pv 0) (pa_cons pe_str pa_nil)))))
    (fun a oe cls d pn hz hf => (pss_one (ps_set (i := 1) sc__law_unknown.nd rfl (Or.inl rfl) (pe_op op_add (pv 1) (pe_callTy call_int1 (by rfl) mz_int (by decide +kernel) (pa_cons (pe_cmpR op_eq (pe_xf (X := _) Z_UnknownName.xf Z_UnknownName.no hz hf (pv 2)) pe_str (by first | exact nomark _ | rfl)) pa_nil)))))))
  (pss_cons (ps_try_as (i := 2) rfl rfl sc__law_unknown.nd rfl rfl ⟨rfl, by decide, Or.inl Z_UnknownName.g⟩ takes0 (fun W pn xe tk _ => (pss_one (ps_expr (pe_mA M_Book_command_named T_Book (hr.mono (by decide)) tk (pv 0) (pa_cons pe_str pa_nil)))))
    (fun a oe cls d pn hz hf => (pss_one (ps_set (i := 1) sc__law_unknown.nd rfl (Or.inl rfl) (pe_op op_add (pv 1) (pe_callTy call_int1 (by rfl) mz_int (by decide +kernel) (pa_cons (pe_cmpR op_eq (pe_xf (X := _) Z_UnknownName.xf Z_UnknownName.no hz hf (pv 2)) pe_str (by first | exact nomark _ | rfl)) pa_nil)))))))
  (pss_cons (ps_try_as (i := 2) rfl rfl sc__law_unknown.nd rfl rfl ⟨rfl, by decide, Or.inl Z_UnknownName.g⟩ takes0 (fun W pn xe tk _ => (pss_one (ps_expr (pe_mA M_Book_alarm_named T_Book (hr.mono (by decide)) tk (pv 0) (pa_cons pe_str pa_nil)))))
    (fun a oe cls d pn hz hf => (pss_one (ps_set (i := 1) sc__law_unknown.nd rfl (Or.inl rfl) (pe_op op_add (pv 1) (pe_callTy call_int1 (by rfl) mz_int (by decide +kernel) (pa_cons (pe_cmpR op_eq (pe_xf (X := _) Z_UnknownName.xf Z_UnknownName.no hz hf (pv 2)) pe_str (by first | exact nomark _ | rfl)) pa_nil)))))))
  (pss_cons (ps_try_as (i := 2) rfl rfl sc__law_unknown.nd rfl rfl ⟨rfl, by decide, Or.inl Z_UnknownName.g⟩ takes0 (fun W pn xe tk _ => (pss_one (ps_expr (pe_mA M_Book_row_named T_Book (hr.mono (by decide)) tk (pv 0) (pa_cons pe_str pa_nil)))))
    (fun a oe cls d pn hz hf => (pss_one (ps_set (i := 1) sc__law_unknown.nd rfl (Or.inl rfl) (pe_op op_add (pv 1) (pe_callTy call_int1 (by rfl) mz_int (by decide +kernel) (pa_cons (pe_cmpR op_eq (pe_xf (X := _) Z_UnknownName.xf Z_UnknownName.no hz hf (pv 2)) pe_str (by first | exact nomark _ | rfl)) pa_nil)))))))
  (pss_one (ps_ret (pe_cmpR op_eq (pv 1) pe_int (by first | exact nomark _ | rfl)))))))))), ?_⟩
    have hx : (Str.ofString "none").length ≤ 1000 := by decide +kernel
    refine q_asg (v := .int 0) ev_c fun G0 g0 => ?_
    obtain ⟨dx0, fs0, _, _, _, _, _, _, _, _, _, _, _, _, b0⟩ := bk.ex g0
    refine ⟨_, rfl, B, dx0, fs0, rfl, b0.ins, b0.no _ (by decide +kernel) (by decide +kernel) (by decide +kernel) (by decide +kernel), B, p, Str.ofString "none", rfl, bk.ex g0, hx, fun v y H' hy => absurd hy (no 0 y), fun _ d H2 nd e2 hd => ⟨true, Z_UnknownName.te, fun _ a na => ?_, fun z => Bool.noConfusion z⟩⟩
    refine s_asg (v := .int 1) (ev_op (ev_var rfl) (ev_intB (k := true) (ea_cons (ev_is (ev_op (ev_xfB (ev_var rfl) hd rfl) ev_c (rv_eq rfl)) rfl) ea_nil)) rv_I0) fun G1 e3 => ?_
    have g1 := (g0.trans e2).trans e3
    clear hd e2 e3 nd na
    obtain ⟨dx1, fs1, _, _, _, _, _, _, _, _, _, _, _, _, b1⟩ := bk.ex g1
    refine ⟨_, rfl, B, dx1, fs1, rfl, b1.ins, b1.no _ (by decide +kernel) (by decide +kernel) (by decide +kernel) (by decide +kernel), B, p, Str.ofString "none", rfl, bk.ex g1, hx, fun v y H' hy => absurd hy (no 1 y), fun _ d H2 nd e2 hd => ⟨true, Z_UnknownName.te, fun _ a na => ?_, fun z => Bool.noConfusion z⟩⟩
    refine s_asg (v := .int 2) (ev_op (ev_var rfl) (ev_intB (k := true) (ea_cons (ev_is (ev_op (ev_xfB (ev_var rfl) hd rfl) ev_c (rv_eq rfl)) rfl) ea_nil)) rv_I0) fun G2 e3 => ?_
    have g2 := (g1.trans e2).trans e3
    clear hd e2 e3 nd na
    obtain ⟨dx2, fs2, _, _, _, _, _, _, _, _, _, _, _, _, b2⟩ := bk.ex g2
    refine ⟨_, rfl, B, dx2, fs2, rfl, b2.ins, b2.no _ (by decide +kernel) (by decide +kernel) (by decide +kernel) (by decide +kernel), B, p, Str.ofString "none", rfl, bk.ex g2, hx, fun v y H' hy => absurd hy (no 2 y), fun _ d H2 nd e2 hd => ⟨true, Z_UnknownName.te, fun _ a na => ?_, fun z => Bool.noConfusion z⟩⟩
    refine s_asg (v := .int 3) (ev_op (ev_var rfl) (ev_intB (k := true) (ea_cons (ev_is (ev_op (ev_xfB (ev_var rfl) hd rfl) ev_c (rv_eq rfl)) rfl) ea_nil)) rv_I0) fun G3 e3 => ?_
    have g3 := (g2.trans e2).trans e3
    clear hd e2 e3 nd na
    obtain ⟨dx3, fs3, _, _, _, _, _, _, _, _, _, _, _, _, b3⟩ := bk.ex g3
    refine ⟨_, rfl, B, dx3, fs3, rfl, b3.ins, b3.no _ (by decide +kernel) (by decide +kernel) (by decide +kernel) (by decide +kernel), B, p, Str.ofString "none", rfl, bk.ex g3, hx, fun v y H' hy => absurd hy (no 3 y), fun _ d H2 nd e2 hd => ⟨true, Z_UnknownName.te, fun _ a na => ?_, fun z => Bool.noConfusion z⟩⟩
    refine s_asg (v := .int 4) (ev_op (ev_var rfl) (ev_intB (k := true) (ea_cons (ev_is (ev_op (ev_xfB (ev_var rfl) hd rfl) ev_c (rv_eq rfl)) rfl) ea_nil)) rv_I0) fun G4 e3 => ?_
    have g4 := (g3.trans e2).trans e3
    clear hd e2 e3 nd na
    exact s_ret (v := .bl true) (ev_is (ev_op (ev_var (v := .int 4) rfl) ev_c (rv_eq rfl)) rfl) fun H' e => q H' (g4.trans e)
/-! ### all that a book tells -/
def NewL (K : PySem.W.Frag) (H : Hp) (ds : List PyData) : V → Hp → Prop := fun v H' => ∃ q zs, v = .ref q ∧ H q = none ∧ H' q = some (.lst zs) ∧ DpAll K H' zs ds
def NewH (H : Hp) (p : Pb) : V → Hp → Prop := fun v H' => ∃ q ys, v = .ref q ∧ H q = none ∧ H' q = some (.lst ((ys : List Str).map V.str)) ∧ ys.Perm p.holds ∧ sortedS ys = true
def NewB (K : PySem.W.Frag) (H : Hp) (p : Pb) : V → Hp → Prop := fun v H' => ∃ q bs, v = .ref q ∧ H q = none ∧ H' q = some (.lst ((byTexts bs p.barred).map (·.1))) ∧ DpAll K H' bs (p.barred.map tD)
theorem NewL.m {H : Hp} {ds : List PyData} : Mono (NewL K H ds) := fun _ _ _ e ⟨q, zs, a, b, c, d⟩ => ⟨q, zs, a, b, e _ _ c, dpa_ex e d⟩
theorem NewH.m {H : Hp} {p : Pb} : Mono (NewH H p) := fun _ _ _ e ⟨q, zs, a, b, c, d⟩ => ⟨q, zs, a, b, e _ _ c, d⟩
theorem NewB.m {H : Hp} {p : Pb} : Mono (NewB K H p) := fun _ _ _ e ⟨q, zs, a, b, c, d⟩ => ⟨q, zs, a, b, e _ _ c, dpa_ex e d⟩
theorem evG_propF {C : Addr} {σ : L2.St} {H : Hp} {ta : TE} {B : Addr} {p : Pb} {α : Type} {D : α → PyData} {sel : Pb → List α} (h : Ev ta σ H (.ref B)) (b : BkAt K H B C p) : EvG (tProp C (spPropC K C D sel) [] E0 ta) σ H (NewL K H ((sel p).map D)) := fun H1 e Q q =>
  h H1 e _ fun H2 e2 => by
    have b2 := b.ex (e.trans e2)
    obtain ⟨dx, fs, hl', bl, pd, dm, dc, da, dr, bs, ms, cs, as, rs, bb⟩ := b2
    exact ⟨B, dx, fs, rfl, bb.ins, B, p, rfl, ⟨dx, fs, hl', bl, pd, dm, dc, da, dr, bs, ms, cs, as, rs, bb⟩, fun q' xs H3 nq e3 hq dq => q _ H3 (e2.trans e3) ⟨q', xs, rfl, fresh_back (e.trans e2) nq, hq, dq⟩⟩
theorem evG_propH {C : Addr} {σ : L2.St} {H : Hp} {ta : TE} {B : Addr} {p : Pb} (h : Ev ta σ H (.ref B)) (b : BkAt K H B C p) : EvG (tProp C (spHolds K C) [] E0 ta) σ H (NewH H p) := fun H1 e Q q =>
  h H1 e _ fun H2 e2 => by
    have b2 := b.ex (e.trans e2)
    obtain ⟨dx, fs, hl', bl, pd, dm, dc, da, dr, bs, ms, cs, as, rs, bb⟩ := b2
    exact ⟨B, dx, fs, rfl, bb.ins, B, p, rfl, ⟨dx, fs, hl', bl, pd, dm, dc, da, dr, bs, ms, cs, as, rs, bb⟩, fun q' ys H3 nq e3 hq pm so => q _ H3 (e2.trans e3) ⟨q', ys, rfl, fresh_back (e.trans e2) nq, hq, pm, so⟩⟩
theorem evG_propB {C : Addr} {σ : L2.St} {H : Hp} {ta : TE} {B : Addr} {p : Pb} (h : Ev ta σ H (.ref B)) (b : BkAt K H B C p) : EvG (tProp C (spBarred K C) [] E0 ta) σ H (NewB K H p) := fun H1 e Q q =>
  h H1 e _ fun H2 e2 => by
    have b2 := b.ex (e.trans e2)
    obtain ⟨dx, fs, hl', bl, pd, dm, dc, da, dr, bs, ms, cs, as, rs, bb⟩ := b2
    exact ⟨B, dx, fs, rfl, bb.ins, B, p, rfl, ⟨dx, fs, hl', bl, pd, dm, dc, da, dr, bs, ms, cs, as, rs, bb⟩, fun q' xs H3 nq e3 hq dq => q _ H3 (e2.trans e3) ⟨q', xs, rfl, fresh_back (e.trans e2) nq, hq, dq⟩⟩
theorem ev_propQ {C : Addr} {σ : L2.St} {H : Hp} {ta : TE} {B : Addr} {p : Pb} (h : Ev ta σ H (.ref B)) (b : BkAt K H B C p) : Ev (tProp C (spQuiet K C) [] E0 ta) σ H (lmV p.quiet) := fun H1 e Q q =>
  h H1 e _ fun H2 e2 => by
    have b2 := b.ex (e.trans e2)
    obtain ⟨dx, fs, hl', bl, pd, dm, dc, da, dr, bs, ms, cs, as, rs, bb⟩ := b2
    exact ⟨B, dx, fs, rfl, bb.ins, B, p, rfl, ⟨dx, fs, hl', bl, pd, dm, dc, da, dr, bs, ms, cs, as, rs, bb⟩, fun H3 e3 => q H3 (e2.trans e3)⟩
def IsTold (K : PySem.W.Frag) (H : Hp) (p : Pb) : V → Hp → Prop := fun v H' => ∃ t vs, v = .ref t ∧ H' t = some (.tup vs) ∧ AllP H' vs [NewH H p, NewL K H (p.modes.map mdD), NewB K H p, NewL K H (p.sc.map cdD), NewL K H (p.als.map alD), NewL K H (p.rows.map rwD), IsW (lmV p.quiet)]
def spTold (K : PySem.W.Frag) (C : Addr) : Sp := fun vs H Q _ => ∃ (B : Addr) (p : Pb), vs = [.ref B] ∧ BkAt K H B C p ∧ ∀ v H', IsTold K H p v H' → Ex H H' → Q v H'
theorem ok_told {C : Addr} (A : At K mg "_law_told" s__law_told) (TB : BookC K C) (G_Book_holds : PropD P w K mg base 1 C "holds" (spHolds K C)) (G_Book_modes : PropD P w K mg base 1 C "modes" (spPropC K C mdD Pb.modes)) (G_Book_barred : PropD P w K mg base 1 C "barred" (spBarred K C)) (G_Book_commands : PropD P w K mg base 1 C "commands" (spPropC K C cdD Pb.sc)) (G_Book_alarms : PropD P w K mg base 1 C "alarms" (spPropC K C alD Pb.als)) (G_Book_rows : PropD P w K mg base 1 C "rows" (spPropC K C rwD Pb.rows)) (G_Book_quiet : PropD P w K mg base 1 C "quiet" (spQuiet K C)) : Dfn P w K mg base 3 "_law_told" p__law_told (spTold K C) := by
  have T_Book := TB.cl
  refine dfn_ok A sc__law_told (fun _ _ _ _ _ _ us hl => match us, hl with | [_], _ => rfl) (fun vs H Q E h => ?_) (fun f cdv A outer s H vs Q E hr h => ?_)
  · obtain ⟨B, p, rfl, _⟩ := h
    rfl
  · obtain ⟨B, p, rfl, bk, q⟩ := h
    refine ⟨_, (pss_one (ps_ret (pe_tup (pa_cons (pe_pr G_Book_holds T_Book (hr.mono (by decide)) (pv 0)) (pa_cons (pe_pr G_Book_modes T_Book (hr.mono (by decide)) (pv 0)) (pa_cons (pe_pr G_Book_barred T_Book (hr.mono (by decide)) (pv 0)) (pa_cons (pe_pr G_Book_commands T_Book (hr.mono (by decide)) (pv 0)) (pa_cons (pe_pr G_Book_alarms T_Book (hr.mono (by decide)) (pv 0)) (pa_cons (pe_pr G_Book_rows T_Book (hr.mono (by decide)) (pv 0)) (pa_cons (pe_pr G_Book_quiet T_Book (hr.mono (by decide)) (pv 0)) pa_nil)))))))))), ?_⟩
    refine s_retG (evG_tupA (Ps := [NewH H p, NewL K H (p.modes.map mdD), NewB K H p, NewL K H (p.sc.map cdD), NewL K H (p.als.map alD), NewL K H (p.rows.map rwD), IsW (lmV p.quiet)]) (eaP_cons NewH.m (evG_propH (ev_var rfl) bk) (eaP_cons NewL.m (evG_propF (ev_var rfl) bk) (eaP_cons NewB.m (evG_propB (ev_var rfl) bk) (eaP_cons NewL.m (evG_propF (ev_var rfl) bk) (eaP_cons NewL.m (evG_propF (ev_var rfl) bk) (eaP_cons NewL.m (evG_propF (ev_var rfl) bk) (eaP_cons IsW.m (ea_w (ev_propQ (ev_var rfl) bk)) eaP_nil))))))) (by simp)) fun v H1 e1 ⟨t, vs, H2, hv, ht, e, al⟩ => q v H1 ⟨t, vs, hv, ht, al.ex e ?_⟩ e1
    intro P hP
    simp only [List.mem_cons, List.not_mem_nil, or_false] at hP
    rcases hP with rfl | rfl | rfl | rfl | rfl | rfl | rfl
    · exact NewH.m
    · exact NewL.m
    · exact NewB.m
    · exact NewL.m
    · exact NewL.m
    · exact NewL.m
    · exact IsW.m
def spFirst (K : PySem.W.Frag) : Sp := fun vs H Q _ => ∃ (a : Addr) (zs : List V) (n : Str), vs = [.ref a] ∧ SqT K H a zs ∧ atI zs 0 = some (.str n) ∧ ∀ H', Ex H H' → Q (.str n) H'
theorem ok_first (A : At K mg "_law_first" s__law_first) : Dfn P w K mg base 1 "_law_first" p__law_first (spFirst K) := by
  refine dfn_ok A sc__law_first (fun _ _ _ _ _ _ us hl => match us, hl with | [_], _ => rfl) (fun vs H Q E h => ?_) (fun f cdv A outer s H vs Q E hr h => ?_)
  · obtain ⟨a, zs, n, rfl, _⟩ := h
    rfl
  · obtain ⟨a, zs, n, rfl, ha, hn, q⟩ := h
    refine ⟨_, (pss_one (ps_ret (pe_ix (show IxR _ (rIxT K) from ix_tup) (pv 0) pe_int (fun _ _ => rfl)))), ?_⟩
    exact s_ret (ev_op (ev_var rfl) ev_c (rv_ixT ha hn)) q

/-! ### a book told by data -/
section
variable {G : Bs} {te ta tb tl : TE} {tt : TT} {tA : TA} {ρ : List Sl} {d : PyData} {ds : List PyData} {i : Nat} {C CE : Addr} {p : Pb} {E : XK}
theorem nv_holds (h : Tg K G ta ρ (BkP K C p)) : Nv K G (tProp C (spHolds K C) [] E0 ta) ρ ((sortS p.holds).map .str) := fun σ H O en Q q =>
  h σ H O en _ fun v H1 e1 ⟨B, hv, b⟩ => by
    subst hv
    have b0 := b
    obtain ⟨dx, fs, hl', bl, pd, dm, dc, da, dr, bs, ms, cs, as, rs, bb⟩ := b0
    exact ⟨B, dx, fs, rfl, bb.ins, B, p, rfl, b, fun a ys H2 na e2 ha pm so => q a _ H2 (e1.trans e2) (fresh_back e1 na) ha (by rw [← sortS_eq pm so]; exact dpa_texts _)⟩
theorem nv_barred (h : Tg K G ta ρ (BkP K C p)) : Nv K G (tProp C (spBarred K C) [] E0 ta) ρ (p.sb.map tD) := fun σ H O en Q q =>
  h σ H O en _ fun v H1 e1 ⟨B, hv, b⟩ => by
    subst hv
    have b0 := b
    obtain ⟨dx, fs, hl', bl, pd, dm, dc, da, dr, bs, ms, cs, as, rs, bb⟩ := b0
    exact ⟨B, dx, fs, rfl, bb.ins, B, p, rfl, b, fun a bs' H2 na e2 ha hd => q a _ H2 (e1.trans e2) (fresh_back e1 na) ha (dpa_noL (li_add en (e1.trans e2) ha) (noLs_map tD noL_tD _) (byTexts_dpa hd))⟩
theorem sv_quiet (h : Tg K G ta ρ (BkP K C p)) : Sv K G (tProp C (spQuiet K C) [] E0 ta) ρ (limD p.quiet) := fun σ H O en Q q =>
  h σ H O en _ fun v H1 e1 ⟨B, hv, b⟩ => by
    subst hv
    have b0 := b
    obtain ⟨dx, fs, hl', bl, pd, dm, dc, da, dr, bs, ms, cs, as, rs, bb⟩ := b0
    exact ⟨B, dx, fs, rfl, bb.ins, B, p, rfl, b, fun H2 e2 => q _ H2 (e1.trans e2) (dp_lmV _)⟩
theorem sv_safe (h : Tg K G ta ρ (BkP K C p)) (ok : PbOk p) : Sv K G (tProp C (spSafe K C) [] E0 ta) ρ (.str p.sf) := fun σ H O en Q q =>
  h σ H O en _ fun v H1 e1 ⟨B, hv, b⟩ => by
    subst hv
    have b0 := b
    obtain ⟨dx, fs, hl', bl, pd, dm, dc, da, dr, bs, ms, cs, as, rs, bb⟩ := b0
    exact ⟨B, dx, fs, rfl, bb.ins, B, p, rfl, b, ok, fun x H2 hx e2 => q _ H2 (e1.trans e2) (by
      have : p.sf = x := by unfold Pb.sf; rw [List.headD_eq_head?_getD, hx]; rfl
      rw [this]; exact .str _)⟩
theorem sv_named {m : Str} {x : Str} {j : Nat} (h : Tg K G ta ρ (BkP K C p)) (hx : Tv K G te ρ (.str x)) (hm : (x, d) ∈ partsOf j p) (hu : ∀ y, (x, y) ∈ partsOf j p → y = d) (sx : x.length ≤ 1000) (n : noL d = true)
    (n1 : m ≠ Str.ofString "_holds") (n2 : m ≠ Str.ofString "_barred") (n3 : m ≠ Str.ofString "_parts") (n4 : m ≠ Str.ofString "_quiet") : Sv K G (tMeth C m (fun vs H Q _ => spNamed K C CE j vs H Q fun _ _ _ => False) [] E0 ta (tCons te tNil)) ρ d := by
  refine Tg.s (fun σ H O en Q q => h σ H O en _ fun v H1 e1 ⟨B, hv, b⟩ => ?_) n
  subst hv
  have b0 := b
  obtain ⟨dx, fs, hl', bl, pd, dm, dc, da, dr, bs, ms, cs, as, rs, bb⟩ := b0
  refine ⟨B, dx, fs, rfl, bb.ins, bb.no _ n1 n2 n3 n4, hx σ H1 O (en.mono e1) _ fun y H2 e2 hy => ?_⟩
  obtain rfl := Dp.str_inv hy
  exact ⟨B, p, x, rfl, b.ex e2, sx, fun v y H3 hy dy e3 => q v H3 ((e1.trans e2).trans e3) (by rw [← hu y hy]; exact dy), fun no => absurd hm (no d)⟩
/-- is_lot, names_of -/
theorem sv_islot {xs : List Str} (h : Sv K G te ρ (tD xs)) (s : Sh xs) : Sv K G (tCall (spIsLot K) [] E (tCons te tNil)) ρ (.bool (isLot xs)) := fun σ H O en Q q =>
  h σ H O en _ fun v H1 e1 hv => by
    obtain ⟨a, rfl, hs⟩ := texts_of_dp hv
    exact ⟨a, xs, rfl, ex_t rs_ex hs, Nat.le_trans s.1 (by decide), s.2, fun H2 e2 => q _ H2 (e1.trans e2) (.bl _)⟩
theorem nv_names {α : Type} {D : α → PyData} {as : List α} (nm : α → Str) (hD : ∀ x, ∃ r, D x = .tuple (.str (nm x) :: r)) (h : Lv K G te ρ (as.map D)) (hl : as.length ≤ 1000) : Nv K G (tCall (spNames K) [] E (tCons te tNil)) ρ ((as.map nm).map .str) := fun σ H O en Q q =>
  h σ H O en _ fun a xs H1 e1 hs hd => ⟨a, xs, as.map nm, rfl, hs, named_of D nm hD (dpa_ex rs_ex hd), by rw [dpa_len hd, List.length_map]; exact hl, fun a' H2 na e2 ha => q a' _ H2 (e1.trans e2) (fresh_back e1 na) ha (dpa_texts _)⟩
end
theorem tg_bkV {K : PySem.W.Frag} {G : Bs} {C : Addr} {ρ : List Sl} {p : Pb} {i : Nat} (h : ρ[i]? = some (bkS K C p)) : Tg K G (tVar i) ρ (BkP K C p) := tg_bk h

local macro_rules | `(tactic| walk_at "bk") => `(tactic| ((with_reducible refine' tg_bkV ?h); (case h => exact rfl)))
local macro_rules | `(tactic| walk_at "np") => `(tactic| first
  | ((with_reducible refine' nv_holds ?a); (case a => walk_at "bk"))
  | ((with_reducible refine' nv_barred ?a); (case a => walk_at "bk"))
  | ((with_reducible refine' nv_prop noL_md ?a); (case a => walk_at "bk"))
  | ((with_reducible refine' nv_prop noL_cd ?a); (case a => walk_at "bk"))
  | ((with_reducible refine' nv_prop noL_al ?a); (case a => walk_at "bk"))
  | ((with_reducible refine' nv_prop noL_rw ?a); (case a => walk_at "bk")))
local macro_rules | `(tactic| walk_at "sp") => `(tactic| first
  | ((with_reducible refine' sv_quiet ?a); (case a => walk_at "bk"))
  | ((with_reducible refine' sv_safe ?a ?ok); (case a => walk_at "bk"); (case ok => assumption)))

def dueD (p : Pb) : PyData := .tuple [.list ((sortS p.holds).map .str), .list (p.modes.map mdD), .list (p.sb.map tD), .list (p.sc.map cdD), .list (p.als.map alD), .list (p.rows.map rwD), limD p.quiet]
def partsD (p : Pb) : PyData := .tuple [.list (p.holds.map .str), .list (p.modes.map mdD), .list (p.barred.map tD), .list (p.cmds.map cdD), .list (p.als.map alD), .list (p.rows.map rwD), limD p.quiet]
theorem nv_sortTT {G : Bs} {te : TE} {ρ : List Sl} {ts : List (List Str)} (h : Lv K G te ρ (ts.map tD)) (ne : ∀ t ∈ ts, t ≠ []) : Nv K G (tCB (rSortedTT K) (tCons te tNil)) ρ ((sortT ts).map tD) := fun σ H O en Q q =>
  h σ H O en _ fun a vs H1 e1 hs hd => ⟨a, vs, ts, rfl, hs, dpa_ex rs_ex hd, ne, fun p np => q p _ _ (e1.trans (Ex.new np)) (fresh_back e1 np) upd_same (byTexts_dpa (dpa_ex (rs_add np (Ex.new np)) hd))⟩
theorem nv_sortDef {G : Bs} {te : TE} {ρ : List Sl} {α : Type} {D : α → PyData} {as : List α} (nm : α → Str) (hD : ∀ x, ∃ r, D x = .tuple (.str (nm x) :: r)) (h : Lv K G te ρ (as.map D)) : Nv K G (tSortDef K (tCons te tNil)) ρ ((as.mergeSort (PySem.W.dataLe false fun x => .str (nm x))).map D) := fun σ H O en Q q =>
  h σ H O en _ fun a vs H1 e1 hs hd => ⟨a, vs, as.map nm, rfl, hs, named_of D nm hD (dpa_ex rs_ex hd), fun p np => q p _ _ (e1.trans (Ex.new np)) (fresh_back e1 np) upd_same (byName_dpa D nm (dpa_ex (rs_add np (Ex.new np)) hd))⟩
def spDue (K : PySem.W.Frag) : Sp := spU (fun p : Pb => [Dq K (partsD p)]) PbOk fun p _ => Dq K (dueD p)
theorem ok__law_due (A : At K mg "_law_due" s__law_due) (mz_sorted : mg "sorted" = none) (A__law_first : At K mg "_law_first" s__law_first) : Dfn P w K mg base 1 "_law_due" p__law_due (spDue K) := by
  refine dfn_ok A sc__law_due (fun _ _ _ _ _ _ us hl => match us, hl with | [_], _ => rfl) (spU_len fun _ => rfl) (fun f cdv A outer s H vs Q E hr h => ?_)
  obtain ⟨p, pre, av, q⟩ := h
  obtain ⟨v1, rfl, h1⟩ := av.l1
  try dsimp only at pre q h1
  refine ⟨_, (show PSs _ _ _ from (pss_cons (ps_asg (pv 0) (show PG _ _ (gTup K 7 _) from pg_tup rfl (pgs_cons (pg_name (i := 1) sc__law_due.nd rfl (Or.inl rfl)) (pgs_cons (pg_name (i := 2) sc__law_due.nd rfl (Or.inl rfl)) (pgs_cons (pg_name (i := 3) sc__law_due.nd rfl (Or.inl rfl)) (pgs_cons (pg_name (i := 4) sc__law_due.nd rfl (Or.inl rfl)) (pgs_cons (pg_name (i := 5) sc__law_due.nd rfl (Or.inl rfl)) (pgs_cons (pg_name (i := 6) sc__law_due.nd rfl (Or.inl rfl)) (pgs_cons (pg_name (i := 7) sc__law_due.nd rfl (Or.inl rfl)) pgs_nil)))))))))
  (pss_one (ps_ret (pe_tup (pa_cons (pe_callB (show CallR _ _ (rSortedS K) from cr_sortedS) (by rfl) mz_sorted (by decide +kernel) (pa_cons (pv 1) pa_nil)) (pa_cons (pv 2) (pa_cons (pe_callB (show CallR _ _ (rSortedTT K) from cr_sortedTT hr.units) (by rfl) mz_sorted (by decide +kernel) (pa_cons (pv 3) pa_nil)) (pa_cons (pe_sortDef A__law_first rfl rfl rfl hr (fun _ _ _ _ _ _ _ => rfl) (by rfl) mz_sorted (by rfl) rfl rfl rfl (by decide +kernel) rfl rfl (by decide) (pa_cons (pv 4) pa_nil)) (pa_cons (pv 5) (pa_cons (pv 6) (pa_cons (pv 7) pa_nil)))))))))))), ?_⟩
  refine hf_go ?_ (sl_d h1 (sl_n (sl_n (sl_n (sl_n (sl_n (sl_n (sl_n sl_z))))))))
  refine bd_asgG (d := partsD p) (sv_var rfl) (by walk_at "ga") ?_
  refine bd_retV (d := dueD p) (Sg.tv (sv_tup (ad_cons (Nv.s (nv_sortS (lv_var rfl) (by have := pre.holds.2.2; omega))) (ad_cons (sv_var rfl) (ad_cons (Nv.s (nv_sortTT (lv_var rfl) fun t ht z => by have := (pre.barred.2.2 t ht).2; rw [z] at this; simp at this)) (ad_cons (Nv.s (nv_sortDef Cd.n (fun c => ⟨_, rfl⟩) (lv_var rfl))) (ad_cons (sv_var rfl) (ad_cons (sv_var rfl) (ad_cons (sv_var rfl) ad_nil))))))) (by simp))) fun v H' e h => q v H' e h

section
variable {K : PySem.W.Frag} {σ : L2.St} {H : Hp} {ta tb te : TE}
theorem eu_slT {tl th : TO} {a : Addr} {xs : List V} {lo hi : Option Int} (h : Ev te σ H (.ref a)) (h1 : EvO tl σ H lo) (h2 : EvO th σ H hi) (hs : SqT K H a xs) (hw : ¬ (HT.sIx xs.length 0 lo = 0 ∧ HT.sIx xs.length xs.length hi = xs.length)) : EvU (tSl (rSlT K) te tl th) σ H (cutV xs lo hi) := fun H1 e _ q =>
  h H1 e _ fun H2 e2 => h1 H2 (e.trans e2) _ fun H3 e3 => h2 H3 ((e.trans e2).trans e3) _ fun H4 e4 =>
    ⟨a, xs, rfl, ex_t (((e.trans e2).trans e3).trans e4) hs, hw, fun p hp => q p _ (fresh_back ((e2.trans e3).trans e4) hp) (((e2.trans e3).trans e4).trans (Ex.new hp)) upd_same⟩
end
section
variable {K : PySem.W.Frag} {te : TE} {σ : L2.St} {H : Hp}
def EvN (te : TE) (σ : L2.St) (H : Hp) (o : HO) : Prop := ∀ H1, Ex H H1 → ∀ Q : VK, (∀ p H2, H1 p = none → Ex H1 H2 → H2 p = some o → Q (.ref p) H2) → te σ H1 Q
/-- the new lists that a comprehension makes, up to the turn i -/
def Cn (H : Hp) (l : Nat → HO) (Dl : Addr) (i : Nat) (H' : Hp) : Prop := H Dl = none ∧ Ex H H' ∧ ∃ qs : List Addr, qs.length = i ∧ H' Dl = some (.lst (qs.map V.ref)) ∧ qs.Nodup ∧ ∀ k q, qs[k]? = some q → q ≠ Dl ∧ H q = none ∧ H' q = some (l k)
theorem cn_zero {H : Hp} {l : Nat → HO} {Dl : Addr} (h : H Dl = none) : Cn H l Dl 0 (upd H Dl (.lst [])) := ⟨h, Ex.new h, [], rfl, upd_same, List.nodup_nil, fun k q z => by cases z⟩
theorem cn_turn {H H' : Hp} {l : Nat → HO} {Dl : Addr} {i : Nat} {σ2 : L2.St} (p : Cn H l Dl i H') (hi : i < 50000) (he : EvN te σ2 H (l i)) :
    tYes σ2 H' fun b H3 => if b = true then te σ2 H3 fun y H4 => ∃ acc, H4 Dl = some (.lst acc) ∧ acc.length < sizeLine ∧ Cn H l Dl (i + 1) (upd H4 Dl (.lst (acc ++ [y]))) else Cn H l Dl (i + 1) H3 := by
  obtain ⟨p1, p2, qs, hq1, hq2, hq3, hq4⟩ := p
  show te σ2 H' fun y H4 => ∃ acc, H4 Dl = some (.lst acc) ∧ acc.length < sizeLine ∧ Cn H l Dl (i + 1) (upd H4 Dl (.lst (acc ++ [y])))
  refine he H' p2 _ fun q H4 nq e4 hq => ⟨qs.map V.ref, e4 _ _ hq2, sz_lt (by rw [List.length_map]; omega), p1, Ex.mut (p2.trans e4) p1, qs ++ [q], ?_, ?_, ?_, ?_⟩
  · rw [List.length_append, hq1]; rfl
  · rw [upd_same, List.map_append]; rfl
  · refine List.nodup_append.mpr ⟨hq3, by simp, fun a ha c hc e => ?_⟩
    rw [List.mem_singleton.mp hc] at e
    subst e
    obtain ⟨k, hk⟩ := List.getElem?_of_mem ha
    rw [(hq4 k _ hk).2.2] at nq
    cases nq
  · intro k z hz
    by_cases hk : k < qs.length
    · rw [List.getElem?_append_left hk] at hz
      obtain ⟨h1, h2, h3⟩ := hq4 k z hz
      exact ⟨h1, h2, by rw [upd_ne h1]; exact e4 _ _ h3⟩
    · have hk2 : k = qs.length := by
        have := (List.getElem?_eq_some_iff.mp hz).1
        rw [List.length_append] at this
        have h1 : [q].length = 1 := rfl
        omega
      subst hk2
      rw [List.getElem?_append_right (Nat.le_refl _), Nat.sub_self] at hz
      cases hz
      have ne : q ≠ Dl := fun e => by rw [e, hq2] at nq; cases nq
      exact ⟨ne, fresh_back p2 nq, by rw [upd_ne ne, hq1]; exact hq⟩
/-- at p a list of n lists, all new since H -/
def NewLs (H H' : Hp) (p : Addr) (n : Nat) (l : Nat → HO) : Prop := H p = none ∧ ∃ qs : List Addr, qs.length = n ∧ H' p = some (.lst (qs.map V.ref)) ∧ qs.Nodup ∧ ∀ k q, qs[k]? = some q → q ≠ p ∧ H q = none ∧ H' q = some (l k)
end
theorem tabs_l {T : List (Addr × Str)} {H : Hp} {l : Addr} {xs : List V} {o : HO} (t : Tabs T H) (hl : H l = some (.lst xs)) : Tabs T (upd H l o) := fun p hp => by
  obtain ⟨ps, h1, h2, h3⟩ := t p hp
  have ne : ∀ b u, H b = some u → (∀ ys, u ≠ .lst ys) → upd H l o b = some u := fun b u hb n => by
    rw [upd_ne fun e => n xs (by rw [e, hl] at hb; exact (Option.some.inj hb).symm)]; exact hb
  refine ⟨ps, ne _ _ h1 (fun _ z => by cases z), h2, fun pos cv hc => ?_⟩
  obtain ⟨c, e1, e2⟩ := h3 pos cv hc
  exact ⟨c, e1, ne _ _ e2 (fun _ z => by unfold CodeO at z; cases z)⟩
theorem exN_up {H H' : Hp} {l : Addr} {o : HO} (e : ExtN H H') (n : H l = none) : ExtN H (upd H' l o) := fun b u h t => by
  rw [upd_ne fun z => by rw [z, n] at h; cases h]; exact e b u h t
theorem exN_ex {H H1 H2 : Hp} (e : ExtN H H1) (e2 : Ex H1 H2) : ExtN H H2 := fun b u h t => e2 _ _ (e b u h t)
theorem evG_lcUn {σ : L2.St} {H : Hp} {tl te : TE} {xs : List V} {j : Nat} {vs : List Nat} (l : Nat → HO) (h : EvU tl σ H xs) (hz : xs.length ≤ 40000) (hw : ∀ x, wipe ((wipe σ vs).set j (some x)) vs = wipe σ vs)
    (he : ∀ (i : Nat) (x : V) H1, Ex H H1 → xs[i]? = some x → EvN te ((wipe σ vs).set j (some x)) H1 (l i)) :
    EvG (tLc (iTup K tl) (gName j) tYes te vs) σ H (fun v H' => ∃ p, v = .ref p ∧ NewLs H H' p xs.length l) := fun H0 e Q q => h H0 e _ fun a H1 na e1 ha => ⟨a, rfl, ⟨xs, st_of ha⟩, fun Dl hD =>
  lc_tup (xs := xs) (Cn H1 l Dl) (cn_zero hD) (fun i H' _ p => ex_t p.2.1 (st_of ha)) (fun i x H' hi p => ⟨hw x, cn_turn p (by have := (List.getElem?_eq_some_iff.mp hi).1; omega) (he i x H1 (e.trans e1) hi)⟩)
    (fun H' p => q _ H' (e1.trans p.2.1) ⟨Dl, rfl, fresh_back (e.trans e1) p.1, p.2.2.imp fun qs hq => ⟨hq.1, hq.2.1, hq.2.2.1, fun k z hz => ⟨(hq.2.2.2 k z hz).1, fresh_back (e.trans e1) (hq.2.2.2 k z hz).2.1, (hq.2.2.2 k z hz).2.2⟩⟩⟩)⟩
theorem el_listL {σ : L2.St} {H : Hp} {ta : TE} {p : Addr} {xs : List V} (ha : Ev ta σ H (.ref p)) (h : SqL K H p xs) : EvL (tCB (rListS K) (tCons ta tNil)) σ H xs := fun H1 e Q q =>
  ha H1 e _ fun H2 e2 => ⟨p, xs, rfl, Or.inl (ex_l (e.trans e2) h), fun l nl => q l _ (fresh_back e2 nl) (e2.trans (Ex.new nl)) upd_same⟩
theorem q_asgMk {C : Addr} {sp : Sp} {E : XK} {t : TA} {D : Ends} {σ : L2.St} {H : Hp} {vs : List V} {tz : TS} {i : Nat} (hv : EvA t σ H vs) (hs : ∀ H2, Ex H H2 → ∀ x dx, H2 x = none → H2 dx = none → dx ≠ x → sp (.ref x :: (vs ++ [])) (upd (upd H2 dx (.own x)) x (.ins C dx [])) (fun v H3 => v = .non ∧ tz D (σ.set i (some (.ref x))) H3) E) : tSeq (tAsg (tMake C sp [] E t) (gName i)) tz D σ H := hv H (Ex.refl _) _ hs
def lsD (p : Pb) : List (List PyData) := [p.holds.map .str, p.modes.map mdD, p.barred.map tD, p.cmds.map cdD, p.als.map alD, p.rows.map rwD]
theorem partsD_eq (p : Pb) : partsD p = .tuple ((lsD p).map .list ++ [limD p.quiet]) := rfl
theorem lsD_len {p : Pb} (ok : PbOk p) (k : Nat) : ((lsD p).getD k []).length ≤ 8 := by
  match k with
  | 0 => have := ok.holds.2.2; show (p.holds.map _).length ≤ 8; rw [List.length_map]; omega
  | 1 => have := ok.modes.2.2.1; show (p.modes.map _).length ≤ 8; rw [List.length_map]; omega
  | 2 => have := ok.barred.1; show (p.barred.map _).length ≤ 8; rw [List.length_map]; omega
  | 3 => have := ok.cmds.2.1; show (p.cmds.map _).length ≤ 8; rw [List.length_map]; omega
  | 4 => have := ok.als.2.1; show (p.als.map _).length ≤ 8; rw [List.length_map]; omega
  | 5 => have := ok.rows.2.1; show (p.rows.map _).length ≤ 8; rw [List.length_map]; omega
  | k + 6 => exact Nat.zero_le _
theorem nmOk {ns : List Str} (h : NmsOk ns) {x : Str} (hx : x ∈ ns) : PyData.strOk x = true := (isName_gt (h.all x hx)).1
theorem tD_ly {xs : List Str} (h : ∀ x ∈ xs, PyData.strOk x = true) {n : Nat} : Lay (tD xs) (n + 1) := .tuple (.map fun x hx => .str (h x hx))
theorem lotNm {ns l : List Str} (h : NmsOk ns) (lo : LotOk ns l) : ∀ x ∈ l, PyData.strOk x = true := fun x hx => nmOk h (lo.inn x hx)
theorem oD_ly {ns : List Str} (h : NmsOk ns) {o : Option Str} (t : ToOk ns o) {n : Nat} : Lay (oD o) n := by
  cases o with
  | none => exact .none
  | some x => exact .str (nmOk h (t x rfl))
theorem limD_ly (o : Option Nat) {n : Nat} : Lay (limD o) n := by
  cases o with
  | none => exact .none
  | some x => exact .int _
theorem md_ly {p : Pb} (ok : PbOk p) {m : Md} (hm : m ∈ p.modes) : Lay (mdD m) 2 :=
  .tuple (.cons (.str (nmOk ok.modes.1 (List.mem_map.mpr ⟨m, hm, rfl⟩))) (.cons (tD_ly (lotNm ok.holds.1 (ok.modes.2.2.2 m hm).hon)) (.cons (tD_ly (lotNm ok.holds.1 (ok.modes.2.2.2 m hm).hoff)) .nil)))
theorem cd_ly {p : Pb} (ok : PbOk p) {c : Cd} (hc : c ∈ p.cmds) : Lay (cdD c) 2 :=
  have h := ok.cmds.2.2 c hc
  .tuple (.cons (.str (nmOk ok.cmds.1 (List.mem_map.mpr ⟨c, hc, rfl⟩))) (.cons (tD_ly (lotNm ok.modes.1 h.1)) (.cons (tD_ly (lotNm ok.holds.1 h.2.1.hon)) (.cons (tD_ly (lotNm ok.holds.1 h.2.1.hoff)) (.cons (oD_ly ok.modes.1 h.2.2) .nil)))))
theorem al_ly {p : Pb} (ok : PbOk p) {c : Al} (hc : c ∈ p.als) : Lay (alD c) 2 :=
  have h := ok.als.2.2 c hc
  .tuple (.cons (.str (nmOk ok.als.1 (List.mem_map.mpr ⟨c, hc, rfl⟩))) (.cons (tD_ly (lotNm ok.holds.1 h.1.hon)) (.cons (tD_ly (lotNm ok.holds.1 h.1.hoff)) (.cons (oD_ly ok.modes.1 h.2) .nil))))
theorem rw_ly {p : Pb} (ok : PbOk p) {r : Rw} (hr : r ∈ p.rows) : Lay (rwD r) 3 :=
  .tuple (.cons (.str (nmOk ok.rows.1 (List.mem_map.mpr ⟨r, hr, rfl⟩))) (.cons (.tuple (.map fun s hs => .tuple (.cons (.int _) (.cons (.str (nmOk ok.cmds.1 ((ok.rows.2.2 r hr).2.2 s hs).2.2)) .nil)))) .nil))
theorem sc_mem {p : Pb} {c : Cd} : c ∈ p.sc ↔ c ∈ p.cmds := List.mem_mergeSort
theorem md_up {d : PyData} {n m : Nat} (h : Lay d n) (l : n ≤ m) : Lay d m := ⟨h.1, Nat.le_trans h.2 l⟩
theorem lsD_sh {p : Pb} (ok : PbOk p) (k : Nat) : SeqAt.shaped (.list ((lsD p).getD k [])) = true := by
  match k with
  | 0 => exact (Lay.list (n := 3) (.map fun x hx => .str (nmOk ok.holds.1 hx))).sh
  | 1 => exact (Lay.list (n := 3) (.map fun x hx => md_up (md_ly ok hx) (by decide))).sh
  | 2 => exact (Lay.list (n := 3) (.map fun x hx => tD_ly (lotNm ok.holds.1 (ok.barred.2.2 x hx).1))).sh
  | 3 => exact (Lay.list (n := 3) (.map fun x hx => md_up (cd_ly ok hx) (by decide))).sh
  | 4 => exact (Lay.list (n := 3) (.map fun x hx => md_up (al_ly ok hx) (by decide))).sh
  | 5 => exact (Lay.list (n := 3) (.map fun x hx => rw_ly ok hx)).sh
  | k + 6 => exact (Lay.list (n := 3) .nil).sh
theorem due_sh {p : Pb} (ok : PbOk p) : SeqAt.shaped (dueD p) = true :=
  (Lay.tuple (n := 4) (.cons (.list (.map fun x hx => .str (nmOk ok.holds.1 (sortS_mem.mp hx)))) (.cons (.list (.map fun x hx => md_up (md_ly ok hx) (by decide))) (.cons (.list (.map fun x hx => tD_ly (lotNm ok.holds.1 (ok.barred.2.2 x ((List.mem_mergeSort).mp hx)).1))) (.cons (.list (.map fun x hx => md_up (cd_ly ok (sc_mem.mp hx)) (by decide))) (.cons (.list (.map fun x hx => md_up (al_ly ok hx) (by decide))) (.cons (.list (.map fun x hx => rw_ly ok hx)) (.cons (limD_ly _) .nil)))))))).sh
/-- the six lists of what is given -/
theorem parts_inv {H : Hp} {v : V} {p : Pb} (h : Dp K H v (partsD p)) (ok : PbOk p) : ∃ (a : Addr) (bs : List Addr) (zss : List (List V)), v = .ref a ∧ bs.length = 6 ∧ zss.length = 6 ∧ SqT K H a (bs.map V.ref ++ [lmV p.quiet]) ∧
    ∀ k b, bs[k]? = some b → SqL K H b (zss.getD k []) ∧ DpAll K H (zss.getD k []) ((lsD p).getD k []) ∧ (zss.getD k []).length ≤ 8 := by
  obtain ⟨a, vs, rfl, ha, hd⟩ := Dp.tup_inv h
  obtain ⟨v0, r0, rfl, d0, hd⟩ := DpAll.cons_inv hd
  obtain ⟨v1, r1, rfl, d1, hd⟩ := DpAll.cons_inv hd
  obtain ⟨v2, r2, rfl, d2, hd⟩ := DpAll.cons_inv hd
  obtain ⟨v3, r3, rfl, d3, hd⟩ := DpAll.cons_inv hd
  obtain ⟨v4, r4, rfl, d4, hd⟩ := DpAll.cons_inv hd
  obtain ⟨v5, r5, rfl, d5, hd⟩ := DpAll.cons_inv hd
  obtain ⟨v6, r6, rfl, d6, hd⟩ := DpAll.cons_inv hd
  obtain rfl := DpAll.nil_inv hd
  obtain ⟨b0, z0, rfl, l0, e0⟩ := dp_lst_inv d0
  obtain ⟨b1, z1, rfl, l1, e1⟩ := dp_lst_inv d1
  obtain ⟨b2, z2, rfl, l2, e2⟩ := dp_lst_inv d2
  obtain ⟨b3, z3, rfl, l3, e3⟩ := dp_lst_inv d3
  obtain ⟨b4, z4, rfl, l4, e4⟩ := dp_lst_inv d4
  obtain ⟨b5, z5, rfl, l5, e5⟩ := dp_lst_inv d5
  have hq : v6 = lmV p.quiet := by
    revert d6
    cases p.quiet with
    | none => exact fun d => by cases d; rfl
    | some n => exact fun d => Dp.int_inv d
  subst hq
  have ln : ∀ {k : Nat} {z : List V}, DpAll K H z ((lsD p).getD k []) → z.length ≤ 8 := fun {k z} d => by rw [dpa_len d]; exact lsD_len ok k
  refine ⟨a, [b0, b1, b2, b3, b4, b5], [z0, z1, z2, z3, z4, z5], rfl, rfl, rfl, ha, fun k b hb => ?_⟩
  match k, hb with
  | 0, hb => cases hb; exact ⟨l0, e0, ln (k := 0) e0⟩
  | 1, hb => cases hb; exact ⟨l1, e1, ln (k := 1) e1⟩
  | 2, hb => cases hb; exact ⟨l2, e2, ln (k := 2) e2⟩
  | 3, hb => cases hb; exact ⟨l3, e3, ln (k := 3) e3⟩
  | 4, hb => cases hb; exact ⟨l4, e4, ln (k := 4) e4⟩
  | 5, hb => cases hb; exact ⟨l5, e5, ln (k := 5) e5⟩
/-- what a book tells, by data -/
theorem told_dp {Hc H' : Hp} {p : Pb} {v : V} (ok : PbOk p) (h : IsTold K Hc p v H') : Dp K H' v (dueD p) ∧ ∃ t vs, v = .ref t ∧ H' t = some (.tup vs) ∧ vs.length = 7 ∧ ∀ k, k < 6 → ∃ q zs, vs[k]? = some (.ref q) ∧ Hc q = none ∧ H' q = some (.lst zs) ∧ zs.length ≤ 8 := by
  obtain ⟨t, vs, rfl, ht, al⟩ := h
  cases al with | cons h0 al =>
  cases al with | cons h1 al =>
  cases al with | cons h2 al =>
  cases al with | cons h3 al =>
  cases al with | cons h4 al =>
  cases al with | cons h5 al =>
  cases al with | cons h6 al =>
  cases al with | nil =>
  obtain ⟨q0, ys, rfl, n0, a0, pm, so⟩ := h0
  obtain ⟨q1, z1, rfl, n1, a1, d1⟩ := h1
  obtain ⟨q2, z2, rfl, n2, a2, d2⟩ := h2
  obtain ⟨q3, z3, rfl, n3, a3, d3⟩ := h3
  obtain ⟨q4, z4, rfl, n4, a4, d4⟩ := h4
  obtain ⟨q5, z5, rfl, n5, a5, d5⟩ := h5
  have hq := h6
  obtain rfl : _ = lmV p.quiet := hq
  have ey := sortS_eq pm so
  subst ey
  have d2' := byTexts_dpa d2
  refine ⟨.tup (st_of ht) (.cons (.lst (sq_of a0) (dpa_texts _)) (.cons (.lst (sq_of a1) d1) (.cons (.lst (sq_of a2) d2') (.cons (.lst (sq_of a3) d3) (.cons (.lst (sq_of a4) d4) (.cons (.lst (sq_of a5) d5) (.cons (dp_lmV _) .nil))))))), t, _, rfl, ht, rfl, fun k hk => ?_⟩
  have l0 := ok.holds.2.2
  have l1 := ok.modes.2.2.1
  have l2 := ok.barred.1
  have l3 := ok.cmds.2.1
  have l4 := ok.als.2.1
  have l5 := ok.rows.2.1
  have m1 := dpa_len d1
  have m2 := dpa_len d2'
  have m3 := dpa_len d3
  have m4 := dpa_len d4
  have m5 := dpa_len d5
  rw [List.length_map] at m1 m2 m3 m4 m5
  have m2' : (sortT p.barred).length = p.barred.length := List.length_mergeSort _
  have m3' : p.sc.length = p.cmds.length := List.length_mergeSort _
  match k, hk with
  | 0, _ => exact ⟨q0, _, rfl, n0, a0, by rw [List.length_map, sortS_len]; omega⟩
  | 1, _ => exact ⟨q1, _, rfl, n1, a1, by omega⟩
  | 2, _ => exact ⟨q2, _, rfl, n2, a2, by rw [dpa_len d2', List.length_map, m2']; exact l2⟩
  | 3, _ => exact ⟨q3, _, rfl, n3, a3, by omega⟩
  | 4, _ => exact ⟨q4, _, rfl, n4, a4, by omega⟩
  | 5, _ => exact ⟨q5, _, rfl, n5, a5, by omega⟩
theorem part_uq {α : Type} {D : α → PyData} {nm : α → Str} {xs : List α} (nd : (xs.map nm).Nodup) {m : α} (hm : m ∈ xs) : ∀ y, (nm m, y) ∈ xs.map (fun z => (nm z, D z)) → y = D m := fun y hy => by
  obtain ⟨z, hz, e⟩ := List.mem_map.mp hy
  injection e with e1 e2
  have : z = m := by
    obtain ⟨i, hi, rfl⟩ := List.mem_iff_getElem.mp hz
    obtain ⟨j, hj, rfl⟩ := List.mem_iff_getElem.mp hm
    have a : (xs.map nm)[i]'(by simpa using hi) = (xs.map nm)[j]'(by simpa using hj) := by simpa using e1
    have := (List.getElem_inj nd).mp a
    subst this; rfl
  rw [← e2, this]
theorem nm_len {ns : List Str} (h : NmsOk ns) {x : Str} (hx : x ∈ ns) : x.length ≤ 1000 := by
  have := (isName_gt (h.all x hx)).2
  omega
theorem sc_nd {p : Pb} (ok : PbOk p) : (p.sc.map Cd.n).Nodup := (List.Perm.nodup_iff ((List.mergeSort_perm p.cmds _).map Cd.n)).mpr ok.cmds.1.nd
theorem mf_at {p : Pb} (ok : PbOk p) : p.sf = (p.modes.headD (Str.empty, [], [])).1 := by
  unfold Pb.sf Pb.mn
  cases p.modes with
  | nil => rfl
  | cons m r => rfl
def spRight (K : PySem.W.Frag) (TA_ : Addr) : Sp := fun vs H Q _ => ∃ (v : V) (p : Pb), vs = [v] ∧ Dp K H v (partsD p) ∧ PbOk p ∧ (∀ i y, (Str.ofString "none", y) ∉ partsOf i p) ∧ Tabs [(TA_, lamQ)] H ∧ ∀ H', ExtN H H' → Tabs [(TA_, lamQ)] H' → Q (.bl true) H'
theorem six_of {α : Type} : ∀ {xs : List α}, xs.length = 6 → ∃ a b c d e f, xs = [a, b, c, d, e, f]
  | [a, b, c, d, e, f], _ => ⟨a, b, c, d, e, f, rfl⟩
theorem at_lt {α : Type} {xs : List α} {i n : Nat} (h : xs.length = n) (hi : i < n) : ∃ x, xs[i]? = some x := ⟨_, List.getElem?_eq_getElem (by omega)⟩
theorem bt_neX {G : Bs} {ta tb : TE} {ρ : List Sl} {d : PyData} (ha : Sv K G ta ρ d) (hb : Sv K G tb ρ d) (sh : SeqAt.shaped d = true) : Bt K G (tTest (tOp (rNeD K) ta tb)) ρ false :=
  bt_test (Tg.is (tv_op (Sg.tv ha) (Sg.tv hb) (rd_neD sh sh)) (by rw [eqv_self sh]; rfl))

theorem ok_right {C CE TA_ : Addr} (A : At K mg "_law_right" s__law_right) (mz_list : mg "list" = none) (M_Book___init__ : Mdf P w K mg base CX0 6 C "__init__" p_Book___init__ (spInit K C TA_)) (mk_Book : PySem.W.makesIn K C = true) (kc_Book : PySem.W.keepIn K (.ref C) = true) (gC_Book : mg "Book" = some (.ref C)) (mz_range : mg "range" = none) (D__law_due : Dfn P w K mg base 1 "_law_due" p__law_due (spDue K)) (D__law_told : Dfn P w K mg base 3 "_law_told" p__law_told (spTold K C)) (M_Book_mode_named : Mdf P w K mg base (L2.CX P w) 5 C "mode_named" p_Book_mode_named (spNamed K C CE 0)) (TB : BookC K C) (M_Book_command_named : Mdf P w K mg base (L2.CX P w) 5 C "command_named" p_Book_command_named (spNamed K C CE 1)) (M_Book_alarm_named : Mdf P w K mg base (L2.CX P w) 5 C "alarm_named" p_Book_alarm_named (spNamed K C CE 2)) (M_Book_row_named : Mdf P w K mg base (L2.CX P w) 5 C "row_named" p_Book_row_named (spNamed K C CE 3)) (G_Book_safe : PropD P w K mg base 3 C "safe" (spSafe K C)) (D__law_unknown : Dfn P w K mg base 6 "_law_unknown" p__law_unknown (spUnknown K C)) : Dfn P w K mg base 8 "_law_right" p__law_right (spRight K TA_) := by
  have T_Book := TB.cl
  have M_Book_mode_named_0 := M_Book_mode_named.never
  have M_Book_command_named_0 := M_Book_command_named.never
  have M_Book_alarm_named_0 := M_Book_alarm_named.never
  have M_Book_row_named_0 := M_Book_row_named.never
  refine dfn_ok A sc__law_right (fun _ _ _ _ _ _ us hl => match us, hl with | [_], _ => rfl) (fun vs H Q E h => by obtain ⟨v, p, rfl, _⟩ := h; rfl) (fun f cdv A outer s H vs Q E hr h => ?_)
  obtain ⟨v, p, rfl, d0, ok, no, hT, q⟩ := h
  refine ⟨_, (show PSs _ _ _ from (pss_cons (ps_setLc (i := 1) (own := [("part", 11)]) (g := gName 11) (tt := tYes) rfl sc__law_right.nd rfl rfl (sw_true rfl rfl rfl (by decide +kernel)) (show PI _ _ _ (iTup K _) from pi_tup (pe_slice (show SlR _ (rSlT K) from sl_tup) (pv 0) po_none (po_some pe_int))) (blkOk_by (N := N__law_right) (sc := defScope s__law_right) (by decide +kernel)) (fun _ _ _ _ _ => (pg_name (i := 11) sc__law_right.nd rfl (Or.inl rfl))) (fun _ _ _ _ _ => pts_nil) (fun _ _ _ _ _ => (pe_callTy (show CallR _ _ (rListS K) from call_list_of) (by rfl) mz_list (by decide +kernel) (pa_cons (pv 11) pa_nil))))
  (pss_cons (ps_set (i := 2) sc__law_right.nd rfl (Or.inl rfl) (pe_mk M_Book___init__ mk_Book kc_Book gC_Book (hr.mono (by decide)) (pa_cons (pe_ix (show IxR _ (rIxL K) from ix_list) (pv 1) pe_int (fun _ _ => rfl)) (pa_cons (pe_ix (show IxR _ (rIxL K) from ix_list) (pv 1) pe_int (fun _ _ => rfl)) (pa_cons (pe_ix (show IxR _ (rIxL K) from ix_list) (pv 1) pe_int (fun _ _ => rfl)) (pa_cons (pe_ix (show IxR _ (rIxL K) from ix_list) (pv 1) pe_int (fun _ _ => rfl)) (pa_cons (pe_ix (show IxR _ (rIxL K) from ix_list) (pv 1) pe_int (fun _ _ => rfl)) (pa_cons (pe_ix (show IxR _ (rIxL K) from ix_list) (pv 1) pe_int (fun _ _ => rfl)) (pa_cons (pe_ix (show IxR _ (rIxT K) from ix_tup) (pv 0) pe_int (fun _ _ => rfl)) pa_nil)))))))))
  (pss_cons (ps_for PassesOwn.never rfl (pi_range1 (by rfl) mz_range (pa_cons pe_int pa_nil)) (pg_name (i := 3) sc__law_right.nd rfl (Or.inl rfl))
    (pss_cons (ps_if (pt_cmpR (show OpR _ _ (rNeD K) from (op_neD hr.units)) (pe_ix (show IxR _ (rIxL K) from ix_list) (pv 1) (pv 3) (fun _ _ => rfl)) (pe_ix (show IxR _ (rIxT K) from ix_tup) (pv 0) (pv 3) (fun _ _ => rfl)) (by first | exact nomark _ | rfl))
    (pss_one (ps_ret pe_bl))
    pss_nil)
  (pss_one (ps_expr (show PE _ _ (tBM K "list" _ _ _) from pe_bm PySem.F.plainAttrs_list PySem.F.slot_list_append PySem.F.type_list_append mt_append (pe_ix (show IxR _ (rIxL K) from ix_list) (pv 1) (pv 3) (fun _ _ => rfl)) (pa_cons pe_str pa_nil))))))
  (pss_cons (ps_set (i := 4) sc__law_right.nd rfl (Or.inl rfl) (pe_d D__law_due (hr.mono (by decide)) (pa_cons (pv 0) pa_nil)))
  (pss_cons (ps_for PassesOwn.never rfl (pi_range1 (by rfl) mz_range (pa_cons pe_int pa_nil)) (pg_name (i := 5) sc__law_right.nd rfl (Or.inl rfl))
    (pss_cons (ps_set (i := 6) sc__law_right.nd rfl (Or.inl rfl) (pe_d D__law_told (hr.mono (by decide)) (pa_cons (pv 2) pa_nil)))
  (pss_cons (ps_if (pt_cmpR (show OpR _ _ (rNeD K) from (op_neD hr.units)) (pv 6) (pv 4) (by first | exact nomark _ | rfl))
    (pss_one (ps_ret pe_bl))
    pss_nil)
  (pss_one (ps_for PassesOwn.never rfl (pi_range1 (by rfl) mz_range (pa_cons pe_int pa_nil)) (pg_name (i := 3) sc__law_right.nd rfl (Or.inl rfl))
    (pss_one (ps_expr (show PE _ _ (tBM K "list" _ _ _) from pe_bm PySem.F.plainAttrs_list PySem.F.slot_list_append PySem.F.type_list_append mt_append (pe_ix (show IxR _ (rIxT K) from ix_tup) (pv 6) (pv 3) (fun _ _ => rfl)) (pa_cons pe_str pa_nil)))))))))
  (pss_cons (ps_for PassesOwn.never rfl (show PI _ _ _ (iList K _) from pi_list (pe_ix (show IxR _ (rIxT K) from ix_tup) (pv 0) pe_int (fun _ _ => rfl))) (pg_name (i := 7) sc__law_right.nd rfl (Or.inl rfl))
    (pss_one (ps_if (pt_cmpR (show OpR _ _ (rNeD K) from (op_neD hr.units)) (pe_m M_Book_mode_named_0 T_Book (hr.mono (by decide)) (pv 2) (pa_cons (pe_ix (show IxR _ (rIxT K) from ix_tup) (pv 7) pe_int (fun _ _ => rfl)) pa_nil)) (pv 7) (by first | exact nomark _ | rfl))
    (pss_one (ps_ret pe_bl))
    pss_nil)))
  (pss_cons (ps_for PassesOwn.never rfl (show PI _ _ _ (iList K _) from pi_list (pe_ix (show IxR _ (rIxT K) from ix_tup) (pv 0) pe_int (fun _ _ => rfl))) (pg_name (i := 8) sc__law_right.nd rfl (Or.inl rfl))
    (pss_one (ps_if (pt_cmpR (show OpR _ _ (rNeD K) from (op_neD hr.units)) (pe_m M_Book_command_named_0 T_Book (hr.mono (by decide)) (pv 2) (pa_cons (pe_ix (show IxR _ (rIxT K) from ix_tup) (pv 8) pe_int (fun _ _ => rfl)) pa_nil)) (pv 8) (by first | exact nomark _ | rfl))
    (pss_one (ps_ret pe_bl))
    pss_nil)))
  (pss_cons (ps_for PassesOwn.never rfl (show PI _ _ _ (iList K _) from pi_list (pe_ix (show IxR _ (rIxT K) from ix_tup) (pv 0) pe_int (fun _ _ => rfl))) (pg_name (i := 9) sc__law_right.nd rfl (Or.inl rfl))
    (pss_one (ps_if (pt_cmpR (show OpR _ _ (rNeD K) from (op_neD hr.units)) (pe_m M_Book_alarm_named_0 T_Book (hr.mono (by decide)) (pv 2) (pa_cons (pe_ix (show IxR _ (rIxT K) from ix_tup) (pv 9) pe_int (fun _ _ => rfl)) pa_nil)) (pv 9) (by first | exact nomark _ | rfl))
    (pss_one (ps_ret pe_bl))
    pss_nil)))
  (pss_cons (ps_for PassesOwn.never rfl (show PI _ _ _ (iList K _) from pi_list (pe_ix (show IxR _ (rIxT K) from ix_tup) (pv 0) pe_int (fun _ _ => rfl))) (pg_name (i := 10) sc__law_right.nd rfl (Or.inl rfl))
    (pss_one (ps_if (pt_cmpR (show OpR _ _ (rNeD K) from (op_neD hr.units)) (pe_m M_Book_row_named_0 T_Book (hr.mono (by decide)) (pv 2) (pa_cons (pe_ix (show IxR _ (rIxT K) from ix_tup) (pv 10) pe_int (fun _ _ => rfl)) pa_nil)) (pv 10) (by first | exact nomark _ | rfl))
    (pss_one (ps_ret pe_bl))
    pss_nil)))
  (pss_one (ps_ret (pe_and (pe_cmpR op_eq (pe_pr G_Book_safe T_Book (hr.mono (by decide)) (pv 2)) (pe_ix (show IxR _ (rIxT K) from ix_tup) (pe_ix (show IxR _ (rIxL K) from ix_list) (pe_ix (show IxR _ (rIxT K) from ix_tup) (pv 0) pe_int (fun _ _ => rfl)) pe_int (fun _ _ => rfl)) pe_int (fun _ _ => rfl)) (by first | exact nomark _ | rfl)) (pe_one (pe_d D__law_unknown (hr.mono (by decide)) (pa_cons (pv 2) pa_nil)))))))))))))))), ?_⟩
  obtain ⟨a, bs, zss, rfl, lb, lz, ha, hl⟩ := parts_inv d0 ok
  obtain ⟨b0, b1, b2, b3, b4, b5, rfl⟩ := six_of lb
  -- given
  refine q_asgG (P := fun v H' => ∃ pg, v = .ref pg ∧ NewLs H H' pg 6 fun k => .lst (zss.getD k [])) (evG_lcUn (xs := [.ref b0, .ref b1, .ref b2, .ref b3, .ref b4, .ref b5]) (fun k => .lst (zss.getD k [])) (eu_slT (xs := [.ref b0, .ref b1, .ref b2, .ref b3, .ref b4, .ref b5, lmV p.quiet]) (ev_var rfl) eo_none (eo_some (i := 6) ev_c) ha (by show ¬ (HT.sIx 7 0 none = 0 ∧ HT.sIx 7 7 (some 6) = 7); decide)) (by show 6 ≤ 40000; decide) (fun _ => rfl) fun i x H1 e1 hx => ?el) fun v H1 e1 hv => ?_
  case el =>
    have hx' : ([b0, b1, b2, b3, b4, b5].map V.ref)[i]? = some x := hx
    rw [List.getElem?_map] at hx'
    obtain ⟨b, hb, rfl⟩ := Option.map_eq_some_iff.mp hx'
    exact el_listL (ev_var rfl) (ex_l e1 (hl i b hb).1)
  obtain ⟨pg, rfl, npg, qs, lq, hpg, nd, hqs⟩ := hv
  obtain ⟨q0, q1, q2, q3, q4, q5, rfl⟩ := six_of lq
  refine q_asgMk (vs := [.ref q0, .ref q1, .ref q2, .ref q3, .ref q4, .ref q5, lmV p.quiet]) (ea_cons (ev_ixI (ev_var rfl) ev_c (sq_of hpg) rfl) (ea_cons (ev_ixI (ev_var rfl) ev_c (sq_of hpg) rfl) (ea_cons (ev_ixI (ev_var rfl) ev_c (sq_of hpg) rfl) (ea_cons (ev_ixI (ev_var rfl) ev_c (sq_of hpg) rfl) (ea_cons (ev_ixI (ev_var rfl) ev_c (sq_of hpg) rfl) (ea_cons (ev_ixI (ev_var rfl) ev_c (sq_of hpg) rfl) (ea_cons (ev_op (ev_var rfl) ev_c (rv_ixT (ex_t e1 ha) rfl)) ea_nil))))))) fun H2 e2 x dx nx ndx ne => ?_
  have nx' : upd H2 dx (.own x) x = none := by rw [upd_ne fun h => ne h.symm]; exact nx
  have e' : Ex H2 (upd (upd H2 dx (.own x)) x (.ins C dx [])) := (Ex.new ndx).trans (Ex.new nx')
  have e02 := e1.trans e2
  have dq : ∀ k b q, [b0, b1, b2, b3, b4, b5][k]? = some b → [q0, q1, q2, q3, q4, q5][k]? = some q → Dp K (upd (upd H2 dx (.own x)) x (.ins C dx [])) (.ref q) (.list ((lsD p).getD k [])) := fun k b q hb hq => .lst (sq_of ((e2.trans e') _ _ (hqs k q hq).2.2)) (dpa_ex (e02.trans e') (hl k b hb).2.1)
  refine ⟨x, dx, _, _, _, _, _, _, p, rfl, upd_same, dq 0 _ _ rfl rfl, dq 1 _ _ rfl rfl, dq 2 _ _ rfl rfl, dq 3 _ _ rfl rfl, dq 4 _ _ rfl rfl, dq 5 _ _ rfl rfl, ok, tabs_ex hT (e02.trans e'), fun H3 k T b => ⟨rfl, ?_⟩⟩
  have kN : ExtN H2 H3 := fun o u h t => k o u (fun z => by rw [z, nx] at h; cases h) (e' o u h) t
  have hN : ExtN H H3 := fun o u h t => kN o u (e02 o u h) t
  have hpg3 := kN _ _ (e2 _ _ hpg) (fun _ z => by cases z)
  have hq3 : ∀ k q, [q0, q1, q2, q3, q4, q5][k]? = some q → H3 q = some (.lst (zss.getD k [])) := fun k q hq => kN _ _ (e2 _ _ (hqs k q hq).2.2) (fun _ z => by cases z)
  have sS : ∀ k q, [q0, q1, q2, q3, q4, q5][k]? = some q → ∃ xs, (upd (upd H2 dx (.own x)) x (.ins C dx [])) q = some (.lst xs) := fun k q hq => ⟨_, (e2.trans e') _ _ (hqs k q hq).2.2⟩
  clear k dq
  refine q_forR1 (n := 6) (ea_cons ev_c ea_nil) (by omega) (fun i σ' H' => ∃ u3, σ' = [some (.ref a), some (.ref pg), some (.ref x), u3, none, none, none, none, none, none, none, none] ∧ ExtN H H' ∧ Tabs [(TA_, lamQ)] H' ∧ BkOff K H' x C p (fun o => ∃ xs, (upd (upd H2 dx (.own x)) x (.ins C dx [])) o = some (.lst xs)) ∧ H' pg = some (.lst ([q0, q1, q2, q3, q4, q5].map V.ref)) ∧ ∀ k q, i ≤ k → [q0, q1, q2, q3, q4, q5][k]? = some q → H' q = some (.lst (zss.getD k []))) (fun H4 e4 => ⟨_, rfl, exN_ex hN e4, tabs_ex T e4, b.ex e4, e4 _ _ hpg3, fun k q _ hk => e4 _ _ (hq3 k q hk)⟩) ?gs ?gd
  case gs =>
    rintro i σ' H4 hi ⟨u3, rfl, x4, T4, b4', hpg4, hq4⟩
    have hi : i < 6 := by omega
    obtain ⟨bi, hbi⟩ := at_lt lb hi
    obtain ⟨qi, hqi⟩ := at_lt lq hi
    have hz := hl i bi hbi
    have hqi4 := hq4 i qi (Nat.le_refl _) hqi
    have da := kp_a (kp_N x4) hz.2.1
    have ai : ([q0, q1, q2, q3, q4, q5].map V.ref)[i]? = some (.ref qi) := by rw [List.getElem?_map, hqi]; rfl
    have bi' : ([b0, b1, b2, b3, b4, b5].map V.ref ++ [lmV p.quiet])[i]? = some (.ref bi) := by
      rw [List.getElem?_append_left (by rw [List.length_map]; exact hi), List.getElem?_map, hbi]; rfl
    refine q_when (b := false) (et_neD (d := .list ((lsD p).getD i [])) (Ev.dAt (ev_ixI (v := .ref qi) (ev_var rfl) (ev_var rfl) (sq_of hpg4) (atI_nat ai)) (.lst (sq_of hqi4) da)) (Ev.dAt (v := .ref bi) (ev_op (ev_var rfl) (ev_var rfl) (rv_ixT (kp_t (kp_N x4) ha) (atI_nat bi'))) (.lst (kp_l (kp_N x4) hz.1) da)) (lsD_sh ok i)) (fun z => Bool.noConfusion z) fun _ H5 e5 => ?_
    refine s_app (v := .str (Str.ofString "x")) (e5 _ _ hqi4) (ev_ixI (v := .ref qi) (ev_var rfl) (ev_var rfl) (sq_of (e5 _ _ hpg4)) (atI_nat ai)) ev_c (by have := hz.2.2; omega) fun H6 e6 => ?_
    have e46 := e5.trans e6
    refine ⟨_, rfl, exN_up (exN_ex x4 e46) (hqs i qi hqi).2.1, tabs_l (tabs_ex T4 e46) (e46 _ _ hqi4), BkOff.mut (b4'.ex e46) (e46 _ _ hqi4) (sS i qi hqi), by rw [upd_ne (hqs i qi hqi).1.symm]; exact e46 _ _ hpg4, fun k q' hk hq' => ?_⟩
    rw [upd_ne fun z => ?_]
    · exact e46 _ _ (hq4 k q' (by omega) hq')
    · rw [z] at hq'
      have := (List.getElem?_inj (by rw [lq]; exact hi) nd).mp (hqi.trans hq'.symm)
      omega
  case gd =>
    rintro σ' H4 ⟨u3, rfl, x4, T4, b4', hpg4, _⟩
    have bk4 := b4'.at
    refine q_asgG (P := fun v H' => Dp K H' v (dueD p)) (evG_call (ea_cons (ev_var rfl) ea_nil) fun H5 e5 Q q E => ⟨p, ok, .cons (dp_ex e5 (kp_d (kp_N x4) d0)) .nil, fun v H6 e6 hv => q v H6 e6 hv⟩) fun vd H5 e5 hd => ?_
    refine q_forR1 (n := 2) (ea_cons ev_c ea_nil) (by omega) (fun i σ' H' => ∃ u3 u5 u6, σ' = [some (.ref a), some (.ref pg), some (.ref x), u3, some vd, u5, u6, none, none, none, none, none] ∧ Ex H5 H') (fun H6 e6 => ⟨_, _, _, rfl, e6⟩) ?ts ?td
    case ts =>
      rintro i σ' H6 _ ⟨u3, u5, u6, rfl, e6⟩
      refine q_asgG (P := fun v H' => ∃ Hc, Ex H6 Hc ∧ Ex Hc H' ∧ IsTold K Hc p v H') (evG_call (ea_cons (ev_var rfl) ea_nil) fun Hc ec Q q E => ⟨x, p, rfl, (bk4.ex (e5.trans e6)).ex ec, fun v H' hv e' => q v H' e' ⟨Hc, ec, e', hv⟩⟩) fun v H7 e7 ⟨Hc, ec, e', hv⟩ => ?_
      obtain ⟨dt, t, vs, rfl, ht, lv, hk⟩ := told_dp ok hv
      refine q_when (b := false) (et_neD (d := dueD p) (Ev.dAt (ev_var rfl) dt) (Ev.dAt (ev_var rfl) (dp_ex (e6.trans e7) hd)) (due_sh ok)) (fun z => Bool.noConfusion z) fun _ H8 e8 => ?_
      refine s_forR1 (n := 6) (ea_cons ev_c ea_nil) (by omega) (fun j σ' H' => ∃ u3, σ' = [some (.ref a), some (.ref pg), some (.ref x), u3, some vd, some (.int (i : Int)), some (.ref t), none, none, none, none, none] ∧ Ex Hc H' ∧ H' t = some (.tup vs) ∧ ∀ k, k < 6 → ∃ q zs, vs[k]? = some (.ref q) ∧ Hc q = none ∧ H' q = some (.lst zs) ∧ zs.length ≤ 8 + j) (fun H9 e9 => ⟨_, rfl, e'.trans (e8.trans e9), (e8.trans e9) _ _ ht, fun k hk' => by
        obtain ⟨q, zs, h1, h2, h3, h4⟩ := hk k hk'
        exact ⟨q, zs, h1, h2, (e8.trans e9) _ _ h3, h4⟩⟩) ?us ?ud
      case us =>
        rintro j σ' H9 hj ⟨u3, rfl, x9, t9, k9⟩
        obtain ⟨qj, zj, vj, nj, aj, lj⟩ := k9 j (by omega)
        refine s_app (v := .str (Str.ofString "x")) aj (ev_op (ev_var rfl) (ev_var rfl) (rv_ixT (st_of t9) (atI_nat vj))) ev_c (by omega) fun H10 e10 => ?_
        refine ⟨_, rfl, Ex.mut (x9.trans e10) nj, by rw [upd_ne fun z => by rw [z, aj] at t9; cases t9]; exact e10 _ _ t9, fun k hk' => ?_⟩
        obtain ⟨q', zs, v1, n1, a1, l1⟩ := k9 k hk'
        by_cases z : q' = qj
        · subst z
          exact ⟨q', zj ++ [_], v1, n1, upd_same, by rw [List.length_append]; simp; omega⟩
        · exact ⟨q', zs, v1, n1, by rw [upd_ne z]; exact e10 _ _ a1, by omega⟩
      case ud =>
        rintro σ' H9 ⟨u3, rfl, x9, _, _⟩
        exact ⟨_, _, _, rfl, (e6.trans ec).trans x9⟩
    case td =>
      rintro σ' H6 ⟨u3, u5, u6, rfl, e6⟩
      have x6 := exN_ex x4 (e5.trans e6)
      have T6 := tabs_ex T4 (e5.trans e6)
      refine hf_go (ρ := [.dat (partsD p), .no, bkS K C p, .no, .no, .no, .no, .no, .no, .no, .no, .no]) ?_ (sl_d (kp_d (kp_N x6) d0) (sl_n (sl_bk ⟨x, rfl, bk4.ex (e5.trans e6)⟩ (sl_n (sl_n (sl_n (sl_n (sl_n (sl_n (sl_n (sl_n (sl_n sl_z))))))))))))
      refine bd_forL (as := p.modes) (Dt := mdD) (sv_ixT (sv_var rfl) (Sg.tv sv_int) rfl) (fun _ ρ' => ∃ s7 s8 s9 s10, ρ' = [.dat (partsD p), .no, bkS K C p, .no, .no, .no, .no, s7, s8, s9, s10, .no]) ⟨_, _, _, _, rfl⟩ (fun G1 g1 i m ρ' hm ⟨_, _, _, _, hI⟩ => ?m1) fun G1 g1 ρ' ⟨_, _, _, _, hI⟩ => ?_
      case m1 =>
        subst hI
        have hm := List.mem_of_getElem? hm
        have hmn : m.1 ∈ p.mn := List.mem_map.mpr ⟨m, hm, rfl⟩
        exact ⟨_, ga_name, bd_last (bd_when (b := false) (bt_neX (sv_named (x := m.1) (j := 0) (d := mdD m) (tg_bk rfl) (Sg.tv (sv_ixT (d := .str m.1) (sv_var rfl) (Sg.tv sv_int) rfl)) (List.mem_map.mpr ⟨m, hm, rfl⟩) (part_uq (D := mdD) (nm := (fun m => m.1)) ok.modes.1.nd hm) (nm_len ok.modes.1 hmn) (noL_md m) (by decide +kernel) (by decide +kernel) (by decide +kernel) (by decide +kernel)) (sv_var rfl) (md_ly ok hm).sh) (fun z => Bool.noConfusion z) fun _ => bd_inv (M := fun ρ' => ∃ s7 s8 s9 s10, ρ' = [.dat (partsD p), .no, bkS K C p, .no, .no, .no, .no, s7, s8, s9, s10, .no]) ⟨_, _, _, _, rfl⟩)⟩
      subst hI
      refine bd_forL (as := p.cmds) (Dt := cdD) (sv_ixT (sv_var rfl) (Sg.tv sv_int) rfl) (fun _ ρ' => ∃ s7 s8 s9 s10, ρ' = [.dat (partsD p), .no, bkS K C p, .no, .no, .no, .no, s7, s8, s9, s10, .no]) ⟨_, _, _, _, rfl⟩ (fun G2 g2 i m ρ' hm ⟨_, _, _, _, hI⟩ => ?m2) fun G2 g2 ρ' ⟨_, _, _, _, hI⟩ => ?_
      case m2 =>
        subst hI
        have hm := List.mem_of_getElem? hm
        have hmn : m.n ∈ p.cn := List.mem_map.mpr ⟨m, hm, rfl⟩
        exact ⟨_, ga_name, bd_last (bd_when (b := false) (bt_neX (sv_named (x := m.n) (j := 1) (d := cdD m) (tg_bk rfl) (Sg.tv (sv_ixT (d := .str m.n) (sv_var rfl) (Sg.tv sv_int) rfl)) (List.mem_map.mpr ⟨m, (sc_mem.mpr hm), rfl⟩) (part_uq (D := cdD) (nm := Cd.n) (sc_nd ok) (sc_mem.mpr hm)) (nm_len ok.cmds.1 hmn) (noL_cd m) (by decide +kernel) (by decide +kernel) (by decide +kernel) (by decide +kernel)) (sv_var rfl) (cd_ly ok hm).sh) (fun z => Bool.noConfusion z) fun _ => bd_inv (M := fun ρ' => ∃ s7 s8 s9 s10, ρ' = [.dat (partsD p), .no, bkS K C p, .no, .no, .no, .no, s7, s8, s9, s10, .no]) ⟨_, _, _, _, rfl⟩)⟩
      subst hI
      refine bd_forL (as := p.als) (Dt := alD) (sv_ixT (sv_var rfl) (Sg.tv sv_int) rfl) (fun _ ρ' => ∃ s7 s8 s9 s10, ρ' = [.dat (partsD p), .no, bkS K C p, .no, .no, .no, .no, s7, s8, s9, s10, .no]) ⟨_, _, _, _, rfl⟩ (fun G3 g3 i m ρ' hm ⟨_, _, _, _, hI⟩ => ?m3) fun G3 g3 ρ' ⟨_, _, _, _, hI⟩ => ?_
      case m3 =>
        subst hI
        have hm := List.mem_of_getElem? hm
        have hmn : m.n ∈ p.an := List.mem_map.mpr ⟨m, hm, rfl⟩
        exact ⟨_, ga_name, bd_last (bd_when (b := false) (bt_neX (sv_named (x := m.n) (j := 2) (d := alD m) (tg_bk rfl) (Sg.tv (sv_ixT (d := .str m.n) (sv_var rfl) (Sg.tv sv_int) rfl)) (List.mem_map.mpr ⟨m, hm, rfl⟩) (part_uq (D := alD) (nm := Al.n) ok.als.1.nd hm) (nm_len ok.als.1 hmn) (noL_al m) (by decide +kernel) (by decide +kernel) (by decide +kernel) (by decide +kernel)) (sv_var rfl) (al_ly ok hm).sh) (fun z => Bool.noConfusion z) fun _ => bd_inv (M := fun ρ' => ∃ s7 s8 s9 s10, ρ' = [.dat (partsD p), .no, bkS K C p, .no, .no, .no, .no, s7, s8, s9, s10, .no]) ⟨_, _, _, _, rfl⟩)⟩
      subst hI
      refine bd_forL (as := p.rows) (Dt := rwD) (sv_ixT (sv_var rfl) (Sg.tv sv_int) rfl) (fun _ ρ' => ∃ s7 s8 s9 s10, ρ' = [.dat (partsD p), .no, bkS K C p, .no, .no, .no, .no, s7, s8, s9, s10, .no]) ⟨_, _, _, _, rfl⟩ (fun G4 g4 i m ρ' hm ⟨_, _, _, _, hI⟩ => ?m4) fun G4 g4 ρ' ⟨_, _, _, _, hI⟩ => ?_
      case m4 =>
        subst hI
        have hm := List.mem_of_getElem? hm
        have hmn : m.1 ∈ p.rn := List.mem_map.mpr ⟨m, hm, rfl⟩
        exact ⟨_, ga_name, bd_last (bd_when (b := false) (bt_neX (sv_named (x := m.1) (j := 3) (d := rwD m) (tg_bk rfl) (Sg.tv (sv_ixT (d := .str m.1) (sv_var rfl) (Sg.tv sv_int) rfl)) (List.mem_map.mpr ⟨m, hm, rfl⟩) (part_uq (D := rwD) (nm := (fun m => m.1)) ok.rows.1.nd hm) (nm_len ok.rows.1 hmn) (noL_rw m) (by decide +kernel) (by decide +kernel) (by decide +kernel) (by decide +kernel)) (sv_var rfl) (rw_ly ok hm).sh) (fun z => Bool.noConfusion z) fun _ => bd_inv (M := fun ρ' => ∃ s7 s8 s9 s10, ρ' = [.dat (partsD p), .no, bkS K C p, .no, .no, .no, .no, s7, s8, s9, s10, .no]) ⟨_, _, _, _, rfl⟩)⟩
      subst hI
      have m0 : p.modes[0]? = some (p.modes.headD (Str.empty, [], [])) := by
        have h := ok.modes.2.1
        revert h
        cases p.modes with
        | nil => exact fun h => absurd h (by decide)
        | cons m r => exact fun _ => rfl
      refine bd_retV (d := .bool true) (Sg.tv (Sg.is (sv_and (b := true) (c := true) (Tg.is (tv_op (Sg.tv (sv_safe (tg_bk rfl) ok)) (Sg.tv (sv_ixT (d := .str p.sf) (sv_ixL (i := ((0 : Nat) : Int)) (d := mdD (p.modes.headD (Str.empty, [], []))) (Sg.l (sv_ixT (sv_var rfl) (Sg.tv sv_int) rfl)) (Sg.tv sv_int) (atI_nat (by rw [List.getElem?_map, m0]; rfl))) (Sg.tv sv_int) (by rw [mf_at ok]; rfl))) rd_eqS) (by simp)) fun _ => Sg.tv (sv_call (d := .bool true) (av_o (m := BkP.m) rfl av_nil) (fun Hx vs E' Q' al q' => ?u))) rfl)) fun v H' e h => ?r
      case u =>
        cases al with | cons h al =>
        cases al with | nil =>
        obtain ⟨B, rfl, bk⟩ := h
        exact ⟨B, p, rfl, bk, no, fun H' e => q' _ H' e (.bl true)⟩
      case r =>
        cases h
        exact q H' (exN_ex x6 ((((g1.trans g2).trans g3).trans g4).trans e)) (tabs_ex T6 ((((g1.trans g2).trans g3).trans g4).trans e))

theorem SpNum {a : Addr} {xs : List Int} {m : Int} {H : Hp} (h : SqL K H a (xs.map V.int)) (hx : xs.length ≤ 63) (h0 : 0 ≤ m) (h1 : m ≤ 900) : SpP (spNumbers K) [.ref a, .int m] H (fun ys => ∃ ns : List Int, ys = ns.map V.int ∧ (ns.length : Int) = m ∧ Small ns) := fun H1 e Q q E => ⟨a, xs, m, rfl, ex_l e h, hx, h0, h1, fun ns p H' hl hS np e' hp => q _ p H' ⟨ns, rfl, hl, hS⟩ np e' hp⟩
def spLaw (K : PySem.W.Frag) (TA_ : Addr) : Sp := fun vs H Q _ => ∃ (a : Addr) (ns : List Int), vs = [.ref a] ∧ SqL K H a (ns.map V.int) ∧ ns.length ≤ 63 ∧ H TA_ = some (.tbl #[]) ∧ ∀ H', Q (.bl true) H'
theorem tabs_empty {TA_ : Addr} {q : Str} {H : Hp} (h : H TA_ = some (.tbl #[])) : Tabs [(TA_, q)] H := fun p hp => by
  rw [List.mem_singleton.mp hp]
  exact ⟨#[], h, by first | exact .nil | trivial | exact ⟨⟩ | simp [TriplesOk], fun pos cv hc => by simp [codeAmong] at hc⟩
theorem nv_lcR {G : Bs} {te : TE} {ρ : List Sl} {j : Nat} {vs : List Nat} {n : Int} {tv : TA} (E : Nat → PyData) (h : ∀ σ H O, En K G O σ H ρ → ∀ Q : List V → Hp → Prop, (∀ H', Ex H H' → Q [.int n] H') → tv σ H Q) (hn : 0 ≤ n ∧ n ≤ 40000) (hj : j ∈ vs) (he : ∀ i : Nat, (i : Int) < n → Sv K G te ((wipeS ρ vs).set j (.dat (.int (i : Int)))) (E i)) :
    Nv K G (tLc (iRng1 tv) (gName j) tYes te vs) ρ ((List.range n.toNat).map E) := fun σ H O en Q q => h σ H O en _ fun H1 e1 => ⟨n, rfl, by omega, by omega, fun D nD => by
  have en1 := en.mono e1
  refine lc_range (lo := 0) (n := n.toNat) (fun i H' => Gr K O H1 D ((List.range i).map E) i H') (gr_zero nD) (fun i H' hi g => ?_) fun H' g => ?_
  · rw [Int.zero_add]
    refine ⟨wipe_back hj, ?_⟩
    obtain ⟨g1, ys, hys, hds, hl⟩ := id g
    have en2 : En K G (addO O D) ((wipe σ vs).set j (some (.int (i : Int)))) H' ((wipeS ρ vs).set j (.dat (.int (i : Int)))) := ((en1.addO nD g1 hys).wipe vs).dat (.int _)
    have t := gr_turn (b := true) g nD (by omega) en2 bt_yes fun _ => he i (by omega)
    rw [List.range_succ, List.map_append]
    exact t
  · obtain ⟨g1, ys, hys, hds, hl⟩ := g
    exact q D ys H' (e1.trans g1) (fresh_back e1 nD) hys hds⟩
theorem rng_c {G : Bs} {ρ : List Sl} {n : Int} : ∀ σ H O, En K G O σ H ρ → ∀ Q : List V → Hp → Prop, (∀ H', Ex H H' → Q [.int n] H') → tCons (tC (.int n)) tNil σ H Q := fun σ H O _ Q q => (ea_cons ev_c ea_nil : EvA (tCons (tC (.int n)) tNil) σ H [.int n]) H (Ex.refl H) _ fun H' e => q H' e

section
variable {tz : TS} {σ : L2.St} {H : Hp} {D : Ends}
theorem q_whenM {t : TT} {tu : TS} {Pm : Hp → Prop} (h : ∀ Q : Bool → Hp → Prop, (∀ H', Pm H' → Q false H') → t σ H Q) (k : ∀ H', Pm H' → tz D σ H') : tSeq (tIfS t tu tNext) tz D σ H := h _ fun H' p => by
  rw [if_neg Bool.false_ne_true]
  exact k H' p
end
def s' (x : String) : Str := Str.ofString x
def nmsB (xs : List Str) : Bool := xs.all isName && decide xs.Nodup && decide (xs.length ≤ 100)
def lotB (ns l : List Str) : Bool := isLot l && l.all (fun x => decide (x ∈ ns)) && decide (l.length ≤ 100)
def effB (hs on off : List Str) : Bool := lotB hs on && lotB hs off && on.all fun x => decide (x ∉ off)
def toB (ms : List Str) : Option Str → Bool
  | none => true
  | some x => decide (x ∈ ms)
def okPB (p : Pb) : Bool := (nmsB p.holds && decide (1 ≤ p.holds.length ∧ p.holds.length ≤ 6)) && (nmsB p.mn && decide (1 ≤ p.modes.length ∧ p.modes.length ≤ 5) && p.modes.all fun m => effB p.holds m.2.1 m.2.2) && (decide (p.barred.length ≤ 8 ∧ p.barred.Nodup) && p.barred.all fun l => lotB p.holds l && decide (2 ≤ l.length)) && (nmsB p.cn && decide (p.cmds.length ≤ 8) && p.cmds.all fun c => lotB p.mn c.lets && effB p.holds c.on c.off && toB p.mn c.to) && (nmsB p.an && decide (p.als.length ≤ 4) && p.als.all fun c => effB p.holds c.on c.off && toB p.mn c.to) && (nmsB p.rn && decide (p.rows.length ≤ 3) && p.rows.all fun r => decide (1 ≤ r.2.length ∧ r.2.length ≤ 4) && r.2.all fun s => decide (1 ≤ s.1 ∧ s.1 ≤ 9) && decide (s.2 ∈ p.cn)) && (match p.quiet with | none => true | some n => decide (1 ≤ n ∧ n ≤ 30)) && decide (Str.ofString "none" ∉ p.mn ∧ Str.ofString "none" ∉ p.cn ∧ Str.ofString "none" ∉ p.an ∧ Str.ofString "none" ∉ p.rn)
theorem lot_of {ns l : List Str} (h : lotB ns l = true) : LotOk ns l := by
  unfold lotB at h
  simp only [Bool.and_eq_true, List.all_eq_true, decide_eq_true_eq] at h
  exact ⟨h.1.1, h.1.2, h.2⟩
theorem eff_of {hs on off : List Str} (h : effB hs on off = true) : EffOk hs on off := by
  unfold effB at h
  simp only [Bool.and_eq_true, List.all_eq_true, decide_eq_true_eq] at h
  exact ⟨lot_of h.1.1, lot_of h.1.2, h.2⟩
theorem to_of {ms : List Str} {o : Option Str} (h : toB ms o = true) : ToOk ms o := fun x e => by
  subst e
  exact of_decide_eq_true h
theorem pb_of {p : Pb} (h : okPB p = true) : PbOk p ∧ NoN p := by
  unfold okPB at h
  simp only [Bool.and_eq_true, List.all_eq_true, decide_eq_true_eq] at h
  obtain ⟨⟨⟨⟨⟨⟨⟨hh, hm⟩, hb⟩, hc⟩, ha⟩, hr⟩, hq⟩, hn⟩ := h
  refine ⟨⟨⟨nms_of hh.1, hh.2.1, hh.2.2⟩, ⟨nms_of hm.1.1, hm.1.2.1, hm.1.2.2, fun m h => eff_of (hm.2 m h)⟩, ⟨hb.1.1, hb.1.2, fun l h => ⟨lot_of (hb.2 l h).1, (hb.2 l h).2⟩⟩, ⟨nms_of hc.1.1, hc.1.2, fun c h => ⟨lot_of (hc.2 c h).1.1, eff_of (hc.2 c h).1.2, to_of (hc.2 c h).2⟩⟩, ⟨nms_of ha.1.1, ha.1.2, fun c h => ⟨eff_of (ha.2 c h).1, to_of (ha.2 c h).2⟩⟩, ⟨nms_of hr.1.1, hr.1.2, fun r h => ⟨(hr.2 r h).1.1, (hr.2 r h).1.2, fun s hs => ⟨((hr.2 r h).2 s hs).1.1, ((hr.2 r h).2 s hs).1.2, ((hr.2 r h).2 s hs).2⟩⟩⟩, fun n e => ?_⟩, hn⟩
  rw [e] at hq
  exact of_decide_eq_true hq
theorem nn_of {p : Pb} (h : NoN p) : ∀ i y, (Str.ofString "none", y) ∉ partsOf i p := fun i y hy => by
  match i, hy with
  | 0, hy => obtain ⟨m, hm, e⟩ := List.mem_map.mp hy; injection e with e1 _; exact h.1 (List.mem_map.mpr ⟨m, hm, e1⟩)
  | 1, hy => obtain ⟨m, hm, e⟩ := List.mem_map.mp hy; injection e with e1 _; exact h.2.1 (List.mem_map.mpr ⟨m, sc_mem.mp hm, e1⟩)
  | 2, hy => obtain ⟨m, hm, e⟩ := List.mem_map.mp hy; injection e with e1 _; exact h.2.2.1 (List.mem_map.mpr ⟨m, hm, e1⟩)
  | k + 3, hy => obtain ⟨m, hm, e⟩ := List.mem_map.mp hy; injection e with e1 _; exact h.2.2.2 (List.mem_map.mpr ⟨m, hm, e1⟩)
def mS (i : Nat) : Str := [s' "m0", s' "m1", s' "m2", s' "m3", s' "m4"].getD i Str.empty
def cS (i : Nat) : Str := [s' "c7", s' "c6", s' "c5", s' "c4", s' "c3", s' "c2", s' "c1", s' "c0"].getD i Str.empty
def lS (i : Nat) : Str := [s' "l0", s' "l1", s' "l2", s' "l3"].getD i Str.empty
def rS (i : Nat) : Str := [s' "r0", s' "r1", s' "r2"].getD i Str.empty
def mK (i : Nat) : Md := (mS i, [s' "h0"], [s' "h1", s' "h2"])
def cK (i : Nat) : Cd := ⟨cS i, [s' "m0", s' "m4"], [], [s' "h5"], some (s' "m2")⟩
def lK (i : Nat) : Al := ⟨lS i, [s' "h0", s' "h1", s' "h2", s' "h3", s' "h4", s' "h5"], [], none⟩
def rK (i : Nat) : Rw := (rS i, [(9, s' "c0"), (1, s' "c7"), (5, s' "c0"), (9, s' "c3")])
def pb1 : Pb := ⟨[s' "h5", s' "h1", s' "h2", s' "h3", s' "h4", s' "h0"], (List.range 5).map mK, [[s' "h0", s' "h1"], [s' "h1", s' "h2"], [s' "h2", s' "h3"], [s' "h3", s' "h4"], [s' "h4", s' "h5"], [s' "h0", s' "h1", s' "h2"], [s' "h0", s' "h5"], [s' "h0", s' "h1", s' "h2", s' "h3", s' "h4", s' "h5"]], (List.range 8).map cK, (List.range 4).map lK, (List.range 3).map rK, some 30⟩
def pb2 : Pb := ⟨[s' "a"], [(s' "a", [], [])], [], [], [], [], none⟩
theorem pb1_ok : PbOk pb1 ∧ NoN pb1 := pb_of (by decide +kernel)
theorem pb2_ok : PbOk pb2 ∧ NoN pb2 := pb_of (by decide +kernel)
theorem sv_top {H : Hp} {te : TE} {ρ : List Sl} {σ : L2.St} {d : PyData} (h : Sv K (b0 H) te ρ d) (sl : SlAll K 0 (fun _ => False) H σ ρ) (no : noOwn ρ = true := by rfl) : EvG te σ H (fun v H' => Dp K H' v d) := by
  have en : En K (b0 H) (fun _ => False) σ H ρ := ⟨by rw [rs_zero]; exact Ex.refl H, fun _ z => z.elim, sl, fun _ _ _ _ _ h1 => (noOwn_at no h1).elim, fun _ => False, fun _ z => z, fun _ z => z, fun _ _ _ _ _ z => z⟩
  exact (h.t Dq.m).g en
theorem sl_nos {M : Addr} {O : Addr → Prop} {H H' : Hp} : ∀ {σ : L2.St} {ρ : List Sl}, SlAll K M O H σ ρ → SlAll K 0 (fun _ => False) H' σ (ρ.map fun _ => .no)
  | [], [], _ => trivial
  | _ :: _, _ :: _, h => ⟨trivial, sl_nos h.2⟩
  | [], _ :: _, h => h.elim
  | _ :: _, [], h => h.elim
theorem sv_nm {G : Bs} {ρ : List Sl} {te : TE} {b x : Str} {n : Int} (h : Sv K G te ρ (.int n)) (hn : n.natAbs.log2 < 1920) (e : b ++ (Str.ofString (toString n)) = x) (hl : b.length + (Str.ofString (toString n)).length ≤ 100000) :
    Sv K G (tOp (fun x y H Q => ∃ i j, x = .str i ∧ y = .str j ∧ i.length + j.length ≤ sizeLine ∧ Q (.str (i ++ j)) H) (tC (.str b)) (tCB (fun xs H Q => ∃ i, xs = [.int i] ∧ i.natAbs.log2 < 1920 ∧ Q (.str (toString i)) H) (tCons te tNil))) ρ (.str x) :=
  Sg.is (sv_op (Sg.tv sv_str) (fun σ H O en Q q => h σ H O en _ fun v H1 e1 hv => by
    obtain rfl := Dp.int_inv hv
    exact ⟨n, rfl, hn, q _ H1 e1 (.str _)⟩) (rd_addS hl)) (by rw [e])
theorem call_right {TA_ : Addr} {te : TE} {σ : L2.St} {H : Hp} {p : Pb} {E : XK} {Q : VK} (h : EvG te σ H (fun v H' => Dp K H' v (partsD p))) (ok : PbOk p ∧ NoN p) (hT : Tabs [(TA_, lamQ)] H) (q : ∀ H', ExtN H H' → Tabs [(TA_, lamQ)] H' → Q (.bl true) H') : tCall (spRight K TA_) [] E (tCons te tNil) σ H Q :=
  h H (Ex.refl H) _ fun v H1 e hv => ⟨v, p, rfl, hv, ok.1, nn_of ok.2, tabs_ex hT e, fun H2 e2 T2 => q H2 (fun o u a t => e2 o u (e _ _ a) t) T2⟩
def IsN (K : PySem.W.Frag) (n : Addr) (ns : List Int) : Pr := fun v H => v = .ref n ∧ SqL K H n (ns.map V.int)
theorem IsN.m {n : Addr} {ns : List Int} : Mono (IsN K n ns) := fun _ _ _ e ⟨a, b⟩ => ⟨a, ex_l e b⟩
def NmI (b : Str) (n : Int) (x : Str) : Prop := n.natAbs.log2 < 1920 ∧ b ++ (Str.ofString (toString n)) = x ∧ b.length + (Str.ofString (toString n)).length ≤ 100000
instance {b : Str} {n : Int} {x : Str} : Decidable (NmI b n x) := inferInstanceAs (Decidable (_ ∧ _ ∧ _))
theorem mS_ok : ∀ i, i < 5 → NmI (s' "m") ((i : Nat) : Int) (mS i) := by decide +kernel
theorem cS_ok : ∀ i, i < 8 → NmI (s' "c") (7 - ((i : Nat) : Int)) (cS i) := by decide +kernel
theorem lS_ok : ∀ i, i < 4 → NmI (s' "l") ((i : Nat) : Int) (lS i) := by decide +kernel
theorem rS_ok : ∀ i, i < 3 → NmI (s' "r") ((i : Nat) : Int) (rS i) := by decide +kernel
theorem sv_nmI {G : Bs} {ρ : List Sl} {te : TE} {b x : Str} {n : Int} (e : NmI b n x) (h : Sv K G te ρ (.int n)) :
    Sv K G (tOp (fun x y H Q => ∃ i j, x = .str i ∧ y = .str j ∧ i.length + j.length ≤ sizeLine ∧ Q (.str (i ++ j)) H) (tC (.str b)) (tCB (fun xs H Q => ∃ i, xs = [.int i] ∧ i.natAbs.log2 < 1920 ∧ Q (.str (toString i)) H) (tCons te tNil))) ρ (.str x) := sv_nm h e.1 e.2.1 e.2.2
theorem ok_law {C TA_ f : Addr} {fd : FuncData} (F_law : Fun K "law" "law" s_law f fd) (D__law_numbers : Dfn P w K mg base 2 "_law_numbers" p__law_numbers (spNumbers K)) (mz_range : mg "range" = none) (mz_str : mg "str" = none) (D__law_right : Dfn P w K mg base 8 "_law_right" p__law_right (spRight K TA_)) (D__law_parts : Dfn P w K mg base 3 "_law_parts" p__law_parts (spLParts K)) : FnOkG P w K mg base 9 f fd ["script"] (spLaw K TA_) := by
  refine okG F_law sc_law (fun vs H Q E h => by obtain ⟨a, ns, rfl, _⟩ := h; rfl) (fun cdv A outer s H vs Q E hg hr h => ?_)
  obtain ⟨a, xs, rfl, hA, hx, hT, q⟩ := h
  refine ⟨_, (show PSs _ _ _ from (pss_cons (ps_set (i := 1) sc_law.nd rfl (Or.inl rfl) (pe_d D__law_numbers (hr.mono (by decide)) (pa_cons (pv 0) (pa_cons pe_int pa_nil))))
  (pss_cons (ps_set (i := 2) sc_law.nd rfl (Or.inl rfl) (pe_lst (pa_cons pe_str (pa_cons pe_str (pa_cons pe_str (pa_cons pe_str (pa_cons pe_str (pa_cons pe_str pa_nil))))))))
  (pss_cons (ps_set (i := 3) sc_law.nd rfl (Or.inl rfl) (pe_lst (pa_cons (pe_tup (pa_cons pe_str (pa_cons pe_str pa_nil))) (pa_cons (pe_tup (pa_cons pe_str (pa_cons pe_str pa_nil))) (pa_cons (pe_tup (pa_cons pe_str (pa_cons pe_str pa_nil))) (pa_cons (pe_tup (pa_cons pe_str (pa_cons pe_str pa_nil))) (pa_cons (pe_tup (pa_cons pe_str (pa_cons pe_str pa_nil))) (pa_cons (pe_tup (pa_cons pe_str (pa_cons pe_str (pa_cons pe_str pa_nil)))) (pa_cons (pe_tup (pa_cons pe_str (pa_cons pe_str pa_nil))) (pa_cons (pe_tup (pa_cons pe_str (pa_cons pe_str (pa_cons pe_str (pa_cons pe_str (pa_cons pe_str (pa_cons pe_str pa_nil))))))) pa_nil))))))))))
  (pss_cons (ps_setLc (i := 4) (own := [("k", 8)]) (g := gName 8) (tt := tYes) rfl sc_law.nd rfl rfl (sw_true rfl rfl rfl (by decide +kernel)) (pi_range1 (by rfl) mz_range (pa_cons pe_int pa_nil)) (blkOk_by (N := N_law) (sc := defScope s_law) (by decide +kernel)) (fun _ _ _ _ _ => (pg_name (i := 8) sc_law.nd rfl (Or.inl rfl))) (fun _ _ _ _ _ => pts_nil) (fun _ _ _ _ _ => (pe_tup (pa_cons (pe_op op_add_str pe_str (pe_callTy call_str_int (by rfl) mz_str (by decide +kernel) (pa_cons (pv 8) pa_nil))) (pa_cons (pe_tup (pa_cons pe_str pa_nil)) (pa_cons (pe_tup (pa_cons pe_str (pa_cons pe_str pa_nil))) pa_nil))))))
  (pss_cons (ps_setLc (i := 5) (own := [("k", 8)]) (g := gName 8) (tt := tYes) rfl sc_law.nd rfl rfl (sw_true rfl rfl rfl (by decide +kernel)) (pi_range1 (by rfl) mz_range (pa_cons pe_int pa_nil)) (blkOk_by (N := N_law) (sc := defScope s_law) (by decide +kernel)) (fun _ _ _ _ _ => (pg_name (i := 8) sc_law.nd rfl (Or.inl rfl))) (fun _ _ _ _ _ => pts_nil) (fun _ _ _ _ _ => (pe_tup (pa_cons (pe_op op_add_str pe_str (pe_callTy call_str_int (by rfl) mz_str (by decide +kernel) (pa_cons (pe_op op_sub pe_int (pv 8)) pa_nil))) (pa_cons (pe_tup (pa_cons pe_str (pa_cons pe_str pa_nil))) (pa_cons (pe_tup pa_nil) (pa_cons (pe_tup (pa_cons pe_str pa_nil)) (pa_cons pe_str pa_nil))))))))
  (pss_cons (ps_setLc (i := 6) (own := [("k", 8)]) (g := gName 8) (tt := tYes) rfl sc_law.nd rfl rfl (sw_true rfl rfl rfl (by decide +kernel)) (pi_range1 (by rfl) mz_range (pa_cons pe_int pa_nil)) (blkOk_by (N := N_law) (sc := defScope s_law) (by decide +kernel)) (fun _ _ _ _ _ => (pg_name (i := 8) sc_law.nd rfl (Or.inl rfl))) (fun _ _ _ _ _ => pts_nil) (fun _ _ _ _ _ => (pe_tup (pa_cons (pe_op op_add_str pe_str (pe_callTy call_str_int (by rfl) mz_str (by decide +kernel) (pa_cons (pv 8) pa_nil))) (pa_cons (pe_tup (pa_cons pe_str (pa_cons pe_str (pa_cons pe_str (pa_cons pe_str (pa_cons pe_str (pa_cons pe_str pa_nil))))))) (pa_cons (pe_tup pa_nil) (pa_cons pe_non pa_nil)))))))
  (pss_cons (ps_setLc (i := 7) (own := [("k", 8)]) (g := gName 8) (tt := tYes) rfl sc_law.nd rfl rfl (sw_true rfl rfl rfl (by decide +kernel)) (pi_range1 (by rfl) mz_range (pa_cons pe_int pa_nil)) (blkOk_by (N := N_law) (sc := defScope s_law) (by decide +kernel)) (fun _ _ _ _ _ => (pg_name (i := 8) sc_law.nd rfl (Or.inl rfl))) (fun _ _ _ _ _ => pts_nil) (fun _ _ _ _ _ => (pe_tup (pa_cons (pe_op op_add_str pe_str (pe_callTy call_str_int (by rfl) mz_str (by decide +kernel) (pa_cons (pv 8) pa_nil))) (pa_cons (pe_tup (pa_cons (pe_tup (pa_cons pe_int (pa_cons pe_str pa_nil))) (pa_cons (pe_tup (pa_cons pe_int (pa_cons pe_str pa_nil))) (pa_cons (pe_tup (pa_cons pe_int (pa_cons pe_str pa_nil))) (pa_cons (pe_tup (pa_cons pe_int (pa_cons pe_str pa_nil))) pa_nil))))) pa_nil)))))
  (pss_cons (ps_if (PW.pt (pw_or (pt_not (pt_val (pe_d D__law_right (hr.mono (by decide)) (pa_cons (pe_tup (pa_cons (pv 2) (pa_cons (pv 4) (pa_cons (pv 3) (pa_cons (pv 5) (pa_cons (pv 6) (pa_cons (pv 7) (pa_cons pe_int pa_nil)))))))) pa_nil)))) (pw_or1 (pt_not (pt_val (pe_d D__law_right (hr.mono (by decide)) (pa_cons (pe_tup (pa_cons (pe_lst (pa_cons pe_str pa_nil)) (pa_cons (pe_lst (pa_cons (pe_tup (pa_cons pe_str (pa_cons (pe_tup pa_nil) (pa_cons (pe_tup pa_nil) pa_nil)))) pa_nil)) (pa_cons (pe_lst pa_nil) (pa_cons (pe_lst pa_nil) (pa_cons (pe_lst pa_nil) (pa_cons (pe_lst pa_nil) (pa_cons pe_non pa_nil)))))))) pa_nil)))))))
    (pss_one (ps_ret pe_bl))
    pss_nil)
  (pss_one (ps_ret (pe_d D__law_right (hr.mono (by decide)) (pa_cons (pe_d D__law_parts (hr.mono (by decide)) (pa_cons (pv 1) (pa_cons pe_int pa_nil))) pa_nil))))))))))))), ?_⟩
  refine q_asgP (P := fun ys => ∃ ns : List Int, ys = ns.map V.int ∧ (ns.length : Int) = 80 ∧ Small ns) (evP_call (ea_cons (ev_var rfl) (ea_cons ev_c ea_nil)) (SpNum hA hx (by decide) (by decide))) fun ys n H1 hys nn e1 hn => ?_
  obtain ⟨ns, rfl, hl, hS⟩ := hys
  refine hf_go (K := K) (ρ := [.no, .ob (IsN K n ns) IsN.m, .no, .no, .no, .no, .no, .no, .no]) ?_ (sl_n (sl_o (m := IsN.m) ⟨rfl, sq_of hn⟩ (sl_n (sl_n (sl_n (sl_n (sl_n (sl_n (sl_n sl_z)))))))))
  refine bd_asg (d := .list (pb1.holds.map .str)) (Nv.s (nv_lst (ad_cons sv_str (ad_cons sv_str (ad_cons sv_str (ad_cons sv_str (ad_cons sv_str (ad_cons sv_str ad_nil)))))))) ?_
  refine bd_asg (d := .list (pb1.barred.map tD)) (Nv.s (nv_lst (by repeat' first | exact ad_nil | refine ad_cons ?_ ?_ | refine sv_tup ?_ | exact sv_str))) ?_
  refine bd_asg (d := .list (pb1.modes.map mdD)) (Nv.s (Nv.is (nv_lcR (fun i => mdD (mK i)) rng_c (by decide) (by decide) fun i hi => sv_tup (ad_cons (sv_nmI (mS_ok i (by omega)) (sv_var rfl)) (ad_cons (sv_tup (ad_cons sv_str ad_nil) (Nat.le_of_ble_eq_true rfl)) (ad_cons (sv_tup (ad_cons sv_str (ad_cons sv_str ad_nil)) (Nat.le_of_ble_eq_true rfl)) ad_nil)))) (by rw [show pb1.modes = (List.range 5).map mK from rfl, List.map_map]; rfl))) ?_
  refine bd_asg (d := .list (pb1.cmds.map cdD)) (Nv.s (Nv.is (nv_lcR (fun i => cdD (cK i)) rng_c (by decide) (by decide) fun i hi => sv_tup (ad_cons (sv_nmI (cS_ok i (by omega)) (sv_op (Sg.tv sv_int) (Sg.tv (sv_var rfl)) rd_I0)) (ad_cons (sv_tup (ad_cons sv_str (ad_cons sv_str ad_nil)) (Nat.le_of_ble_eq_true rfl)) (ad_cons (sv_tup ad_nil (Nat.le_of_ble_eq_true rfl)) (ad_cons (sv_tup (ad_cons sv_str ad_nil) (Nat.le_of_ble_eq_true rfl)) (ad_cons sv_str ad_nil)))))) (by rw [show pb1.cmds = (List.range 8).map cK from rfl, List.map_map]; rfl))) ?_
  refine bd_asg (d := .list (pb1.als.map alD)) (Nv.s (Nv.is (nv_lcR (fun i => alD (lK i)) rng_c (by decide) (by decide) fun i hi => sv_tup (ad_cons (sv_nmI (lS_ok i (by omega)) (sv_var rfl)) (ad_cons (sv_tup (ad_cons sv_str (ad_cons sv_str (ad_cons sv_str (ad_cons sv_str (ad_cons sv_str (ad_cons sv_str ad_nil)))))) (Nat.le_of_ble_eq_true rfl)) (ad_cons (sv_tup ad_nil (Nat.le_of_ble_eq_true rfl)) (ad_cons sv_none ad_nil))))) (by rw [show pb1.als = (List.range 4).map lK from rfl, List.map_map]; rfl))) ?_
  refine bd_asg (d := .list (pb1.rows.map rwD)) (Nv.s (Nv.is (nv_lcR (fun i => rwD (rK i)) rng_c (by decide) (by decide) fun i hi => sv_tup (ad_cons (sv_nmI (rS_ok i (by omega)) (sv_var rfl)) (ad_cons (sv_tup (by repeat' first | exact ad_nil | refine ad_cons ?_ ?_ | refine sv_tup ?_ | exact sv_str | exact sv_int) (Nat.le_of_ble_eq_true rfl)) ad_nil))) (by rw [show pb1.rows = (List.range 3).map rK from rfl, List.map_map]; rfl))) ?_
  intro σ H2 O en
  have e2 : Ex H1 H2 := en.ex.trans rs_ex
  obtain ⟨_, hs1, v1, rfl, hv1⟩ := en.sl.get (i := 1) rfl
  have hv1 := IsN.m _ _ _ rs_ex hv1
  have T2 : Tabs [(TA_, lamQ)] H2 := tabs_empty ((e1.trans e2) _ _ hT)
  have p1 : EvG _ σ H2 (fun v H' => Dp K H' v (partsD pb1)) := (Sg.t Dq.m (sv_tup (ds := [.list (pb1.holds.map .str), .list (pb1.modes.map mdD), .list (pb1.barred.map tD), .list (pb1.cmds.map cdD), .list (pb1.als.map alD), .list (pb1.rows.map rwD), .int 30]) (ad_cons (sv_var (i := 2) rfl) (ad_cons (sv_var (i := 4) rfl) (ad_cons (sv_var (i := 3) rfl) (ad_cons (sv_var (i := 5) rfl) (ad_cons (sv_var (i := 6) rfl) (ad_cons (sv_var (i := 7) rfl) (ad_cons sv_int ad_nil))))))))).g en
  refine q_whenM (Pm := fun H' => ExtN H2 H' ∧ Tabs [(TA_, lamQ)] H') (fun Q q => ?t1) fun H3 ⟨x3, T3⟩ => ?t2
  case t1 =>
    refine call_right p1 pb1_ok T2 fun H3 x3 T3 => ⟨true, rfl, ?_⟩
    refine call_right (p := pb2) (sv_top (sv_tup (ad_cons (Nv.s (nv_lst (ad_cons sv_str ad_nil))) (ad_cons (Nv.s (nv_lst (ad_cons (sv_tup (ad_cons sv_str (ad_cons (sv_tup ad_nil (Nat.le_of_ble_eq_true rfl)) (ad_cons (sv_tup ad_nil (Nat.le_of_ble_eq_true rfl)) ad_nil)))) ad_nil))) (ad_cons (Nv.s (nv_lst ad_nil)) (ad_cons (Nv.s (nv_lst ad_nil)) (ad_cons (Nv.s (nv_lst ad_nil)) (ad_cons (Nv.s (nv_lst ad_nil)) (ad_cons sv_none ad_nil)))))))) (sl_nos en.sl)) pb2_ok T3 fun H4 x4 T4 => ⟨true, rfl, q H4 ⟨fun o u a t => x4 o u (x3 o u a t) t, T4⟩⟩
  case t2 =>
    exact (evG_call (P := IsParts K) (ea_cons (ev_var (hs1.trans (by rw [hv1.1]))) (ea_cons ev_c ea_nil)) fun H4 e4 Q q E => ⟨n, ns, 0, rfl, ex_l e4 (kp_l (kp_N x3) hv1.2), hS, by omega, fun v H' h e => q v H' e h⟩) H3 (Ex.refl H3) _ fun v H4 e4 hp => by
      obtain ⟨pa, p, hv, mv, bv, cv, av, rv, rfl, hs, d1, d2, d3, d4, d5, d6, ok⟩ := hp
      exact ⟨_, p, rfl, .tup hs (.cons d1 (.cons d2 (.cons d3 (.cons d4 (.cons d5 (.cons d6 (.cons (dp_lmV _) .nil))))))), ok.1, nn_of ok.2, tabs_ex T3 e4, fun H5 _ _ => q H5⟩

end
theorem all_mk {l : PySem.W.OpenLaw} {w : World} {K : PySem.W.Frag} {h : Heap} {mg : Str → Option Value} {fa : Addr} (X : K.In h) (G : h.Ns mainGlobals mg) (hfa : mg "law" = some (.ref fa))
    {f0 f1 f2 f3 f4 f5 f6 f7 f8 f9 f10 f11 f12 f13 f14 f15 f16 f17 f18 f19 f20 f21 f22 f23 f24 f25 f26 f27 f28 f29 f30 : Addr} {od0 an0 od1 an1 od2 an2 od3 an3 od4 an4 od5 an5 od6 an6 od7 an7 od8 an8 od9 an9 od10 an10 od11 an11 od12 an12 od13 an13 od14 an14 od15 an15 od16 an16 od17 an17 od18 an18 od19 an19 od20 an20 od21 an21 od22 an22 od23 an23 od24 an24 od25 an25 od26 an26 od27 an27 od28 an28 od29 an29 od30 an30 : Option Addr} {sl0 sl1 sl2 sl3 sl4 sl5 sl6 sl7 sl8 sl9 sl10 sl11 sl12 sl13 sl14 sl15 sl16 sl17 sl18 sl19 sl20 sl21 sl22 sl23 sl24 sl25 sl26 sl27 sl28 sl29 sl30 : Array (Option Value)} {oc0 kV0 dc0 pm0 cd0 ct0 oc1 kV1 dc1 pm1 cd1 ct1 oc2 kV2 dc2 pm2 cd2 ct2 oc3 kV3 dc3 pm3 cd3 ct3 oc4 kV4 dc4 pm4 cd4 ct4 oc5 kV5 dc5 pm5 cd5 ct5 oc6 kV6 dc6 pm6 cd6 ct6 oc7 kV7 dc7 pm7 cd7 ct7 oc8 kV8 dc8 pm8 cd8 ct8 oc9 kV9 dc9 pm9 cd9 ct9 oc10 kV10 dc10 pm10 cd10 ct10 oc11 kV11 dc11 pm11 cd11 ct11 oc12 kV12 dc12 pm12 cd12 ct12 oc13 kV13 dc13 pm13 cd13 ct13 oc14 kV14 dc14 pm14 cd14 ct14 oc15 kV15 dc15 pm15 cd15 ct15 oc16 kV16 dc16 pm16 cd16 ct16 oc17 kV17 dc17 pm17 cd17 ct17 oc18 kV18 dc18 pm18 cd18 ct18 oc19 kV19 dc19 pm19 cd19 ct19 oc20 kV20 dc20 pm20 cd20 ct20 oc21 kV21 dc21 pm21 cd21 ct21 oc22 kV22 dc22 pm22 cd22 ct22 oc23 kV23 dc23 pm23 cd23 ct23 oc24 kV24 dc24 pm24 cd24 ct24 oc25 kV25 dc25 pm25 cd25 ct25 oc26 kV26 dc26 pm26 cd26 ct26 oc27 kV27 dc27 pm27 cd27 ct27 oc28 kV28 dc28 pm28 cd28 ct28 oc29 kV29 dc29 pm29 cd29 ct29 oc30 kV30 dc30 pm30 cd30 ct30 : Value}
    {C_Book : Addr}
    (aC_Book : PySem.W.nsIn K mainGlobals "Book" = some (some (.ref C_Book)))
    (cpg_Book : PySem.W.plainGet K C_Book Str.empty = true)
    (chd_Book : PySem.W.hasDictIn K C_Book = true)
    (cpo_Book : PySem.W.plainOver K C_Book = true)
    (csa_Book : PySem.W.findIn K (.ref C_Book) "__setattr__" = some (some (.builtin "object.__setattr__")))
    (cmk_Book : PySem.W.makesIn K C_Book = true)
    (ckc_Book : PySem.W.keepIn K (.ref C_Book) = true)
    (cci_Book : PySem.W.findIn K (.ref C_Book) "__class__" = some (some (.builtin "object.__class__")))
    (csp_Book : PySem.W.specialIn K (.builtin "object.__class__") "__get__" = some (some (.builtin "getset_descriptor.__get__")))
    (ctk_Book : PySem.W.takesIn K (.builtin "object.__class__") = some true)
    (cmo_Book : PySem.W.mroIn K C_Book (.type "object") = some true)
    (cko_Book : PySem.W.kitOne K (.ref C_Book) (.ref C_Book) = some true)
    (cno_Book__holds : PySem.W.findIn K (.ref C_Book) "_holds" = some none)
    (cno_Book__barred : PySem.W.findIn K (.ref C_Book) "_barred" = some none)
    (cno_Book__parts : PySem.W.findIn K (.ref C_Book) "_parts" = some none)
    (cno_Book__quiet : PySem.W.findIn K (.ref C_Book) "_quiet" = some none)
    {fBook___init__ : Addr} {odBook___init__ anBook___init__ : Option Addr} {slBook___init__ : Array (Option Value)} {ocBook___init__ kVBook___init__ dcBook___init__ pmBook___init__ ctBook___init__ : Value} {TA_ cBook___init__ : Addr} {ts : List Addr}
    (tm_Book___init__ : TA_ ∈ ts)
    (ma_Book___init__ : PySem.W.findIn K (.ref C_Book) "__init__" = some (some (.ref fBook___init__)))
    (mi_Book___init__ : PySem.W.isFn K (.ref fBook___init__) = true)
    (mk_Book___init__ : PySem.W.keepIn K (.ref fBook___init__) = true)
    (ml_Book___init__ : K.lookup fBook___init__ = some ⟨ocBook___init__, odBook___init__, .func (PySem.W.fnOf "__init__" "Book.__init__" (defArgs s_Book___init__) (defBody s_Book___init__) (defScope s_Book___init__) .none kVBook___init__ dcBook___init__ pmBook___init__ anBook___init__ (.ref cBook___init__) ctBook___init__), slBook___init__⟩)
    (mc_Book___init__ : PySem.W.codeIn K (.ref cBook___init__) "Book.__init__" = true)
    (tl_Book___init__ : K.lookup TA_ = none)
    (tc_Book___init__ : PySem.W.codeHdIn K cBook___init__ TA_ = true)
    {fBook_holds : Addr} {odBook_holds anBook_holds : Option Addr} {slBook_holds : Array (Option Value)} {ocBook_holds kVBook_holds dcBook_holds pmBook_holds cdBook_holds ctBook_holds : Value}
    {pBook_holds : Addr} {rBook_holds : List Value}
    (pa_Book_holds : PySem.W.findIn K (.ref C_Book) "holds" = some (some (.ref pBook_holds)))
    (pg_Book_holds : PySem.W.specialIn K (.ref pBook_holds) "__get__" = some (some (.builtin "property.__get__")))
    (pt_Book_holds : PySem.W.takesIn K (.ref pBook_holds) = some true)
    (pr_Book_holds : PySem.W.recIn K pBook_holds "property" = some (.ref fBook_holds :: rBook_holds))
    (mk_Book_holds : PySem.W.keepIn K (.ref fBook_holds) = true)
    (ml_Book_holds : K.lookup fBook_holds = some ⟨ocBook_holds, odBook_holds, .func (PySem.W.fnOf "holds" "Book.holds" (defArgs s_Book_holds) (defBody s_Book_holds) (defScope s_Book_holds) .none kVBook_holds dcBook_holds pmBook_holds anBook_holds cdBook_holds ctBook_holds), slBook_holds⟩)
    (mc_Book_holds : PySem.W.codeIn K cdBook_holds "Book.holds" = true)
    {fBook_modes : Addr} {odBook_modes anBook_modes : Option Addr} {slBook_modes : Array (Option Value)} {ocBook_modes kVBook_modes dcBook_modes pmBook_modes cdBook_modes ctBook_modes : Value}
    {pBook_modes : Addr} {rBook_modes : List Value}
    (pa_Book_modes : PySem.W.findIn K (.ref C_Book) "modes" = some (some (.ref pBook_modes)))
    (pg_Book_modes : PySem.W.specialIn K (.ref pBook_modes) "__get__" = some (some (.builtin "property.__get__")))
    (pt_Book_modes : PySem.W.takesIn K (.ref pBook_modes) = some true)
    (pr_Book_modes : PySem.W.recIn K pBook_modes "property" = some (.ref fBook_modes :: rBook_modes))
    (mk_Book_modes : PySem.W.keepIn K (.ref fBook_modes) = true)
    (ml_Book_modes : K.lookup fBook_modes = some ⟨ocBook_modes, odBook_modes, .func (PySem.W.fnOf "modes" "Book.modes" (defArgs s_Book_modes) (defBody s_Book_modes) (defScope s_Book_modes) .none kVBook_modes dcBook_modes pmBook_modes anBook_modes cdBook_modes ctBook_modes), slBook_modes⟩)
    (mc_Book_modes : PySem.W.codeIn K cdBook_modes "Book.modes" = true)
    {fBook_barred : Addr} {odBook_barred anBook_barred : Option Addr} {slBook_barred : Array (Option Value)} {ocBook_barred kVBook_barred dcBook_barred pmBook_barred cdBook_barred ctBook_barred : Value}
    {pBook_barred : Addr} {rBook_barred : List Value}
    (pa_Book_barred : PySem.W.findIn K (.ref C_Book) "barred" = some (some (.ref pBook_barred)))
    (pg_Book_barred : PySem.W.specialIn K (.ref pBook_barred) "__get__" = some (some (.builtin "property.__get__")))
    (pt_Book_barred : PySem.W.takesIn K (.ref pBook_barred) = some true)
    (pr_Book_barred : PySem.W.recIn K pBook_barred "property" = some (.ref fBook_barred :: rBook_barred))
    (mk_Book_barred : PySem.W.keepIn K (.ref fBook_barred) = true)
    (ml_Book_barred : K.lookup fBook_barred = some ⟨ocBook_barred, odBook_barred, .func (PySem.W.fnOf "barred" "Book.barred" (defArgs s_Book_barred) (defBody s_Book_barred) (defScope s_Book_barred) .none kVBook_barred dcBook_barred pmBook_barred anBook_barred cdBook_barred ctBook_barred), slBook_barred⟩)
    (mc_Book_barred : PySem.W.codeIn K cdBook_barred "Book.barred" = true)
    {fBook_commands : Addr} {odBook_commands anBook_commands : Option Addr} {slBook_commands : Array (Option Value)} {ocBook_commands kVBook_commands dcBook_commands pmBook_commands cdBook_commands ctBook_commands : Value}
    {pBook_commands : Addr} {rBook_commands : List Value}
    (pa_Book_commands : PySem.W.findIn K (.ref C_Book) "commands" = some (some (.ref pBook_commands)))
    (pg_Book_commands : PySem.W.specialIn K (.ref pBook_commands) "__get__" = some (some (.builtin "property.__get__")))
    (pt_Book_commands : PySem.W.takesIn K (.ref pBook_commands) = some true)
    (pr_Book_commands : PySem.W.recIn K pBook_commands "property" = some (.ref fBook_commands :: rBook_commands))
    (mk_Book_commands : PySem.W.keepIn K (.ref fBook_commands) = true)
    (ml_Book_commands : K.lookup fBook_commands = some ⟨ocBook_commands, odBook_commands, .func (PySem.W.fnOf "commands" "Book.commands" (defArgs s_Book_commands) (defBody s_Book_commands) (defScope s_Book_commands) .none kVBook_commands dcBook_commands pmBook_commands anBook_commands cdBook_commands ctBook_commands), slBook_commands⟩)
    (mc_Book_commands : PySem.W.codeIn K cdBook_commands "Book.commands" = true)
    {fBook_alarms : Addr} {odBook_alarms anBook_alarms : Option Addr} {slBook_alarms : Array (Option Value)} {ocBook_alarms kVBook_alarms dcBook_alarms pmBook_alarms cdBook_alarms ctBook_alarms : Value}
    {pBook_alarms : Addr} {rBook_alarms : List Value}
    (pa_Book_alarms : PySem.W.findIn K (.ref C_Book) "alarms" = some (some (.ref pBook_alarms)))
    (pg_Book_alarms : PySem.W.specialIn K (.ref pBook_alarms) "__get__" = some (some (.builtin "property.__get__")))
    (pt_Book_alarms : PySem.W.takesIn K (.ref pBook_alarms) = some true)
    (pr_Book_alarms : PySem.W.recIn K pBook_alarms "property" = some (.ref fBook_alarms :: rBook_alarms))
    (mk_Book_alarms : PySem.W.keepIn K (.ref fBook_alarms) = true)
    (ml_Book_alarms : K.lookup fBook_alarms = some ⟨ocBook_alarms, odBook_alarms, .func (PySem.W.fnOf "alarms" "Book.alarms" (defArgs s_Book_alarms) (defBody s_Book_alarms) (defScope s_Book_alarms) .none kVBook_alarms dcBook_alarms pmBook_alarms anBook_alarms cdBook_alarms ctBook_alarms), slBook_alarms⟩)
    (mc_Book_alarms : PySem.W.codeIn K cdBook_alarms "Book.alarms" = true)
    {fBook_rows : Addr} {odBook_rows anBook_rows : Option Addr} {slBook_rows : Array (Option Value)} {ocBook_rows kVBook_rows dcBook_rows pmBook_rows cdBook_rows ctBook_rows : Value}
    {pBook_rows : Addr} {rBook_rows : List Value}
    (pa_Book_rows : PySem.W.findIn K (.ref C_Book) "rows" = some (some (.ref pBook_rows)))
    (pg_Book_rows : PySem.W.specialIn K (.ref pBook_rows) "__get__" = some (some (.builtin "property.__get__")))
    (pt_Book_rows : PySem.W.takesIn K (.ref pBook_rows) = some true)
    (pr_Book_rows : PySem.W.recIn K pBook_rows "property" = some (.ref fBook_rows :: rBook_rows))
    (mk_Book_rows : PySem.W.keepIn K (.ref fBook_rows) = true)
    (ml_Book_rows : K.lookup fBook_rows = some ⟨ocBook_rows, odBook_rows, .func (PySem.W.fnOf "rows" "Book.rows" (defArgs s_Book_rows) (defBody s_Book_rows) (defScope s_Book_rows) .none kVBook_rows dcBook_rows pmBook_rows anBook_rows cdBook_rows ctBook_rows), slBook_rows⟩)
    (mc_Book_rows : PySem.W.codeIn K cdBook_rows "Book.rows" = true)
    {fBook_quiet : Addr} {odBook_quiet anBook_quiet : Option Addr} {slBook_quiet : Array (Option Value)} {ocBook_quiet kVBook_quiet dcBook_quiet pmBook_quiet cdBook_quiet ctBook_quiet : Value}
    {pBook_quiet : Addr} {rBook_quiet : List Value}
    (pa_Book_quiet : PySem.W.findIn K (.ref C_Book) "quiet" = some (some (.ref pBook_quiet)))
    (pg_Book_quiet : PySem.W.specialIn K (.ref pBook_quiet) "__get__" = some (some (.builtin "property.__get__")))
    (pt_Book_quiet : PySem.W.takesIn K (.ref pBook_quiet) = some true)
    (pr_Book_quiet : PySem.W.recIn K pBook_quiet "property" = some (.ref fBook_quiet :: rBook_quiet))
    (mk_Book_quiet : PySem.W.keepIn K (.ref fBook_quiet) = true)
    (ml_Book_quiet : K.lookup fBook_quiet = some ⟨ocBook_quiet, odBook_quiet, .func (PySem.W.fnOf "quiet" "Book.quiet" (defArgs s_Book_quiet) (defBody s_Book_quiet) (defScope s_Book_quiet) .none kVBook_quiet dcBook_quiet pmBook_quiet anBook_quiet cdBook_quiet ctBook_quiet), slBook_quiet⟩)
    (mc_Book_quiet : PySem.W.codeIn K cdBook_quiet "Book.quiet" = true)
    {fBook_safe : Addr} {odBook_safe anBook_safe : Option Addr} {slBook_safe : Array (Option Value)} {ocBook_safe kVBook_safe dcBook_safe pmBook_safe cdBook_safe ctBook_safe : Value}
    {pBook_safe : Addr} {rBook_safe : List Value}
    (pa_Book_safe : PySem.W.findIn K (.ref C_Book) "safe" = some (some (.ref pBook_safe)))
    (pg_Book_safe : PySem.W.specialIn K (.ref pBook_safe) "__get__" = some (some (.builtin "property.__get__")))
    (pt_Book_safe : PySem.W.takesIn K (.ref pBook_safe) = some true)
    (pr_Book_safe : PySem.W.recIn K pBook_safe "property" = some (.ref fBook_safe :: rBook_safe))
    (mk_Book_safe : PySem.W.keepIn K (.ref fBook_safe) = true)
    (ml_Book_safe : K.lookup fBook_safe = some ⟨ocBook_safe, odBook_safe, .func (PySem.W.fnOf "safe" "Book.safe" (defArgs s_Book_safe) (defBody s_Book_safe) (defScope s_Book_safe) .none kVBook_safe dcBook_safe pmBook_safe anBook_safe cdBook_safe ctBook_safe), slBook_safe⟩)
    (mc_Book_safe : PySem.W.codeIn K cdBook_safe "Book.safe" = true)
    {fBook_mode_named : Addr} {odBook_mode_named anBook_mode_named : Option Addr} {slBook_mode_named : Array (Option Value)} {ocBook_mode_named kVBook_mode_named dcBook_mode_named pmBook_mode_named cdBook_mode_named ctBook_mode_named : Value}
    (ma_Book_mode_named : PySem.W.findIn K (.ref C_Book) "mode_named" = some (some (.ref fBook_mode_named)))
    (mi_Book_mode_named : PySem.W.isFn K (.ref fBook_mode_named) = true)
    (mk_Book_mode_named : PySem.W.keepIn K (.ref fBook_mode_named) = true)
    (ml_Book_mode_named : K.lookup fBook_mode_named = some ⟨ocBook_mode_named, odBook_mode_named, .func (PySem.W.fnOf "mode_named" "Book.mode_named" (defArgs s_Book_mode_named) (defBody s_Book_mode_named) (defScope s_Book_mode_named) .none kVBook_mode_named dcBook_mode_named pmBook_mode_named anBook_mode_named cdBook_mode_named ctBook_mode_named), slBook_mode_named⟩)
    (mc_Book_mode_named : PySem.W.codeIn K cdBook_mode_named "Book.mode_named" = true)
    {fBook_command_named : Addr} {odBook_command_named anBook_command_named : Option Addr} {slBook_command_named : Array (Option Value)} {ocBook_command_named kVBook_command_named dcBook_command_named pmBook_command_named cdBook_command_named ctBook_command_named : Value}
    (ma_Book_command_named : PySem.W.findIn K (.ref C_Book) "command_named" = some (some (.ref fBook_command_named)))
    (mi_Book_command_named : PySem.W.isFn K (.ref fBook_command_named) = true)
    (mk_Book_command_named : PySem.W.keepIn K (.ref fBook_command_named) = true)
    (ml_Book_command_named : K.lookup fBook_command_named = some ⟨ocBook_command_named, odBook_command_named, .func (PySem.W.fnOf "command_named" "Book.command_named" (defArgs s_Book_command_named) (defBody s_Book_command_named) (defScope s_Book_command_named) .none kVBook_command_named dcBook_command_named pmBook_command_named anBook_command_named cdBook_command_named ctBook_command_named), slBook_command_named⟩)
    (mc_Book_command_named : PySem.W.codeIn K cdBook_command_named "Book.command_named" = true)
    {fBook_alarm_named : Addr} {odBook_alarm_named anBook_alarm_named : Option Addr} {slBook_alarm_named : Array (Option Value)} {ocBook_alarm_named kVBook_alarm_named dcBook_alarm_named pmBook_alarm_named cdBook_alarm_named ctBook_alarm_named : Value}
    (ma_Book_alarm_named : PySem.W.findIn K (.ref C_Book) "alarm_named" = some (some (.ref fBook_alarm_named)))
    (mi_Book_alarm_named : PySem.W.isFn K (.ref fBook_alarm_named) = true)
    (mk_Book_alarm_named : PySem.W.keepIn K (.ref fBook_alarm_named) = true)
    (ml_Book_alarm_named : K.lookup fBook_alarm_named = some ⟨ocBook_alarm_named, odBook_alarm_named, .func (PySem.W.fnOf "alarm_named" "Book.alarm_named" (defArgs s_Book_alarm_named) (defBody s_Book_alarm_named) (defScope s_Book_alarm_named) .none kVBook_alarm_named dcBook_alarm_named pmBook_alarm_named anBook_alarm_named cdBook_alarm_named ctBook_alarm_named), slBook_alarm_named⟩)
    (mc_Book_alarm_named : PySem.W.codeIn K cdBook_alarm_named "Book.alarm_named" = true)
    {fBook_row_named : Addr} {odBook_row_named anBook_row_named : Option Addr} {slBook_row_named : Array (Option Value)} {ocBook_row_named kVBook_row_named dcBook_row_named pmBook_row_named cdBook_row_named ctBook_row_named : Value}
    (ma_Book_row_named : PySem.W.findIn K (.ref C_Book) "row_named" = some (some (.ref fBook_row_named)))
    (mi_Book_row_named : PySem.W.isFn K (.ref fBook_row_named) = true)
    (mk_Book_row_named : PySem.W.keepIn K (.ref fBook_row_named) = true)
    (ml_Book_row_named : K.lookup fBook_row_named = some ⟨ocBook_row_named, odBook_row_named, .func (PySem.W.fnOf "row_named" "Book.row_named" (defArgs s_Book_row_named) (defBody s_Book_row_named) (defScope s_Book_row_named) .none kVBook_row_named dcBook_row_named pmBook_row_named anBook_row_named cdBook_row_named ctBook_row_named), slBook_row_named⟩)
    (mc_Book_row_named : PySem.W.codeIn K cdBook_row_named "Book.row_named" = true)
    {fBook__part_named : Addr} {odBook__part_named anBook__part_named : Option Addr} {slBook__part_named : Array (Option Value)} {ocBook__part_named kVBook__part_named dcBook__part_named pmBook__part_named cdBook__part_named ctBook__part_named : Value}
    (ma_Book__part_named : PySem.W.findIn K (.ref C_Book) "_part_named" = some (some (.ref fBook__part_named)))
    (mi_Book__part_named : PySem.W.isFn K (.ref fBook__part_named) = true)
    (mk_Book__part_named : PySem.W.keepIn K (.ref fBook__part_named) = true)
    (ml_Book__part_named : K.lookup fBook__part_named = some ⟨ocBook__part_named, odBook__part_named, .func (PySem.W.fnOf "_part_named" "Book._part_named" (defArgs s_Book__part_named) (defBody s_Book__part_named) (defScope s_Book__part_named) .none kVBook__part_named dcBook__part_named pmBook__part_named anBook__part_named cdBook__part_named ctBook__part_named), slBook__part_named⟩)
    (mc_Book__part_named : PySem.W.codeIn K cdBook__part_named "Book._part_named" = true)
    {C_UnknownName : Addr}
    (eC_UnknownName : PySem.W.nsIn K mainGlobals "UnknownName" = some (some (.ref C_UnknownName)))
    {C_FarError : Addr}
    (eC_FarError : PySem.W.nsIn K mainGlobals "FarError" = some (some (.ref C_FarError)))
    (ek_UnknownName_FarError : PySem.W.kitOne K (.ref C_UnknownName) (.ref C_FarError) = some true)
    {nmUnknownName qUnknownName : Str} {NnUnknownName cdaUnknownName ccUnknownName fUnknownName : Addr} {bsUnknownName subUnknownName : List Value} {snUnknownName : List Str} {abUnknownName : Bool} {colUnknownName : Option Bool} {ddUnknownName : Option Addr} {m0UnknownName m1UnknownName m2UnknownName m3UnknownName m5UnknownName : Option Value} {ocUnknownName kVUnknownName dcUnknownName pmUnknownName ctUnknownName cclUnknownName clUnknownName : Value} {odUnknownName cddUnknownName cldUnknownName : Option Addr} {slUnknownName ccsUnknownName cslUnknownName : Array (Option Value)} {vsUnknownName : Array Value} {fileUnknownName : Str} {tfUnknownName : _}
    (ex_UnknownName : K.lookup C_UnknownName = some (excClassObj nmUnknownName qUnknownName C_UnknownName NnUnknownName bsUnknownName [.ref C_FarError, .type "ValueError", .type "Exception", .type "BaseException", .type "object"] true snUnknownName subUnknownName abUnknownName colUnknownName ddUnknownName m0UnknownName m1UnknownName m2UnknownName m3UnknownName m5UnknownName "ValueError.__new__"))
    (esa_UnknownName : PySem.W.findIn K (.ref C_UnknownName) "__setattr__" = some (some (.builtin "object.__setattr__")))
    (ega_UnknownName : PySem.W.findIn K (.ref C_UnknownName) "__getattribute__" = some (some (.builtin "BaseException.__getattribute__")))
    (egg_UnknownName : PySem.W.findIn K (.ref C_UnknownName) "__getattr__" = some none)
    (ecl_UnknownName : PySem.W.findIn K (.ref C_UnknownName) "__class__" = some (some (.builtin "object.__class__")))
    (esB_UnknownName : PySem.W.subIn K (.ref C_UnknownName) (.type "BaseException") = some true)
    (esV_UnknownName : PySem.W.subIn K (.ref C_UnknownName) (.type "ValueError") = some true)
    (ess_UnknownName : PySem.W.subIn K (.ref C_UnknownName) (.ref C_UnknownName) = some true)
    (ety_UnknownName : PySem.W.typeIn K (.ref C_UnknownName) = some (.type "type"))
    (ekp_UnknownName : PySem.W.keepIn K (.ref C_UnknownName) = true)
    (ehd_UnknownName : PySem.W.hasDictIn K C_UnknownName = true)
    (esp_UnknownName : PySem.W.specialIn K (.builtin "object.__class__") "__get__" = some (some (.builtin "getset_descriptor.__get__")))
    (etk_UnknownName : PySem.W.takesIn K (.builtin "object.__class__") = some true)
    (emo_UnknownName : PySem.W.mroIn K C_UnknownName (.type "object") = some true)
    (ems_UnknownName : PySem.W.mroIn K C_UnknownName (.ref C_UnknownName) = some true)
    (eno_UnknownName : PySem.W.findIn K (.ref C_UnknownName) "name" = some none)
    (ein_UnknownName : PySem.W.findIn K (.ref C_UnknownName) "__init__" = some (some (.ref fUnknownName)))
    (etf_UnknownName : PySem.W.typeIn K (.ref fUnknownName) = some (.type "function"))
    (el_UnknownName : K.lookup fUnknownName = some ⟨ocUnknownName, odUnknownName, .func (PySem.W.ksFn "__init__" "UnknownName.__init__" (defArgs s_UnknownName___init__) (defBody s_UnknownName___init__) (defScope s_UnknownName___init__) .none kVUnknownName dcUnknownName pmUnknownName none (.ref cdaUnknownName) ctUnknownName ccUnknownName), slUnknownName⟩)
    (ec_UnknownName : PySem.W.codeIn K (.ref cdaUnknownName) "UnknownName.__init__" = true)
    (ed_UnknownName : K.lookup cdaUnknownName = some ⟨cclUnknownName, cddUnknownName, .fields vsUnknownName, ccsUnknownName⟩)
    (ev_UnknownName : vsUnknownName[2]? = some (.str fileUnknownName tfUnknownName))
    (ef_UnknownName : ((l.prog.main.file : Str) == fileUnknownName) = true)
    (ee_UnknownName : K.lookup ccUnknownName = some ⟨clUnknownName, cldUnknownName, .cell (some (.ref C_UnknownName)), cslUnknownName⟩)
    (eS_UnknownName : PySem.W.ks_superIn K C_UnknownName C_UnknownName "__init__" = some (some (.builtin "ValueError.__init__")))
    (e_any : PySem.W.nsIn K cStatics "thirdparty.any" = some none)
    (e_top : (l.prog.main.scope.names.lookup ("super" : Str)).isSome = false)
    (a0 : PySem.W.nsIn K mainGlobals "_law_row" = some (some (.ref f0))) (l0 : K.lookup f0 = some ⟨oc0, od0, .func (PySem.W.fnOf "_law_row" "_law_row" (defArgs s__law_row) (defBody s__law_row) (defScope s__law_row) .none kV0 dc0 pm0 an0 cd0 ct0), sl0⟩) (c0 : PySem.W.codeIn K cd0 "_law_row" = true) (k0 : PySem.W.keepIn K (.ref f0) = true)
    (a1 : PySem.W.nsIn K mainGlobals "_law_numbers" = some (some (.ref f1))) (l1 : K.lookup f1 = some ⟨oc1, od1, .func (PySem.W.fnOf "_law_numbers" "_law_numbers" (defArgs s__law_numbers) (defBody s__law_numbers) (defScope s__law_numbers) .none kV1 dc1 pm1 an1 cd1 ct1), sl1⟩) (c1 : PySem.W.codeIn K cd1 "_law_numbers" = true) (k1 : PySem.W.keepIn K (.ref f1) = true)
    (a2 : PySem.W.nsIn K mainGlobals "_law_row" = some (some (.ref f2))) (l2 : K.lookup f2 = some ⟨oc2, od2, .func (PySem.W.fnOf "_law_row" "_law_row" (defArgs s__law_row) (defBody s__law_row) (defScope s__law_row) .none kV2 dc2 pm2 an2 cd2 ct2), sl2⟩) (c2 : PySem.W.codeIn K cd2 "_law_row" = true) (k2 : PySem.W.keepIn K (.ref f2) = true)
    (a3 : PySem.W.nsIn K mainGlobals "_law_numbers" = some (some (.ref f3))) (l3 : K.lookup f3 = some ⟨oc3, od3, .func (PySem.W.fnOf "_law_numbers" "_law_numbers" (defArgs s__law_numbers) (defBody s__law_numbers) (defScope s__law_numbers) .none kV3 dc3 pm3 an3 cd3 ct3), sl3⟩) (c3 : PySem.W.codeIn K cd3 "_law_numbers" = true) (k3 : PySem.W.keepIn K (.ref f3) = true)
    (a4 : PySem.W.nsIn K mainGlobals "is_name" = some (some (.ref f4))) (l4 : K.lookup f4 = some ⟨oc4, od4, .func (PySem.W.fnOf "is_name" "is_name" (defArgs s_is_name) (defBody s_is_name) (defScope s_is_name) .none kV4 dc4 pm4 an4 cd4 ct4), sl4⟩) (c4 : PySem.W.codeIn K cd4 "is_name" = true) (k4 : PySem.W.keepIn K (.ref f4) = true)
    (a5 : PySem.W.nsIn K mainGlobals "is_lot" = some (some (.ref f5))) (l5 : K.lookup f5 = some ⟨oc5, od5, .func (PySem.W.fnOf "is_lot" "is_lot" (defArgs s_is_lot) (defBody s_is_lot) (defScope s_is_lot) .none kV5 dc5 pm5 an5 cd5 ct5), sl5⟩) (c5 : PySem.W.codeIn K cd5 "is_lot" = true) (k5 : PySem.W.keepIn K (.ref f5) = true)
    (a6 : PySem.W.nsIn K mainGlobals "demand" = some (some (.ref f6))) (l6 : K.lookup f6 = some ⟨oc6, od6, .func (PySem.W.fnOf "demand" "demand" (defArgs s_demand) (defBody s_demand) (defScope s_demand) .none kV6 dc6 pm6 an6 cd6 ct6), sl6⟩) (c6 : PySem.W.codeIn K cd6 "demand" = true) (k6 : PySem.W.keepIn K (.ref f6) = true)
    (a7 : PySem.W.nsIn K mainGlobals "names_of" = some (some (.ref f7))) (l7 : K.lookup f7 = some ⟨oc7, od7, .func (PySem.W.fnOf "names_of" "names_of" (defArgs s_names_of) (defBody s_names_of) (defScope s_names_of) .none kV7 dc7 pm7 an7 cd7 ct7), sl7⟩) (c7 : PySem.W.codeIn K cd7 "names_of" = true) (k7 : PySem.W.keepIn K (.ref f7) = true)
    (a8 : PySem.W.nsIn K mainGlobals "check_count" = some (some (.ref f8))) (l8 : K.lookup f8 = some ⟨oc8, od8, .func (PySem.W.fnOf "check_count" "check_count" (defArgs s_check_count) (defBody s_check_count) (defScope s_check_count) .none kV8 dc8 pm8 an8 cd8 ct8), sl8⟩) (c8 : PySem.W.codeIn K cd8 "check_count" = true) (k8 : PySem.W.keepIn K (.ref f8) = true)
    (a9 : PySem.W.nsIn K mainGlobals "check_names" = some (some (.ref f9))) (l9 : K.lookup f9 = some ⟨oc9, od9, .func (PySem.W.fnOf "check_names" "check_names" (defArgs s_check_names) (defBody s_check_names) (defScope s_check_names) .none kV9 dc9 pm9 an9 cd9 ct9), sl9⟩) (c9 : PySem.W.codeIn K cd9 "check_names" = true) (k9 : PySem.W.keepIn K (.ref f9) = true)
    (a10 : PySem.W.nsIn K mainGlobals "check_width" = some (some (.ref f10))) (l10 : K.lookup f10 = some ⟨oc10, od10, .func (PySem.W.fnOf "check_width" "check_width" (defArgs s_check_width) (defBody s_check_width) (defScope s_check_width) .none kV10 dc10 pm10 an10 cd10 ct10), sl10⟩) (c10 : PySem.W.codeIn K cd10 "check_width" = true) (k10 : PySem.W.keepIn K (.ref f10) = true)
    (a11 : PySem.W.nsIn K mainGlobals "check_parts" = some (some (.ref f11))) (l11 : K.lookup f11 = some ⟨oc11, od11, .func (PySem.W.fnOf "check_parts" "check_parts" (defArgs s_check_parts) (defBody s_check_parts) (defScope s_check_parts) .none kV11 dc11 pm11 an11 cd11 ct11), sl11⟩) (c11 : PySem.W.codeIn K cd11 "check_parts" = true) (k11 : PySem.W.keepIn K (.ref f11) = true)
    (a12 : PySem.W.nsIn K mainGlobals "check_lot" = some (some (.ref f12))) (l12 : K.lookup f12 = some ⟨oc12, od12, .func (PySem.W.fnOf "check_lot" "check_lot" (defArgs s_check_lot) (defBody s_check_lot) (defScope s_check_lot) .none kV12 dc12 pm12 an12 cd12 ct12), sl12⟩) (c12 : PySem.W.codeIn K cd12 "check_lot" = true) (k12 : PySem.W.keepIn K (.ref f12) = true)
    (a13 : PySem.W.nsIn K mainGlobals "check_effect" = some (some (.ref f13))) (l13 : K.lookup f13 = some ⟨oc13, od13, .func (PySem.W.fnOf "check_effect" "check_effect" (defArgs s_check_effect) (defBody s_check_effect) (defScope s_check_effect) .none kV13 dc13 pm13 an13 cd13 ct13), sl13⟩) (c13 : PySem.W.codeIn K cd13 "check_effect" = true) (k13 : PySem.W.keepIn K (.ref f13) = true)
    (a14 : PySem.W.nsIn K mainGlobals "check_target" = some (some (.ref f14))) (l14 : K.lookup f14 = some ⟨oc14, od14, .func (PySem.W.fnOf "check_target" "check_target" (defArgs s_check_target) (defBody s_check_target) (defScope s_check_target) .none kV14 dc14 pm14 an14 cd14 ct14), sl14⟩) (c14 : PySem.W.codeIn K cd14 "check_target" = true) (k14 : PySem.W.keepIn K (.ref f14) = true)
    (a15 : PySem.W.nsIn K mainGlobals "check_holds" = some (some (.ref f15))) (l15 : K.lookup f15 = some ⟨oc15, od15, .func (PySem.W.fnOf "check_holds" "check_holds" (defArgs s_check_holds) (defBody s_check_holds) (defScope s_check_holds) .none kV15 dc15 pm15 an15 cd15 ct15), sl15⟩) (c15 : PySem.W.codeIn K cd15 "check_holds" = true) (k15 : PySem.W.keepIn K (.ref f15) = true)
    (a16 : PySem.W.nsIn K mainGlobals "check_modes" = some (some (.ref f16))) (l16 : K.lookup f16 = some ⟨oc16, od16, .func (PySem.W.fnOf "check_modes" "check_modes" (defArgs s_check_modes) (defBody s_check_modes) (defScope s_check_modes) .none kV16 dc16 pm16 an16 cd16 ct16), sl16⟩) (c16 : PySem.W.codeIn K cd16 "check_modes" = true) (k16 : PySem.W.keepIn K (.ref f16) = true)
    (a17 : PySem.W.nsIn K mainGlobals "check_barred" = some (some (.ref f17))) (l17 : K.lookup f17 = some ⟨oc17, od17, .func (PySem.W.fnOf "check_barred" "check_barred" (defArgs s_check_barred) (defBody s_check_barred) (defScope s_check_barred) .none kV17 dc17 pm17 an17 cd17 ct17), sl17⟩) (c17 : PySem.W.codeIn K cd17 "check_barred" = true) (k17 : PySem.W.keepIn K (.ref f17) = true)
    (a18 : PySem.W.nsIn K mainGlobals "check_commands" = some (some (.ref f18))) (l18 : K.lookup f18 = some ⟨oc18, od18, .func (PySem.W.fnOf "check_commands" "check_commands" (defArgs s_check_commands) (defBody s_check_commands) (defScope s_check_commands) .none kV18 dc18 pm18 an18 cd18 ct18), sl18⟩) (c18 : PySem.W.codeIn K cd18 "check_commands" = true) (k18 : PySem.W.keepIn K (.ref f18) = true)
    (a19 : PySem.W.nsIn K mainGlobals "check_alarms" = some (some (.ref f19))) (l19 : K.lookup f19 = some ⟨oc19, od19, .func (PySem.W.fnOf "check_alarms" "check_alarms" (defArgs s_check_alarms) (defBody s_check_alarms) (defScope s_check_alarms) .none kV19 dc19 pm19 an19 cd19 ct19), sl19⟩) (c19 : PySem.W.codeIn K cd19 "check_alarms" = true) (k19 : PySem.W.keepIn K (.ref f19) = true)
    (a20 : PySem.W.nsIn K mainGlobals "check_rows" = some (some (.ref f20))) (l20 : K.lookup f20 = some ⟨oc20, od20, .func (PySem.W.fnOf "check_rows" "check_rows" (defArgs s_check_rows) (defBody s_check_rows) (defScope s_check_rows) .none kV20 dc20 pm20 an20 cd20 ct20), sl20⟩) (c20 : PySem.W.codeIn K cd20 "check_rows" = true) (k20 : PySem.W.keepIn K (.ref f20) = true)
    (a21 : PySem.W.nsIn K mainGlobals "check_quiet" = some (some (.ref f21))) (l21 : K.lookup f21 = some ⟨oc21, od21, .func (PySem.W.fnOf "check_quiet" "check_quiet" (defArgs s_check_quiet) (defBody s_check_quiet) (defScope s_check_quiet) .none kV21 dc21 pm21 an21 cd21 ct21), sl21⟩) (c21 : PySem.W.codeIn K cd21 "check_quiet" = true) (k21 : PySem.W.keepIn K (.ref f21) = true)
    (a22 : PySem.W.nsIn K mainGlobals "_law_pick" = some (some (.ref f22))) (l22 : K.lookup f22 = some ⟨oc22, od22, .func (PySem.W.fnOf "_law_pick" "_law_pick" (defArgs s__law_pick) (defBody s__law_pick) (defScope s__law_pick) .none kV22 dc22 pm22 an22 cd22 ct22), sl22⟩) (c22 : PySem.W.codeIn K cd22 "_law_pick" = true) (k22 : PySem.W.keepIn K (.ref f22) = true)
    (a23 : PySem.W.nsIn K mainGlobals "_law_effect" = some (some (.ref f23))) (l23 : K.lookup f23 = some ⟨oc23, od23, .func (PySem.W.fnOf "_law_effect" "_law_effect" (defArgs s__law_effect) (defBody s__law_effect) (defScope s__law_effect) .none kV23 dc23 pm23 an23 cd23 ct23), sl23⟩) (c23 : PySem.W.codeIn K cd23 "_law_effect" = true) (k23 : PySem.W.keepIn K (.ref f23) = true)
    (a24 : PySem.W.nsIn K mainGlobals "_law_parts" = some (some (.ref f24))) (l24 : K.lookup f24 = some ⟨oc24, od24, .func (PySem.W.fnOf "_law_parts" "_law_parts" (defArgs s__law_parts) (defBody s__law_parts) (defScope s__law_parts) .none kV24 dc24 pm24 an24 cd24 ct24), sl24⟩) (c24 : PySem.W.codeIn K cd24 "_law_parts" = true) (k24 : PySem.W.keepIn K (.ref f24) = true)
    (a25 : PySem.W.nsIn K mainGlobals "_law_unknown" = some (some (.ref f25))) (l25 : K.lookup f25 = some ⟨oc25, od25, .func (PySem.W.fnOf "_law_unknown" "_law_unknown" (defArgs s__law_unknown) (defBody s__law_unknown) (defScope s__law_unknown) .none kV25 dc25 pm25 an25 cd25 ct25), sl25⟩) (c25 : PySem.W.codeIn K cd25 "_law_unknown" = true) (k25 : PySem.W.keepIn K (.ref f25) = true)
    (a26 : PySem.W.nsIn K mainGlobals "_law_told" = some (some (.ref f26))) (l26 : K.lookup f26 = some ⟨oc26, od26, .func (PySem.W.fnOf "_law_told" "_law_told" (defArgs s__law_told) (defBody s__law_told) (defScope s__law_told) .none kV26 dc26 pm26 an26 cd26 ct26), sl26⟩) (c26 : PySem.W.codeIn K cd26 "_law_told" = true) (k26 : PySem.W.keepIn K (.ref f26) = true)
    (a27 : PySem.W.nsIn K mainGlobals "_law_first" = some (some (.ref f27))) (l27 : K.lookup f27 = some ⟨oc27, od27, .func (PySem.W.fnOf "_law_first" "_law_first" (defArgs s__law_first) (defBody s__law_first) (defScope s__law_first) .none kV27 dc27 pm27 an27 cd27 ct27), sl27⟩) (c27 : PySem.W.codeIn K cd27 "_law_first" = true) (k27 : PySem.W.keepIn K (.ref f27) = true)
    (a28 : PySem.W.nsIn K mainGlobals "_law_due" = some (some (.ref f28))) (l28 : K.lookup f28 = some ⟨oc28, od28, .func (PySem.W.fnOf "_law_due" "_law_due" (defArgs s__law_due) (defBody s__law_due) (defScope s__law_due) .none kV28 dc28 pm28 an28 cd28 ct28), sl28⟩) (c28 : PySem.W.codeIn K cd28 "_law_due" = true) (k28 : PySem.W.keepIn K (.ref f28) = true)
    (a29 : PySem.W.nsIn K mainGlobals "_law_right" = some (some (.ref f29))) (l29 : K.lookup f29 = some ⟨oc29, od29, .func (PySem.W.fnOf "_law_right" "_law_right" (defArgs s__law_right) (defBody s__law_right) (defScope s__law_right) .none kV29 dc29 pm29 an29 cd29 ct29), sl29⟩) (c29 : PySem.W.codeIn K cd29 "_law_right" = true) (k29 : PySem.W.keepIn K (.ref f29) = true)
    (a30 : PySem.W.nsIn K mainGlobals "law" = some (some (.ref f30))) (l30 : K.lookup f30 = some ⟨oc30, od30, .func (PySem.W.fnOf "law" "law" (defArgs s_law) (defBody s_law) (defScope s_law) .none kV30 dc30 pm30 an30 cd30 ct30), sl30⟩) (c30 : PySem.W.codeIn K cd30 "law" = true) (k30 : PySem.W.keepIn K (.ref f30) = true)
    (z_ValueError : PySem.W.nsIn K mainGlobals "ValueError" = some none)
    (z_abs : PySem.W.nsIn K mainGlobals "abs" = some none)
    (z_all : PySem.W.nsIn K mainGlobals "all" = some none)
    (z_any : PySem.W.nsIn K mainGlobals "any" = some none)
    (z_int : PySem.W.nsIn K mainGlobals "int" = some none)
    (z_len : PySem.W.nsIn K mainGlobals "len" = some none)
    (z_list : PySem.W.nsIn K mainGlobals "list" = some none)
    (z_max : PySem.W.nsIn K mainGlobals "max" = some none)
    (z_range : PySem.W.nsIn K mainGlobals "range" = some none)
    (z_set : PySem.W.nsIn K mainGlobals "set" = some none)
    (z_sorted : PySem.W.nsIn K mainGlobals "sorted" = some none)
    (z_str : PySem.W.nsIn K mainGlobals "str" = some none)
    (z_tuple : PySem.W.nsIn K mainGlobals "tuple" = some none)
    (z_super : PySem.W.nsIn K mainGlobals "super" = some none)
    {tk_NAME_SIGNS : Tok} (z_NAME_SIGNS : PySem.W.nsIn K mainGlobals "NAME_SIGNS" = some (some (.str My.signs tk_NAME_SIGNS)))
    {tk_LONGEST_NAME : Tok} (z_LONGEST_NAME : PySem.W.nsIn K mainGlobals "LONGEST_NAME" = some (some (.int 12 tk_LONGEST_NAME)))
    {tk_MOST_HOLDS : Tok} (z_MOST_HOLDS : PySem.W.nsIn K mainGlobals "MOST_HOLDS" = some (some (.int 6 tk_MOST_HOLDS)))
    {tk_MOST_MODES : Tok} (z_MOST_MODES : PySem.W.nsIn K mainGlobals "MOST_MODES" = some (some (.int 5 tk_MOST_MODES)))
    {tk_MOST_BARRED : Tok} (z_MOST_BARRED : PySem.W.nsIn K mainGlobals "MOST_BARRED" = some (some (.int 8 tk_MOST_BARRED)))
    {tk_MOST_COMMANDS : Tok} (z_MOST_COMMANDS : PySem.W.nsIn K mainGlobals "MOST_COMMANDS" = some (some (.int 8 tk_MOST_COMMANDS)))
    {tk_MOST_ALARMS : Tok} (z_MOST_ALARMS : PySem.W.nsIn K mainGlobals "MOST_ALARMS" = some (some (.int 4 tk_MOST_ALARMS)))
    {tk_MOST_ROWS : Tok} (z_MOST_ROWS : PySem.W.nsIn K mainGlobals "MOST_ROWS" = some (some (.int 3 tk_MOST_ROWS)))
    {tk_MOST_STEPS : Tok} (z_MOST_STEPS : PySem.W.nsIn K mainGlobals "MOST_STEPS" = some (some (.int 4 tk_MOST_STEPS)))
    {tk_MOST_TICKS : Tok} (z_MOST_TICKS : PySem.W.nsIn K mainGlobals "MOST_TICKS" = some (some (.int 9 tk_MOST_TICKS)))
    {tk_MOST_QUIET : Tok} (z_MOST_QUIET : PySem.W.nsIn K mainGlobals "MOST_QUIET" = some (some (.int 30 tk_MOST_QUIET)))
    : ∃ (fd : FuncData) (c : Addr), (TA_ ∈ ts ∧ K.lookup TA_ = none ∧ PySem.W.codeHdIn K c TA_ = true) ∧ (∀ (s : Shared) (v : Value), BindsTo s fd ⟨[v], []⟩ [("script", v)]) ∧ ∀ base : Heap, K.In base → base.Ns mainGlobals mg → LamX.TabB base mg c TA_ → FnOkG l.prog w K mg base 9 fa fd ["script"] (spLaw K TA_) := by
  have e := hfa.symm.trans (PySem.W.mg_of X G a30)
  cases e
  have mz_ValueError := PySem.W.mg_none_of X G z_ValueError
  have mz_abs := PySem.W.mg_none_of X G z_abs
  have mz_all := PySem.W.mg_none_of X G z_all
  have mz_any := PySem.W.mg_none_of X G z_any
  have mz_int := PySem.W.mg_none_of X G z_int
  have mz_len := PySem.W.mg_none_of X G z_len
  have mz_list := PySem.W.mg_none_of X G z_list
  have mz_max := PySem.W.mg_none_of X G z_max
  have mz_range := PySem.W.mg_none_of X G z_range
  have mz_set := PySem.W.mg_none_of X G z_set
  have mz_sorted := PySem.W.mg_none_of X G z_sorted
  have mz_str := PySem.W.mg_none_of X G z_str
  have mz_tuple := PySem.W.mg_none_of X G z_tuple
  have mz_super := PySem.W.mg_none_of X G z_super
  have gc_NAME_SIGNS : ∃ u, mg "NAME_SIGNS" = some u ∧ RelV (.str My.signs) u := ⟨_, PySem.W.mg_of X G z_NAME_SIGNS, ⟨_, rfl⟩⟩
  have gc_LONGEST_NAME : ∃ u, mg "LONGEST_NAME" = some u ∧ RelV (.int 12) u := ⟨_, PySem.W.mg_of X G z_LONGEST_NAME, ⟨_, rfl⟩⟩
  have gc_MOST_HOLDS : ∃ u, mg "MOST_HOLDS" = some u ∧ RelV (.int 6) u := ⟨_, PySem.W.mg_of X G z_MOST_HOLDS, ⟨_, rfl⟩⟩
  have gc_MOST_MODES : ∃ u, mg "MOST_MODES" = some u ∧ RelV (.int 5) u := ⟨_, PySem.W.mg_of X G z_MOST_MODES, ⟨_, rfl⟩⟩
  have gc_MOST_BARRED : ∃ u, mg "MOST_BARRED" = some u ∧ RelV (.int 8) u := ⟨_, PySem.W.mg_of X G z_MOST_BARRED, ⟨_, rfl⟩⟩
  have gc_MOST_COMMANDS : ∃ u, mg "MOST_COMMANDS" = some u ∧ RelV (.int 8) u := ⟨_, PySem.W.mg_of X G z_MOST_COMMANDS, ⟨_, rfl⟩⟩
  have gc_MOST_ALARMS : ∃ u, mg "MOST_ALARMS" = some u ∧ RelV (.int 4) u := ⟨_, PySem.W.mg_of X G z_MOST_ALARMS, ⟨_, rfl⟩⟩
  have gc_MOST_ROWS : ∃ u, mg "MOST_ROWS" = some u ∧ RelV (.int 3) u := ⟨_, PySem.W.mg_of X G z_MOST_ROWS, ⟨_, rfl⟩⟩
  have gc_MOST_STEPS : ∃ u, mg "MOST_STEPS" = some u ∧ RelV (.int 4) u := ⟨_, PySem.W.mg_of X G z_MOST_STEPS, ⟨_, rfl⟩⟩
  have gc_MOST_TICKS : ∃ u, mg "MOST_TICKS" = some u ∧ RelV (.int 9) u := ⟨_, PySem.W.mg_of X G z_MOST_TICKS, ⟨_, rfl⟩⟩
  have gc_MOST_QUIET : ∃ u, mg "MOST_QUIET" = some u ∧ RelV (.int 30) u := ⟨_, PySem.W.mg_of X G z_MOST_QUIET, ⟨_, rfl⟩⟩
  refine ⟨PySem.W.fnOf "law" "law" (defArgs s_law) (defBody s_law) (defScope s_law) .none kV30 dc30 pm30 an30 cd30 ct30, cBook___init__, ⟨tm_Book___init__, tl_Book___init__, tc_Book___init__⟩, fun s v => .of_eq rfl, fun base _ _ TBl => ?_⟩
  have A__law_row : At K mg "_law_row" s__law_row := ⟨_, _, fun_mk (st := s__law_row) l0 c0 k0, PySem.W.mg_of X G a0⟩
  have A__law_numbers : At K mg "_law_numbers" s__law_numbers := ⟨_, _, fun_mk (st := s__law_numbers) l1 c1 k1, PySem.W.mg_of X G a1⟩
  have A__law_row : At K mg "_law_row" s__law_row := ⟨_, _, fun_mk (st := s__law_row) l2 c2 k2, PySem.W.mg_of X G a2⟩
  have A__law_numbers : At K mg "_law_numbers" s__law_numbers := ⟨_, _, fun_mk (st := s__law_numbers) l3 c3 k3, PySem.W.mg_of X G a3⟩
  have A_is_name : At K mg "is_name" s_is_name := ⟨_, _, fun_mk (st := s_is_name) l4 c4 k4, PySem.W.mg_of X G a4⟩
  have A_is_lot : At K mg "is_lot" s_is_lot := ⟨_, _, fun_mk (st := s_is_lot) l5 c5 k5, PySem.W.mg_of X G a5⟩
  have A_demand : At K mg "demand" s_demand := ⟨_, _, fun_mk (st := s_demand) l6 c6 k6, PySem.W.mg_of X G a6⟩
  have A_names_of : At K mg "names_of" s_names_of := ⟨_, _, fun_mk (st := s_names_of) l7 c7 k7, PySem.W.mg_of X G a7⟩
  have A_check_count : At K mg "check_count" s_check_count := ⟨_, _, fun_mk (st := s_check_count) l8 c8 k8, PySem.W.mg_of X G a8⟩
  have A_check_names : At K mg "check_names" s_check_names := ⟨_, _, fun_mk (st := s_check_names) l9 c9 k9, PySem.W.mg_of X G a9⟩
  have A_check_width : At K mg "check_width" s_check_width := ⟨_, _, fun_mk (st := s_check_width) l10 c10 k10, PySem.W.mg_of X G a10⟩
  have A_check_parts : At K mg "check_parts" s_check_parts := ⟨_, _, fun_mk (st := s_check_parts) l11 c11 k11, PySem.W.mg_of X G a11⟩
  have A_check_lot : At K mg "check_lot" s_check_lot := ⟨_, _, fun_mk (st := s_check_lot) l12 c12 k12, PySem.W.mg_of X G a12⟩
  have A_check_effect : At K mg "check_effect" s_check_effect := ⟨_, _, fun_mk (st := s_check_effect) l13 c13 k13, PySem.W.mg_of X G a13⟩
  have A_check_target : At K mg "check_target" s_check_target := ⟨_, _, fun_mk (st := s_check_target) l14 c14 k14, PySem.W.mg_of X G a14⟩
  have A_check_holds : At K mg "check_holds" s_check_holds := ⟨_, _, fun_mk (st := s_check_holds) l15 c15 k15, PySem.W.mg_of X G a15⟩
  have A_check_modes : At K mg "check_modes" s_check_modes := ⟨_, _, fun_mk (st := s_check_modes) l16 c16 k16, PySem.W.mg_of X G a16⟩
  have A_check_barred : At K mg "check_barred" s_check_barred := ⟨_, _, fun_mk (st := s_check_barred) l17 c17 k17, PySem.W.mg_of X G a17⟩
  have A_check_commands : At K mg "check_commands" s_check_commands := ⟨_, _, fun_mk (st := s_check_commands) l18 c18 k18, PySem.W.mg_of X G a18⟩
  have A_check_alarms : At K mg "check_alarms" s_check_alarms := ⟨_, _, fun_mk (st := s_check_alarms) l19 c19 k19, PySem.W.mg_of X G a19⟩
  have A_check_rows : At K mg "check_rows" s_check_rows := ⟨_, _, fun_mk (st := s_check_rows) l20 c20 k20, PySem.W.mg_of X G a20⟩
  have A_check_quiet : At K mg "check_quiet" s_check_quiet := ⟨_, _, fun_mk (st := s_check_quiet) l21 c21 k21, PySem.W.mg_of X G a21⟩
  have A__law_pick : At K mg "_law_pick" s__law_pick := ⟨_, _, fun_mk (st := s__law_pick) l22 c22 k22, PySem.W.mg_of X G a22⟩
  have A__law_effect : At K mg "_law_effect" s__law_effect := ⟨_, _, fun_mk (st := s__law_effect) l23 c23 k23, PySem.W.mg_of X G a23⟩
  have A__law_parts : At K mg "_law_parts" s__law_parts := ⟨_, _, fun_mk (st := s__law_parts) l24 c24 k24, PySem.W.mg_of X G a24⟩
  have A__law_unknown : At K mg "_law_unknown" s__law_unknown := ⟨_, _, fun_mk (st := s__law_unknown) l25 c25 k25, PySem.W.mg_of X G a25⟩
  have A__law_told : At K mg "_law_told" s__law_told := ⟨_, _, fun_mk (st := s__law_told) l26 c26 k26, PySem.W.mg_of X G a26⟩
  have A__law_first : At K mg "_law_first" s__law_first := ⟨_, _, fun_mk (st := s__law_first) l27 c27 k27, PySem.W.mg_of X G a27⟩
  have A__law_due : At K mg "_law_due" s__law_due := ⟨_, _, fun_mk (st := s__law_due) l28 c28 k28, PySem.W.mg_of X G a28⟩
  have A__law_right : At K mg "_law_right" s__law_right := ⟨_, _, fun_mk (st := s__law_right) l29 c29 k29, PySem.W.mg_of X G a29⟩
  have F_law := fun_mk (st := s_law) l30 c30 k30
  have T_Book : Cls K C_Book := ⟨cpg_Book, chd_Book, cpo_Book, csa_Book⟩
  have TI_Book : C8.InsC K C_Book := ⟨T_Book, cci_Book, csp_Book, ctk_Book, cmo_Book, cko_Book⟩
  have TM_Book : BookC K C_Book := ⟨T_Book, cno_Book__holds, cno_Book__barred, cno_Book__parts, cno_Book__quiet⟩
  have gC_Book := PySem.W.mg_of X G aC_Book
  have mk_Book := cmk_Book
  have kc_Book := ckc_Book
  have A_Book___init__ : AtMC K C_Book "__init__" "Book.__init__" s_Book___init__ cBook___init__ := ⟨_, _, _, _, _, _, _, _, _, ml_Book___init__, mc_Book___init__, mk_Book___init__, ⟨ma_Book___init__, mi_Book___init__, mk_Book___init__⟩⟩
  have A_Book_holds : AtP K C_Book "holds" "Book.holds" s_Book_holds := ⟨_, _, _, ⟨pa_Book_holds, pg_Book_holds, pt_Book_holds, _, pr_Book_holds⟩, fun_mk (st := s_Book_holds) ml_Book_holds mc_Book_holds mk_Book_holds⟩
  have A_Book_modes : AtP K C_Book "modes" "Book.modes" s_Book_modes := ⟨_, _, _, ⟨pa_Book_modes, pg_Book_modes, pt_Book_modes, _, pr_Book_modes⟩, fun_mk (st := s_Book_modes) ml_Book_modes mc_Book_modes mk_Book_modes⟩
  have A_Book_barred : AtP K C_Book "barred" "Book.barred" s_Book_barred := ⟨_, _, _, ⟨pa_Book_barred, pg_Book_barred, pt_Book_barred, _, pr_Book_barred⟩, fun_mk (st := s_Book_barred) ml_Book_barred mc_Book_barred mk_Book_barred⟩
  have A_Book_commands : AtP K C_Book "commands" "Book.commands" s_Book_commands := ⟨_, _, _, ⟨pa_Book_commands, pg_Book_commands, pt_Book_commands, _, pr_Book_commands⟩, fun_mk (st := s_Book_commands) ml_Book_commands mc_Book_commands mk_Book_commands⟩
  have A_Book_alarms : AtP K C_Book "alarms" "Book.alarms" s_Book_alarms := ⟨_, _, _, ⟨pa_Book_alarms, pg_Book_alarms, pt_Book_alarms, _, pr_Book_alarms⟩, fun_mk (st := s_Book_alarms) ml_Book_alarms mc_Book_alarms mk_Book_alarms⟩
  have A_Book_rows : AtP K C_Book "rows" "Book.rows" s_Book_rows := ⟨_, _, _, ⟨pa_Book_rows, pg_Book_rows, pt_Book_rows, _, pr_Book_rows⟩, fun_mk (st := s_Book_rows) ml_Book_rows mc_Book_rows mk_Book_rows⟩
  have A_Book_quiet : AtP K C_Book "quiet" "Book.quiet" s_Book_quiet := ⟨_, _, _, ⟨pa_Book_quiet, pg_Book_quiet, pt_Book_quiet, _, pr_Book_quiet⟩, fun_mk (st := s_Book_quiet) ml_Book_quiet mc_Book_quiet mk_Book_quiet⟩
  have A_Book_safe : AtP K C_Book "safe" "Book.safe" s_Book_safe := ⟨_, _, _, ⟨pa_Book_safe, pg_Book_safe, pt_Book_safe, _, pr_Book_safe⟩, fun_mk (st := s_Book_safe) ml_Book_safe mc_Book_safe mk_Book_safe⟩
  have A_Book_mode_named : AtM K C_Book "mode_named" "Book.mode_named" s_Book_mode_named := ⟨_, _, fun_mk (st := s_Book_mode_named) ml_Book_mode_named mc_Book_mode_named mk_Book_mode_named, ⟨ma_Book_mode_named, mi_Book_mode_named, mk_Book_mode_named⟩⟩
  have A_Book_command_named : AtM K C_Book "command_named" "Book.command_named" s_Book_command_named := ⟨_, _, fun_mk (st := s_Book_command_named) ml_Book_command_named mc_Book_command_named mk_Book_command_named, ⟨ma_Book_command_named, mi_Book_command_named, mk_Book_command_named⟩⟩
  have A_Book_alarm_named : AtM K C_Book "alarm_named" "Book.alarm_named" s_Book_alarm_named := ⟨_, _, fun_mk (st := s_Book_alarm_named) ml_Book_alarm_named mc_Book_alarm_named mk_Book_alarm_named, ⟨ma_Book_alarm_named, mi_Book_alarm_named, mk_Book_alarm_named⟩⟩
  have A_Book_row_named : AtM K C_Book "row_named" "Book.row_named" s_Book_row_named := ⟨_, _, fun_mk (st := s_Book_row_named) ml_Book_row_named mc_Book_row_named mk_Book_row_named, ⟨ma_Book_row_named, mi_Book_row_named, mk_Book_row_named⟩⟩
  have A_Book__part_named : AtM K C_Book "_part_named" "Book._part_named" s_Book__part_named := ⟨_, _, fun_mk (st := s_Book__part_named) ml_Book__part_named mc_Book__part_named mk_Book__part_named, ⟨ma_Book__part_named, mi_Book__part_named, mk_Book__part_named⟩⟩
  have gE_UnknownName := PySem.W.mg_of X G eC_UnknownName
  have TX_UnknownName : OexC K C_UnknownName := ⟨⟨nmUnknownName, qUnknownName, NnUnknownName, bsUnknownName, _, snUnknownName, subUnknownName, abUnknownName, colUnknownName, ddUnknownName, m0UnknownName, m1UnknownName, m2UnknownName, m3UnknownName, m5UnknownName, ex_UnknownName, by rfl⟩, esa_UnknownName, esB_UnknownName, ety_UnknownName, ekp_UnknownName⟩
  have TS_UnknownName : SupC l.prog K C_UnknownName fUnknownName cdaUnknownName ccUnknownName "name" ⟨"__init__", "UnknownName.__init__", defArgs s_UnknownName___init__, defBody s_UnknownName___init__, defScope s_UnknownName___init__, [("__class__", ccUnknownName)], cdaUnknownName⟩ dcUnknownName pmUnknownName ctUnknownName kVUnknownName := ⟨TX_UnknownName, ⟨_, _, _, el_UnknownName⟩, ec_UnknownName, ⟨_, _, _, _, _, _, ed_UnknownName, ev_UnknownName, ef_UnknownName⟩, ⟨_, _, _, ee_UnknownName⟩, ems_UnknownName, eS_UnknownName, esV_UnknownName, e_any, eno_UnknownName⟩
  have FS_UnknownName := fn_sup (p9 := ⟨0, 0, 0, 0⟩) (w := w) (mg := mg) (base := base) (pn := "name") TS_UnknownName rfl rfl rfl rfl rfl (show NdefX.NScope _ _ _ (defScope s_UnknownName___init__) from NdefX.nscope_by (by decide +kernel)) rfl e_top mz_super (by decide) (by decide) (fmt_of2 rfl (by decide) (by decide) (by decide)) (fun _ => rfl) (fun _ => rfl) (fun _ => rfl) (fun _ => rfl)
  have Z_UnknownName : ErrC l.prog w K mg base "UnknownName" C_UnknownName "name" "name" := ⟨TX_UnknownName, ⟨_, _, FS_UnknownName, ein_UnknownName, etf_UnknownName, .all fun us hl => match us, hl with | [_, _], _ => rfl⟩, gE_UnknownName, ⟨ega_UnknownName, egg_UnknownName, esB_UnknownName, ehd_UnknownName⟩, eno_UnknownName, PySem.W.exm_ref esB_UnknownName ehd_UnknownName ety_UnknownName ess_UnknownName, ⟨ega_UnknownName, egg_UnknownName, esB_UnknownName, ehd_UnknownName, ecl_UnknownName, esp_UnknownName, etk_UnknownName, emo_UnknownName⟩⟩
  have D__law_row : Dfn l.prog w K mg base 1 "_law_row" p__law_row spRow := ok_row A__law_row mz_abs mz_int mz_range
  have D__law_numbers : Dfn l.prog w K mg base 2 "_law_numbers" p__law_numbers (spNumbers K) := ok_numbers A__law_numbers D__law_row mz_len mz_max
  have D__law_row : Dfn l.prog w K mg base 1 "_law_row" p__law_row spRow := by apply ok_row <;> assumption
  have D__law_numbers : Dfn l.prog w K mg base 2 "_law_numbers" p__law_numbers (spNumbers K) := by apply ok_numbers <;> assumption
  have D_is_name : Dfn l.prog w K mg base 1 "is_name" p_is_name spIsName := by apply ok_is_name <;> assumption
  have D_is_lot : Dfn l.prog w K mg base 2 "is_lot" p_is_lot (spIsLot K) := by apply ok_is_lot <;> assumption
  have D_demand : Dfn l.prog w K mg base 1 "demand" p_demand spDemand := by apply ok_demand <;> assumption
  have D_names_of : Dfn l.prog w K mg base 1 "names_of" p_names_of (spNames K) := by apply ok_names <;> assumption
  have D_check_count : Dfn l.prog w K mg base 2 "check_count" p_check_count (spCount K) := by apply ok_count <;> assumption
  have D_check_names : Dfn l.prog w K mg base 2 "check_names" p_check_names (spNms K) := by apply ok_nms <;> assumption
  have D_check_width : Dfn l.prog w K mg base 2 "check_width" p_check_width (spWidth K) := by apply ok_width <;> assumption
  have D_check_parts : Dfn l.prog w K mg base 3 "check_parts" p_check_parts (spParts K) := by apply ok_parts <;> assumption
  have D_check_lot : Dfn l.prog w K mg base 3 "check_lot" p_check_lot (spLotC K) := by apply ok_lotc <;> assumption
  have D_check_effect : Dfn l.prog w K mg base 4 "check_effect" p_check_effect (spEffC K) := by apply ok_effc <;> assumption
  have D_check_target : Dfn l.prog w K mg base 2 "check_target" p_check_target (spToC K) := by apply ok_toc <;> assumption
  have D_check_holds : Dfn l.prog w K mg base 3 "check_holds" p_check_holds (spHoldsC K) := by apply ok_holdsc <;> assumption
  have D_check_modes : Dfn l.prog w K mg base 5 "check_modes" p_check_modes (spModesC K) := by apply ok_modesc <;> assumption
  have D_check_barred : Dfn l.prog w K mg base 4 "check_barred" p_check_barred (spBarC K) := by apply ok_barc <;> assumption
  have D_check_commands : Dfn l.prog w K mg base 5 "check_commands" p_check_commands (spCmdsC K) := by apply ok_cmdsc <;> assumption
  have D_check_alarms : Dfn l.prog w K mg base 5 "check_alarms" p_check_alarms (spAlsC K) := by apply ok_alsc <;> assumption
  have D_check_rows : Dfn l.prog w K mg base 5 "check_rows" p_check_rows (spRowsC K) := by apply ok_rowsc <;> assumption
  have D_check_quiet : Dfn l.prog w K mg base 2 "check_quiet" p_check_quiet spQuietC := by apply ok_quietc <;> assumption
  have M_Book___init__ : Mdf l.prog w K mg base CX0 6 C_Book "__init__" p_Book___init__ (spInit K C_Book TA_) := by apply ok_init <;> assumption
  have G_Book_commands : PropD l.prog w K mg base 1 C_Book "commands" (spPropC K C_Book cdD Pb.sc) := by apply ok_pcommands <;> assumption
  have G_Book_alarms : PropD l.prog w K mg base 1 C_Book "alarms" (spPropC K C_Book alD Pb.als) := by apply ok_palarms <;> assumption
  have G_Book_rows : PropD l.prog w K mg base 1 C_Book "rows" (spPropC K C_Book rwD Pb.rows) := by apply ok_prows <;> assumption
  have D__law_pick : Dfn l.prog w K mg base 1 "_law_pick" p__law_pick (spPick K) := by apply ok_pick <;> assumption
  have D__law_effect : Dfn l.prog w K mg base 2 "_law_effect" p__law_effect (spEffP K) := by apply ok_effp <;> assumption
  have D__law_parts : Dfn l.prog w K mg base 3 "_law_parts" p__law_parts (spLParts K) := by apply ok_lparts <;> assumption
  have G_Book_modes : PropD l.prog w K mg base 1 C_Book "modes" (spPropC K C_Book mdD Pb.modes) := by apply ok_pmodes <;> assumption
  have G_Book_holds : PropD l.prog w K mg base 1 C_Book "holds" (spHolds K C_Book) := by apply ok_pholds <;> assumption
  have G_Book_barred : PropD l.prog w K mg base 1 C_Book "barred" (spBarred K C_Book) := by apply ok_pbarred <;> assumption
  have G_Book_quiet : PropD l.prog w K mg base 1 C_Book "quiet" (spQuiet K C_Book) := by apply ok_pquiet <;> assumption
  have G_Book_safe : PropD l.prog w K mg base 3 C_Book "safe" (spSafe K C_Book) := by apply ok_psafe <;> assumption
  have M_Book__part_named : Mdf l.prog w K mg base (L2.CX l.prog w) 4 C_Book "_part_named" p_Book__part_named (spPart K C_Book C_UnknownName) := by apply ok_part <;> assumption
  have M_Book_mode_named : Mdf l.prog w K mg base (L2.CX l.prog w) 5 C_Book "mode_named" p_Book_mode_named (spNamed K C_Book C_UnknownName 0) := by apply ok_mode_named <;> assumption
  have M_Book_command_named : Mdf l.prog w K mg base (L2.CX l.prog w) 5 C_Book "command_named" p_Book_command_named (spNamed K C_Book C_UnknownName 1) := by apply ok_command_named <;> assumption
  have M_Book_alarm_named : Mdf l.prog w K mg base (L2.CX l.prog w) 5 C_Book "alarm_named" p_Book_alarm_named (spNamed K C_Book C_UnknownName 2) := by apply ok_alarm_named <;> assumption
  have M_Book_row_named : Mdf l.prog w K mg base (L2.CX l.prog w) 5 C_Book "row_named" p_Book_row_named (spNamed K C_Book C_UnknownName 3) := by apply ok_row_named <;> assumption
  have D__law_unknown : Dfn l.prog w K mg base 6 "_law_unknown" p__law_unknown (spUnknown K C_Book) := by apply ok_unknown <;> assumption
  have D__law_told : Dfn l.prog w K mg base 3 "_law_told" p__law_told (spTold K C_Book) := by apply ok_told <;> assumption
  have D__law_first : Dfn l.prog w K mg base 1 "_law_first" p__law_first (spFirst K) := by apply ok_first <;> assumption
  have D__law_due : Dfn l.prog w K mg base 1 "_law_due" p__law_due (spDue K) := by apply ok__law_due <;> assumption
  have D__law_right : Dfn l.prog w K mg base 8 "_law_right" p__law_right (spRight K TA_) := by apply ok_right <;> assumption
  apply ok_law <;> assumption
end My_farword_k01_books_taken
open PySem PySem.W PyProof.Rows
set_option maxRecDepth 100000 in
set_option maxHeartbeats 0 in
theorem My_top : PySem.Challenge.rw_farword_k01_books_taken.Holds := by
  w_on; o_law; k_head; (case hw => w_witness2)
  k_fill
  refine My.walk_ofTK (l := PySem.Challenge.rw_farword_k01_books_taken) (n := 63) (k := 9) (x := "script") (spK := My_farword_k01_books_taken.spLaw) (TA := ?TA) rfl (by decide) rfl ⟨rfl, by decide, by decide⟩ (fun w h Y => ⟨PySem.W.km_in_of Y, PySem.W.km_tabs_of Y⟩) ?F (fun _ _ a ns hl hT hS => ⟨a, ns, rfl, hS, hl, hT, fun _ => rfl⟩)
  case F =>
    intro w mg fa h KX G hmg
    refine' My_farword_k01_books_taken.all_mk KX G hmg ?aC_Book ?cpg_Book ?chd_Book ?cpo_Book ?csa_Book ?cmk_Book ?ckc_Book ?cci_Book ?csp_Book ?ctk_Book ?cmo_Book ?cko_Book ?cno_Book__holds ?cno_Book__barred ?cno_Book__parts ?cno_Book__quiet ?tm_Book___init__ ?ma_Book___init__ ?mi_Book___init__ ?mk_Book___init__ ?ml_Book___init__ ?mc_Book___init__ ?tl_Book___init__ ?tc_Book___init__ ?pa_Book_holds ?pg_Book_holds ?pt_Book_holds ?pr_Book_holds ?mk_Book_holds ?ml_Book_holds ?mc_Book_holds ?pa_Book_modes ?pg_Book_modes ?pt_Book_modes ?pr_Book_modes ?mk_Book_modes ?ml_Book_modes ?mc_Book_modes ?pa_Book_barred ?pg_Book_barred ?pt_Book_barred ?pr_Book_barred ?mk_Book_barred ?ml_Book_barred ?mc_Book_barred ?pa_Book_commands ?pg_Book_commands ?pt_Book_commands ?pr_Book_commands ?mk_Book_commands ?ml_Book_commands ?mc_Book_commands ?pa_Book_alarms ?pg_Book_alarms ?pt_Book_alarms ?pr_Book_alarms ?mk_Book_alarms ?ml_Book_alarms ?mc_Book_alarms ?pa_Book_rows ?pg_Book_rows ?pt_Book_rows ?pr_Book_rows ?mk_Book_rows ?ml_Book_rows ?mc_Book_rows ?pa_Book_quiet ?pg_Book_quiet ?pt_Book_quiet ?pr_Book_quiet ?mk_Book_quiet ?ml_Book_quiet ?mc_Book_quiet ?pa_Book_safe ?pg_Book_safe ?pt_Book_safe ?pr_Book_safe ?mk_Book_safe ?ml_Book_safe ?mc_Book_safe ?ma_Book_mode_named ?mi_Book_mode_named ?mk_Book_mode_named ?ml_Book_mode_named ?mc_Book_mode_named ?ma_Book_command_named ?mi_Book_command_named ?mk_Book_command_named ?ml_Book_command_named ?mc_Book_command_named ?ma_Book_alarm_named ?mi_Book_alarm_named ?mk_Book_alarm_named ?ml_Book_alarm_named ?mc_Book_alarm_named ?ma_Book_row_named ?mi_Book_row_named ?mk_Book_row_named ?ml_Book_row_named ?mc_Book_row_named ?ma_Book__part_named ?mi_Book__part_named ?mk_Book__part_named ?ml_Book__part_named ?mc_Book__part_named ?eC_UnknownName ?eC_FarError ?ek_UnknownName_FarError ?ex_UnknownName ?esa_UnknownName ?ega_UnknownName ?egg_UnknownName ?ecl_UnknownName ?esB_UnknownName ?esV_UnknownName ?ess_UnknownName ?ety_UnknownName ?ekp_UnknownName ?ehd_UnknownName ?esp_UnknownName ?etk_UnknownName ?emo_UnknownName ?ems_UnknownName ?eno_UnknownName ?ein_UnknownName ?etf_UnknownName ?el_UnknownName ?ec_UnknownName ?ed_UnknownName ?ev_UnknownName ?ef_UnknownName ?ee_UnknownName ?eS_UnknownName ?e_any ?e_top ?a0 ?l0 ?c0 ?k0 ?a1 ?l1 ?c1 ?k1 ?a2 ?l2 ?c2 ?k2 ?a3 ?l3 ?c3 ?k3 ?a4 ?l4 ?c4 ?k4 ?a5 ?l5 ?c5 ?k5 ?a6 ?l6 ?c6 ?k6 ?a7 ?l7 ?c7 ?k7 ?a8 ?l8 ?c8 ?k8 ?a9 ?l9 ?c9 ?k9 ?a10 ?l10 ?c10 ?k10 ?a11 ?l11 ?c11 ?k11 ?a12 ?l12 ?c12 ?k12 ?a13 ?l13 ?c13 ?k13 ?a14 ?l14 ?c14 ?k14 ?a15 ?l15 ?c15 ?k15 ?a16 ?l16 ?c16 ?k16 ?a17 ?l17 ?c17 ?k17 ?a18 ?l18 ?c18 ?k18 ?a19 ?l19 ?c19 ?k19 ?a20 ?l20 ?c20 ?k20 ?a21 ?l21 ?c21 ?k21 ?a22 ?l22 ?c22 ?k22 ?a23 ?l23 ?c23 ?k23 ?a24 ?l24 ?c24 ?k24 ?a25 ?l25 ?c25 ?k25 ?a26 ?l26 ?c26 ?k26 ?a27 ?l27 ?c27 ?k27 ?a28 ?l28 ?c28 ?k28 ?a29 ?l29 ?c29 ?k29 ?a30 ?l30 ?c30 ?k30 ?z_ValueError ?z_abs ?z_all ?z_any ?z_int ?z_len ?z_list ?z_max ?z_range ?z_set ?z_sorted ?z_str ?z_tuple ?z_super ?z_NAME_SIGNS ?z_LONGEST_NAME ?z_MOST_HOLDS ?z_MOST_MODES ?z_MOST_BARRED ?z_MOST_COMMANDS ?z_MOST_ALARMS ?z_MOST_ROWS ?z_MOST_STEPS ?z_MOST_TICKS ?z_MOST_QUIET
    (case aC_Book => k_is)
    (case cpg_Book => k_is)
    (case chd_Book => k_is)
    (case cpo_Book => k_is)
    (case csa_Book => k_is)
    (case cmk_Book => k_is)
    (case ckc_Book => k_is)
    (case cci_Book => k_is)
    (case csp_Book => k_is)
    (case ctk_Book => k_is)
    (case cmo_Book => k_is)
    (case cko_Book => kit_is)
    (case cno_Book__holds => k_is)
    (case cno_Book__barred => k_is)
    (case cno_Book__parts => k_is)
    (case cno_Book__quiet => k_is)
    (case tm_Book___init__ => first | exact List.mem_cons_self | k_mem)
    (case ma_Book___init__ => k_is)
    (case mi_Book___init__ => k_is)
    (case mk_Book___init__ => k_is)
    (case ml_Book___init__ => k_is)
    (case mc_Book___init__ => k_is)
    (case tl_Book___init__ => first | kernel_rfl | k_is)
    (case tc_Book___init__ => first | kernel_rfl | k_is)
    (case pa_Book_holds => k_is)
    (case pg_Book_holds => k_is)
    (case pt_Book_holds => k_is)
    (case pr_Book_holds => k_is)
    (case mk_Book_holds => k_is)
    (case ml_Book_holds => k_is)
    (case mc_Book_holds => k_is)
    (case pa_Book_modes => k_is)
    (case pg_Book_modes => k_is)
    (case pt_Book_modes => k_is)
    (case pr_Book_modes => k_is)
    (case mk_Book_modes => k_is)
    (case ml_Book_modes => k_is)
    (case mc_Book_modes => k_is)
    (case pa_Book_barred => k_is)
    (case pg_Book_barred => k_is)
    (case pt_Book_barred => k_is)
    (case pr_Book_barred => k_is)
    (case mk_Book_barred => k_is)
    (case ml_Book_barred => k_is)
    (case mc_Book_barred => k_is)
    (case pa_Book_commands => k_is)
    (case pg_Book_commands => k_is)
    (case pt_Book_commands => k_is)
    (case pr_Book_commands => k_is)
    (case mk_Book_commands => k_is)
    (case ml_Book_commands => k_is)
    (case mc_Book_commands => k_is)
    (case pa_Book_alarms => k_is)
    (case pg_Book_alarms => k_is)
    (case pt_Book_alarms => k_is)
    (case pr_Book_alarms => k_is)
    (case mk_Book_alarms => k_is)
    (case ml_Book_alarms => k_is)
    (case mc_Book_alarms => k_is)
    (case pa_Book_rows => k_is)
    (case pg_Book_rows => k_is)
    (case pt_Book_rows => k_is)
    (case pr_Book_rows => k_is)
    (case mk_Book_rows => k_is)
    (case ml_Book_rows => k_is)
    (case mc_Book_rows => k_is)
    (case pa_Book_quiet => k_is)
    (case pg_Book_quiet => k_is)
    (case pt_Book_quiet => k_is)
    (case pr_Book_quiet => k_is)
    (case mk_Book_quiet => k_is)
    (case ml_Book_quiet => k_is)
    (case mc_Book_quiet => k_is)
    (case pa_Book_safe => k_is)
    (case pg_Book_safe => k_is)
    (case pt_Book_safe => k_is)
    (case pr_Book_safe => k_is)
    (case mk_Book_safe => k_is)
    (case ml_Book_safe => k_is)
    (case mc_Book_safe => k_is)
    (case ma_Book_mode_named => k_is)
    (case mi_Book_mode_named => k_is)
    (case mk_Book_mode_named => k_is)
    (case ml_Book_mode_named => k_is)
    (case mc_Book_mode_named => k_is)
    (case ma_Book_command_named => k_is)
    (case mi_Book_command_named => k_is)
    (case mk_Book_command_named => k_is)
    (case ml_Book_command_named => k_is)
    (case mc_Book_command_named => k_is)
    (case ma_Book_alarm_named => k_is)
    (case mi_Book_alarm_named => k_is)
    (case mk_Book_alarm_named => k_is)
    (case ml_Book_alarm_named => k_is)
    (case mc_Book_alarm_named => k_is)
    (case ma_Book_row_named => k_is)
    (case mi_Book_row_named => k_is)
    (case mk_Book_row_named => k_is)
    (case ml_Book_row_named => k_is)
    (case mc_Book_row_named => k_is)
    (case ma_Book__part_named => k_is)
    (case mi_Book__part_named => k_is)
    (case mk_Book__part_named => k_is)
    (case ml_Book__part_named => k_is)
    (case mc_Book__part_named => k_is)
    (case eC_UnknownName => k_is)
    (case eC_FarError => k_is)
    (case ek_UnknownName_FarError => kit_is)
    (case ex_UnknownName => k_is)
    (case esa_UnknownName => k_is)
    (case ega_UnknownName => k_is)
    (case egg_UnknownName => k_is)
    (case ecl_UnknownName => k_is)
    (case esB_UnknownName => k_is)
    (case esV_UnknownName => k_is)
    (case ess_UnknownName => first | k_is | rfl)
    (case ety_UnknownName => k_is)
    (case ekp_UnknownName => k_is)
    (case ehd_UnknownName => k_is)
    (case esp_UnknownName => k_is)
    (case etk_UnknownName => k_is)
    (case emo_UnknownName => k_is)
    (case ems_UnknownName => k_is)
    (case eno_UnknownName => k_is)
    (case ein_UnknownName => k_is)
    (case etf_UnknownName => k_is)
    (case el_UnknownName => k_is)
    (case ec_UnknownName => k_is)
    (case ed_UnknownName => k_is)
    (case ev_UnknownName => first | rfl | decide +kernel)
    (case ef_UnknownName => first | rfl | decide +kernel)
    (case ee_UnknownName => k_is)
    (case eS_UnknownName => ks_is)
    (case e_any => k_is)
    (case e_top => first | rfl | decide +kernel)
    (case a0 => k_is)
    (case l0 => k_is)
    (case c0 => k_is)
    (case k0 => k_is)
    (case a1 => k_is)
    (case l1 => k_is)
    (case c1 => k_is)
    (case k1 => k_is)
    (case a2 => k_is)
    (case l2 => k_is)
    (case c2 => k_is)
    (case k2 => k_is)
    (case a3 => k_is)
    (case l3 => k_is)
    (case c3 => k_is)
    (case k3 => k_is)
    (case a4 => k_is)
    (case l4 => k_is)
    (case c4 => k_is)
    (case k4 => k_is)
    (case a5 => k_is)
    (case l5 => k_is)
    (case c5 => k_is)
    (case k5 => k_is)
    (case a6 => k_is)
    (case l6 => k_is)
    (case c6 => k_is)
    (case k6 => k_is)
    (case a7 => k_is)
    (case l7 => k_is)
    (case c7 => k_is)
    (case k7 => k_is)
    (case a8 => k_is)
    (case l8 => k_is)
    (case c8 => k_is)
    (case k8 => k_is)
    (case a9 => k_is)
    (case l9 => k_is)
    (case c9 => k_is)
    (case k9 => k_is)
    (case a10 => k_is)
    (case l10 => k_is)
    (case c10 => k_is)
    (case k10 => k_is)
    (case a11 => k_is)
    (case l11 => k_is)
    (case c11 => k_is)
    (case k11 => k_is)
    (case a12 => k_is)
    (case l12 => k_is)
    (case c12 => k_is)
    (case k12 => k_is)
    (case a13 => k_is)
    (case l13 => k_is)
    (case c13 => k_is)
    (case k13 => k_is)
    (case a14 => k_is)
    (case l14 => k_is)
    (case c14 => k_is)
    (case k14 => k_is)
    (case a15 => k_is)
    (case l15 => k_is)
    (case c15 => k_is)
    (case k15 => k_is)
    (case a16 => k_is)
    (case l16 => k_is)
    (case c16 => k_is)
    (case k16 => k_is)
    (case a17 => k_is)
    (case l17 => k_is)
    (case c17 => k_is)
    (case k17 => k_is)
    (case a18 => k_is)
    (case l18 => k_is)
    (case c18 => k_is)
    (case k18 => k_is)
    (case a19 => k_is)
    (case l19 => k_is)
    (case c19 => k_is)
    (case k19 => k_is)
    (case a20 => k_is)
    (case l20 => k_is)
    (case c20 => k_is)
    (case k20 => k_is)
    (case a21 => k_is)
    (case l21 => k_is)
    (case c21 => k_is)
    (case k21 => k_is)
    (case a22 => k_is)
    (case l22 => k_is)
    (case c22 => k_is)
    (case k22 => k_is)
    (case a23 => k_is)
    (case l23 => k_is)
    (case c23 => k_is)
    (case k23 => k_is)
    (case a24 => k_is)
    (case l24 => k_is)
    (case c24 => k_is)
    (case k24 => k_is)
    (case a25 => k_is)
    (case l25 => k_is)
    (case c25 => k_is)
    (case k25 => k_is)
    (case a26 => k_is)
    (case l26 => k_is)
    (case c26 => k_is)
    (case k26 => k_is)
    (case a27 => k_is)
    (case l27 => k_is)
    (case c27 => k_is)
    (case k27 => k_is)
    (case a28 => k_is)
    (case l28 => k_is)
    (case c28 => k_is)
    (case k28 => k_is)
    (case a29 => k_is)
    (case l29 => k_is)
    (case c29 => k_is)
    (case k29 => k_is)
    (case a30 => k_is)
    (case l30 => k_is)
    (case c30 => k_is)
    (case k30 => k_is)
    (case z_ValueError => k_is)
    (case z_abs => k_is)
    (case z_all => k_is)
    (case z_any => k_is)
    (case z_int => k_is)
    (case z_len => k_is)
    (case z_list => k_is)
    (case z_max => k_is)
    (case z_range => k_is)
    (case z_set => k_is)
    (case z_sorted => k_is)
    (case z_str => k_is)
    (case z_tuple => k_is)
    (case z_super => k_is)
    (case z_NAME_SIGNS => k_is)
    (case z_LONGEST_NAME => k_is)
    (case z_MOST_HOLDS => k_is)
    (case z_MOST_MODES => k_is)
    (case z_MOST_BARRED => k_is)
    (case z_MOST_COMMANDS => k_is)
    (case z_MOST_ALARMS => k_is)
    (case z_MOST_ROWS => k_is)
    (case z_MOST_STEPS => k_is)
    (case z_MOST_TICKS => k_is)
    (case z_MOST_QUIET => k_is)
theorem PySem.Challenge.cw_farword_k01_books_taken_holds : PySem.Challenge.rw_farword_k01_books_taken.Holds :=
  My_top

