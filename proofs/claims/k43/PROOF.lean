import PyProof.Rows.All
import Wide.All
import OpenK.AllK
import Wide.FinOn
import HandS.ForMost
import HandS.Wide
import HandS.IsInst
import HandS.Flow
import HandS.TupLe
import HandS.StrMore
import HandS.Evl
import HandS.Walk
import KE.KxText
import HandS.Set
import HandS.Strs
import HandS.SetFor
import PyProof.Rows.SortShellAny
import HandS.Replace
import KE.KOpsOwn
import HandS.ForExc
import HandS.TryMany
import HandS.TryOnly
import HandS.ExcSuper
import HandS.ExcOwn
import HandS.ListEq
import HandS.DeepEq
import HandS.DictComp
import HandS.Iter
import HandS.Defaults
import KE.GoesMore
import PySem.Challenge.RW_tworows_k43_orders_are_read
set_option Elab.async false
set_option linter.all false
set_option maxRecDepth 100000
set_option maxHeartbeats 4000000
namespace Tw
open PySem L2

/-! ### a def of the text with its promise -/
structure Def (P : Program) (w : World) (K : PySem.W.Frag) (mg : Str → Option Value) (base : Heap) (k : Nat) (x : Str) (ps : List Str) (sp : Sp) : Prop where
  ex : ∃ (f : Addr) (fd : FuncData), FnOk P w K mg base CX0 k f fd ps sp ∧ mg x = some (.ref f) ∧ PySem.W.keepIn K (.ref f) = true ∧ Binds K fd ps []
/-- where a def of the text stands -/
structure Here (K : PySem.W.Frag) (mg : Str → Option Value) (x : Str) (st : Stmt) (ps : List Str) (f : Addr) (fd : FuncData) : Prop where
  fn : Fun K x x st f fd
  mg : mg x = some (.ref f)
  bd : Binds K fd ps []
section
variable {X : Cx} {k j : Nat} {x : Str} {p pos : Pos} {e : Expr} {es : List Expr} {ps : List Str} {sp : Sp} {t : TA}
theorem Here.def {P : Program} {w : World} {K : PySem.W.Frag} {mg : Str → Option Value} {base : Heap} {st : Stmt} {f : Addr} {fd : FuncData} (h : Here K mg x st ps f fd) (F : FnOk P w K mg base CX0 k f fd ps sp) : Def P w K mg base k x ps sp :=
  ⟨f, fd, F, h.mg, h.fn.kp, h.bd⟩
def tDef (sp : Sp) (t : TA) : TE := fun σ H Q => t σ H fun vs H1 => sp vs H1 Q E0
theorem tDef_eq {sp : Sp} {t : TA} : tCall sp [] E0 t = tDef sp t := by
  funext σ H Q
  unfold tCall tDef
  simp only [List.append_nil]
theorem pe_def (D : Def X.prog X.w X.K X.mg X.base k x ps sp) (hr : Room j X.A) (hg : Gl X x) (ha : PA X (e :: es) t) (hk : k ≤ j := by decide) (hdb : (x == ("__debug__" : Str)) = false := by decide)
    (he : starEach (e :: es) X.env = (false, eval e X.env) :: starEach es X.env := by rfl) (hpl : (backTo pos (starEach es X.env)).any (·.1) = false := by rfl) : PE X (.Call (.Name x p) (e :: es) [] pos) (tDef sp t) := by
  obtain ⟨f, fd, F, hm, hkp, hb⟩ := D.ex
  rw [← tDef_eq]
  exact pe_call F (hr.mono hk) hg hm hkp hb .nil pass0 ha hdb he hpl
theorem pe_def0 (D : Def X.prog X.w X.K X.mg X.base k x ps sp) (hr : Room j X.A) (hg : Gl X x) (hk : k ≤ j := by decide) (hdb : (x == ("__debug__" : Str)) = false := by decide) : PE X (.Call (.Name x p) [] [] pos) (tDef sp tNil) := by
  obtain ⟨f, fd, F, hm, hkp, hb⟩ := D.ex
  rw [← tDef_eq]
  exact pe_call0 F (hr.mono hk) hg hm hkp hb .nil pass0 hdb
end

/-! ### operators for values of any kind -/
def rStr2 (C : Str → Str → Prop) (g : Str → Str → V) : R2 := fun x y H Q => ∃ i j, x = .str i ∧ y = .str j ∧ C i j ∧ Q (g i j) H
def rAddG : R2 := fun x y H Q => (∃ i j, x = .int i ∧ y = .int j ∧ Q (.int (i + j)) H) ∨ (∃ i j, x = .str i ∧ y = .str j ∧ i.length + j.length ≤ sizeLine ∧ Q (.str (i ++ j)) H) ∨ rCat x y H Q
def rLtG : R2 := fun x y H Q => (∃ i j, x = .int i ∧ y = .int j ∧ Q (.bl (decide (i < j))) H) ∨ ∃ i j, x = .str i ∧ y = .str j ∧ Q (.bl (decide (i.cps.toList < j.cps.toList))) H
def CPowG (i j : Int) : Prop := 0 ≤ j ∧ (Builtin.Int.intBits i : Int) * j ≤ 2 ^ 27
section
variable {X : Cx} {H : Hp} {Q : VK}
theorem op_addG : OpR X (binaryOp .Add) rAddG := op_add.or (op_add_str.or op_cat)
theorem op_ltG : OpR X (compareOp .Lt) rLtG := op_lt.or op_lt_str
theorem op_powG : OpR X (binaryOp .Pow) (rI CPowG fun i j => .int (i ^ j.toNat)) := opI fun _ _ _ _ _ _ _ hc q => PyProof.Rows.pow_int hc.1 hc.2 q
def rFdG : R2 := rI CDivW fun i j => .int (i / j)
theorem op_fdG : OpR X (binaryOp .FloorDiv) rFdG := op_fdivW
def rModG : R2 := rI (fun _ j => 0 < j) fun i j => .int (i % j)
theorem op_modG : OpR X (binaryOp .Mod) rModG := op_mod
def rSubG : R2 := rI0 fun i j => .int (i - j)
theorem op_subG : OpR X (binaryOp .Sub) rSubG := op_sub
def rMulG : R2 := rI CMul fun i j => .int (i * j)
theorem op_mulG : OpR X (binaryOp .Mult) rMulG := op_mul
def rPowG : R2 := rI CPowG fun i j => .int (i ^ j.toNat)
theorem op_powG' : OpR X (binaryOp .Pow) rPowG := op_powG
def rLeG : R2 := rI0 fun i j => .bl (decide (i ≤ j))
theorem op_leG : OpR X (compareOp .LtE) rLeG := op_le
def rGtG : R2 := rI0 fun i j => .bl (decide (j < i))
theorem op_gtG : OpR X (compareOp .Gt) rGtG := op_gt
def rGeG : R2 := fun x y H Q => (rI0 fun i j => .bl (decide (j ≤ i))) x y H Q ∨ ∃ i j, x = .str i ∧ y = .str j ∧ Q (.bl (!decide (i.cps.toList < j.cps.toList))) H
theorem op_geG : OpR X (compareOp .GtE) rGeG := op_ge.or op_ge_str
def rIsNG : R2 := fun x y H Q => y = .non ∧ Q (.bl (decide (x = .non))) H
theorem op_isNG : OpR X (compareOp .Is) rIsNG := op_isN
def rNotNG : R2 := fun x y H Q => y = .non ∧ Q (.bl (!decide (x = .non))) H
theorem op_notNG : OpR X (compareOp .IsNot) rNotNG := op_notN
def rNegG : V → Hp → VK → Prop := rU fun i => .int (-i)
theorem un_negG : UnR X (unaryOp .USub) rNegG := un_neg
/-! rules that hang on the written part, the part told by a letter (so that they stand in a comprehension's block, too) -/
def rLenG (K : PySem.W.Frag) : List V → Hp → VK → Prop := fun xs H Q => ∃ x n, xs = [x] ∧ LenV K x H n ∧ Q (.int n) H
theorem call_lenG {K : PySem.W.Frag} (h : X.K = K) : CallR X (.builtin "len") (rLenG K) := by subst h; exact call_len
theorem ix_seqG {K : PySem.W.Frag} (h : X.K = K) : IxR X (rIx K) := by subst h; exact ix_seq
theorem call_isiG {K : PySem.W.Frag} (h : X.K = K) : CallR X (.builtin "isinstance") (rIsi K) := by subst h; exact call_isi
theorem sl_listG {K : PySem.W.Frag} (h : X.K = K) : SlR X (rSlL K) := by subst h; exact sl_list
def rSlG (K : PySem.W.Frag) : V → Option Int → Option Int → Hp → VK → Prop := fun x lo hi H Q => rSlL K x lo hi H Q ∨ (L2.rSlS x lo hi H Q ∨ rSlT K x lo hi H Q)
theorem sl_G {K : PySem.W.Frag} (h : X.K = K) : SlR X (rSlG K) := by subst h; exact sl_list.or (sl_str.or sl_tup)
def rInSign : R2 := fun x y H Q => ∃ (c : Nat) (z : Str), x = .str ⟨#[c]⟩ ∧ y = .str z ∧ Q (.bl (decide (c ∈ z.cps.toList))) H
def rNotInSign : R2 := fun x y H Q => ∃ (c : Nat) (z : Str), x = .str ⟨#[c]⟩ ∧ y = .str z ∧ Q (.bl (!decide (c ∈ z.cps.toList))) H
def rInG (K : PySem.W.Frag) : R2 := fun x y H Q => rInSign x y H Q ∨ rIn K false x y H Q
def rNotInG (K : PySem.W.Frag) : R2 := fun x y H Q => rNotInSign x y H Q ∨ rIn K true x y H Q
theorem op_inG {K : PySem.W.Frag} (h : X.K = K) : OpR X (compareOp .In) (rInG K) := by subst h; exact (show OpR X (compareOp .In) rInSign from op_in_sign).or op_in_seq
theorem op_notInG {K : PySem.W.Frag} (h : X.K = K) : OpR X (compareOp .NotIn) (rNotInG K) := by subst h; exact (show OpR X (compareOp .NotIn) rNotInSign from op_notIn_sign).or op_notIn_seq
def rMax2 : List V → Hp → VK → Prop := fun xs H Q => ∃ i j, xs = [.int i, .int j] ∧ Q (.int (if j > i then j else i)) H
theorem call_max2G (h : X.calm = true) : CallR X (.builtin "max") rMax2 := call_max2 h
def rGeS : R2 := fun x y H Q => ∃ i j, x = .str i ∧ y = .str j ∧ Q (.bl (!decide (i.cps.toList < j.cps.toList))) H
def rIsBl : R2 := fun x y H Q => ∃ a b, x = .bl a ∧ y = .bl b ∧ Q (.bl (decide (a = b))) H
def rNotBl : R2 := fun x y H Q => ∃ a b, x = .bl a ∧ y = .bl b ∧ Q (.bl (!decide (a = b))) H
theorem op_isBl : OpR X (compareOp .Is) rIsBl := op_is_bl
theorem op_notBl : OpR X (compareOp .IsNot) rNotBl := op_isnot_bl
def rListG (K : PySem.W.Frag) : List V → Hp → VK → Prop := fun xs H Q => ∃ p ys, xs = [.ref p] ∧ (SqL K H p ys ∨ SqT K H p ys) ∧ ∀ l, H l = none → Q (.ref l) (upd H l (.lst ys))
theorem call_listG {K : PySem.W.Frag} (h : X.K = K) : CallR X (.type "list") (rListG K) := by subst h; exact call_list_of
def rIntG : List V → Hp → VK → Prop := fun xs H Q => (∃ i, xs = [.int i] ∧ Q (.int i) H) ∨ ∃ k, xs = [.bl k] ∧ Q (.int (if k then 1 else 0)) H
theorem call_intG : CallR X (.type "int") rIntG := call_int1
def rBoolG : List V → Hp → VK → Prop := fun xs H Q => (∃ i, xs = [.int i] ∧ Q (.bl (i != 0)) H) ∨ ∃ k, xs = [.bl k] ∧ Q (.bl k) H
theorem call_boolG : CallR X (.type "bool") rBoolG := call_bool1
def rJoinG (K : PySem.W.Frag) : V → List V → Hp → VK → Prop := fun x xs H Q => ∃ a p, ∃ ys : List Str, x = .str a ∧ xs = [.ref p] ∧ (SqL K H p (ys.map V.str) ∨ SqT K H p (ys.map V.str)) ∧
    (ys.map (·.length)).sum + ys.length * a.length ≤ 16777216 ∧ Q (.str (PySem.Txt.join a ys)) H
theorem mt_joinG {K : PySem.W.Frag} (h : X.K = K) : MtR X "str.join" (rJoinG K) := by subst h; exact mt_join
/-- is True, is False: of bools -/
def rIsB : R2 := fun x y H Q => ∃ i j, x = .bl i ∧ y = .bl j ∧ Q (.bl (decide (i = j))) H
end

/-- what is wanted behind a statement, in a word that is no constructor -/
def mkE (nx : L2.St → Hp → Prop) (rt : VK) (bk ct : L2.St → Hp → Prop) : Ends := ⟨nx, rt, bk, ct⟩
theorem Fun.okM {P : Program} {w : World} {K : PySem.W.Frag} {mg : Str → Option Value} {base : Heap} {x qual : Str} {st : Stmt} {f : Addr} {fd : FuncData} {N ps : List Str} {k : Nat} {sp : Sp} (F : Fun K x qual st f fd) (S : FnScope N ps (defScope st)) (len : ∀ vs H Q E, sp vs H Q E → vs.length = ps.length)
    (hbody : ∀ (cdv : Value) (A : Around) (outer : List Env) (s : Shared) (H : Hp) (vs : List V) (Q : VK) (E : XK), Room k (A.deeper (PyProof.Rows.envOfC qual (defScope st) s.heap.objs.size f cdv)) → sp vs H Q E →
      ∃ t, PSs (cxOf CX0 P w K mg base N qual (defScope st) f cdv A outer s H E).nox (defBody st) t ∧ t (mkE (fun _ H' => Q .non H') Q (fun _ _ => False) (fun _ _ => False)) (L2.start N vs) H) : FnOk P w K mg base CX0 (k + 1) f fd ps sp := F.ok S len hbody
/-! ### readings, step by step -/
section
variable {K : PySem.W.Frag} {σ : L2.St} {H : Hp} {Q : VK} {QT : Bool → Hp → Prop} {QA : List V → Hp → Prop} {D : Ends} {ta tb te : TE} {tr t : TA} {u c : TT} {ts tz : TS} {x y v : V} {a b : Bool} {i j : Int}
theorem g_var {n : Nat} (h : σ[n]? = some (some v)) (q : Q v H) : tVar n σ H Q := ⟨v, h, q⟩
theorem g_var0 {n : Nat} (q : ∃ v, σ[n]? = some (some v) ∧ Q v H) : tVar n σ H Q := q
theorem g_c (q : Q v H) : tC v σ H Q := q
theorem g_op {r : R2} (q : ta σ H fun x H1 => tb σ H1 fun y H2 => r x y H2 Q) : tOp r ta tb σ H Q := q
theorem g_un {r : V → Hp → VK → Prop} (q : ta σ H fun x H1 => r x H1 Q) : tUn r ta σ H Q := q
theorem g_nil (q : QA [] H) : tNil σ H QA := q
theorem g_cons (q : ta σ H fun x H1 => tr σ H1 fun xs H2 => QA (x :: xs) H2) : tCons ta tr σ H QA := q
theorem g_def {sp : Sp} (q : t σ H fun vs H1 => sp vs H1 Q E0) : tDef sp t σ H Q := q
theorem g_cb {r : List V → Hp → VK → Prop} (q : t σ H fun vs H1 => r vs H1 Q) : tCB r t σ H Q := q
theorem g_tup (q : t σ H fun xs H1 => xs.length ≤ sizeLine ∧ ∀ p, H1 p = none → Q (.ref p) (upd H1 p (.tup xs))) : tTup t σ H Q := q
theorem g_lst (q : t σ H fun xs H1 => xs.length ≤ sizeLine ∧ ∀ p, H1 p = none → Q (.ref p) (upd H1 p (.lst xs))) : tLst t σ H Q := q
theorem g_addI (q : Q (.int (i + j)) H) : rAddG (.int i) (.int j) H Q := .inl ⟨i, j, rfl, rfl, q⟩
theorem g_addS {z w : Str} (h : z.length + w.length ≤ sizeLine) (q : Q (.str (z ++ w)) H) : rAddG (.str z) (.str w) H Q := .inr (.inl ⟨z, w, rfl, rfl, h, q⟩)
theorem g_subI (q : Q (.int (i - j)) H) : rSubG (.int i) (.int j) H Q := ⟨i, j, rfl, rfl, q⟩
theorem g_mulI (h : CMul i j) (q : Q (.int (i * j)) H) : rMulG (.int i) (.int j) H Q := ⟨i, j, rfl, rfl, h, q⟩
theorem g_powI (h : CPowG i j) (q : Q (.int (i ^ j.toNat)) H) : rPowG (.int i) (.int j) H Q := ⟨i, j, rfl, rfl, h, q⟩
theorem g_modI (h : 0 < j) (q : Q (.int (i % j)) H) : rModG (.int i) (.int j) H Q := ⟨i, j, rfl, rfl, h, q⟩
theorem g_fdI (h : CDivW i j) (q : Q (.int (i / j)) H) : rFdG (.int i) (.int j) H Q := ⟨i, j, rfl, rfl, h, q⟩
theorem g_negI (q : Q (.int (-i)) H) : rNegG (.int i) H Q := ⟨i, rfl, q⟩
theorem g_ltI (q : Q (.bl (decide (i < j))) H) : rLtG (.int i) (.int j) H Q := .inl ⟨i, j, rfl, rfl, q⟩
theorem g_ltS {z w : Str} (q : Q (.bl (decide (z.cps.toList < w.cps.toList))) H) : rLtG (.str z) (.str w) H Q := .inr ⟨z, w, rfl, rfl, q⟩
theorem g_leI (q : Q (.bl (decide (i ≤ j))) H) : rLeG (.int i) (.int j) H Q := ⟨i, j, rfl, rfl, q⟩
theorem g_gtI (q : Q (.bl (decide (j < i))) H) : rGtG (.int i) (.int j) H Q := ⟨i, j, rfl, rfl, q⟩
theorem g_geI (q : Q (.bl (decide (j ≤ i))) H) : rGeG (.int i) (.int j) H Q := .inl ⟨i, j, rfl, rfl, q⟩
theorem g_geS {z w : Str} (q : Q (.bl (!decide (z.cps.toList < w.cps.toList))) H) : rGeG (.str z) (.str w) H Q := .inr ⟨z, w, rfl, rfl, q⟩
theorem g_slL {p : Addr} {xs : List V} {lo hi : Option Int} (h : SqL K H p xs) (q : ∀ l, H l = none → Q (.ref l) (upd H l (.lst (cutV xs lo hi)))) : rSlG K (.ref p) lo hi H Q := .inl ⟨p, xs, rfl, h, q⟩
theorem g_slS {z : Str} {lo hi : Option Int} (h : z.length ≤ sizeLine) (q : Q (.str (cutS z lo hi)) H) : rSlG K (.str z) lo hi H Q := .inr (.inl ⟨z, rfl, h, q⟩)
theorem g_inS {n : Nat} {z : Str} (q : Q (.bl (decide (n ∈ z.cps.toList))) H) : rInG K (.str ⟨#[n]⟩) (.str z) H Q := .inl ⟨n, z, rfl, rfl, q⟩
theorem g_notInS {n : Nat} {z : Str} (q : Q (.bl (!decide (n ∈ z.cps.toList))) H) : rNotInG K (.str ⟨#[n]⟩) (.str z) H Q := .inl ⟨n, z, rfl, rfl, q⟩
theorem g_max2 (q : Q (.int (if j > i then j else i)) H) : rMax2 [.int i, .int j] H Q := ⟨i, j, rfl, q⟩
theorem g_isBl_tt (q : Q (.bl true) H) : rIsBl (.bl true) (.bl true) H Q := ⟨true, true, rfl, rfl, q⟩
theorem g_notBl_tt (q : Q (.bl false) H) : rNotBl (.bl true) (.bl true) H Q := ⟨true, true, rfl, rfl, q⟩
theorem g_isBl_tf (q : Q (.bl false) H) : rIsBl (.bl true) (.bl false) H Q := ⟨true, false, rfl, rfl, q⟩
theorem g_notBl_tf (q : Q (.bl true) H) : rNotBl (.bl true) (.bl false) H Q := ⟨true, false, rfl, rfl, q⟩
theorem g_isBl_ft (q : Q (.bl false) H) : rIsBl (.bl false) (.bl true) H Q := ⟨false, true, rfl, rfl, q⟩
theorem g_notBl_ft (q : Q (.bl true) H) : rNotBl (.bl false) (.bl true) H Q := ⟨false, true, rfl, rfl, q⟩
theorem g_isBl_ff (q : Q (.bl true) H) : rIsBl (.bl false) (.bl false) H Q := ⟨false, false, rfl, rfl, q⟩
theorem g_notBl_ff (q : Q (.bl false) H) : rNotBl (.bl false) (.bl false) H Q := ⟨false, false, rfl, rfl, q⟩
theorem g_isBl (q : Q (.bl (decide (a = b))) H) : rIsBl (.bl a) (.bl b) H Q := ⟨a, b, rfl, rfl, q⟩
theorem g_notBl (q : Q (.bl (!decide (a = b))) H) : rNotBl (.bl a) (.bl b) H Q := ⟨a, b, rfl, rfl, q⟩
theorem g_istr {R : It → Hp → Prop} (q : ta σ H fun v H1 => ∃ x, v = .str x ∧ R (Its x) H1) : iStr ta σ H R := q
theorem g_str1 {p : Str → Prop} {z : Str} (q : p z) : ∃ x, V.str z = .str x ∧ p x := ⟨z, rfl, q⟩
theorem g_strE {z : Str} {R : Prop} (q : R) : (∃ a, V.str z = .str a) ∧ R := ⟨⟨z, rfl⟩, q⟩
theorem g_isN (q : Q (.bl (decide (x = .non))) H) : rIsNG x .non H Q := ⟨rfl, q⟩
theorem g_notN (q : Q (.bl (!decide (x = .non))) H) : rNotNG x .non H Q := ⟨rfl, q⟩
theorem g_isN_non (q : Q (.bl true) H) : rIsNG .non .non H Q := ⟨rfl, by rw [decide_eq_true rfl]; exact q⟩
theorem g_isN_int (q : Q (.bl false) H) : rIsNG (.int i) .non H Q := ⟨rfl, by rw [decide_eq_false (fun z => nomatch z)]; exact q⟩
theorem g_isN_str {z : Str} (q : Q (.bl false) H) : rIsNG (.str z) .non H Q := ⟨rfl, by rw [decide_eq_false (fun z => nomatch z)]; exact q⟩
theorem g_isN_bl (q : Q (.bl false) H) : rIsNG (.bl a) .non H Q := ⟨rfl, by rw [decide_eq_false (fun z => nomatch z)]; exact q⟩
theorem g_isN_ref {p : Addr} (q : Q (.bl false) H) : rIsNG (.ref p) .non H Q := ⟨rfl, by rw [decide_eq_false (fun z => nomatch z)]; exact q⟩
theorem g_notN_non (q : Q (.bl false) H) : rNotNG .non .non H Q := ⟨rfl, by rw [decide_eq_true rfl]; exact q⟩
theorem g_notN_int (q : Q (.bl true) H) : rNotNG (.int i) .non H Q := ⟨rfl, by rw [decide_eq_false (fun z => nomatch z)]; exact q⟩
theorem g_notN_str {z : Str} (q : Q (.bl true) H) : rNotNG (.str z) .non H Q := ⟨rfl, by rw [decide_eq_false (fun z => nomatch z)]; exact q⟩
theorem g_notN_bl (q : Q (.bl true) H) : rNotNG (.bl a) .non H Q := ⟨rfl, by rw [decide_eq_false (fun z => nomatch z)]; exact q⟩
theorem g_notN_ref {p : Addr} (q : Q (.bl true) H) : rNotNG (.ref p) .non H Q := ⟨rfl, by rw [decide_eq_false (fun z => nomatch z)]; exact q⟩
theorem g_Tn {A B : Prop} (h : B) : if (!true) = true then A else B := by rw [if_neg (by decide)]; exact h
theorem g_Fn {A B : Prop} (h : A) : if (!false) = true then A else B := by rw [if_pos (by decide)]; exact h
theorem dI (i j : Int) : decide (V.int i = V.int j) = decide (i = j) := by
  by_cases h : i = j
  · subst h; simp
  · rw [decide_eq_false h]; exact decide_eq_false fun z => h (V.int.inj z)
theorem dS (i j : Str) : decide (V.str i = V.str j) = decide (i = j) := by
  by_cases h : i = j
  · subst h; simp
  · rw [decide_eq_false h]; exact decide_eq_false fun z => h (V.str.inj z)
theorem dB (i j : Bool) : decide (V.bl i = V.bl j) = decide (i = j) := by
  by_cases h : i = j
  · subst h; simp
  · rw [decide_eq_false h]; exact decide_eq_false fun z => h (V.bl.inj z)
theorem g_eqI (q : Q (.bl (decide (i = j))) H) : rEq (.int i) (.int j) H Q := ⟨rfl, by rw [dI]; exact q⟩
theorem g_eqS {z w : Str} (q : Q (.bl (decide (z = w))) H) : rEq (.str z) (.str w) H Q := ⟨rfl, by rw [dS]; exact q⟩
theorem g_eqB (q : Q (.bl (decide (a = b))) H) : rEq (.bl a) (.bl b) H Q := ⟨rfl, by rw [dB]; exact q⟩
theorem g_neI (q : Q (.bl (!decide (i = j))) H) : rNe (.int i) (.int j) H Q := ⟨rfl, by rw [dI]; exact q⟩
theorem g_neS {z w : Str} (q : Q (.bl (!decide (z = w))) H) : rNe (.str z) (.str w) H Q := ⟨rfl, by rw [dS]; exact q⟩
theorem g_int1 (q : Q (.int i) H) : rIntG [V.int i] H Q := .inl ⟨i, rfl, q⟩
theorem g_int1B (q : Q (.int (if a then 1 else 0)) H) : rIntG [V.bl a] H Q := .inr ⟨a, rfl, q⟩
theorem g_bool1B (q : Q (.bl a) H) : rBoolG [V.bl a] H Q := .inr ⟨a, rfl, q⟩
theorem g_bool1I (q : Q (.bl (i != 0)) H) : rBoolG [V.int i] H Q := .inl ⟨i, rfl, q⟩
theorem g_ixL {p : Addr} {xs : List V} (h : SqL K H p xs) (e : atI xs i = some v) (q : Q v H) : rIx K (.ref p) (.int i) H Q := .inl ⟨p, xs, i, v, rfl, rfl, h, e, q⟩
theorem g_ixL0 {p : Addr} (q : ∃ xs v, H p = some (.lst xs) ∧ atI xs i = some v ∧ Q v H) : rIx K (.ref p) (.int i) H Q := by
  obtain ⟨xs, v, h, e, q⟩ := q
  exact g_ixL (SqL.of h) e q
theorem g_lenL0 {p : Addr} (q : ∃ xs, H p = some (.lst xs) ∧ Q (.int (xs.length : Int)) H) : rLenG K [.ref p] H Q := by
  obtain ⟨xs, h, q⟩ := q
  exact ⟨_, _, rfl, .inl ⟨xs, SqL.of h, rfl⟩, q⟩
theorem g_setL0 {p : Addr} {QH : Hp → Prop} (q : ∃ xs n, H p = some (.lst xs) ∧ ixN xs.length i = some n ∧ QH (upd H p (.lst (xs.set n v)))) : rSetL (.ref p) (.int i) v H QH := by
  obtain ⟨xs, n, h, e, q⟩ := q
  exact ⟨p, xs, i, n, rfl, rfl, h, e, q⟩
theorem g_ixT {p : Addr} {xs : List V} (h : SqT K H p xs) (e : atI xs i = some v) (q : Q v H) : rIx K (.ref p) (.int i) H Q := .inr (.inl ⟨p, xs, i, v, rfl, rfl, h, e, q⟩)
theorem g_ixS {z : Str} {n : Nat} (h : z.length ≤ sizeLine) (e : atI z.cps.toList i = some n) (q : Q (.str ⟨#[n]⟩) H) : rIx K (.str z) (.int i) H Q := .inr (.inr ⟨z, i, n, rfl, rfl, h, e, q⟩)
theorem g_lenL {p : Addr} {xs : List V} (h : SqL K H p xs) (q : Q (.int (xs.length : Int)) H) : rLenG K [.ref p] H Q := ⟨_, _, rfl, .inl ⟨xs, h, rfl⟩, q⟩
theorem g_lenT {p : Addr} {xs : List V} (h : SqT K H p xs) (q : Q (.int (xs.length : Int)) H) : rLenG K [.ref p] H Q := ⟨_, _, rfl, .inr ⟨xs, h, rfl⟩, q⟩
theorem g_lenS {z : Str} (h : z.length ≤ sizeLine) (q : Q (.int (z.length : Int)) H) : rLenG K [.str z] H Q := ⟨_, _, rfl, ⟨h, rfl⟩, q⟩
theorem g_list {p : Addr} {xs : List V} (h : SqL K H p xs) (q : ∀ l, H l = none → Q (.ref l) (upd H l (.lst xs))) : rListG K [.ref p] H Q := ⟨p, xs, rfl, .inl h, q⟩
theorem g_join {z : Str} {p : Addr} {ys : List Str} (h : SqL K H p (ys.map V.str)) (hz : (ys.map (·.length)).sum + ys.length * z.length ≤ 16777216) (q : Q (.str (PySem.Txt.join z ys)) H) : rJoinG K (.str z) [.ref p] H Q :=
  ⟨z, p, ys, rfl, rfl, .inl h, hz, q⟩
/-- the kind of a value, by its form -/
def kindS : V → String
  | .non => "NoneType" | .bl _ => "bool" | .int _ => "int" | .str _ => "str" | .flt _ => "float" | _ => ""
theorem g_isi {c : String} (ty : TyX K H x (.type n)) (h : kitB n c = some b) (q : Q (.bl b) H) : rIsi K [x, .ty c] H Q := ⟨x, .ty c, .type n, .type c, b, rfl, .ty c, ty, kit_ty h, q⟩
theorem g_isiI {c : String} (h : kitB "int" c = some b) (q : Q (.bl b) H) : rIsi K [.int i, .ty c] H Q := g_isi (.base (.int i)) h q
theorem g_isiS {c : String} {z : Str} (h : kitB "str" c = some b) (q : Q (.bl b) H) : rIsi K [.str z, .ty c] H Q := g_isi (.base (.str z)) h q
theorem g_isiB {c : String} (h : kitB "bool" c = some b) (q : Q (.bl b) H) : rIsi K [.bl a, .ty c] H Q := g_isi (.base (.bl a)) h q
theorem g_isiN {c : String} (h : kitB "NoneType" c = some b) (q : Q (.bl b) H) : rIsi K [.non, .ty c] H Q := g_isi (.base .non) h q
theorem kb_ii : kitB "int" "int" = some true := by decide +kernel
theorem kb_is : kitB "int" "str" = some false := by decide +kernel
theorem kb_ib : kitB "int" "bool" = some false := by decide +kernel
theorem kb_si : kitB "str" "int" = some false := by decide +kernel
theorem kb_ss : kitB "str" "str" = some true := by decide +kernel
theorem kb_sb : kitB "str" "bool" = some false := by decide +kernel
theorem kb_bi : kitB "bool" "int" = some true := by decide +kernel
theorem kb_bs : kitB "bool" "str" = some false := by decide +kernel
theorem kb_bb : kitB "bool" "bool" = some true := by decide +kernel
theorem kb_ni : kitB "NoneType" "int" = some false := by decide +kernel
theorem kb_ns : kitB "NoneType" "str" = some false := by decide +kernel
theorem kb_nb : kitB "NoneType" "bool" = some false := by decide +kernel
theorem g_sl {r : V → Option Int → Option Int → Hp → VK → Prop} {tl th : TO} (q : te σ H fun x H1 => tl σ H1 fun l H2 => th σ H2 fun u H3 => r x l u H3 Q) : tSl r te tl th σ H Q := q
theorem g_noPart {QO : Option Int → Hp → Prop} (q : QO none H) : tNoPart σ H QO := q
theorem g_part {QO : Option Int → Hp → Prop} (q : te σ H fun x H1 => ∃ i, x = .int i ∧ QO (some i) H1) : tPart te σ H QO := q
theorem g_int {p : Int → Prop} (q : p i) : ∃ k, V.int i = .int k ∧ p k := ⟨i, rfl, q⟩
theorem g_m1 {r : V → List V → Hp → VK → Prop} (q : ta σ H fun x H1 => (∃ a, x = .str a) ∧ tb σ H1 fun y H2 => r x [y] H2 Q) : tM1 r ta tb σ H Q := q
theorem g_m0 {r : V → List V → Hp → VK → Prop} (q : ta σ H fun x H1 => (∃ a, x = .str a) ∧ r x [] H1 Q) : tM0 r ta σ H Q := q
theorem g_lc {wi : TI} {g : TG} {tt : TT} {vs : List Nat} (q : wi σ H fun J H1 => ∀ D, H1 D = none → ∃ W : Nat → Nat → Hp → Prop, (∃ m, W 0 m (upd H1 D (.lst []))) ∧ ∀ i m H, W i m H →
  (J.stop i H ∧ Q (.ref D) H) ∨ (J.go i H ∧ ∃ Nx : Hp → Prop, (∀ H', Nx H' → ∃ m', m' < m ∧ W (i + 1) m' H') ∧ ∀ x H', J.yld i H x H' → g x (wipe σ vs) H' fun σ2 H2 => wipe σ2 vs = wipe σ vs ∧ tt σ2 H2 fun b H3 =>
    if b = true then te σ2 H3 fun y H4 => ∃ acc, H4 D = some (.lst acc) ∧ acc.length < sizeLine ∧ Nx (upd H4 D (.lst (acc ++ [y]))) else Nx H3)) : tLc wi g tt te vs σ H Q := q
theorem g_rng1 {R : It → Hp → Prop} (q : t σ H fun vs H1 => ∃ j : Int, vs = [.int j] ∧ -(2 ^ 62) ≤ j ∧ j < 2 ^ 62 ∧ R (Itr 0 j.toNat) H1) : iRng1 t σ H R := q
theorem g_ilist {R : It → Hp → Prop} (q : ta σ H fun x H1 => ∃ a, x = .ref a ∧ (∃ xs, SqL K H1 a xs) ∧ R (Itl K a) H1) : iList K ta σ H R := q
theorem g_for {wi : TI} {g : TG} (q : wi σ H fun J H1 => ∃ W : Nat → Nat → L2.St → Hp → Prop, (∃ m, W 0 m σ H1) ∧ ∀ i m σ H, W i m σ H →
  (J.stop i H ∧ D.nx σ H) ∨ (J.go i H ∧ ∃ N : L2.St → Hp → Prop, (∀ σ' H', N σ' H' → ∃ m', m' < m ∧ W (i + 1) m' σ' H') ∧ ∀ x H', J.yld i H x H' → g x σ H' fun σ2 H2 => ts { D with nx := N, ct := N, bk := D.nx } σ2 H2)) : tFor wi g ts D σ H := q
theorem g_cut {M : L2.St → Hp → Prop} (h : ts (mkE M D.rt D.bk D.ct) σ H) (k : ∀ σ' H', M σ' H' → tz D σ' H') : Evl.tCut ts tz D σ H := ⟨M, h, k⟩
theorem g_yes (q : QT true H) : tYes σ H QT := q
/-- a comprehension over a text whose turns leave the heap -/
theorem lc_text {z : Str} {g : TG} {tt : TT} {vs : List Nat} {H1 : Hp} {Dl : Addr} {Qd : Hp → Prop} (f : Nat → Bool) (v : Nat → V) (hz : z.length ≤ 1000000)
    (hs : ∀ (n : Nat) (Hh : Hp) (R : V → Hp → Prop) (S : Hp → Prop), n ∈ z.cps.toList → (∀ p o, p ≠ Dl → H1 p = some o → Hh p = some o) → (f n = true → R (v n) Hh) → (f n = false → S Hh) →
      g (.str ⟨#[n]⟩) (wipe σ vs) Hh fun σ2 H2 => wipe σ2 vs = wipe σ vs ∧ tt σ2 H2 fun b H3 => if b = true then te σ2 H3 R else S H3)
    (hd : ∀ H, (∀ p o, p ≠ Dl → H1 p = some o → H p = some o) → H Dl = some (.lst ((z.cps.toList.filter f).map v)) → Qd H) :
    ∃ W : Nat → Nat → Hp → Prop, (∃ m, W 0 m (upd H1 Dl (.lst []))) ∧ ∀ i m H, W i m H →
      ((Its z).stop i H ∧ Qd H) ∨ ((Its z).go i H ∧ ∃ Nx : Hp → Prop, (∀ H', Nx H' → ∃ m', m' < m ∧ W (i + 1) m' H') ∧ ∀ x H', (Its z).yld i H x H' → g x (wipe σ vs) H' fun σ2 H2 => wipe σ2 vs = wipe σ vs ∧ tt σ2 H2 fun b H3 =>
        if b = true then te σ2 H3 fun y H4 => ∃ acc, H4 Dl = some (.lst acc) ∧ acc.length < sizeLine ∧ Nx (upd H4 Dl (.lst (acc ++ [y]))) else Nx H3) := by
  have hsz : z.cps.size = z.cps.toList.length := Array.length_toList.symm
  refine ⟨fun i m H => m = z.cps.size - i ∧ i ≤ z.cps.size ∧ H Dl = some (.lst (((z.cps.toList.take i).filter f).map v)) ∧ ∀ p o, p ≠ Dl → H1 p = some o → H p = some o, ⟨z.cps.size, by simp, Nat.zero_le _, upd_same, fun p o n h => by rw [upd_ne n]; exact h⟩, ?_⟩
  rintro i m H ⟨rfl, hi, hD, hK⟩
  by_cases hlt : i < z.cps.size
  · refine .inr ⟨hlt, fun H' => H' Dl = some (.lst (((z.cps.toList.take (i + 1)).filter f).map v)) ∧ ∀ p o, p ≠ Dl → H1 p = some o → H' p = some o, fun H' w => ⟨z.cps.size - (i + 1), by omega, rfl, hlt, w⟩, ?_⟩
    rintro x H' ⟨rfl, n, hn, rfl⟩
    have hn' : z.cps.toList[i]? = some n := by rw [Array.getElem?_toList]; exact hn
    have e1 : z.cps.toList.take (i + 1) = z.cps.toList.take i ++ [n] := by rw [List.take_succ, hn']; rfl
    refine hs n H' _ _ (List.mem_of_getElem? hn') hK (fun hf => ?_) (fun hf => ?_)
    · refine ⟨_, hD, ?_, ?_, fun p o n h => by rw [upd_ne n]; exact hK p o n h⟩
      · rw [List.length_map, sizeLine_eq]
        have h1 := List.length_filter_le f (z.cps.toList.take i)
        have h2 : (z.cps.toList.take i).length ≤ z.cps.toList.length := by rw [List.length_take]; omega
        have h3 : z.cps.toList.length ≤ 1000000 := by rw [← hsz]; exact hz
        omega
      · rw [upd_same, e1, List.filter_append, List.filter_cons, if_pos hf, List.map_append]; rfl
    · refine ⟨?_, hK⟩
      rw [hD, e1, List.filter_append, List.filter_cons, if_neg (by rw [hf]; exact Bool.false_ne_true)]
      simp
  · have e : i = z.cps.size := by omega
    subst e
    refine .inl ⟨Nat.le_refl _, hd H hK ?_⟩
    rw [hD, hsz, List.take_length]
theorem join_cps (ys : List Str) : (PySem.Txt.join (Str.ofString "") ys).cps.toList = ys.flatMap fun y => y.cps.toList := by
  show (Builtin.Str.glued (Str.ofString "") ys).cps.toList = _
  rw [StrLaws.glued_eq_join]
  induction ys with
  | nil => rfl
  | cons y r ih =>
    cases r with
    | nil => show y.cps.toList = y.cps.toList ++ []; rw [List.append_nil]
    | cons z r =>
      show ((y ++ Str.ofString "") ++ Str.join (Str.ofString "") (z :: r)).cps.toList = _
      rw [PySem.W.KT.app_list, PySem.W.KT.app_list, ih, show (Str.ofString "").cps.toList = [] by decide +kernel, List.append_nil]
      rfl
theorem g_name {n : Nat} {QS : L2.St → Hp → Prop} (q : QS (σ.set n (some v)) H) : gName n v σ H QS := q
theorem g_inr {R : It → Hp → Prop} {p : Addr} {J : Addr → It} (q : (∃ xs, SqL K H p xs) ∧ R (J p) H) : ∃ a, V.ref p = .ref a ∧ (∃ xs, SqL K H a xs) ∧ R (J a) H := ⟨p, rfl, q⟩
theorem lex_trans {a b c : List Nat} (h : a < b) (k : b < c) : a < c := List.lt_trans h k
theorem lex_asymm {a b : List Nat} (h : a < b) : ¬ b < a := List.lt_asymm h
theorem lex_irrefl (a : List Nat) : ¬ a < a := List.lt_irrefl a
theorem lex_total {a b : List Nat} (h : ¬ a < b) (k : ¬ b < a) : a = b := List.le_antisymm (List.not_lt.mp k) (List.not_lt.mp h)
theorem str_ext {a b : Str} (h : a.cps.toList = b.cps.toList) : a = b := congrArg Str.mk (Array.toList_inj.mp h)
/-- a list, a tuple, a dict -/
def isRef (H : Hp) (p : Addr) : Prop := (∃ xs, H p = some (.lst xs)) ∨ (∃ xs, H p = some (.tup xs)) ∨ ∃ kvs, H p = some (.dK kvs)
theorem isRef.keep {H H' : Hp} {p : Addr} (h : isRef H p) (k : ∀ p o, H p = some o → H' p = some o) : isRef H' p := by
  rcases h with ⟨xs, h⟩ | ⟨xs, h⟩ | ⟨xs, h⟩
  · exact .inl ⟨xs, k _ _ h⟩
  · exact .inr (.inl ⟨xs, k _ _ h⟩)
  · exact .inr (.inr ⟨xs, k _ _ h⟩)
theorem g_isiR {p : Addr} {c : String} (h : isRef H p) (hc : c = "int" ∨ c = "str" ∨ c = "bool") (q : Q (.bl false) H) : rIsi K [.ref p, .ty c] H Q := by
  rcases h with ⟨xs, h⟩ | ⟨xs, h⟩ | ⟨xs, h⟩
  · exact g_isi (.base (.lst h)) (by rcases hc with rfl | rfl | rfl <;> decide +kernel) q
  · exact g_isi (.base (.tup h)) (by rcases hc with rfl | rfl | rfl <;> decide +kernel) q
  · exact g_isi (.base (.dK h)) (by rcases hc with rfl | rfl | rfl <;> decide +kernel) q
/-- a thing of any kind that a law draws -/
def thing (H : Hp) (v : V) : Prop := v = .non ∨ (∃ b, v = .bl b) ∨ (∃ i, v = .int i) ∨ (∃ z : Str, v = .str z ∧ z.length ≤ 100) ∨ ∃ p, v = .ref p ∧ isRef H p
theorem thing.keep {H H' : Hp} {v : V} (h : thing H v) (k : ∀ p o, H p = some o → H' p = some o) : thing H' v := by
  rcases h with h | h | h | h | ⟨p, e, h⟩
  · exact .inl h
  · exact .inr (.inl h)
  · exact .inr (.inr (.inl h))
  · exact .inr (.inr (.inr (.inl h)))
  · exact .inr (.inr (.inr (.inr ⟨p, e, h.keep k⟩)))
def isIntB : V → Bool
  | .int _ => true
  | _ => false
theorem inV_strs {z : Str} {ws : List Str} : inV (.str z) (ws.map V.str) = decide (z ∈ ws) := by
  unfold inV
  rw [List.any_map]
  rw [Bool.eq_iff_iff, decide_eq_true_eq, List.any_eq_true]
  constructor
  · rintro ⟨y, hy, h⟩
    have : y = z := by simpa [eqV] using h
    rw [← this]; exact hy
  · intro h
    exact ⟨z, h, by simp [eqV]⟩
theorem flat_strs (ws : List Str) : (ws.map V.str).all flatV = true := by
  rw [List.all_map, List.all_eq_true]
  intro x _
  rfl
theorem atI_strs {ws : List Str} {i : Int} (h0 : 0 ≤ i) (h1 : i < ws.length) : ∃ z, z ∈ ws ∧ atI (ws.map V.str) i = some (.str z) := by
  obtain ⟨k, rfl⟩ := Int.eq_ofNat_of_zero_le h0
  have hk : k < ws.length := by omega
  refine ⟨ws[k], List.getElem_mem hk, atI_nat ?_⟩
  rw [List.getElem?_map, List.getElem?_eq_getElem hk]; rfl
theorem g_tupE {p : Addr} {R : Prop} (q : R) : R := q
theorem g_test (q : ta σ H fun x H' => ∃ k, x = .bl k ∧ QT k H') : tTest ta σ H QT := q
theorem g_B (q : ta σ H fun x H' => ∃ k, x = .bl k ∧ QT k H') : tB ta σ H QT := q
theorem g_bl {p : Bool → Prop} (q : p a) : ∃ k, V.bl a = .bl k ∧ p k := ⟨a, rfl, q⟩
theorem g_tand (q : c σ H fun d H1 => if d = true then u σ H1 QT else QT false H1) : tAnd c u σ H QT := q
theorem g_tor (q : c σ H fun d H1 => if d = true then QT true H1 else u σ H1 QT) : tOr c u σ H QT := q
theorem g_tnot (q : c σ H fun d H1 => QT (!d) H1) : tNot c σ H QT := q
theorem g_vand (q : ta σ H fun x H1 => ∃ c, x = .bl c ∧ if c = true then tb σ H1 Q else Q (.bl false) H1) : tAndV ta tb σ H Q := q
theorem g_vor (q : ta σ H fun x H1 => ∃ c, x = .bl c ∧ if c = true then Q (.bl true) H1 else tb σ H1 Q) : tOrV ta tb σ H Q := q
theorem g_vnot (q : ta σ H fun x H1 => ∃ c, x = .bl c ∧ Q (.bl (!c)) H1) : tNotV ta σ H Q := q
theorem g_eif (q : c σ H fun d H1 => if d = true then ta σ H1 Q else tb σ H1 Q) : tIf c ta tb σ H Q := q
theorem g_seq (q : ts (mkE (tz D) D.rt D.bk D.ct) σ H) : tSeq ts tz D σ H := q
theorem g_asg {n : Nat} (q : te σ H fun x H1 => D.nx (σ.set n (some x)) H1) : tAsg te (gName n) D σ H := q
theorem g_asgSub {to ti : TE} {s : TSet} (q : te σ H fun x H1 => to σ H1 fun o H2 => ti σ H2 fun i H3 => s o i x H3 fun H4 => D.nx σ H4) : tAsg te (gSub to ti s) D σ H := q
theorem g_ret (q : te σ H D.rt) : tRet te D σ H := q
theorem g_drop (q : te σ H fun _ H1 => D.nx σ H1) : tDrop te D σ H := q
theorem g_if {t1 t2 : TS} (q : c σ H fun d H1 => if d = true then t1 D σ H1 else t2 D σ H1) : tIfS c t1 t2 D σ H := q
theorem g_next (q : D.nx σ H) : tNext D σ H := q
variable {nx : L2.St → Hp → Prop} {rt : VK} {bk ct : L2.St → Hp → Prop}
theorem g_nx (q : nx σ H) : (mkE nx rt bk ct).nx σ H := q
theorem g_rt (q : rt v H) : (mkE nx rt bk ct).rt v H := q
theorem g_bk (q : bk σ H) : (mkE nx rt bk ct).bk σ H := q
theorem g_ct (q : ct σ H) : (mkE nx rt bk ct).ct σ H := q
theorem g_ctS (q : D.ct σ H) : tCont D σ H := q
theorem g_bkS (q : D.bk σ H) : tBreak D σ H := q
/-! sizes, places -/
theorem cpow_small (h0 : 0 ≤ j) (h1 : j ≤ 1000000) (h2 : -(2 ^ 64) < i) (h3 : i < 2 ^ 64) : CPowG i j := by
  have h := PySem.intBits_le_64 h2 h3
  have h4 : ((Builtin.Int.intBits i : Nat) : Int) ≤ 64 := by omega
  refine ⟨h0, ?_⟩
  have h5 : ((Builtin.Int.intBits i : Nat) : Int) * j ≤ 64 * j := Int.mul_le_mul_of_nonneg_right h4 h0
  omega
theorem atI_map {ns : List Int} {n : Int} (h : 0 ≤ n ∧ n < ((ns.map V.int).length : Nat)) : atI (ns.map V.int) n = some (.int (ns.getD n.toNat 0)) := by
  rw [List.length_map] at h
  obtain ⟨h0, h⟩ := h
  obtain ⟨k, rfl⟩ := Int.eq_ofNat_of_zero_le h0
  refine atI_nat ?_
  rw [List.getElem?_map, List.getD_eq_getElem?_getD, Int.toNat_natCast, List.getElem?_eq_getElem (by omega)]
  rfl
theorem atI_get {α : Type} {xs : List α} {n : Nat} {v : α} (h : xs[n]? = some v) : atI xs (n : Int) = some v := atI_nat h
/-! tests -/
theorem g_T {A B : Prop} (h : A) : if true = true then A else B := by rw [if_pos rfl]; exact h
theorem g_F {A B : Prop} (h : B) : if false = true then A else B := by rw [if_neg Bool.false_ne_true]; exact h
theorem g_split {A B : Prop} {k : Bool} (h1 : k = true → A) (h2 : k = false → B) : if k = true then A else B := by
  cases k
  · exact g_F (h2 rfl)
  · exact g_T (h1 rfl)
theorem g_dec {A B p : Prop} [Decidable p] (h1 : p → A) (h2 : ¬ p → B) : if decide p = true then A else B :=
  g_split (fun h => h1 (of_decide_eq_true h)) (fun h => h2 (of_decide_eq_false h))
theorem g_ndec {A B p : Prop} [Decidable p] (h1 : ¬ p → A) (h2 : p → B) : if (!decide p) = true then A else B := by
  by_cases h : p
  · rw [decide_eq_true h]; exact g_F (h2 h)
  · rw [decide_eq_false h]; exact g_T (h1 h)
theorem g_nsplit {A B : Prop} {k : Bool} (h1 : k = false → A) (h2 : k = true → B) : if (!k) = true then A else B := by
  cases k
  · exact g_Fn (h1 rfl)
  · exact g_Tn (h2 rfl)
/-! loops whose turns don't see what follows -/
theorem for_rangeA {lo : Int} {n : Nat} {g : TG} {tb : TS} (Pv : Nat → L2.St → Hp → Prop) (h0 : Pv 0 σ H)
    (hs : ∀ i σ H (D' : Ends), i < n → Pv i σ H → (∀ σ H, Pv (i + 1) σ H → D'.nx σ H) → (∀ σ H, Pv (i + 1) σ H → D'.ct σ H) → (∀ σ H, D.nx σ H → D'.bk σ H) → D'.rt = D.rt → g (.int (lo + i)) σ H fun σ2 H2 => tb D' σ2 H2) (hd : ∀ σ H, Pv n σ H → D.nx σ H) :
    ∃ W : Nat → Nat → L2.St → Hp → Prop, (∃ m, W 0 m σ H) ∧ ∀ i m σ H, W i m σ H →
      ((Itr lo n).stop i H ∧ D.nx σ H) ∨ ((Itr lo n).go i H ∧ ∃ N : L2.St → Hp → Prop, (∀ σ' H', N σ' H' → ∃ m', m' < m ∧ W (i + 1) m' σ' H') ∧ ∀ x H', (Itr lo n).yld i H x H' → g x σ H' fun σ2 H2 => tb { D with nx := N, ct := N, bk := D.nx } σ2 H2) :=
  for_range Pv h0 (fun i σ H hi p => hs i σ H _ hi p (fun _ _ h => h) (fun _ _ h => h) (fun _ _ h => h) rfl) hd
theorem for_listA {p : Addr} {xs : List V} {g : TG} {tb : TS} (Pv : Nat → L2.St → Hp → Prop) (h0 : Pv 0 σ H) (hl : ∀ i σ H, i ≤ xs.length → Pv i σ H → SqL K H p xs)
    (hs : ∀ i x σ H (D' : Ends), xs[i]? = some x → Pv i σ H → (∀ σ H, Pv (i + 1) σ H → D'.nx σ H) → (∀ σ H, Pv (i + 1) σ H → D'.ct σ H) → (∀ σ H, D.nx σ H → D'.bk σ H) → D'.rt = D.rt → g x σ H fun σ2 H2 => tb D' σ2 H2) (hd : ∀ σ H, Pv xs.length σ H → D.nx σ H) :
    ∃ W : Nat → Nat → L2.St → Hp → Prop, (∃ m, W 0 m σ H) ∧ ∀ i m σ H, W i m σ H →
      ((Itl K p).stop i H ∧ D.nx σ H) ∨ ((Itl K p).go i H ∧ ∃ N : L2.St → Hp → Prop, (∀ σ' H', N σ' H' → ∃ m', m' < m ∧ W (i + 1) m' σ' H') ∧ ∀ x H', (Itl K p).yld i H x H' → g x σ H' fun σ2 H2 => tb { D with nx := N, ct := N, bk := D.nx } σ2 H2) :=
  for_list Pv h0 hl (fun i x σ H hi p => hs i x σ H _ hi p (fun _ _ h => h) (fun _ _ h => h) (fun _ _ h => h) rfl) hd
theorem g_cutA {M : L2.St → Hp → Prop} (h : ∀ D' : Ends, (∀ σ H, M σ H → D'.nx σ H) → D'.rt = D.rt → D'.bk = D.bk → D'.ct = D.ct → ts D' σ H) (k : ∀ σ' H', M σ' H' → tz D σ' H') : Evl.tCut ts tz D σ H :=
  ⟨M, h _ (fun _ _ h => h) rfl rfl rfl, k⟩
/-! stores -/
theorem g_setL {p : Addr} {xs : List V} {n : Nat} {QH : Hp → Prop} (h : H p = some (.lst xs)) (e : ixN xs.length i = some n) (q : QH (upd H p (.lst (xs.set n v)))) : rSetL (.ref p) (.int i) v H QH := ⟨p, xs, i, n, rfl, rfl, h, e, q⟩
theorem g_app {p : Addr} {xs : List V} (h : H p = some (.lst xs)) (hz : xs.length < 10000000) (q : Q .non (upd H p (.lst (xs ++ [v])))) : rAppend (.ref p) [v] H Q := ⟨p, xs, v, rfl, rfl, h, by rw [sizeLine_eq]; omega, q⟩
theorem g_bm {r : V → List V → Hp → VK → Prop} {T : String} (q : ta σ H fun x H1 => tyV K T x H1 ∧ t σ H1 fun xs H2 => r x xs H2 Q) : tBM K T r ta t σ H Q := q
theorem tyL {p : Addr} {xs : List V} (h : H p = some (.lst xs)) : tyV K "list" (.ref p) H := .inl ⟨rfl, xs, SqL.of h⟩
theorem g_tyL {p : Addr} {R : Prop} (q : (∃ xs, H p = some (.lst xs)) ∧ R) : tyV K "list" (.ref p) H ∧ R := ⟨let ⟨_, h⟩ := q.1; tyL h, q.2⟩
end
end Tw

set_option Elab.async false
set_option linter.all false
set_option maxRecDepth 100000
namespace Tw
open PySem L2 PySem.Spec
/-- an iterator that goes through xs -/
structure Fits (J : It) (xs : List V) (H : Hp) : Prop where
  go : ∀ i, i < xs.length → J.go i H
  stop : ∀ i, xs.length ≤ i → J.stop i H
  yld : ∀ i x H', J.yld i H x H' → H' = H ∧ xs[i]? = some x
theorem fits_l {K : PySem.W.Frag} {H : Hp} {a : Addr} {xs : List V} (h : SqL K H a xs) : Fits (Itl K a) xs H :=
  ⟨fun i hi => ⟨xs, xs[i], h, by simp [hi]⟩, fun i hi => ⟨xs, h, hi⟩, fun i x H' y => ⟨y.1, y.2 xs h⟩⟩
theorem fits_t {K : PySem.W.Frag} {H : Hp} {a : Addr} {xs : List V} (h : SqT K H a xs) : Fits (Itt K a) xs H :=
  ⟨fun i hi => ⟨xs, xs[i], h, by simp [hi]⟩, fun i hi => ⟨xs, h, hi⟩, fun i x H' y => ⟨y.1, y.2 xs h⟩⟩
theorem take_flat {F : V → List V} {xs : List V} {i : Nat} {x : V} (h : xs[i]? = some x) : (xs.take (i + 1)).flatMap F = (xs.take i).flatMap F ++ F x := by
  rw [List.take_succ, h, List.flatMap_append]
  simp
theorem flat_le {F : V → List V} {xs : List V} {i : Nat} {x : V} (h : xs[i]? = some x) : ((xs.take i).flatMap F ++ F x).length ≤ (xs.flatMap F).length := by
  rw [← take_flat h]
  conv => rhs; rw [← List.take_append_drop (i + 1) xs]
  rw [List.flatMap_append, List.length_append]
  omega
theorem rng_le {F : Nat → List V} {n : Nat} : ∀ {i : Nat}, i < n → ((List.range i).flatMap F ++ F i).length ≤ ((List.range n).flatMap F).length := by
  intro i h
  have e : (List.range (i + 1)).flatMap F = (List.range i).flatMap F ++ F i := by rw [List.range_succ, List.flatMap_append]; simp
  rw [← e]
  obtain ⟨m, rfl⟩ : ∃ m, n = (i + 1) + m := ⟨n - (i + 1), by omega⟩
  have e2 : List.range (i + 1 + m) = List.range (i + 1) ++ (List.range m).map (i + 1 + ·) := List.range_add
  rw [e2, List.flatMap_append, List.length_append]
  omega
section
variable {J : It} {g g1 : TG} {tt tt1 : TT} {wi1 : TI} {te : TE} {vs vs1 : List Nat} {σ : L2.St} {H1 : Hp} {D : Addr} {Qd : Hp → Prop}
/-- a comprehension with two fors and no ifs: what the inner ones hold, one behind the other -/
theorem lc2_flat (xs : List V) (F : V → List V) (hD : H1 D = none) (hJ : ∀ H, (∀ q o, H1 q = some o → H q = some o) → Fits J xs H) (hlen : (xs.flatMap F).length ≤ 1000000)
    (hs : ∀ x Hh (R : L2.St → It → Hp → Prop) (S : Hp → Prop), x ∈ xs → (∀ q o, H1 q = some o → Hh q = some o) →
      (∀ σ2 J1 H', (∀ q o, Hh q = some o → H' q = some o) → (∀ H'', (∀ q o, q ≠ D → H' q = some o → H'' q = some o) → Fits J1 (F x) H'') →
        (∀ y Hk (R1 : V → Hp → Prop) (S1 : Hp → Prop), y ∈ F x → R1 y Hk → g1 y (wipe σ2 vs1) Hk fun σ3 H5 => wipe σ3 vs1 = wipe σ2 vs1 ∧ tt1 σ3 H5 fun b H6 => if b = true then te σ3 H6 R1 else S1 H6) → R σ2 J1 H') →
      g x (wipe σ vs) Hh fun σ2 H2 => wipe σ2 vs = wipe σ vs ∧ tt σ2 H2 fun b H3 => if b = true then wi1 σ2 H3 (R σ2) else S H3)
    (hd : ∀ H, (∀ q o, H1 q = some o → H q = some o) → H D = some (.lst (xs.flatMap F)) → Qd H) :
    ∃ W : Nat → Nat → Hp → Prop, (∃ m, W 0 m (upd H1 D (.lst []))) ∧ ∀ i m H, W i m H →
      (J.stop i H ∧ Qd H) ∨ (J.go i H ∧ ∃ Nx : Hp → Prop, (∀ H', Nx H' → ∃ m', m' < m ∧ W (i + 1) m' H') ∧ ∀ x H', J.yld i H x H' → g x (wipe σ vs) H' fun σ2 H2 => wipe σ2 vs = wipe σ vs ∧ tt σ2 H2 fun b H3 =>
        if b = true then wi1 σ2 H3 fun J1 H4 => ∃ W1 : Nat → Nat → Hp → Prop, (∃ m, W1 0 m H4) ∧ ∀ j k H, W1 j k H →
          (J1.stop j H ∧ Nx H) ∨ (J1.go j H ∧ ∃ Nx1 : Hp → Prop, (∀ H', Nx1 H' → ∃ k', k' < k ∧ W1 (j + 1) k' H') ∧ ∀ x H', J1.yld j H x H' → g1 x (wipe σ2 vs1) H' fun σ3 H5 => wipe σ3 vs1 = wipe σ2 vs1 ∧ tt1 σ3 H5 fun b H6 =>
            if b = true then te σ3 H6 fun y H7 => ∃ acc, H7 D = some (.lst acc) ∧ acc.length < sizeLine ∧ Nx1 (upd H7 D (.lst (acc ++ [y]))) else Nx1 H6)
        else Nx H3) := by
  refine ⟨fun i m H => m = xs.length - i ∧ i ≤ xs.length ∧ H D = some (.lst ((xs.take i).flatMap F)) ∧ ∀ q o, H1 q = some o → H q = some o, ⟨xs.length, by simp, Nat.zero_le _, upd_same, fun q o h => by rw [upd_ne (ne_of_none h hD)]; exact h⟩, ?_⟩
  rintro i m H ⟨rfl, hi, hDl, hK⟩
  have fi := hJ H hK
  by_cases hlt : i < xs.length
  · refine .inr ⟨fi.go i hlt, fun H' => H' D = some (.lst ((xs.take (i + 1)).flatMap F)) ∧ ∀ q o, H1 q = some o → H' q = some o, fun H' w => ⟨xs.length - (i + 1), by omega, rfl, hlt, w⟩, ?_⟩
    intro x H' hy
    obtain ⟨rfl, hx⟩ := fi.yld i x H' hy
    refine hs x H' (fun σ2 J1 H4 => _) (fun H3 => _) (List.mem_of_getElem? hx) hK fun σ2 J1 H4 ext f1 turn => ?_
    have e1 := take_flat (F := F) hx
    have l1 := flat_le (F := F) hx
    refine ⟨fun j k H => k = (F x).length - j ∧ j ≤ (F x).length ∧ H D = some (.lst ((xs.take i).flatMap F ++ (F x).take j)) ∧ ∀ q o, q ≠ D → H4 q = some o → H q = some o, ⟨(F x).length, by simp, Nat.zero_le _, by rw [ext _ _ hDl, List.take_zero, List.append_nil], fun q o _ h => h⟩, ?_⟩
    rintro j k Hj ⟨rfl, hj, hDj, hKj⟩
    have fj := f1 Hj hKj
    by_cases hjl : j < (F x).length
    · refine .inr ⟨fj.go j hjl, fun H' => H' D = some (.lst ((xs.take i).flatMap F ++ (F x).take (j + 1))) ∧ ∀ q o, q ≠ D → H4 q = some o → H' q = some o, fun H' w => ⟨(F x).length - (j + 1), by omega, rfl, hjl, w⟩, ?_⟩
      intro y Hy hyy
      obtain ⟨rfl, hyx⟩ := fj.yld j y Hy hyy
      refine turn y Hy (fun y H7 => _) (fun H6 => _) (List.mem_of_getElem? hyx) ⟨_, hDj, ?_, ?_, fun q o n h => by rw [upd_ne n]; exact hKj q o n h⟩
      · rw [List.length_append] at l1 ⊢
        have : ((F x).take j).length ≤ (F x).length := by rw [List.length_take]; omega
        rw [sizeLine_eq]
        omega
      · rw [upd_same, List.take_succ, hyx, List.append_assoc]
        rfl
    · have e : j = (F x).length := by omega
      subst e
      refine .inl ⟨fj.stop _ (Nat.le_refl _), ?_, fun q o h => hKj q o (ne_of_none h hD) (ext q o (hK q o h))⟩
      rw [hDj, List.take_length, e1]
  · have e : i = xs.length := by omega
    subst e
    refine .inl ⟨fi.stop _ (Nat.le_refl _), hd H hK ?_⟩
    rw [hDl, List.take_length]
/-- the same, the inner ones told by their places: what the inner ones hold, one behind the other -/
theorem lc2_flatI (xs : List V) (F : Nat → List V) (hD : H1 D = none) (hJ : ∀ H, (∀ q o, H1 q = some o → H q = some o) → Fits J xs H) (hlen : ((List.range xs.length).flatMap F).length ≤ 1000000)
    (hs : ∀ i x Hh (R : L2.St → It → Hp → Prop) (S : Hp → Prop), xs[i]? = some x → Hh D ≠ none → (∀ q o, H1 q = some o → Hh q = some o) →
      (∀ σ2 J1 H', (∀ q o, Hh q = some o → H' q = some o) → (∀ H'', (∀ q o, q ≠ D → H' q = some o → H'' q = some o) → Fits J1 (F i) H'') →
        (∀ y Hk (R1 : V → Hp → Prop) (S1 : Hp → Prop), y ∈ F i → R1 y Hk → g1 y (wipe σ2 vs1) Hk fun σ3 H5 => wipe σ3 vs1 = wipe σ2 vs1 ∧ tt1 σ3 H5 fun b H6 => if b = true then te σ3 H6 R1 else S1 H6) → R σ2 J1 H') →
      g x (wipe σ vs) Hh fun σ2 H2 => wipe σ2 vs = wipe σ vs ∧ tt σ2 H2 fun b H3 => if b = true then wi1 σ2 H3 (R σ2) else S H3)
    (hd : ∀ H, (∀ q o, H1 q = some o → H q = some o) → H D = some (.lst ((List.range xs.length).flatMap F)) → Qd H) :
    ∃ W : Nat → Nat → Hp → Prop, (∃ m, W 0 m (upd H1 D (.lst []))) ∧ ∀ i m H, W i m H →
      (J.stop i H ∧ Qd H) ∨ (J.go i H ∧ ∃ Nx : Hp → Prop, (∀ H', Nx H' → ∃ m', m' < m ∧ W (i + 1) m' H') ∧ ∀ x H', J.yld i H x H' → g x (wipe σ vs) H' fun σ2 H2 => wipe σ2 vs = wipe σ vs ∧ tt σ2 H2 fun b H3 =>
        if b = true then wi1 σ2 H3 fun J1 H4 => ∃ W1 : Nat → Nat → Hp → Prop, (∃ m, W1 0 m H4) ∧ ∀ j k H, W1 j k H →
          (J1.stop j H ∧ Nx H) ∨ (J1.go j H ∧ ∃ Nx1 : Hp → Prop, (∀ H', Nx1 H' → ∃ k', k' < k ∧ W1 (j + 1) k' H') ∧ ∀ x H', J1.yld j H x H' → g1 x (wipe σ2 vs1) H' fun σ3 H5 => wipe σ3 vs1 = wipe σ2 vs1 ∧ tt1 σ3 H5 fun b H6 =>
            if b = true then te σ3 H6 fun y H7 => ∃ acc, H7 D = some (.lst acc) ∧ acc.length < sizeLine ∧ Nx1 (upd H7 D (.lst (acc ++ [y]))) else Nx1 H6)
        else Nx H3) := by
  refine ⟨fun i m H => m = xs.length - i ∧ i ≤ xs.length ∧ H D = some (.lst ((List.range i).flatMap F)) ∧ ∀ q o, H1 q = some o → H q = some o, ⟨xs.length, by simp, Nat.zero_le _, upd_same, fun q o h => by rw [upd_ne (ne_of_none h hD)]; exact h⟩, ?_⟩
  rintro i m H ⟨rfl, hi, hDl, hK⟩
  have fi := hJ H hK
  by_cases hlt : i < xs.length
  · refine .inr ⟨fi.go i hlt, fun H' => H' D = some (.lst ((List.range (i + 1)).flatMap F)) ∧ ∀ q o, H1 q = some o → H' q = some o, fun H' w => ⟨xs.length - (i + 1), by omega, rfl, hlt, w⟩, ?_⟩
    intro x H' hy
    obtain ⟨rfl, hx⟩ := fi.yld i x H' hy
    refine hs i x H' (fun σ2 J1 H4 => _) (fun H3 => _) hx (by rw [hDl]; exact nofun) hK fun σ2 J1 H4 ext f1 turn => ?_
    have e1 : (List.range (i + 1)).flatMap F = (List.range i).flatMap F ++ F i := by rw [List.range_succ, List.flatMap_append]; simp
    have l1 : ((List.range i).flatMap F ++ F i).length ≤ ((List.range xs.length).flatMap F).length := rng_le hlt
    refine ⟨fun j k H => k = (F i).length - j ∧ j ≤ (F i).length ∧ H D = some (.lst ((List.range i).flatMap F ++ (F i).take j)) ∧ ∀ q o, q ≠ D → H4 q = some o → H q = some o, ⟨(F i).length, by simp, Nat.zero_le _, by rw [ext _ _ hDl, List.take_zero, List.append_nil], fun q o _ h => h⟩, ?_⟩
    rintro j k Hj ⟨rfl, hj, hDj, hKj⟩
    have fj := f1 Hj hKj
    by_cases hjl : j < (F i).length
    · refine .inr ⟨fj.go j hjl, fun H' => H' D = some (.lst ((List.range i).flatMap F ++ (F i).take (j + 1))) ∧ ∀ q o, q ≠ D → H4 q = some o → H' q = some o, fun H' w => ⟨(F i).length - (j + 1), by omega, rfl, hjl, w⟩, ?_⟩
      intro y Hy hyy
      obtain ⟨rfl, hyx⟩ := fj.yld j y Hy hyy
      refine turn y Hy (fun y H7 => _) (fun H6 => _) (List.mem_of_getElem? hyx) ⟨_, hDj, ?_, ?_, fun q o n h => by rw [upd_ne n]; exact hKj q o n h⟩
      · rw [List.length_append] at l1 ⊢
        have : ((F i).take j).length ≤ (F i).length := by rw [List.length_take]; omega
        rw [sizeLine_eq]
        omega
      · rw [upd_same, List.take_succ, hyx, List.append_assoc]
        rfl
    · have e : j = (F i).length := by omega
      subst e
      refine .inl ⟨fj.stop _ (Nat.le_refl _), ?_, fun q o h => hKj q o (ne_of_none h hD) (ext q o (hK q o h))⟩
      rw [hDj, List.take_length, e1]
  · have e : i = xs.length := by omega
    subst e
    refine .inl ⟨fi.stop _ (Nat.le_refl _), hd H hK ?_⟩
    exact hDl
/-- a comprehension whose turns leave the heap -/
theorem lc_map (xs : List V) (v : V → V) (hD : H1 D = none) (hJ : ∀ H, (∀ q o, H1 q = some o → H q = some o) → Fits J xs H) (hlen : xs.length ≤ 1000000)
    (hs : ∀ x Hh (R : V → Hp → Prop) (S : Hp → Prop), x ∈ xs → (∀ q o, H1 q = some o → Hh q = some o) → R (v x) Hh →
      g x (wipe σ vs) Hh fun σ2 H2 => wipe σ2 vs = wipe σ vs ∧ tt σ2 H2 fun b H3 => if b = true then te σ2 H3 R else S H3)
    (hd : ∀ H, (∀ q o, H1 q = some o → H q = some o) → H D = some (.lst (xs.map v)) → Qd H) :
    ∃ W : Nat → Nat → Hp → Prop, (∃ m, W 0 m (upd H1 D (.lst []))) ∧ ∀ i m H, W i m H →
      (J.stop i H ∧ Qd H) ∨ (J.go i H ∧ ∃ Nx : Hp → Prop, (∀ H', Nx H' → ∃ m', m' < m ∧ W (i + 1) m' H') ∧ ∀ x H', J.yld i H x H' → g x (wipe σ vs) H' fun σ2 H2 => wipe σ2 vs = wipe σ vs ∧ tt σ2 H2 fun b H3 =>
        if b = true then te σ2 H3 fun y H4 => ∃ acc, H4 D = some (.lst acc) ∧ acc.length < sizeLine ∧ Nx (upd H4 D (.lst (acc ++ [y]))) else Nx H3) := by
  refine ⟨fun i m H => m = xs.length - i ∧ i ≤ xs.length ∧ H D = some (.lst ((xs.take i).map v)) ∧ ∀ q o, H1 q = some o → H q = some o, ⟨xs.length, by simp, Nat.zero_le _, upd_same, fun q o h => by rw [upd_ne (ne_of_none h hD)]; exact h⟩, ?_⟩
  rintro i m H ⟨rfl, hi, hDl, hK⟩
  have fi := hJ H hK
  by_cases hlt : i < xs.length
  · refine .inr ⟨fi.go i hlt, fun H' => H' D = some (.lst ((xs.take (i + 1)).map v)) ∧ ∀ q o, H1 q = some o → H' q = some o, fun H' w => ⟨xs.length - (i + 1), by omega, rfl, hlt, w⟩, ?_⟩
    intro x H' hy
    obtain ⟨rfl, hx⟩ := fi.yld i x H' hy
    refine hs x H' (fun y H4 => _) (fun H3 => _) (List.mem_of_getElem? hx) hK ⟨_, hDl, ?_, ?_, fun q o h => by rw [upd_ne (ne_of_none h hD)]; exact hK q o h⟩
    · rw [List.length_map, List.length_take, sizeLine_eq]
      omega
    · rw [upd_same, List.take_succ, hx, List.map_append]
      rfl
  · have e : i = xs.length := by omega
    subst e
    refine .inl ⟨fi.stop _ (Nat.le_refl _), hd H hK ?_⟩
    rw [hDl, List.take_length]
variable {K : PySem.W.Frag} {Q : VK}
theorem g_lc2 {wi : TI} (q : wi σ H1 fun J H1 => ∀ D, H1 D = none → ∃ W : Nat → Nat → Hp → Prop, (∃ m, W 0 m (upd H1 D (.lst []))) ∧ ∀ i m H, W i m H →
      (J.stop i H ∧ Q (.ref D) H) ∨ (J.go i H ∧ ∃ Nx : Hp → Prop, (∀ H', Nx H' → ∃ m', m' < m ∧ W (i + 1) m' H') ∧ ∀ x H', J.yld i H x H' → g x (wipe σ vs) H' fun σ2 H2 => wipe σ2 vs = wipe σ vs ∧ tt σ2 H2 fun b H3 =>
        if b = true then wi1 σ2 H3 fun J1 H4 => ∃ W1 : Nat → Nat → Hp → Prop, (∃ m, W1 0 m H4) ∧ ∀ j k H, W1 j k H →
          (J1.stop j H ∧ Nx H) ∨ (J1.go j H ∧ ∃ Nx1 : Hp → Prop, (∀ H', Nx1 H' → ∃ k', k' < k ∧ W1 (j + 1) k' H') ∧ ∀ x H', J1.yld j H x H' → g1 x (wipe σ2 vs1) H' fun σ3 H5 => wipe σ3 vs1 = wipe σ2 vs1 ∧ tt1 σ3 H5 fun b H6 =>
            if b = true then te σ3 H6 fun y H7 => ∃ acc, H7 D = some (.lst acc) ∧ acc.length < sizeLine ∧ Nx1 (upd H7 D (.lst (acc ++ [y]))) else Nx1 H6)
        else Nx H3)) : tLc2 wi g tt wi1 g1 tt1 te vs vs1 σ H1 Q := q
end
end Tw

set_option Elab.async false
set_option linter.all false
set_option maxRecDepth 100000
set_option maxHeartbeats 4000000
/-! sets of values of one kind, by the list of their members: made of a list, sorted -/
namespace Tw
open PySem L2 PySem.Spec PyProof.Rows
/-- a list that is an arrangement of mapped things is mapped of an arrangement -/
theorem perm_unmap {α β : Type} {f : α → β} {l : List β} {xs : List α} (p : l.Perm (xs.map f)) : ∃ ys : List α, l = ys.map f ∧ ys.Perm xs := by
  generalize hm : xs.map f = m at p
  induction p generalizing xs with
  | nil =>
    have : xs = [] := List.map_eq_nil_iff.mp hm
    exact ⟨[], rfl, by rw [this]⟩
  | cons b _ ih =>
    cases xs with
    | nil => cases hm
    | cons x xs =>
      injection hm with h1 h2
      obtain ⟨ys, e, p⟩ := ih h2
      exact ⟨x :: ys, by rw [List.map_cons, ← e, h1], p.cons x⟩
  | swap b c l =>
    match xs, hm with
    | x :: y :: r, hm =>
      injection hm with h1 h2
      injection h2 with h2 h3
      exact ⟨y :: x :: r, by rw [List.map_cons, List.map_cons, h1, h2, h3], List.Perm.swap x y r⟩
  | trans _ _ ih1 ih2 =>
    obtain ⟨ys, e, p⟩ := ih2 hm
    obtain ⟨zs, e2, p2⟩ := ih1 e.symm
    exact ⟨zs, e2, p2.trans p⟩
section
variable {P : Program} {w : World} {κ : Type} [DecidableEq κ] {knd : PySem.KeyKind P w κ}
/-- the set at a: its members by key and value, in the order in which its table keeps them -/
def SetL (knd : PySem.KeyKind P w κ) (h : Heap) (a : Addr) (L : List (κ × Value)) : Prop :=
  ∃ o es ep t, h.get? a = some o ∧ o.ExactSet ∧ o.data = .set es ep t ∧ es.toList = L.map (fun p => (knd.hash p.1, p.2)) ∧ (∀ p ∈ L, knd.is p.1 p.2 = true ∧ p.2.scannable = true) ∧ (L.map (·.1)).Nodup ∧
    es.size < scanBound ∧ t.fits es.size = true ∧ Ris t.place.toList ∧ (w.params.followText "set-order" = true ∨ t.led = true)
theorem SetL.at {h h' : Heap} {a : Addr} {L : List (κ × Value)} (S : SetL knd h a L) (k : ∀ o, h.get? a = some o → h'.get? a = some o) : SetL knd h' a L := by
  obtain ⟨o, es, ep, t, g, r⟩ := S
  exact ⟨o, es, ep, t, k o g, r⟩
theorem SetL.len {h : Heap} {a : Addr} {L : List (κ × Value)} (S : SetL knd h a L) : L.length < scanBound := by
  obtain ⟨o, es, ep, t, g, gx, gd, ge, gi, gn, gb, _⟩ := S
  have : es.toList.length = L.length := by rw [ge, List.length_map]
  rw [Array.length_toList] at this
  omega
theorem elems_of {L : List (κ × Value)} (gi : ∀ p ∈ L, knd.is p.1 p.2 = true ∧ p.2.scannable = true) : ElemsOf knd (L.map fun p => (knd.hash p.1, p.2)) := fun e he => by
  obtain ⟨p, hp, rfl⟩ := List.mem_map.mp he
  exact ⟨⟨p.1, (gi p hp).1, rfl⟩, (gi p hp).2⟩
variable {A : Around} {E : Value → Shared → Prop} {s : Shared} {a : Addr}
/-- the table laid anew and kept -/
theorem keep_laid {o : Obj} {es : Array (Int × Value)} {ep : Nat} {t : SetTable} (g : s.heap.get? a = some o) (gx : o.ExactSet) (gd : o.data = .set es ep t) {es2 : Array (Int × Value)} {t2 : SetTable} {L2' : List (κ × Value)}
    (ge : es2.toList = L2'.map (fun p => (knd.hash p.1, p.2))) (gi : ∀ p ∈ L2', knd.is p.1 p.2 = true ∧ p.2.scannable = true) (gn : (L2'.map (·.1)).Nodup) (gb : es2.size < scanBound) (gf : t2.fits es2.size = true) (gr : Ris t2.place.toList)
    (gl : w.params.followText "set-order" = true ∨ t2.led = true) {Q : Unit → Shared → Prop} (hQ : ∀ h', Heap.SameBut a s.heap h' → (∃ o', h'.get? a = some o' ∧ o'.ExactSet ∧ o'.data = .set es2 (ep + 1) t2) → SetL knd h' a L2' → Q () { s with heap := h' }) :
    wpAny (model P w) A (storeSet a es2 t2) Q E s := by
  refine wpAny_storeSet_of g gd ?_ (fits_of_scanBound gb)
  have g2 := store_at (es' := es2) (t' := t2) g gd
  exact hQ _ (Heap.SameBut.update s.heap a (Obj.putSet es2 t2)) ⟨_, g2, gx, rfl⟩ ⟨_, es2, _, t2, g2, gx, rfl, ge, gi, gn, gb, gf, gr, gl⟩
/-- a table that has been laid is kept, and laid out wider where it is too full -/
theorem keep_wide {o : Obj} {es : Array (Int × Value)} {ep : Nat} {t : SetTable} (g : s.heap.get? a = some o) (gx : o.ExactSet) (gd : o.data = .set es ep t) {es2 : Array (Int × Value)} {t2 : SetTable} {M : List (κ × Value)}
    (ge : es2.toList = M.map (fun p => (knd.hash p.1, p.2))) (gi : ∀ p ∈ M, knd.is p.1 p.2 = true ∧ p.2.scannable = true) (gn : (M.map (·.1)).Nodup) (gb : es2.size < scanBound) (gf : t2.fits es2.size = true) (gr : Ris t2.place.toList)
    (gl : w.params.followText "set-order" = true ∨ t2.led = true) {was : Bool} {told : Bool → Sem Unit} (ht : ∀ (b : Bool) (s1 : Shared) (Q1 : Unit → Shared → Prop), Q1 () s1 → wpAny (model P w) A (told b) Q1 E s1) {Q : Option Bool → Shared → Prop}
    (hQ : ∀ h' M', Heap.SameBut a s.heap h' → SetL knd h' a M' → M'.Perm M → Q (some true) { s with heap := h' }) :
    wpAny (model P w) A (storeSet a es2 t2 >>= fun _ => if (!was && t2.tooFull) = true then told (relayAll t2 es2 (SetTable.grown es2.size)).2.2 >>= fun _ => storeSet a (relayAll t2 es2 (SetTable.grown es2.size)).1 (relayAll t2 es2 (SetTable.grown es2.size)).2.1 >>= fun _ => pure (some true) else pure (some true)) Q E s := by
  refine wpAny_bind (keep_laid g gx gd ge gi gn gb gf gr gl fun h1 sb1 ⟨o1, g1, gx1, gd1⟩ S1 => ?_)
  by_cases full : (!was && t2.tooFull) = true
  · rw [if_pos full]
    have p1 := relayAll_perm t2 es2 (SetTable.grown es2.size)
    have p2 := relayAll_fits t2 es2 (SetTable.grown es2.size)
    have p3 := relayAll_ris t2 es2 (SetTable.grown es2.size)
    have p4 := relayAll_led t2 es2 (SetTable.grown es2.size)
    rw [ge] at p1
    obtain ⟨M', e', pm⟩ := perm_unmap p1
    have sz : (relayAll t2 es2 (SetTable.grown es2.size)).1.size < scanBound := by
      have q := congrArg List.length e'
      rw [Array.length_toList, List.length_map, pm.length_eq] at q
      have q2 := congrArg List.length ge
      rw [Array.length_toList, List.length_map] at q2
      omega
    refine wpAny_bind (ht _ _ _ ?_)
    refine wpAny_bind (keep_laid (s := { s with heap := h1 }) g1 gx1 gd1 e' (fun p hp => gi p (pm.mem_iff.mp hp)) ((pm.map _).nodup_iff.mpr gn) sz p2 p3 (gl.imp id fun z => by rw [p4]; exact z) fun h2 sb2 _ S2 => ?_)
    exact wpAny_pure (hQ h2 M' (sb1.trans sb2) S2 pm)
  · rw [if_neg full]
    exact wpAny_pure (hQ h1 M sb1 S1 (List.Perm.refl M))
/-- one more member -/
theorem set_one_more {L : List (κ × Value)} (S : SetL knd s.heap a L) {k : κ} {v : Value} (hk : knd.is k v = true) (hv : v.scannable = true) (room : L.length + 1 < scanBound) {Q : Bool → Shared → Prop}
    (hQ : ∀ h' L' b, Heap.SameBut a s.heap h' → SetL knd h' a L' → (∀ j, j ∈ L'.map (·.1) ↔ j ∈ L.map (·.1) ∨ j = k) → L'.length ≤ L.length + 1 → Q b { s with heap := h' }) :
    wpAny (model P w) A (setAddHashed a v (knd.hash k)) Q E s := by
  obtain ⟨o, es, ep, t, g, gx, gd, ge, gi, gn, gb, gf, gr, gl⟩ := id S
  have el : ElemsOf knd es.toList := by rw [ge]; exact elems_of gi
  unfold setAddHashed setAddHashedIn
  refine wpAny_holding ?_
  refine wpAny_bind (wpAny_setState_of g gd gf ?_)
  dsimp only
  rw [byScan_of hv gb el, if_pos rfl]
  refine wpAny_bind ?_
  unfold setAddByScan
  refine wpAny_bind (wpAny_rule ?_)
  refine wpAny_bind (wpAny_setScan_of hk g gd gf el ?_)
  cases hf : es.toList.findIdx? (fun e => knd.is k e.2) with
  | some j =>
    dsimp only
    have hin : k ∈ L.map (·.1) := by
      obtain ⟨hj, pj, _⟩ := List.findIdx?_eq_some_iff_getElem.mp hf
      have hm : es.toList[j] ∈ L.map (fun p => (knd.hash p.1, p.2)) := by rw [← ge]; exact List.getElem_mem hj
      obtain ⟨p, hp, e⟩ := List.mem_map.mp hm
      have pj' : knd.is k p.2 = true := by rw [← e] at pj; exact pj
      exact List.mem_map.mpr ⟨p, hp, knd.inj p.2 _ _ (gi p hp).1 pj'⟩
    exact wpAny_pure (wpAny_pure (hQ s.heap L false (Heap.SameBut.refl a s.heap) S (fun i => ⟨.inl, fun z => z.elim id fun e => by rw [e]; exact hin⟩) (Nat.le_succ _)))
  | none =>
    dsimp only
    have out : k ∉ L.map (·.1) := fun z => by
      obtain ⟨p, hp, e⟩ := List.mem_map.mp z
      have c := List.findIdx?_eq_none_iff.mp hf (knd.hash p.1, p.2) (by rw [ge]; exact List.mem_map.mpr ⟨p, hp, rfl⟩)
      have c' : knd.is k p.2 = false := c
      rw [← e, (gi p hp).1] at c'
      cases c'
    have gave : ∀ (b : Bool) (s1 : Shared) (Q1 : Unit → Shared → Prop), Q1 () s1 → wpAny (model P w) A (match b with | true => rule "set.scan.the-table-gave-way" | false => pure ()) Q1 E s1 := by
      intro b s1 Q1 q
      cases b
      · exact wpAny_pure q
      · exact wpAny_rule q
    have l1 := layNew_perm t es (knd.hash k) v
    have l2 := layNew_fits t es (knd.hash k) v
    have l3 := layNew_ris t es (knd.hash k) v gr
    have l4 := layNew_led t es (knd.hash k) v
    generalize layNew t es (knd.hash k) v = Z at l1 l2 l3 l4 ⊢
    obtain ⟨es1, t1, was, gv⟩ := Z
    dsimp only at l1 l2 l3 l4 ⊢
    have l1' : es1.toList.Perm (((k, v) :: L).map fun p => (knd.hash p.1, p.2)) := by
      rw [Array.toList_push, ge] at l1
      exact l1.trans (List.perm_append_singleton _ _)
    obtain ⟨M, em, pm⟩ := perm_unmap l1'
    have gi1 : ∀ p ∈ M, knd.is p.1 p.2 = true ∧ p.2.scannable = true := fun p hp => by
      rcases List.mem_cons.mp (pm.mem_iff.mp hp) with z | z
      · rw [z]; exact ⟨hk, hv⟩
      · exact gi p z
    have gn1 : (M.map (·.1)).Nodup := (pm.map _).nodup_iff.mpr (List.nodup_cons.mpr ⟨out, gn⟩)
    have sz : es1.size = L.length + 1 := by
      have q := congrArg List.length em
      rw [Array.length_toList, List.length_map, pm.length_eq] at q
      exact q
    have ld : w.params.followText "set-order" = true ∨ t1.led = true := gl.imp id fun z => by rw [l4]; exact z
    have fin : ∀ h' M', Heap.SameBut a s.heap h' → SetL knd h' a M' → M'.Perm M → Q true { s with heap := h' } := fun h' M' sb S' pm' => by
      refine hQ h' M' true sb S' (fun j => ?_) ?_
      · rw [((pm'.trans pm).map (·.1)).mem_iff, List.map_cons, List.mem_cons]
        exact Or.comm
      · rw [(pm'.trans pm).length_eq]; exact Nat.le_refl _
    refine wpAny_bind (gave _ _ _ ?_)
    have told : ∀ (b : Bool) (s1 : Shared) (Q1 : Unit → Shared → Prop), Q1 () s1 → wpAny (model P w) A (match b with | true => rule "set.scan.the-table-gave-way" | false => pure ()) Q1 E s1 := gave
    by_cases pl : t1.plain = true
    · rw [if_pos pl]
      refine wpAny_bind ?_
      rw [hashByValue_scannable 8 hv]
      refine wpAny_pure ?_
      cases plainKind v with
      | true => exact keep_wide g gx gd em gi1 gn1 (by rw [sz]; exact room) l2 l3 ld told fun h' M' sb S' pm' => wpAny_pure (fin h' M' sb S' pm')
      | false => exact keep_wide g gx gd em gi1 gn1 (by rw [sz]; exact room) (SetTable.fits_plain_off l2) l3 ld told fun h' M' sb S' pm' => wpAny_pure (fin h' M' sb S' pm')
    · rw [if_neg pl]
      refine wpAny_bind (wpAny_pure ?_)
      exact keep_wide g gx gd em gi1 gn1 (by rw [sz]; exact room) l2 l3 ld told fun h' M' sb S' pm' => wpAny_pure (fin h' M' sb S' pm')
end
end Tw

set_option Elab.async false
set_option linter.all false
set_option maxRecDepth 100000
set_option maxHeartbeats 4000000
namespace Tw
open PySem L2 PySem.Spec PyProof.Rows
section
variable {prog : Program} {w : World} {A : Around} {R : Result → Shared → Prop} {I : Addr} {fp wr : List Addr} {G : Array GenState → Array GenState → Prop} {n : Nat} {Pw : Nat → Value → Prop} {St : Nat → Shared → Prop}
/-- the set at a holds just these texts -/
def Holds (prog : Program) (w : World) (h : Heap) (a : Addr) (xs : List Str) : Prop := ∃ L, SetL (PySem.strKind prog w) h a L ∧ (∀ j, j ∈ L.map (·.1) ↔ j ∈ xs) ∧ L.length ≤ xs.length
/-- the texts that are walked all come in -/
theorem all_come_in (W : WalksS prog w A.in1 I fp wr G n Pw St) (S : Addr) (off : S ∉ fp) (xs : List Str) (hn : xs.length = n) (few : n + 1 < scanBound) (gives : ∀ i v, Pw i v → ∃ t, v = .str (xs.getD i Str.empty) t) :
    ∀ (m i : Nat) (s : Shared), i + m = n → St i s → Holds prog w s.heap S (xs.take i) → (∀ s', Moved (S :: wr) G s s' → Holds prog w s'.heap S xs → R (.ok (.ret .none)) s') →
      codeAny (model prog w) A (.builtin "set.update.loop" ⟨[.ref S, .ref I], []⟩) R s := by
  have offw : S ∉ wr := fun z => off (W.sub _ z)
  have more : ∀ b ∈ wr, b ∈ S :: wr := fun b z => List.mem_cons_of_mem _ z
  intro m
  induction m with
  | zero =>
    intro i s him st hS fin
    have e : i = n := by omega
    subst e
    refine codeAny_builtin PyProof.Rows.F.entry_set_update_loop ?_
    rw [Around.under_plainId PyProof.Rows.F.plain_set_update_loop _]
    show wpAny _ A.in1 (pyNext (.ref I) >>= _) _ _ s
    refine wpAny_bind (W.done s _ _ st fun s1 mv => ?_)
    show wpAny _ A.in1 (ret Value.none) _ _ s1
    obtain ⟨L, hL, mem, len⟩ := hS
    rw [← hn, List.take_length] at mem len
    exact wpAny_pure (fin s1 (mv.mono more) ⟨L, hL.at fun o g => mv.heap S o offw g, mem, len⟩)
  | succ m ih =>
    intro i s him st hS fin
    refine codeAny_builtin PyProof.Rows.F.entry_set_update_loop ?_
    rw [Around.under_plainId PyProof.Rows.F.plain_set_update_loop _]
    show wpAny _ A.in1 (pyNext (.ref I) >>= _) _ _ s
    refine wpAny_bind (W.item i s _ _ (by omega) st fun v s1 hv st1 mv => ?_)
    obtain ⟨t, rfl⟩ := gives i v hv
    obtain ⟨L, hL, mem, len⟩ := hS
    have hL1 : SetL (PySem.strKind prog w) s1.heap S L := hL.at fun o g => mv.heap S o offw g
    have hx : xs[i]? = some (xs.getD i Str.empty) := by rw [List.getD_eq_getElem?_getD, List.getElem?_eq_getElem (show i < xs.length by omega)]; rfl
    generalize hz : xs.getD i Str.empty = z at hx ⊢
    have tk : xs.take (i + 1) = xs.take i ++ [z] := by rw [List.take_succ, hx]; rfl
    have lt : (xs.take i).length = i := by rw [List.length_take]; omega
    show wpAny _ A.in1 (holding [Value.str z t] (setAdd S (.str z t)) >>= _) _ _ s1
    refine wpAny_bind (wpAny_holding ?_)
    unfold setAdd
    refine wpAny_holding (wpAny_bind ((PySem.strKind prog w).pyHash (k := z) (strKind_is _ _ _ _) ?_))
    refine set_one_more (s := { s1 with toks := s1.toks + 1 }) hL1 (k := z) (strKind_is _ _ _ _) rfl (by omega) fun h2 L2' b sb hL2 mem2 len2 => ?_
    have go : ∀ s2 : Shared, s2 = { s1 with toks := s1.toks + 1, heap := h2 } → codeAny (model prog w) A (.builtin "set.update.loop" ⟨[.ref S, .ref I], []⟩) R s2 := fun s2 e => by
      subst e
      refine ih (i + 1) _ (by omega) (W.frame _ s1 _ _ st1 (Nat.le_succ _) fun b hb o g => ?_) ⟨L2', hL2, fun j => ?_, ?_⟩ fun s3 mv3 hS3 => ?_
      · exact (sb.2 b (fun z => off (by rw [← z]; exact hb))).trans g
      · rw [mem2, mem, tk, List.mem_append, List.mem_singleton]
      · rw [tk, List.length_append, List.length_singleton, lt]; rw [lt] at len; omega
      · refine fin s3 (Moved.trans W.gtrans ((mv.mono more).then_heap (Nat.le_succ _) fun b o hb g => ?_) mv3) hS3
        exact (sb.2 b (fun z => hb (by rw [z]; exact List.mem_cons_self))).trans g
    exact wpAny_pure ⟨plainId_quiet PyProof.Rows.F.plain_set_update_loop _, go _ rfl⟩
end
section
variable {prog : Program} {w : World} {A : Around} {E : Value → Shared → Prop} {s : Shared}
/-- an empty set just laid -/
abbrev bareSet (w : World) : Obj := { cls := .type "set", dict := none, data := .set #[] 0 (.fresh 0 0 (!w.params.followText "set-order")) }
theorem bare_holds {h : Heap} {a : Addr} (g : h.get? a = some (bareSet w)) : Holds prog w h a [] := by
  refine ⟨[], ⟨_, #[], 0, _, g, ⟨rfl, rfl, rfl⟩, rfl, rfl, (fun p hp => nomatch hp), List.nodup_nil, by decide, by rfl, List.Pairwise.nil, ?_⟩, fun j => Iff.rfl, Nat.le_refl _⟩
  show _ ∨ (!w.params.followText "set-order") = true
  cases w.params.followText "set-order"
  · exact .inr rfl
  · exact .inl rfl
/-- set.__init__(S, xs) on a bare set -/
theorem init_from_list {S l : Addr} {items : Array Value} {xs : List Str} (hh : A.handled = none) (hS : s.heap.get? S = some (bareSet w)) (hl : s.heap.IsList l items) (ne : S ≠ l) (hi : PyProof.Rows.StrsAre items.toList xs) (few : xs.length + 1 < scanBound) {Q : Value → Shared → Prop}
    (h : ∀ (h' : Heap) (tk : Nat), Holds prog w h' S xs → (∀ b o, b ≠ S → s.heap.get? b = some o → h'.get? b = some o) → Q .none { s with heap := h', toks := tk }) :
    codeAny (model prog w) A (.call (.builtin "set.__init__") ⟨[.ref S, .ref l], []⟩) (wants Q E) s := by
  have tS : s.TypeIs (.ref S) "set" := ⟨_, hS, rfl⟩
  refine codeAny_call_builtin PySem.F.called_set.init.plain PySem.F.entry_set_init (check_set_init_1 tS ?_)
  obtain ⟨ol, hol, hcl, nl, hdl⟩ := id hl
  obtain ⟨ocls, odict, odata, oslots⟩ := ol
  simp only at hcl hdl
  subst hcl; subst hdl
  have f1 := PySem.F.sub_list_set
  have f2 := PySem.F.sub_list_frozenset
  have f3 : (Value.type "list" == Value.type "dict") = false := by decide
  unfold Builtin.«set.__init__» noKeywords Builtin.Frozenset.updateFrom
  generalize hPI : pyIter = PI
  wp_walk
  subst hPI
  refine wpAny_pyIter_list hl ?_
  refine wpAny_bind (wpAny_runValue ?_)
  have lS : l < s.heap.objs.size := Heap.lt_size hol
  have sS : S < s.heap.objs.size := Heap.lt_size hS
  have quiet : A.in1.in1.handled = none := by simp [hh]
  have sz : xs.length = items.size := by rw [← StrsAre.len_eq hi, Array.length_toList]
  have gv : ∀ (i : Nat) (v : Value), items[i]? = some v → ∃ t, v = .str (xs.getD i Str.empty) t := fun i v hv => SS.strs_at hi i v (by rw [Array.getElem?_toList]; exact hv)
  refine all_come_in ((Walks.list quiet s.heap.objs.size l (Nat.ne_of_lt lS) items).toS) S ?_ xs sz (by omega) gv items.size 0 _ (by omega) ?_ ?_ fun s1 mv hH => ?_
  · intro z
    rcases List.mem_cons.mp z with z | z
    · exact absurd z (Nat.ne_of_lt sS)
    · exact ne (List.mem_singleton.mp z)
  · exact ⟨⟨_, Heap.get?_push_size _ rfl, rfl, rfl⟩, hl.push _⟩
  · exact bare_holds (Heap.get?_push_of_some _ hS)
  · obtain ⟨h1, g1, d1, k1, o1⟩ := s1
    have e1 : g1 = s.gens := mv.gens
    have e2 : d1 = s.drawn := mv.drawn
    have e3 : o1 = s.os := mv.os
    subst e1; subst e2; subst e3
    refine wpAny_pure ?_
    show wpAny _ _ (ret Value.none) _ _ _
    refine wpAny_pure (h h1 k1 hH fun b o nb g => mv.heap b o ?_ (Heap.get?_push_of_some _ g))
    intro z
    rcases List.mem_cons.mp z with z | z
    · exact nb z
    · exact absurd (List.mem_singleton.mp z) (Nat.ne_of_lt (Heap.lt_size g))
/-- set(xs), xs a list of texts -/
theorem set_of_texts {l : Addr} {items : Array Value} {xs : List Str} {Q : Value → Shared → Prop} (hh : A.handled = none) (hl : s.heap.IsList l items) (hi : PyProof.Rows.StrsAre items.toList xs) (few : xs.length + 1 < scanBound)
    (h : ∀ (h' : Heap) (tk : Nat), Holds prog w h' s.heap.objs.size xs → (∀ b o, s.heap.get? b = some o → h'.get? b = some o) → Q (.ref s.heap.objs.size) { s with heap := h', toks := tk }) :
    wpAny (model prog w) A (call (.type "set") [.ref l]) Q E s := by
  obtain ⟨c, tl, hmro⟩ := PySem.F.called_set.mro
  have made := PySem.F.called_set.made
  have subs := PySem.F.called_set.sub
  have noTy := PySem.F.called_set.notType
  have canC := PySem.F.called_set.canCreate
  have tcal := PySem.F.typeCall_set_1 (.ref l)
  refine wpAny_call (codeAny_of_tree ?_)
  show wpAny _ _ (callAny (.type "set") _) _ _ _
  refine wpAny_pure ⟨Code.quiet_builtin _ (by decide +kernel), codeAny_builtin PySem.F.entry_type_call ?_⟩
  rw [Around.under_plain (weight_type_call_type "set" [.ref l] []) rfl]
  repeat (any_goals (first | assumption | wp_step))
  refine codeAny_mono (code_set_led1 (.ref l) (E := E) (Q₁ := fun ob s1 => ob = .ref s.heap.objs.size ∧ s1 = { s with heap := s.heap.push (bareSet w) }) ⟨rfl, rfl⟩) fun r s1 hr => ?_
  cases r with
  | error e => exact hr
  | ok fl =>
    cases fl with
    | ret ob =>
      obtain ⟨rfl, rfl⟩ := hr
      have gS : (s.heap.push (bareSet w)).get? s.heap.objs.size = some (bareSet w) := Heap.get?_push_size _ rfl
      have tS : Shared.TypeIs { s with heap := s.heap.push (bareSet w) } (.ref s.heap.objs.size) "set" := ⟨_, gS, rfl⟩
      have il := PySem.F.called_set.init.lookup
      have ib := PySem.F.called_set.init.bind (.ref s.heap.objs.size)
      repeat (any_goals (first | assumption | wp_step))
      obtain ⟨ol, hol, _⟩ := id hl
      have lS : l < s.heap.objs.size := Heap.lt_size hol
      refine codeAny_mono (init_from_list (prog := prog) (w := w) (E := E) (s := { s with heap := s.heap.push (bareSet w) }) (xs := xs) (Q := fun r s2 => r = .none ∧ ∃ h' tk, s2 = { s with heap := h', toks := tk } ∧ Holds prog w h' s.heap.objs.size xs ∧ ∀ b o, s.heap.get? b = some o → h'.get? b = some o) ?_ gS (hl.push _) (Nat.ne_of_gt lS) hi few fun h' tk hH k => ⟨rfl, h', tk, rfl, hH, fun b o g => k b o (Nat.ne_of_lt (Heap.lt_size g)) (Heap.get?_push_of_some _ g)⟩) fun r2 s2 hr2 => ?_
      · simp [hh]
      · cases r2 with
        | error e => exact hr2
        | ok fl2 =>
          cases fl2 with
          | ret r =>
            obtain ⟨rfl, h', tk, rfl, hH, k⟩ := hr2
            repeat (any_goals (first | assumption | wp_step))
            exact h _ _ hH k
          | _ => exact hr2.elim
    | _ => exact hr.elim
end
end Tw

set_option Elab.async false
set_option linter.all false
set_option maxRecDepth 100000
set_option maxHeartbeats 4000000
namespace Tw
open PySem L2 PySem.Spec PyProof.Rows
section
variable {prog : Program} {w : World} {A : Around} {E : Value → Shared → Prop} {s : Shared}
theorem list_sort_texts {a : Addr} {vs : List Value} {ss : List Str} {n : Nat} {P : Fin → Shared → Prop} (ho : s.heap.get? a = some (seqObj "list" vs.toArray n)) (hS : StrsAre vs ss) (hL : vs.length ≤ sizeLine)
    (h : ∀ (out : Array Value) (ss' : List Str), StrsAre out.toList ss' → ss'.Perm ss → sortedS ss' = true → P (.done (.ret .none)) { s with heap := sortedHeap s.heap a vs out }) :
    wpAny (model prog w) A (Builtin.«list.sort» ⟨[.ref a], []⟩) P E s := by
  refine list_sort_treeKAny strKind_oneLt ho hS.keysOf (fun v₁ v₂ rest e => keyKind_strs (by rw [← e]; exact hS)) hL fun st' hp hs => ?_
  obtain ⟨ss', h1, h2, h3⟩ := sorted_out_str hS hp hs
  exact h _ ss' h1 h2 h3
theorem strs_of_keys : ∀ {M : List (Str × Value)}, (∀ p ∈ M, (PySem.strKind prog w).is p.1 p.2 = true) → StrsAre (M.map (·.2)) (M.map (·.1))
  | [], _ => .nil
  | p :: M, h => by
    have hp := h p List.mem_cons_self
    obtain ⟨x, v⟩ := p
    have : ∃ t, v = .str x t := Value.isStrOf_shape hp
    obtain ⟨t, rfl⟩ := this
    exact .cons x t (strs_of_keys fun q hq => h q (List.mem_cons_of_mem _ hq))
/-- sorted(a), a a set of texts -/
theorem sorted_of_texts {a : Addr} {xs : List Str} {Q : Value → Shared → Prop} (hH : Holds prog w s.heap a xs) (hh : A.handled = none)
    (hQ : ∀ s' p (out : Array Value) (c : Nat) (zs : List Str), (∀ b o, s.heap.get? b = some o → s'.heap.get? b = some o) → s'.gens = s.gens → s'.os = s.os → s.heap.objs.size ≤ p →
      s'.heap.get? p = some (seqObj "list" out c) → StrsAre out.toList zs → sortedS zs = true → zs.Nodup → (∀ k, k ∈ zs ↔ k ∈ xs) → zs.length ≤ sizeLine → Q (.ref p) s') :
    wpAny (model prog w) A (call (.builtin "sorted") [.ref a]) Q E s := by
  obtain ⟨L, ⟨o, es, ep, t, ho, hex, hd, ge, gi, nd, hb, hf, hr, hl⟩, hm, hn⟩ := hH
  refine Calls.call_function_entry kind_sorted plain_sorted entry_sorted (args_sorted1 _) ?_
  unfold Builtin.«sorted»
  refine wpAny_bind (m := checkCount "sorted" 1 1 _) (wpAny_pure ?_)
  refine wpAny_bind (collect_set (A := A.in1) hh ⟨o, ho, hex.1, hd⟩ hf hb hr hl fun s1 vs k1 hz g1 o1 pm => ?_)
  have ge2 : es.toList.map (·.2) = L.map (·.2) := by rw [ge, List.map_map]; rfl
  rw [ge2] at pm
  obtain ⟨M, rfl, pM⟩ := perm_unmap pm
  have kM : ∀ p ∈ M, (PySem.strKind prog w).is p.1 p.2 = true := fun p hp => (gi p (pM.mem_iff.mp hp)).1
  have hS := strs_of_keys kM
  have hlen : M.length = es.size := by rw [pM.length_eq, ← Array.length_toList, ge, List.length_map]
  have hsl : (M.map (·.2)).length ≤ sizeLine := by
    rw [List.length_map, hlen]
    exact Nat.le_of_lt (Nat.lt_of_lt_of_le hb (by decide))
  refine wpAny_bind (wpAny_newList ?_ hsl)
  have hoL : (s1.heap.push (seqObj "list" (M.map (·.2)).toArray 0)).get? s1.heap.objs.size = some (seqObj "list" (M.map (·.2)).toArray 0) := Heap.get?_push_size _ rfl
  refine wpAny_bind (wpAny_holding (wpAny_call_entry slot_list_sort ⟨_, hoL, rfl⟩ entry_list_sort (list_sort_texts hoL hS hsl fun out zs a1 a2 a3 => ⟨_, rfl, ?_⟩) (args_list_sort _)))
  obtain ⟨c, hc⟩ := sortedHeap_at (vs := M.map (·.2)) (out := out) hoL
  have pn : zs.Perm (L.map (·.1)) := a2.trans (pM.map _)
  refine wpAny_pure ⟨_, rfl, hQ _ s1.heap.objs.size out c zs (fun b u e => ?_) g1 o1 hz hc a1 a3 (pn.nodup_iff.mpr nd) (fun k => by rw [pn.mem_iff, hm k]) ?_⟩
  · have q := k1 b u e
    have hlt := Heap.lt_size q
    show (sortedHeap (s1.heap.push (seqObj "list" (M.map (·.2)).toArray 0)) s1.heap.objs.size (M.map (·.2)) out).get? b = some u
    rw [sortedHeap_old (Nat.ne_of_lt hlt) (by rw [size_push']; exact Nat.lt_succ_of_lt hlt)]
    exact Heap.get?_push_of_some _ q
  · rw [pn.length_eq, List.length_map]
    rw [List.length_map, pM.length_eq] at hsl
    exact hsl
end
section
variable {X : Cx}
/-- sorted(set(xs)), xs a list of texts: a new list, each text once, in order -/
def tSortedSet (K : PySem.W.Frag) (ta : TE) : TE := fun σ H Q => ta σ H fun x H1 => ∃ (l : Addr) (xs : List Str), x = .ref l ∧ SqL K H1 l (xs.map V.str) ∧ xs.length + 1 < scanBound ∧
  ∀ (zs : List Str) (p : Addr), sortedS zs = true → zs.Nodup → (∀ k, k ∈ zs ↔ k ∈ xs) → H1 p = none → Q (.ref p) (upd H1 p (.lst (zs.map V.str)))
theorem pe_sortedSet {K : PySem.W.Frag} {a : Expr} {ta : TE} {p p2 q pos : Pos} (hK : X.K = K) (hc : X.calm = true) (hg : Gl X "sorted") (hm : X.mg "sorted" = none) (hg2 : Gl X "set") (hm2 : X.mg "set" = none) (ha : PE X a ta)
    (na : starEach [a] X.env = (false, eval a X.env) :: starEach [] X.env := by rfl) : PE X (.Call (.Name "sorted" p) [.Call (.Name "set" p2) [a] [] q] [] pos) (tSortedSet K ta) := by
  subst hK
  refine ⟨fun pins s σ H Q I h => ?_⟩
  refine Call_ (ld_blt I hg hm boot_sorted ?_)
  refine PyProof.Rows.callWith_builtin1 (PyProof.Rows.args_cons ?_ rfl) rfl rfl
  refine Call_ (ld_blt I hg2 hm2 boot_set ?_)
  refine PyProof.Rows.callWith_type1 (PyProof.Rows.args_cons (thn (ha.run pins s σ H _ I h) fun v s1 ⟨x, H1, I1, r1, q1⟩ => PyProof.Rows.args_nil ?_) na) na rfl
  obtain ⟨l, xs, rfl, hq, h1, q1⟩ := q1
  cases r1
  obtain ⟨its, r, pl, hz⟩ := I1.list hq
  refine set_of_texts (I1.ok.hd hc) pl.isList (by simpa using strsAre_of r) h1 fun h' tk hS hk => ?_
  refine PyProof.Rows.args_nil ?_
  have I2 : Inv X pins σ H1 { s1 with heap := h', toks := tk } := I1.kept fun b o e => hk b o e
  refine sorted_of_texts hS (I2.ok.hd hc) fun s' p out c zs k g o hp hg so ord nd hm hl => ?_
  have hlen : (zs.map V.str).length ≤ sizeLine := by rw [List.length_map]; exact hl
  have hn : H1 p = none := I2.hok.fresh hp
  have J : Inv X pins σ (upd H1 p (.lst (zs.map V.str))) { ({ s1 with heap := h', toks := tk } : Shared) with heap := s'.heap, gens := s'.gens, drawn := s'.drawn, toks := s'.toks } :=
    I2.call (ch := []) (Un.laid k hp hn) (I2.hok.laid k hp ⟨hlen, out.toList, c, vals_of_strs so, hg⟩) (by rw [g]; exact I2.bare) (fun _ z => nomatch z)
  have e : s' = { ({ s1 with heap := h', toks := tk } : Shared) with heap := s'.heap, gens := s'.gens, drawn := s'.drawn, toks := s'.toks } := by
    cases s'
    cases s1
    cases o
    rfl
  rw [e]
  exact ⟨.ref p, _, J, rfl, q1 zs p ord nd hm hn⟩
end
end Tw

set_option Elab.async false
set_option linter.all false
set_option maxRecDepth 100000
namespace Tw
open PySem L2 PySem.Spec
/-- the address that a name of the text stands for -/
def cadr (mg : Str → Option Value) (x : Str) : Addr := match mg x with
  | some (.ref a) => a
  | _ => 0
theorem cadr_of {mg : Str → Option Value} {x : Str} {a : Addr} (h : mg x = some (.ref a)) : cadr mg x = a := by
  unfold cadr
  rw [h]
/-- a method of a class of the text with its promise -/
structure DefM (P : Program) (w : World) (K : PySem.W.Frag) (mg : Str → Option Value) (base : Heap) (k : Nat) (C : Addr) (m : Str) (ps : List Str) (sp : Sp) : Prop where
  ex : ∃ (f : Addr) (fd : FuncData), FnOk P w K mg base CX0 k f fd ps sp ∧ Meth K C m f ∧ Binds K fd ps []
/-- where a method of the text stands -/
structure HereM (K : PySem.W.Frag) (C : Addr) (m qual : Str) (st : Stmt) (ps : List Str) (f : Addr) (fd : FuncData) : Prop where
  fn : Fun K m qual st f fd
  me : Meth K C m f
  bd : Binds K fd ps []
/-- a maker of a class of the text with its promise -/
structure DefC (P : Program) (w : World) (K : PySem.W.Frag) (mg : Str → Option Value) (base : Heap) (k : Nat) (C : Addr) (ps : List Str) (sp : Sp) : Prop where
  ex : ∃ (f : Addr) (fd : FuncData), FnOk P w K mg base CX0 k f fd ps sp ∧ Mk K C f ∧ Binds K fd ps []
structure HereC (K : PySem.W.Frag) (C : Addr) (qual : Str) (st : Stmt) (ps : List Str) (f : Addr) (fd : FuncData) : Prop where
  fn : Fun K "__init__" qual st f fd
  mkr : Mk K C f
  bd : Binds K fd ps []
theorem HereM.def {P : Program} {w : World} {K : PySem.W.Frag} {mg : Str → Option Value} {base : Heap} {k : Nat} {C : Addr} {m qual : Str} {st : Stmt} {ps : List Str} {sp : Sp} {f : Addr} {fd : FuncData} (h : HereM K C m qual st ps f fd) (F : FnOk P w K mg base CX0 k f fd ps sp) : DefM P w K mg base k C m ps sp :=
  ⟨f, fd, F, h.me, h.bd⟩
theorem HereC.def {P : Program} {w : World} {K : PySem.W.Frag} {mg : Str → Option Value} {base : Heap} {k : Nat} {C : Addr} {qual : Str} {st : Stmt} {ps : List Str} {sp : Sp} {f : Addr} {fd : FuncData} (h : HereC K C qual st ps f fd) (F : FnOk P w K mg base CX0 k f fd ps sp) : DefC P w K mg base k C ps sp :=
  ⟨f, fd, F, h.mkr, h.bd⟩
section
variable {X : Cx} {k j : Nat} {C : Addr} {x m : Str} {p pos apos : Pos} {o e : Expr} {es : List Expr} {ps : List Str} {sp : Sp} {ta : TE} {t : TA}
def tMe (C : Addr) (m : Str) (sp : Sp) (ta : TE) (t : TA) : TE := fun σ H Q => ta σ H fun x H1 => ∃ a dx fs, x = .ref a ∧ H1 a = some (.ins C dx fs) ∧ fs.lookup m = none ∧ t σ H1 fun vs H2 => sp (x :: vs) H2 Q E0
theorem tMe_eq : tMeth C m sp [] E0 ta t = tMe C m sp ta t := by
  funext σ H Q
  unfold tMeth tMe
  simp only [List.append_nil]
def tNew (C : Addr) (sp : Sp) (t : TA) : TE := fun σ H Q => t σ H fun vs H1 => ∀ x dx, H1 x = none → H1 dx = none → dx ≠ x → sp (.ref x :: vs) (upd (upd H1 dx (.own x)) x (.ins C dx [])) (fun v H2 => v = .non ∧ Q (.ref x) H2) E0
theorem tNew_eq : tMake C sp [] E0 t = tNew C sp t := by
  funext σ H Q
  unfold tMake tNew
  simp only [List.append_nil]
theorem pe_never : PE X e (fun _ _ _ => False) := ⟨fun _ _ _ _ _ _ h => h.elim⟩
theorem pe_fldG {K : PySem.W.Frag} {f : Str} (hK : X.K = K) (he : PE X e ta) (hb : attributeBase e f X.env (eval e X.env) = eval e X.env) : PE X (.Attribute e f pos) (tFld K ta f) := by
  subst hK
  exact pe_fld he hb
theorem pi_tupG {K : PySem.W.Frag} {tg : Expr} (hK : X.K = K) (he : PE X e ta) : PI X tg e (iTup K ta) := by
  subst hK
  exact pi_tup he
theorem pi_listG {K : PySem.W.Frag} {tg : Expr} (hK : X.K = K) (he : PE X e ta) : PI X tg e (iList K ta) := by
  subst hK
  exact pi_list he
theorem pe_me {pl : Sem Bool} (he : PE X o ta) (c : Cls X.K C) (D : DefM X.prog X.w X.K X.mg X.base k C m ps sp) (hr : Room j X.A) (ha : PA X (e :: es) t) (hk : k ≤ j := by decide)
    (hst : starEach (e :: es) X.env = (false, eval e X.env) :: starEach es X.env := by rfl) (hpl : (backTo pos (starEach es X.env)).any (·.1) = false := by rfl)
    (ht : eval (.Call (.Attribute o m apos) (e :: es) [] pos) X.env = (do
      let ov ← eval o X.env
      standAt apos.atName
      let (f, first) ← holding [ov] (getMethod ov m pl)
      callWith pos f first (backTo pos (starEach (e :: es) X.env)) (backToKw pos (keywordEach [] X.env))) := by rfl) : PE X (.Call (.Attribute o m apos) (e :: es) [] pos) (tMe C m sp ta t) := by
  obtain ⟨f, fd, F, hm, hb⟩ := D.ex
  rw [← tMe_eq]
  exact pe_meth he c hm F (hr.mono hk) hb .nil pass0 ha hst hpl ht
theorem pe_me0 {pl : Sem Bool} (he : PE X o ta) (c : Cls X.K C) (D : DefM X.prog X.w X.K X.mg X.base k C m ps sp) (hr : Room j X.A) (hk : k ≤ j := by decide)
    (ht : eval (.Call (.Attribute o m apos) [] [] pos) X.env = (do
      let ov ← eval o X.env
      standAt apos.atName
      let (f, first) ← holding [ov] (getMethod ov m pl)
      callWith pos f first (backTo pos (starEach [] X.env)) (backToKw pos (keywordEach [] X.env))) := by rfl) : PE X (.Call (.Attribute o m apos) [] [] pos) (tMe C m sp ta tNil) := by
  obtain ⟨f, fd, F, hm, hb⟩ := D.ex
  rw [← tMe_eq]
  exact pe_meth0 he c hm F (hr.mono hk) hb .nil pass0 ht
theorem pe_new (D : DefC X.prog X.w X.K X.mg X.base k C ps sp) (hr : Room j X.A) (hg : Gl X x) (hm : X.mg x = some (.ref C)) (ha : PA X (e :: es) t) (hk : k + 1 ≤ j := by decide) (hdb : (x == ("__debug__" : Str)) = false := by decide)
    (he : starEach (e :: es) X.env = (false, eval e X.env) :: starEach es X.env := by rfl) (hpl : (backTo pos (starEach es X.env)).any (·.1) = false := by rfl) : PE X (.Call (.Name x p) (e :: es) [] pos) (tNew C sp t) := by
  obtain ⟨f, fd, F, mk, hb⟩ := D.ex
  rw [← tNew_eq]
  exact pe_make mk F (hr.mono hk) hg hm hb .nil pass0 ha hdb he hpl
end
section
variable {K : PySem.W.Frag} {σ : L2.St} {H : Hp} {Q : VK} {QT : Bool → Hp → Prop} {QA : List V → Hp → Prop} {D : Ends} {ta tv te : TE} {t : TA} {sp : Sp} {C : Addr} {f m : Str}
theorem g_sortedSet (q : ta σ H fun x H1 => ∃ (l : Addr) (xs : List Str), x = .ref l ∧ SqL K H1 l (xs.map V.str) ∧ xs.length + 1 < scanBound ∧
  ∀ (zs : List Str) (p : Addr), PyProof.Rows.sortedS zs = true → zs.Nodup → (∀ k, k ∈ zs ↔ k ∈ xs) → H1 p = none → Q (.ref p) (upd H1 p (.lst (zs.map V.str)))) : tSortedSet K ta σ H Q := q
theorem g_dget {td ty : TE} (q : td σ H fun x H1 => ty σ H1 fun y H2 => ∃ a v, x = .ref a ∧ DGet H2 a y (some v) ∧ Q v H2) : tDGet td ty σ H Q := q
theorem g_din {td ty : TE} (q : ty σ H fun y H1 => td σ H1 fun x H2 => ∃ a o, x = .ref a ∧ DGet H2 a y o ∧ Q (.bl o.isSome) H2) : tDIn ty td σ H Q := q
theorem g_dnotin {td ty : TE} (q : ty σ H fun y H1 => td σ H1 fun x H2 => ∃ a o, x = .ref a ∧ DGet H2 a y o ∧ Q (.bl (!o.isSome)) H2) : tDNotIn ty td σ H Q := q
theorem g_neB {a b : Bool} (q : Q (.bl (!decide (a = b))) H) : rNe (.bl a) (.bl b) H Q := ⟨rfl, by rw [dB]; exact q⟩
theorem g_itup {R : It → Hp → Prop} (q : ta σ H fun x H1 => ∃ a, x = .ref a ∧ (∃ xs, SqT K H1 a xs) ∧ R (Itt K a) H1) : iTup K ta σ H R := q
theorem for_tupA {p : Addr} {xs : List V} {g : TG} {tb : TS} (Pv : Nat → L2.St → Hp → Prop) (h0 : Pv 0 σ H) (hl : ∀ i σ H, i ≤ xs.length → Pv i σ H → SqT K H p xs)
    (hs : ∀ i x σ H (D' : Ends), xs[i]? = some x → Pv i σ H → (∀ σ H, Pv (i + 1) σ H → D'.nx σ H) → (∀ σ H, Pv (i + 1) σ H → D'.ct σ H) → (∀ σ H, D.nx σ H → D'.bk σ H) → D'.rt = D.rt → g x σ H fun σ2 H2 => tb D' σ2 H2) (hd : ∀ σ H, Pv xs.length σ H → D.nx σ H) :
    ∃ W : Nat → Nat → L2.St → Hp → Prop, (∃ m, W 0 m σ H) ∧ ∀ i m σ H, W i m σ H →
      ((Itt K p).stop i H ∧ D.nx σ H) ∨ ((Itt K p).go i H ∧ ∃ N : L2.St → Hp → Prop, (∀ σ' H', N σ' H' → ∃ m', m' < m ∧ W (i + 1) m' σ' H') ∧ ∀ x H', (Itt K p).yld i H x H' → g x σ H' fun σ2 H2 => tb { D with nx := N, ct := N, bk := D.nx } σ2 H2) :=
  for_tup Pv h0 hl (fun i x σ H hi p => hs i x σ H _ hi p (fun _ _ h => h) (fun _ _ h => h) (fun _ _ h => h) rfl) hd
theorem g_me (q : ta σ H fun x H1 => ∃ a dx fs, x = .ref a ∧ H1 a = some (.ins C dx fs) ∧ fs.lookup m = none ∧ t σ H1 fun vs H2 => sp (x :: vs) H2 Q E0) : tMe C m sp ta t σ H Q := q
theorem g_new (q : t σ H fun vs H1 => ∀ x dx, H1 x = none → H1 dx = none → dx ≠ x → sp (.ref x :: vs) (upd (upd H1 dx (.own x)) x (.ins C dx [])) (fun v H2 => v = .non ∧ Q (.ref x) H2) E0) : tNew C sp t σ H Q := q
theorem g_fld (q : ta σ H fun x H1 => ∃ a C dx fs v, x = .ref a ∧ H1 a = some (.ins C dx fs) ∧ Cls K C ∧ NoAttr K C f ∧ fs.lookup f = some v ∧ Q v H1) : tFld K ta f σ H Q := q
theorem g_sfld (q : tv σ H fun y H1 => ta σ H1 fun x H2 => ∃ a C dx fs, x = .ref a ∧ H2 a = some (.ins C dx fs) ∧ Cls K C ∧ NoAttr K C f ∧ fs.length < 1000 ∧ D.nx σ (upd H2 a (.ins C dx (putF f y fs)))) : sFld K ta tv f D σ H := q
end
end Tw

set_option Elab.async false
set_option linter.all false
set_option maxRecDepth 100000
namespace Tw
open PySem L2 PySem.Spec
section
variable {X : Cx} {k j : Nat} {C : Addr} {ps : List Str} {sp : Sp}
/-- two instances of a class of the text, by its own operator -/
def rOwn2 (C : Addr) (sp : Sp) : R2 := fun x y H Q => ∃ (a b dx dy : Addr) (fs gs : List (Str × V)), x = .ref a ∧ y = .ref b ∧ H a = some (.ins C dx fs) ∧ H b = some (.ins C dy gs) ∧ sp [x, y] H Q E0
/-- an instance, by its class's own operator -/
def rOwn1 (C : Addr) (sp : Sp) : V → Hp → VK → Prop := fun x H Q => ∃ (a dx : Addr) (fs : List (Str × V)), x = .ref a ∧ H a = some (.ins C dx fs) ∧ sp [x] H Q E0
theorem back_of {pins : List (Addr × Obj)} {σ : L2.St} {Q : VK} {v : Value} {s : Shared} (h : EP X pins σ Q v s) : PySem.W.CmpBack (EP X pins σ Q) v s := by
  obtain ⟨x, H', I, r, q⟩ := h
  cases v with
  | notImplemented => cases x <;> first | (rcases r with ⟨t, h⟩; cases h; done) | (cases r; done)
  | _ => exact ⟨x, H', I, r, q⟩
theorem op_own2 {op : Operator} (D : DefM X.prog X.w X.K X.mg X.base k C (PySem.dunder op.info.2) ps sp) (hr : Room j X.A) (hf : PySem.W.selfFirst X.K C = true) (hk : k ≤ j := by decide) : OpR X (binaryOp op) (rOwn2 C sp) := by
  intro pins s σ H x y u v Q I rx ry h
  obtain ⟨a, b, dx, dy, fs, gs, rfl, rfl, ea, eb, q⟩ := h
  obtain rfl : u = Value.ref a := rx
  obtain rfl : v = Value.ref b := ry
  obtain ⟨f, fd, F, hm, hb⟩ := D.ex
  obtain ⟨_, OA, _⟩ := ins_get I.hok ea
  obtain ⟨_, OB, _⟩ := ins_get I.hok eb
  obtain ⟨_, ia, _⟩ := OA.look
  obtain ⟨_, ib, _⟩ := OB.look
  obtain ⟨m, fr⟩ := I.fr
  refine PySem.W.binop_K fr I.mod.kin ia ib.type hf hm.at_ hm.fn ?_
  refine wpAny_mono (run_fn F (hr.mono hk) hb .nil pass0 I (vs := [.ref a, .ref b]) (.cons (show RelV (.ref a) (.ref a) from rfl) (.cons (show RelV (.ref b) (.ref b) from rfl) .nil)) q) (fun _ _ z => back_of z) fun _ _ z => z
theorem un_inv {P : Program} {w : World} (D : DefM X.prog X.w X.K X.mg X.base k C "__invert__" ps sp) (hr : Room j X.A) (hk : k ≤ j := by decide) : UnR X (unaryOp .Invert) (rOwn1 C sp) := by
  intro pins s σ H x u Q I rx h
  obtain ⟨a, dx, fs, rfl, ea, q⟩ := h
  obtain rfl : u = Value.ref a := rx
  obtain ⟨f, fd, F, hm, hb⟩ := D.ex
  obtain ⟨_, OA, _⟩ := ins_get I.hok ea
  obtain ⟨_, ia, _⟩ := OA.look
  obtain ⟨m, fr⟩ := I.fr
  refine PySem.W.ksp_inv fr I.mod.kin ia hm.at_ hm.fn ?_
  exact run_fn F (hr.mono hk) hb .nil pass0 I (vs := [.ref a]) (.cons (show RelV (.ref a) (.ref a) from rfl) .nil) q
end
end Tw

set_option Elab.async false
set_option linter.all false
set_option maxRecDepth 100000
namespace Tw
open PySem L2 PySem.Spec
section
variable {prog : Program} {w : World} {A : Around} {E : Value → Shared → Prop} {s : Shared} {K : PySem.W.Frag} {x C f : Addr} {o : Obj} {od : Option Obj} {T : String}
/-- an own operator whose right side is of a built-in kind -/
theorem bin_kind {op : Operator} {b : Value} {lo ro rc : Option Value} {Q : Value → Shared → Prop} (kin : K.In s.heap) (inst : PySem.W.InstAt s.heap x o C od) (kind : PySem.W.Looks (model prog w) s.heap (typeOf b) (.type T)) (own : PySem.W.selfFirst K C = true)
    (at1 : PySem.W.findIn K (.ref C) (PySem.dunder op.info.2) = some (some (.ref f))) (isf : PySem.W.isFn K (.ref f) = true) (at2 : PySem.W.findIn K (.ref C) (dunderR op.info.2) = some rc) (at3 : rc = none ∨ ∃ g : Addr, rc = some (.ref g))
    (tl : PySem.W.findIn K (.type T) (PySem.dunder op.info.2) = some lo) (tr : PySem.W.findIn K (.type T) (dunderR op.info.2) = some ro) (ns : PySem.W.subIn K (.type T) (.ref C) = some false)
    (h : wpAny (model prog w) A (call (.ref f) [.ref x, b]) (PySem.W.CmpBack Q) E s) : wpAny (model prog w) A (binaryOp op (.ref x) b) Q E s := by
  obtain ⟨cd, more, ecd, emr⟩ := PySem.W.ksp_first own
  have asked := PySem.W.ksp_try kin inst at1 isf h
  cases nme : op.info with
  | mk sg nm =>
  rw [nme] at at1 at2 tl tr asked
  have q4 := PySem.W.ksp_fillsT (M := model prog w) kin tl tr
  have q3 : PySem.W.Looks (model prog w) s.heap (fillsNumberSlot (.ref C) nm) true := PySem.W.fills_K kin ecd emr at1
  have q5 : PySem.W.Looks (model prog w) s.heap (isSubtype (.type T) (.ref C)) false := PySem.W.looks_subIn kin ns
  have q6 : PySem.W.Looks (model prog w) s.heap (numberSlotInPython (.ref C) nm) true := PySem.W.ksp_inPy kin at1 at2 at3
  have q7 : PySem.W.Looks (model prog w) s.heap (numberSlotInPython (.type T) nm) false := PySem.W.Looks.of_pure rfl
  have q8 : PySem.W.Looks (model prog w) s.heap (typeLookup (.type T) (dunderR nm)) ro := PySem.W.looks_findIn kin tr
  have q1 : PySem.W.Looks (model prog w) s.heap (typeOf (.ref x)) (.ref C) := inst.type
  obtain ⟨hp, gg, dd, kk, oo⟩ := s
  have diff : (Value.ref C == Value.type T) = false := by
    cases e : (Value.ref C == Value.type T) with
    | false => rfl
    | true => cases (beq_iff_eq.mp e)
  generalize ((lo.isSome && !isSeqSlot lo) || (ro.isSome && !isSeqSlot ro)) = slot at q4
  simp only [binaryOp, nme]
  refine wpAny_holding (wpAny_bind ?_)
  unfold binaryOp1
  refine wpAny_bind (q1.at ?_)
  refine wpAny_bind (kind.at ?_)
  refine wpAny_bind (q3.at ?_)
  simp only [diff, Bool.false_eq_true, if_false]
  cases slot
  all_goals
    ksp_lk
    refine wpAny_mono asked (fun r t ht => ?_) fun _ _ e => e
    obtain ⟨v, rfl, hv⟩ := ht
    ksp_lk
    exact hv
end
end Tw
namespace Tw
open PySem L2 PySem.Spec
/-- the built-in kinds that a law's things are of -/
def kinds7 : List String := ["NoneType", "bool", "int", "str", "list", "tuple", "dict"]
theorem kin_and {K : PySem.W.Frag} {C : Addr} : ∀ T ∈ kinds7, (∃ lo, PySem.W.findIn K (.type T) (PySem.dunder Operator.BitAnd.info.2) = some lo) ∧ (∃ ro, PySem.W.findIn K (.type T) (dunderR Operator.BitAnd.info.2) = some ro) ∧ PySem.W.subIn K (.type T) (.ref C) = some false := by
  intro T h
  unfold kinds7 at h
  simp only [List.mem_cons, List.not_mem_nil, or_false] at h
  rcases h with rfl | rfl | rfl | rfl | rfl | rfl | rfl <;> exact ⟨Option.isSome_iff_exists.mp (by kernel_rfl), Option.isSome_iff_exists.mp (by kernel_rfl), by kernel_rfl⟩
end Tw
namespace Tw
open PySem L2 PySem.Spec
theorem kin_or {K : PySem.W.Frag} {C : Addr} : ∀ T ∈ kinds7, (∃ lo, PySem.W.findIn K (.type T) (PySem.dunder Operator.BitOr.info.2) = some lo) ∧ (∃ ro, PySem.W.findIn K (.type T) (dunderR Operator.BitOr.info.2) = some ro) ∧ PySem.W.subIn K (.type T) (.ref C) = some false := by
  intro T h
  unfold kinds7 at h
  simp only [List.mem_cons, List.not_mem_nil, or_false] at h
  rcases h with rfl | rfl | rfl | rfl | rfl | rfl | rfl <;> exact ⟨Option.isSome_iff_exists.mp (by kernel_rfl), Option.isSome_iff_exists.mp (by kernel_rfl), by kernel_rfl⟩
/-- an instance and a thing of a built-in kind, by the class's own operator -/
def rOwnT (K : PySem.W.Frag) (C : Addr) (sp : Sp) : R2 := fun x y H Q => ∃ (a dx : Addr) (fs : List (Str × V)) (T : String), x = .ref a ∧ H a = some (.ins C dx fs) ∧ TyX K H y (.type T) ∧ T ∈ kinds7 ∧ sp [x, y] H Q E0
section
variable {X : Cx} {k j : Nat} {C : Addr} {ps : List Str} {sp : Sp}
theorem op_ownT {op : Operator} (D : DefM X.prog X.w X.K X.mg X.base k C (PySem.dunder op.info.2) ps sp) (hr : Room j X.A) (own : PySem.W.selfFirst X.K C = true) (nr : PySem.W.findIn X.K (.ref C) (dunderR op.info.2) = some none)
    (facts : ∀ T ∈ kinds7, (∃ lo, PySem.W.findIn X.K (.type T) (PySem.dunder op.info.2) = some lo) ∧ (∃ ro, PySem.W.findIn X.K (.type T) (dunderR op.info.2) = some ro) ∧ PySem.W.subIn X.K (.type T) (.ref C) = some false) (hk : k ≤ j := by decide) : OpR X (binaryOp op) (rOwnT X.K C sp) := by
  intro pins s σ H x y u v Q I rx ry h
  obtain ⟨a, dx, fs, T, rfl, ea, ty, hT, q⟩ := h
  obtain rfl : u = Value.ref a := rx
  obtain ⟨f, fd, F, hm, hb⟩ := D.ex
  obtain ⟨_, OA, _⟩ := ins_get I.hok ea
  obtain ⟨_, ia, _⟩ := OA.look
  obtain ⟨Pk, kx, pk, _⟩ := kit_of I ry ty
  obtain ⟨⟨lo, f1⟩, ⟨ro, f2⟩, f3⟩ := facts T hT
  refine bin_kind I.kIn ia (kx.ty _ _ I.kIn pk) own hm.at_ hm.fn nr (.inl rfl) f1 f2 f3 ?_
  exact wpAny_mono (run_fn F (hr.mono hk) hb .nil pass0 I (vs := [.ref a, y]) (.cons (show RelV (.ref a) (.ref a) from rfl) (.cons ry .nil)) q) (fun _ _ z => back_of z) fun _ _ z => z
theorem op_andG {K : PySem.W.Frag} (hK : X.K = K) (D : DefM X.prog X.w X.K X.mg X.base k C (PySem.dunder Operator.BitAnd.info.2) ps sp) (hr : Room j X.A) (own : PySem.W.selfFirst X.K C = true) (nr : PySem.W.findIn X.K (.ref C) (dunderR Operator.BitAnd.info.2) = some none) (hk : k ≤ j := by decide) :
    OpR X (binaryOp .BitAnd) (fun x y H Q => rOwn2 C sp x y H Q ∨ rOwnT K C sp x y H Q) := by
  subst hK
  exact (op_own2 D hr own hk).or (op_ownT D hr own nr kin_and hk)
theorem op_orG {K : PySem.W.Frag} (hK : X.K = K) (D : DefM X.prog X.w X.K X.mg X.base k C (PySem.dunder Operator.BitOr.info.2) ps sp) (hr : Room j X.A) (own : PySem.W.selfFirst X.K C = true) (nr : PySem.W.findIn X.K (.ref C) (dunderR Operator.BitOr.info.2) = some none) (hk : k ≤ j := by decide) :
    OpR X (binaryOp .BitOr) (fun x y H Q => rOwn2 C sp x y H Q ∨ rOwnT K C sp x y H Q) := by
  subst hK
  exact (op_own2 D hr own hk).or (op_ownT D hr own nr kin_or hk)
end
end Tw

set_option Elab.async false
set_option linter.all false
set_option maxRecDepth 100000
set_option maxHeartbeats 4000000
/-! own errors over Exception, of a class below one's own base, with an __init__ that stores its one parameter -/
namespace PySem
namespace TwX
open PySem.W PySem.Calls PyProof.Rows PySem.HandSPX
/-- the classes of an error's order: own ones, then Exception's -/
abbrev exT : List Value := [.type "Exception", .type "BaseException", .type "object"]
inductive OwnEx : List Value → Prop where
  | tail : OwnEx exT
  | own (c : Addr) {r : List Value} (h : OwnEx r) : OwnEx (.ref c :: r)
theorem OwnEx.pass {l : List Value} (h : OwnEx l) (self : Value) : refuseLoop self "__setattr__" l = pure () := by
  induction h with
  | tail => exact F.store_Exception.passes self
  | own c _ ih => rw [refuseLoop_ref, ih]
theorem OwnEx.has {l : List Value} (h : OwnEx l) (n : String) : l.contains (.type n) = exT.contains (.type n) := by
  induction h with
  | tail => rfl
  | own c _ ih => rw [List.contains_cons, ih]; rfl
theorem OwnEx.some {l : List Value} (h : OwnEx l) : l.isEmpty = false := by cases h <;> rfl
section
open Builtin Builtin.ObjectAttr
variable {prog : Program} {w : World} {A : Around} {R : Result → Shared → Prop} {hp : Heap} {gs : Array GenState} {dr : Drawn} {tc : Nat} {os : OsState}
theorem setattr_to {K : Frag} {nm : Str} {tk : Tok} {v : Value} {x C : Addr} {ox : Obj} {od : Option Obj} {cd : ClassData} (XK : K.In hp) (J : InstAt hp x ox C od) (hc : clsIn K C = some cd) (hm : OwnEx cd.mro) (hn : findIn K (.ref C) nm = some none)
    (hq : wpAny (model prog w) A.in1 (storeInOwnDict (.ref x) (.ref C) (.str nm tk) nm v false) (fun fin s' => match fin with | .done f => R (.ok f) s' | .again c' => c'.quiet = true ∧ codeAny (model prog w) A c' R s') (fun e s' => R (.error e) s') ⟨hp, gs, dr, tc, os⟩) :
    codeAny (model prog w) A (.call (.builtin "object.__setattr__") ⟨[.ref x, .str nm tk, v], []⟩) R ⟨hp, gs, dr, tc, os⟩ := by
  have ST := F.store_object
  have hmo : mroIn K C (.type "object") = some true := by
    unfold mroIn
    rw [hc, Option.bind_some, if_neg (by rw [hm.some]; decide), hm.has "object"]
    exact congrArg _ (by decide +kernel)
  have isO : Looks (model prog w) hp (isInstance (.ref x) (.type "object")) true := J.type.andThen (looks_mroIn XK hmo)
  refine codeAny_call_builtin ST.slot.plain ST.entry ?_
  refine @check_slot (model prog w) _ _ ⟨hp, gs, dr, tc, os⟩ "object.__setattr__" "object" "__setattr__" (.ref x) [.str nm tk, v] [] _ ST.kind ST.split isO (ST.args (.ref x) (.str nm tk) v) ?_
  have lm : Looks (model prog w) hp (mroOf (.ref C)) cd.mro := (looks_clsIn XK hc).andThen .now
  have lt : Looks (model prog w) hp (storeTaker? none) none := .now
  rw [osa_eq, refuse_eq]
  refine wpAny_bind (wpAny_bind ?_)
  refine J.type.at (wpAny_bind (lm.at ?_))
  rw [hm.pass]
  refine wpAny_pure (wpAny_bind ?_)
  exact J.type.at (wpAny_bind ((looks_findIn XK hn).at (wpAny_bind (lt.at hq))))
/-- the first field of a fresh error -/
theorem setattr_first {K : Frag} {nm : Str} {tk : Tok} {v : Value} {x C : Addr} {fv : Array Value} {cd : ClassData} (XK : K.In hp) (hx : hp.get? x = some { cls := .ref C, data := .fields fv }) (hc : clsIn K C = some cd) (hm : OwnEx cd.mro) (hh : cd.hasDict = true) (hn : findIn K (.ref C) nm = some none)
    (hq : ∀ h2 tk2 dx, (∀ b o, b ≠ x → hp.get? b = some o → h2.get? b = some o) → hp.objs.size ≤ dx → dx ≠ x → h2.get? x = some { cls := .ref C, dict := some dx, data := .fields fv } → h2.Ns1 dx (fun y => if y = nm then some v else none) → R (.ok (.ret .none)) ⟨h2, gs, dr, tk2, os⟩) :
    codeAny (model prog w) A (.call (.builtin "object.__setattr__") ⟨[.ref x, .str nm tk, v], []⟩) R ⟨hp, gs, dr, tc, os⟩ := by
  have J : InstAt hp x { cls := .ref C, data := .fields fv } C none := ⟨hx, rfl, rfl, trivial⟩
  have nx : x ≠ hp.objs.size := Nat.ne_of_lt (Heap.lt_size hx)
  have lc : Looks (model prog w) hp (classData C) cd := looks_clsIn XK hc
  refine setattr_to XK J hc hm hn ?_
  obtain ⟨a1, a2, a3, a4, a5, a6, a7, a8, a9, a10, a11⟩ := cd
  dsimp only at hh
  subst hh
  unfold storeInOwnDict ownDictForStores
  repeat (first | with_reducible refine HandSPX.store_in_new ?_ ?_ | with_reducible refine wpAny_loadPart_at hx ?_ | with_reducible refine lc.at ?_ | wp_step)
  · refine ⟨_, #[], _, (Heap.get?_update_ne _ _ _ _ nx.symm).trans (Heap.get?_push_at rfl rfl), rfl, ?_, fun _ => rfl⟩
    intro e he
    exact absurd he (by simp)
  · intro h2 tk2 hn2 sb
    have px : (hp.push { cls := .type "dict", data := .dict #[] }).get? x = some { cls := .ref C, data := .fields fv } := Heap.get?_push_of_some _ hx
    refine hq h2 tk2 hp.objs.size ?_ (Nat.le_refl _) nx.symm ((sb.2 x nx).trans (Heap.get?_update_self _ px rfl)) hn2
    intro b o hb ho
    exact (sb.2 b (Nat.ne_of_lt (Heap.lt_size ho))).trans ((Heap.get?_update_ne _ _ _ _ hb).trans (Heap.get?_push_of_some _ ho))
/-- a further one -/
theorem setattr_next {K : Frag} {nm : Str} {tk : Tok} {v : Value} {x C dx : Addr} {fv : Array Value} {cd : ClassData} {m0 : Str → Option Value} {nl : List Str} (XK : K.In hp) (hx : hp.get? x = some { cls := .ref C, dict := some dx, data := .fields fv }) (hns : hp.Ns1 dx m0) (hw : Within m0 nl) (hz : nl.length ≤ 1000)
    (hc : clsIn K C = some cd) (hm : OwnEx cd.mro) (hh : cd.hasDict = true) (hn : findIn K (.ref C) nm = some none)
    (hq : ∀ h2 tk2, (∀ b o, b ≠ dx → hp.get? b = some o → h2.get? b = some o) → h2.Ns1 dx (fun y => if y = nm then some v else m0 y) → R (.ok (.ret .none)) ⟨h2, gs, dr, tk2, os⟩) :
    codeAny (model prog w) A (.call (.builtin "object.__setattr__") ⟨[.ref x, .str nm tk, v], []⟩) R ⟨hp, gs, dr, tc, os⟩ := by
  obtain ⟨oD, eD, pD, gD, dD, _⟩ := hns.count hw
  have J : InstAt hp x { cls := .ref C, dict := some dx, data := .fields fv } C (some oD) := ⟨hx, rfl, rfl, gD⟩
  have lc : Looks (model prog w) hp (classData C) cd := looks_clsIn XK hc
  refine setattr_to XK J hc hm hn ?_
  obtain ⟨a1, a2, a3, a4, a5, a6, a7, a8, a9, a10, a11⟩ := cd
  dsimp only at hh
  subst hh
  unfold storeInOwnDict ownDictForStores
  repeat (first | with_reducible refine ESX.store_in_old hns hw hz ?_ | with_reducible refine wpAny_loadPart_at hx ?_ | with_reducible refine lc.at ?_ | wp_step)
  exact fun h2 tk2 hn2 sb => hq h2 tk2 (fun b o hb ho => (sb.2 b hb).trans ho) hn2
end
end TwX
end PySem

set_option Elab.async false
set_option linter.all false
set_option maxRecDepth 100000
namespace Tw
open PySem L2 PySem.Spec
/-- a def of the text that may let an error out -/
structure DefX (P : Program) (w : World) (K : PySem.W.Frag) (mg : Str → Option Value) (base : Heap) (k : Nat) (x : Str) (ps : List Str) (sp : Sp) : Prop where
  ex : ∃ (f : Addr) (fd : FuncData), FnOk P w K mg base (L2.CX P w) k f fd ps sp ∧ mg x = some (.ref f) ∧ PySem.W.keepIn K (.ref f) = true ∧ Binds K fd ps []
/-- a method that may let an error out -/
structure DefMX (P : Program) (w : World) (K : PySem.W.Frag) (mg : Str → Option Value) (base : Heap) (k : Nat) (C : Addr) (m : Str) (ps : List Str) (sp : Sp) : Prop where
  ex : ∃ (f : Addr) (fd : FuncData), FnOk P w K mg base (L2.CX P w) k f fd ps sp ∧ Meth K C m f ∧ Binds K fd ps []
theorem Here.defX {P : Program} {w : World} {K : PySem.W.Frag} {mg : Str → Option Value} {base : Heap} {k : Nat} {x : Str} {st : Stmt} {ps : List Str} {sp : Sp} {f : Addr} {fd : FuncData} (h : Here K mg x st ps f fd) (F : FnOk P w K mg base (L2.CX P w) k f fd ps sp) : DefX P w K mg base k x ps sp :=
  ⟨f, fd, F, h.mg, h.fn.kp, h.bd⟩
theorem HereM.defX {P : Program} {w : World} {K : PySem.W.Frag} {mg : Str → Option Value} {base : Heap} {k : Nat} {C : Addr} {m qual : Str} {st : Stmt} {ps : List Str} {sp : Sp} {f : Addr} {fd : FuncData} (h : HereM K C m qual st ps f fd) (F : FnOk P w K mg base (L2.CX P w) k f fd ps sp) : DefMX P w K mg base k C m ps sp :=
  ⟨f, fd, F, h.me, h.bd⟩
/-- what is wanted of a body that may raise -/
theorem Fun.okMX {P : Program} {w : World} {K : PySem.W.Frag} {mg : Str → Option Value} {base : Heap} {x qual : Str} {st : Stmt} {f : Addr} {fd : FuncData} {N ps : List Str} {k : Nat} {sp : Sp} (F : Fun K x qual st f fd) (S : FnScope N ps (defScope st)) (len : ∀ vs H Q E, sp vs H Q E → vs.length = ps.length)
    (hbody : ∀ (cdv : Value) (A : Around) (outer : List Env) (s : Shared) (H : Hp) (vs : List V) (Q : VK) (E : XK), Room k (A.deeper (PyProof.Rows.envOfC qual (defScope st) s.heap.objs.size f cdv)) → sp vs H Q E →
      ∃ t, PSs (cxOf (L2.CX P w) P w K mg base N qual (defScope st) f cdv A outer s H E) (defBody st) t ∧ t (mkE (fun _ H' => Q .non H') Q (fun _ _ => False) (fun _ _ => False)) (L2.start N vs) H) : FnOk P w K mg base (L2.CX P w) (k + 1) f fd ps sp := F.okX S len hbody
section
variable {X : Cx} {k j : Nat} {C : Addr} {x m : Str} {p pos apos : Pos} {o e a b : Expr} {es : List Expr} {ps : List Str} {sp : Sp} {ta tb : TE} {t : TA} {W : WX}
theorem pe_defX (tk : Takes X W) (D : DefX X.prog X.w X.K X.mg X.base k x ps sp) (hr : Room j X.A) (hg : Gl X x) (ha : PA X (e :: es) t) (hk : k ≤ j := by decide) (hdb : (x == ("__debug__" : Str)) = false := by decide)
    (he : starEach (e :: es) X.env = (false, eval e X.env) :: starEach es X.env := by rfl) (hpl : (backTo pos (starEach es X.env)).any (·.1) = false := by rfl) : PE X (.Call (.Name x p) (e :: es) [] pos) (tCallS sp (WE W) t) := by
  obtain ⟨f, fd, F, hm, hkp, hb⟩ := D.ex
  exact pe_callS F (hr.mono hk) hg hm hkp hb (fun σ => passAt tk σ) ha hdb he hpl
/-- an operator that may raise -/
def OpW (X : Cx) (f : Value → Value → Sem Value) (r : L2.St → R2) : Prop := ∀ (pins : List (Addr × Obj)) (s : Shared) (σ : L2.St) (H : Hp) (x y : V) (v u : Value) (Q : VK), Inv X pins σ H s → RelV x v → RelV y u → r σ x y H Q → wpAny (model X.prog X.w) X.A (f v u) (EP X pins σ Q) X.xe s
def tOpW (r : L2.St → R2) (ta tb : TE) : TE := fun σ H Q => ta σ H fun x H1 => tb σ H1 fun y H2 => r σ x y H2 Q
theorem pe_opW {op : Operator} {r : L2.St → R2} (ho : OpW X (binaryOp op) r) (ha : PE X a ta) (hb : PE X b tb) : PE X (.BinOp a op b pos) (tOpW r ta tb) :=
  ⟨fun pins s σ _ Q I h => wpAny_BinOp (binT ha hb I h fun v u s2 x y H2 I2 rx ry q => ho pins s2 σ H2 x y v u Q I2 rx ry q)⟩
theorem op_own2W {op : Operator} (tk : Takes X W) (D : DefMX X.prog X.w X.K X.mg X.base k C (PySem.dunder op.info.2) ps sp) (hr : Room j X.A) (hf : PySem.W.selfFirst X.K C = true) (hk : k ≤ j := by decide) :
    OpW X (binaryOp op) (fun σ x y H Q => ∃ (a b dx dy : Addr) (fs gs : List (Str × V)), x = .ref a ∧ y = .ref b ∧ H a = some (.ins C dx fs) ∧ H b = some (.ins C dy gs) ∧ sp [x, y] H Q (WE W σ)) := by
  intro pins s σ H x y u v Q I rx ry h
  obtain ⟨a, b, dx, dy, fs, gs, rfl, rfl, ea, eb, q⟩ := h
  obtain rfl : u = Value.ref a := rx
  obtain rfl : v = Value.ref b := ry
  obtain ⟨f, fd, F, hm, hb⟩ := D.ex
  obtain ⟨_, OA, _⟩ := ins_get I.hok ea
  obtain ⟨_, OB, _⟩ := ins_get I.hok eb
  obtain ⟨_, ia, _⟩ := OA.look
  obtain ⟨_, ib, _⟩ := OB.look
  obtain ⟨m, fr⟩ := I.fr
  refine PySem.W.binop_K fr I.mod.kin ia ib.type hf hm.at_ hm.fn ?_
  exact wpAny_mono (run_fnS F (hr.mono hk) hb (passAt tk σ) I (vs := [.ref a, .ref b]) (.cons (show RelV (.ref a) (.ref a) from rfl) (.cons (show RelV (.ref b) (.ref b) from rfl) .nil)) q) (fun _ _ z => back_of z) fun _ _ z => z
theorem op_ownTW {op : Operator} (tk : Takes X W) (D : DefMX X.prog X.w X.K X.mg X.base k C (PySem.dunder op.info.2) ps sp) (hr : Room j X.A) (own : PySem.W.selfFirst X.K C = true) (nr : PySem.W.findIn X.K (.ref C) (dunderR op.info.2) = some none)
    (facts : ∀ T ∈ kinds7, (∃ lo, PySem.W.findIn X.K (.type T) (PySem.dunder op.info.2) = some lo) ∧ (∃ ro, PySem.W.findIn X.K (.type T) (dunderR op.info.2) = some ro) ∧ PySem.W.subIn X.K (.type T) (.ref C) = some false) (hk : k ≤ j := by decide) :
    OpW X (binaryOp op) (fun σ x y H Q => ∃ (a dx : Addr) (fs : List (Str × V)) (T : String), x = .ref a ∧ H a = some (.ins C dx fs) ∧ TyX X.K H y (.type T) ∧ T ∈ kinds7 ∧ sp [x, y] H Q (WE W σ)) := by
  intro pins s σ H x y u v Q I rx ry h
  obtain ⟨a, dx, fs, T, rfl, ea, ty, hT, q⟩ := h
  obtain rfl : u = Value.ref a := rx
  obtain ⟨f, fd, F, hm, hb⟩ := D.ex
  obtain ⟨_, OA, _⟩ := ins_get I.hok ea
  obtain ⟨_, ia, _⟩ := OA.look
  obtain ⟨Pk, kx, pk, _⟩ := kit_of I ry ty
  obtain ⟨⟨lo, f1⟩, ⟨ro, f2⟩, f3⟩ := facts T hT
  refine bin_kind I.kIn ia (kx.ty _ _ I.kIn pk) own hm.at_ hm.fn nr (.inl rfl) f1 f2 f3 ?_
  exact wpAny_mono (run_fnS F (hr.mono hk) hb (passAt tk σ) I (vs := [.ref a, y]) (.cons (show RelV (.ref a) (.ref a) from rfl) (.cons ry .nil)) q) (fun _ _ z => back_of z) fun _ _ z => z
end
end Tw
namespace Tw
open PySem L2 PySem.Spec
section
variable {X : Cx} {k j : Nat} {C : Addr} {x m : Str} {p pos apos : Pos} {o e a b : Expr} {es : List Expr} {ps : List Str} {sp : Sp} {ta tb : TE} {t : TA} {W : WX}
/-- o.m(..) that may raise -/
def tMeX (C : Addr) (m : Str) (sp : Sp) (W : WX) (ta : TE) (t : TA) : TE := fun σ H Q => ta σ H fun x H1 => ∃ a dx fs, x = .ref a ∧ H1 a = some (.ins C dx fs) ∧ fs.lookup m = none ∧ t σ H1 fun vs H2 => sp (x :: vs) H2 Q (WE W σ)
theorem pe_meX {pl : Sem Bool} (tk : Takes X W) (he : PE X o ta) (c : Cls X.K C) (D : DefMX X.prog X.w X.K X.mg X.base k C m ps sp) (hr : Room j X.A) (ha : PA X (e :: es) t) (hk : k ≤ j := by decide)
    (st : starEach (e :: es) X.env = (false, eval e X.env) :: starEach es X.env := by rfl) (nst : (backTo pos (starEach es X.env)).any (·.1) = false := by rfl)
    (form : eval (.Call (.Attribute o m apos) (e :: es) [] pos) X.env = (do
      let recv ← eval o X.env
      standAt apos.atName
      let (g, front) ← holding [recv] (getMethod recv m pl)
      callWith pos g front (backTo pos (starEach (e :: es) X.env)) (backToKw pos (keywordEach [] X.env))) := by rfl) : PE X (.Call (.Attribute o m apos) (e :: es) [] pos) (tMeX C m sp W ta t) := by
  obtain ⟨f, fd, F, hm, hb⟩ := D.ex
  constructor
  intro pins s σ H Q I h
  refine PySem.W.methodCall_KW (pl := pl) (thn (he.run pins s σ H _ I h) ?_) form
  rintro u s1 ⟨y, H1, I1, ry, q, dq, fs, rfl, eq, lk, rest⟩
  obtain rfl : u = Value.ref q := ry
  refine getmeth_ok I1 eq c hm lk ?_
  refine PySem.W.callWith_K (first := [.ref q]) (h₀ := X.base) I.ok.mod.kin hm.kp (thn (ha.run pos pins s1 σ H1 _ I1 rest) ?_) st nst
  rintro us s2 ⟨vs, H2, I2, rv, fin⟩
  exact ⟨I2.kIn, run_fnS (us := .ref q :: us) (vs := .ref q :: vs) F (hr.mono hk) hb (passAt tk σ) I2 (.cons (show RelV (.ref q) (.ref q) from rfl) rv) fin⟩
theorem g_callS {σ : L2.St} {H : Hp} {Q : VK} {E : L2.St → XK} (q : t σ H fun vs H1 => sp vs H1 Q (E σ)) : tCallS sp E t σ H Q := q
theorem g_meX {σ : L2.St} {H : Hp} {Q : VK} (q : ta σ H fun x H1 => ∃ a dx fs, x = .ref a ∧ H1 a = some (.ins C dx fs) ∧ fs.lookup m = none ∧ t σ H1 fun vs H2 => sp (x :: vs) H2 Q (WE W σ)) : tMeX C m sp W ta t σ H Q := q
end
end Tw
namespace Tw
open PySem L2 PySem.Spec
/-- what isinstance asks of a class of the text -/
structure OwnIs (K : PySem.W.Frag) (C : Addr) : Prop where
  ha : PySem.W.findIn K (.ref C) "__class__" = some (some (.builtin "object.__class__"))
  hn : PySem.W.specialIn K (.builtin "object.__class__") "__get__" = some (some (.builtin "getset_descriptor.__get__"))
  ht : PySem.W.takesIn K (.builtin "object.__class__") = some true
  hm : PySem.W.mroIn K C (.type "object") = some true
  me : PySem.W.kitOne K (.ref C) (.ref C) = some true
  no : ∀ T ∈ kinds7, PySem.W.kitOne K (.type T) (.ref C) = some false
theorem g_isOwn {K : PySem.W.Frag} {C a dx : Addr} {fs : List (Str × V)} {H : Hp} {Q : VK} (O : OwnIs K C) (c : Cls K C) (e : H a = some (.ins C dx fs)) (q : Q (.bl true) H) : rIsi K [.ref a, .ref C] H Q :=
  ⟨_, _, _, _, true, rfl, .own C, .base (.ins e c O.ha O.hn O.ht O.hm), O.me, q⟩
theorem g_isNot {K : PySem.W.Frag} {C : Addr} {x : V} {T : String} {H : Hp} {Q : VK} (O : OwnIs K C) (ty : TyX K H x (.type T)) (h : T ∈ kinds7) (q : Q (.bl false) H) : rIsi K [x, .ref C] H Q :=
  ⟨_, _, _, _, false, rfl, .own C, ty, O.no T h, q⟩
section
variable {X : Cx} {k j : Nat} {C : Addr} {x m : Str} {p pos apos : Pos} {o e a b : Expr} {es : List Expr} {ps : List Str} {sp : Sp} {ta tb : TE} {t : TA} {W : WX}
theorem OpW.or {f : Value → Value → Sem Value} {r r' : L2.St → R2} (h : OpW X f r) (h' : OpW X f r') : OpW X f (fun σ x y H Q => r σ x y H Q ∨ r' σ x y H Q) :=
  fun pins s σ H x y v u Q I rx ry q => q.elim (h pins s σ H x y v u Q I rx ry) (h' pins s σ H x y v u Q I rx ry)
/-- an own operator that may raise: with another instance, with a thing of a built-in kind -/
def rOwnW (K : PySem.W.Frag) (C : Addr) (sp : Sp) (W : WX) : L2.St → R2 := fun σ x y H Q => (∃ (a b dx dy : Addr) (fs gs : List (Str × V)), x = .ref a ∧ y = .ref b ∧ H a = some (.ins C dx fs) ∧ H b = some (.ins C dy gs) ∧ sp [x, y] H Q (WE W σ)) ∨
  ∃ (a dx : Addr) (fs : List (Str × V)) (T : String), x = .ref a ∧ H a = some (.ins C dx fs) ∧ TyX K H y (.type T) ∧ T ∈ kinds7 ∧ sp [x, y] H Q (WE W σ)
theorem op_andW {K : PySem.W.Frag} (hK : X.K = K) (tk : Takes X W) (D : DefMX X.prog X.w X.K X.mg X.base k C (PySem.dunder Operator.BitAnd.info.2) ps sp) (hr : Room j X.A) (own : PySem.W.selfFirst X.K C = true) (nr : PySem.W.findIn X.K (.ref C) (dunderR Operator.BitAnd.info.2) = some none) (hk : k ≤ j := by decide) :
    OpW X (binaryOp .BitAnd) (rOwnW K C sp W) := by
  subst hK
  exact (op_own2W tk D hr own hk).or (op_ownTW tk D hr own nr kin_and hk)
theorem op_orW {K : PySem.W.Frag} (hK : X.K = K) (tk : Takes X W) (D : DefMX X.prog X.w X.K X.mg X.base k C (PySem.dunder Operator.BitOr.info.2) ps sp) (hr : Room j X.A) (own : PySem.W.selfFirst X.K C = true) (nr : PySem.W.findIn X.K (.ref C) (dunderR Operator.BitOr.info.2) = some none) (hk : k ≤ j := by decide) :
    OpW X (binaryOp .BitOr) (rOwnW K C sp W) := by
  subst hK
  exact (op_own2W tk D hr own hk).or (op_ownTW tk D hr own nr kin_or hk)
def tUnW (C : Addr) (sp : Sp) (W : WX) (ta : TE) : TE := fun σ H Q => ta σ H fun x H1 => ∃ (a dx : Addr) (fs : List (Str × V)), x = .ref a ∧ H1 a = some (.ins C dx fs) ∧ sp [x] H1 Q (WE W σ)
theorem pe_invW (tk : Takes X W) (D : DefMX X.prog X.w X.K X.mg X.base k C "__invert__" ps sp) (hr : Room j X.A) (ha : PE X a ta) (hk : k ≤ j := by decide) : PE X (.UnaryOp .Invert a pos) (tUnW C sp W ta) := by
  constructor
  intro pins s σ H Q I h
  refine PyProof.Rows.UnaryOp_ (thn (ha.run pins s σ H _ I h) ?_)
  rintro u s1 ⟨y, H1, I1, ry, q, dq, fs, rfl, eq, rest⟩
  obtain rfl : u = Value.ref q := ry
  obtain ⟨f, fd, F, hm, hb⟩ := D.ex
  obtain ⟨_, OA, _⟩ := ins_get I1.hok eq
  obtain ⟨_, ia, _⟩ := OA.look
  obtain ⟨_, fr⟩ := I1.fr
  refine PySem.W.ksp_inv fr I1.mod.kin ia hm.at_ hm.fn ?_
  exact run_fnS F (hr.mono hk) hb (passAt tk σ) I1 (vs := [.ref q]) (.cons (show RelV (.ref q) (.ref q) from rfl) .nil) rest
/-- a class of the text as a value -/
theorem pe_cls (hg : Gl X x) (hm : X.mg x = some (.ref C)) (hdb : (x == ("__debug__" : Str)) = false := by decide) : PE X (.Name x p) (tC (.ref C)) := pe_glob (v := .ref C) hg hm rfl hdb
end
end Tw
namespace Tw
open PySem L2 PySem.Spec
section
variable {σ : L2.St} {H : Hp} {Q : VK} {ta tb : TE} {t : TA} {sp : Sp} {W : WX} {C : Addr} {r : L2.St → R2} {D : Ends}
theorem g_opW (q : ta σ H fun x H1 => tb σ H1 fun y H2 => r σ x y H2 Q) : tOpW r ta tb σ H Q := q
theorem g_unW (q : ta σ H fun x H1 => ∃ (a dx : Addr) (fs : List (Str × V)), x = .ref a ∧ H1 a = some (.ins C dx fs) ∧ sp [x] H1 Q (WE W σ)) : tUnW C sp W ta σ H Q := q
end
end Tw

set_option Elab.async false
set_option linter.all false
set_option maxRecDepth 100000
set_option maxHeartbeats 4000000
/-! != of lists that are equal item by item -/
namespace PySem.SeqAt
open AutoSeq1 (wpAny_loadPart')
open MeetsSeq MeetsSeq2 MeetsSeq3 SeqRoads2
section
variable {prog : Program} {w : World}
theorem tw_ne_loop (l b : Addr) (items items2 : Array Value) (n n2 : Nat) (dd dd2 : Option Addr) (sl sl2 : Array (Option Value)) (hsz : items.size = items2.size) (k : Nat) :
    ∀ i : Nat, items.size - i = k → MeetsIn prog w (Builtin.«list.__eq__.loop» ⟨[.ref l, .ref b, rawInt i, rawInt 3], []⟩)
      (fun A R s => s.heap.get? l = some { cls := .type "list", dict := dd, data := .seq items n, slots := sl } ∧ s.heap.get? b = some { cls := .type "list", dict := dd2, data := .seq items2 n2, slots := sl2 } ∧
        (∀ j (h1 : j < items.size) (h2 : j < items2.size), EqP prog w A.in1 s items[j] items2[j] true) ∧
        R (.ok (.ret (.bool false))) s) := by
  induction k with
  | zero =>
    intro i hk A R s h
    obtain ⟨hp, g, d, tk, os⟩ := s; obtain ⟨hl, hb, he, h⟩ := h
    wp_walk using wpAny_loadPart' hl, wpAny_loadPart' hb
    have hi1 : items[((i : Nat) : Int).toNat]? = none := by simp; omega
    have hi2 : items2[((i : Nat) : Int).toNat]? = none := by simp; omega
    rw [hi1, hi2]
    wp_walk using wpAny_loadPart' hl, wpAny_loadPart' hb
    show R (.ok (.ret (.bool (items.size != items2.size)))) _
    rw [hsz]
    simpa using h
  | succ k ih =>
    intro i hk A R s h
    obtain ⟨hp, g, d, tk, os⟩ := s; obtain ⟨hl, hb, he, h⟩ := h
    wp_walk using wpAny_loadPart' hl, wpAny_loadPart' hb
    have hlt : i < items.size := by omega
    have hlt2 : i < items2.size := by omega
    have hi1 : items[((i : Nat) : Int).toNat]? = some items[i] := by simp [hlt]
    have hi2 : items2[((i : Nat) : Int).toNat]? = some items2[i] := by simp [hlt2]
    have hc : ((i : Int) + 1) = ((i + 1 : Nat) : Int) := by push_cast; rfl
    rw [hi1, hi2]
    refine wpAny_bind (he i hlt hlt2 _ _ ?_)
    wp_walk
    rw [hc]
    exact ⟨plainId_quiet plain_eq_loop _, codeAny_builtin entry_eq_loop (by
      rw [Around.under_plainId plain_eq_loop _]
      exact ih (i + 1) (by omega) A R _ ⟨hl, hb, he, h⟩)⟩
theorem tw_list_ne (l b : Addr) (items items2 : Array Value) (n n2 : Nat) (dd dd2 : Option Addr) (sl sl2 : Array (Option Value)) (hsz : items.size = items2.size) :
    MeetsIn prog w (Builtin.«list.__ne__» ⟨[.ref l, .ref b], []⟩)
      (fun A R s => s.heap.get? l = some { cls := .type "list", dict := dd, data := .seq items n, slots := sl } ∧ s.heap.get? b = some { cls := .type "list", dict := dd2, data := .seq items2 n2, slots := sl2 } ∧
        (∀ j (h1 : j < items.size) (h2 : j < items2.size), EqP prog w A.in1 s items[j] items2[j] true) ∧
        R (.ok (.ret (.bool false))) s) := by
  intro A R s h
  obtain ⟨hp, g, d, tk, os⟩ := s; obtain ⟨hl, hb, he, h⟩ := h
  have f3 := AutoSeq1.sub_list_list
  have hne : ¬ (items.size != items2.size) = true := by simp [hsz]
  wp_walk using wpAny_loadPart' hl, wpAny_loadPart' hb
  exact ⟨plainId_quiet plain_eq_loop _, codeAny_builtin entry_eq_loop (by
    rw [Around.under_plainId plain_eq_loop _]
    exact tw_ne_loop l b items items2 n n2 dd dd2 sl sl2 hsz _ 0 rfl A R _ ⟨hl, hb, he, h⟩)⟩
theorem tw_ne_lists {A : Around} {s : Shared} {l b : Addr} {items items2 : Array Value} (hl : s.heap.IsList l items) (hb : s.heap.IsList b items2) (hsz : items.size = items2.size) (hu : A.units < cLine)
    (he : ∀ j (h1 : j < items.size) (h2 : j < items2.size), EqP prog w A.in1 s items[j] items2[j] true) (E Q : Value → Shared → Prop) (h : Q (.bool false) s) : wpAny (model prog w) A (richCompare .NotEq (.ref l) (.ref b)) Q E s := by
  obtain ⟨⟨cls, dd, data, sl⟩, ho, hc, n, hd⟩ := id hl
  obtain ⟨⟨cls2, dd2, data2, sl2⟩, ho2, hc2, n2, hd2⟩ := id hb
  simp only at hc hd hc2 hd2
  subst hc hd hc2 hd2
  have ta : s.TypeIs (.ref l) "list" := ⟨_, ho, rfl⟩
  have tb : s.TypeIs (.ref b) "list" := ⟨_, ho2, rfl⟩
  exact wpAny_richCompare_same_room (op := .NotEq) ta tb F.slot_list_ne (call_meetsIn F.slot_list_ne ta F.entry_list_ne (F.args_list_ne_2 _ _) (tw_list_ne l b items items2 n n2 dd dd2 sl sl2 hsz)
    ⟨ho, ho2, he, show Value.bool false ≠ Value.notImplemented ∧ Q (.bool false) s from ⟨(fun x => nomatch x), h⟩⟩) hu
end
end PySem.SeqAt
namespace L2
open PySem PySem.Spec PyProof.Rows
section
variable {X : Cx}
/-- a != b, two lists whose items are equal -/
def rNeV (K : PySem.W.Frag) : R2 := fun x y H Q => ∃ n a b xs ys, n ≤ 60 ∧ x = .ref a ∧ y = .ref b ∧ SqL K H a xs ∧ SqL K H b ys ∧ Paired (EqV K H n) xs ys ∧ Q (.bl false) H
theorem op_neV (hu : X.A.units + 64 < cLine) : OpR X (compareOp .NotEq) (rNeV X.K) := by
  intro pins s σ H x y v u Q I rx ry h
  obtain ⟨n, a, b, xs, ys, hn, rfl, rfl, ha, hb, hp, q⟩ := h
  cases (show v = Value.ref a from rx)
  cases (show u = Value.ref b from ry)
  obtain ⟨us, r1, p1, _⟩ := I.list ha
  obtain ⟨ws, r2, p2, _⟩ := I.list hb
  have hsz : us.toArray.size = ws.toArray.size := by
    rw [List.size_toArray, List.size_toArray, ← r1.length, ← r2.length]
    exact Paired.length hp
  refine SeqAt.tw_ne_lists p1.isList p2.isList hsz (by omega) (fun j h1 h2 => ?_) _ _ ⟨.bl false, H, I, rfl, q⟩
  have k := items_run (eqV_run I n X.A.in1 (by show X.A.units + 1 + n < cLine; omega)) hp r1 r2 j (by simpa using h1) (by simpa using h2)
  simpa using k
theorem op_neVu {K : PySem.W.Frag} (h : X.K = K) (hu : X.A.units + 64 < cLine) : OpR X (compareOp .NotEq) (rNeV K) := by subst h; exact op_neV hu
theorem op_eqVu {K : PySem.W.Frag} (h : X.K = K) (hu : X.A.units + 64 < cLine) : OpR X (compareOp .Eq) (rEqV K) := by subst h; exact op_eqV hu
end
end L2
namespace Tw
open PySem L2
def rMin2 : List V → Hp → VK → Prop := fun xs H Q => ∃ i j, xs = [.int i, .int j] ∧ Q (.int (if j < i then j else i)) H
def rInsert : V → List V → Hp → VK → Prop := fun x vs H Q => ∃ (l : Addr) (xs : List V) (i : Int) (y : V), x = .ref l ∧ vs = [.int i, y] ∧ H l = some (.lst xs) ∧ xs.length < sizeLine ∧ 0 ≤ i ∧ i < 2 ^ 63 ∧ Q .non (upd H l (.lst (xs.take i.toNat ++ [y] ++ xs.drop i.toNat)))
section
variable {X : Cx}
theorem call_min2G (h : X.calm = true) : CallR X (.builtin "min") rMin2 := call_min2 h
theorem pg_tupG {K : PySem.W.Frag} {es : List Expr} {k : Nat} {t : TGs} {n : Nat} {pos : Pos} (hK : X.K = K) (hc : X.calm = true) (h : PGs X es t)
    (hn : (assignEach es X.env).length = n := by rfl) (hst : (assignEach es X.env).findIdx? (·.1) = none := by rfl) : PG X (.Tuple es k pos) (gTup K n t) := by subst hK; exact pg_tup hc h hn hst
theorem mt_insertG : MtR X "list.insert" rInsert := mt_insert
end
section
variable {K : PySem.W.Frag} {σ : L2.St} {H : Hp} {Q : VK} {D : Ends} {t : TA} {c : TT} {tb : TS} {i j : Int}
theorem g_min2 (q : Q (.int (if j < i then j else i)) H) : rMin2 [.int i, .int j] H Q := ⟨i, j, rfl, q⟩
theorem g_rng2 {R : It → Hp → Prop} (q : t σ H fun vs H1 => ∃ i j : Int, vs = [.int i, .int j] ∧ (-(2 ^ 62) ≤ i ∧ i < 2 ^ 62 ∧ -(2 ^ 62) ≤ j ∧ j < 2 ^ 62) ∧ R (Itr i (j - i).toNat) H1) : iRng2 t σ H R := q
theorem g_gtup {n : Nat} {u : TGs} {p : Addr} {xs : List V} {QS : L2.St → Hp → Prop} (h : H p = some (.tup xs)) (hl : xs.length = n) (q : u xs σ H QS) : gTup K n u (.ref p) σ H QS := ⟨p, xs, rfl, SqT.of h, hl, q⟩
theorem g_gcons {g : TG} {u : TGs} {v : V} {r : List V} {QS : L2.St → Hp → Prop} (q : g v σ H fun σ' H' => u r σ' H' QS) : gCons g u (v :: r) σ H QS := ⟨v, r, rfl, q⟩
theorem g_gnil {QS : L2.St → Hp → Prop} (q : QS σ H) : gNil [] σ H QS := ⟨rfl, q⟩
theorem g_while (q : ∃ W : Nat → L2.St → Hp → Prop, (∃ m, W m σ H) ∧ ∀ m σ H, W m σ H →
  c σ H fun b H1 => if b = true then ∃ N : L2.St → Hp → Prop, (∀ σ' H', N σ' H' → ∃ m', m' < m ∧ W m' σ' H') ∧ tb { D with nx := N, ct := N, bk := D.nx } σ H1 else D.nx σ H1) : tWhile c tb D σ H := q
theorem g_ins {p : Addr} {xs : List V} {v : V} (h : H p = some (.lst xs)) (hz : xs.length < 10000000) (h0 : 0 ≤ i) (h1 : i < 10000000) (q : Q .non (upd H p (.lst (xs.take i.toNat ++ [v] ++ xs.drop i.toNat)))) : rInsert (.ref p) [.int i, v] H Q := ⟨p, xs, i, v, rfl, rfl, h, by rw [sizeLine_eq]; omega, h0, by omega, q⟩
end
end Tw
namespace Tw
open PySem L2
section
variable {σ : L2.St} {g : TG} {tt : TT} {te : TE} {vs : List Nat} {J : It} {H1 : Hp} {D : Addr} {Qd : Hp → Prop}
/-- a comprehension whose turns make new things -/
theorem lc_new (xs : List V) (Rel : Nat → V → Hp → Prop) (hD : H1 D = none) (hJ : ∀ H, (∀ q o, H1 q = some o → H q = some o) → Fits J xs H) (hlen : xs.length ≤ 1000000)
    (hmono : ∀ i y H H', (∃ ys, H D = some (.lst ys)) → Rel i y H → (∀ q o, q ≠ D → H q = some o → H' q = some o) → Rel i y H')
    (hs : ∀ i x Hh (R : V → Hp → Prop) (S : Hp → Prop), xs[i]? = some x → (∀ q o, H1 q = some o → Hh q = some o) → (∃ ys, Hh D = some (.lst ys)) → (∀ y H4, (∀ q o, Hh q = some o → H4 q = some o) → Rel i y H4 → R y H4) →
      g x (wipe σ vs) Hh fun σ2 H2 => wipe σ2 vs = wipe σ vs ∧ tt σ2 H2 fun b H3 => if b = true then te σ2 H3 R else S H3)
    (hd : ∀ H ys, (∀ q o, H1 q = some o → H q = some o) → H D = some (.lst ys) → ys.length = xs.length → (∀ i y, ys[i]? = some y → Rel i y H) → Qd H) :
    ∃ W : Nat → Nat → Hp → Prop, (∃ m, W 0 m (upd H1 D (.lst []))) ∧ ∀ i m H, W i m H →
      (J.stop i H ∧ Qd H) ∨ (J.go i H ∧ ∃ Nx : Hp → Prop, (∀ H', Nx H' → ∃ m', m' < m ∧ W (i + 1) m' H') ∧ ∀ x H', J.yld i H x H' → g x (wipe σ vs) H' fun σ2 H2 => wipe σ2 vs = wipe σ vs ∧ tt σ2 H2 fun b H3 =>
        if b = true then te σ2 H3 fun y H4 => ∃ acc, H4 D = some (.lst acc) ∧ acc.length < sizeLine ∧ Nx (upd H4 D (.lst (acc ++ [y]))) else Nx H3) := by
  refine ⟨fun i m H => m = xs.length - i ∧ i ≤ xs.length ∧ (∀ q o, H1 q = some o → H q = some o) ∧ ∃ ys, H D = some (.lst ys) ∧ ys.length = i ∧ ∀ j y, ys[j]? = some y → Rel j y H, ⟨xs.length, by simp, Nat.zero_le _, fun q o h => by rw [upd_ne (ne_of_none h hD)]; exact h, [], upd_same, rfl, fun j y h => by simp at h⟩, ?_⟩
  rintro i m H ⟨rfl, hi, hK, ys, hDl, hyl, hR⟩
  have fi := hJ H hK
  by_cases hlt : i < xs.length
  · refine .inr ⟨fi.go i hlt, fun H' => (∀ q o, H1 q = some o → H' q = some o) ∧ ∃ ys, H' D = some (.lst ys) ∧ ys.length = i + 1 ∧ ∀ j y, ys[j]? = some y → Rel j y H', fun H' w => ⟨xs.length - (i + 1), by omega, rfl, hlt, w⟩, ?_⟩
    intro x H' hy
    obtain ⟨rfl, hx⟩ := fi.yld i x H' hy
    refine hs i x H' (fun y H4 => _) (fun H3 => _) hx hK ⟨_, hDl⟩ fun y H4 k4 r4 => ⟨ys, k4 _ _ hDl, by rw [sizeLine_eq]; omega, fun q o h => by rw [upd_ne (ne_of_none h hD)]; exact k4 _ _ (hK q o h), ys ++ [y], upd_same, by rw [List.length_append, hyl]; rfl, fun j z hz => ?_⟩
    have ku : ∀ q o, q ≠ D → H4 q = some o → (upd H4 D (.lst (ys ++ [y]))) q = some o := fun q o n h => by rw [upd_ne n]; exact h
    by_cases hj : j < ys.length
    · rw [List.getElem?_append_left hj] at hz
      exact hmono j z _ _ ⟨ys, k4 _ _ hDl⟩ (hmono j z _ _ ⟨ys, hDl⟩ (hR j z hz) fun q o _ h => k4 q o h) ku
    · rw [List.getElem?_append_right (by omega)] at hz
      obtain ⟨h0, _⟩ := List.getElem?_eq_some_iff.mp hz
      have e : j - ys.length = 0 := by simpa using h0
      rw [e] at hz
      obtain rfl : y = z := by simpa using hz
      obtain rfl : j = i := by omega
      exact hmono _ _ _ _ ⟨ys, k4 _ _ hDl⟩ r4 ku
  · have e : i = xs.length := by omega
    subst e
    exact .inl ⟨fi.stop _ (Nat.le_refl _), hd H ys hK hDl hyl hR⟩
end
end Tw

set_option Elab.async false
set_option linter.all false
set_option maxRecDepth 100000
set_option maxHeartbeats 4000000
namespace PySem
namespace ErBadOrder
open PySem.W PySem.Calls PyProof.Rows PySem.HandSPX PySem.TwX
def inA (p1 p2 : Pos) : Arguments := { posonlyargs := [], args := [{ arg := "self", annotation := none, pos := p1 }, { arg := "at", annotation := none, pos := p2 }], vararg := none, kwonlyargs := [], kw_defaults := [], kwarg := none, defaults := [] }
def inB (q1 q2 q3 q4 : Pos) : List Stmt := [.Assign [.Attribute (.Name "self" q1) "at" q2] (.Name "at" q3) q4]
/-- what the written part says of the class at C, and of its __init__ at fI -/
structure Err (K : Frag) (mg : Str → Option Value) (C fI : Addr) : Prop where
  gC : mg "BadOrder" = some (.ref C)
  cls : ∃ nm q N bs bm sn sub ab col dd k0 k1 k2 k3 k5, K.lookup C = some (excClassObj nm q C N bs bm true sn sub ab col dd k0 k1 k2 k3 k5 "Exception.__new__") ∧ OwnEx bm
  sa : findIn K (.ref C) "__setattr__" = some (some (.builtin "object.__setattr__"))
  ga : findIn K (.ref C) "__getattribute__" = some (some (.builtin "BaseException.__getattribute__"))
  gg : findIn K (.ref C) "__getattr__" = some none
  noF : findIn K (.ref C) "at" = some none
  ini : findIn K (.ref C) "__init__" = some (some (.ref fI))
  tyI : typeIn K (.ref fI) = some (.type "function")
  kC : keepIn K (.ref C) = true
  exC : subIn K (.ref C) (.type "BaseException") = some true
  tyC : typeIn K (.ref C) = some (.type "type")
  hdC : hasDictIn K C = true
  te : exmOne K (.ref C) (.ref C) = some true
  fn : ∃ (oc : Value) (od : Option Addr) (doc pm : Value) (an : Option Addr) (cdv ct : Value) (osl : Array (Option Value)) (p1 p2 q1 q2 q3 q4 : Pos) (sc : Scope),
    K.lookup fI = some ⟨oc, od, .func (fnOf "__init__" "BadOrder.__init__" (inA p1 p2) (inB q1 q2 q3 q4) sc .none .none doc pm an cdv ct), osl⟩ ∧ codeIn K cdv "BadOrder.__init__" = true ∧ sc.kind = .function ∧ sc.names = [(PySem.Str.ofString "self", .local), (PySem.Str.ofString "at", .local)] ∧ sc.isGenerator = false ∧ sc.isCoroutine = false
theorem one_ok (v : Value) : [v].length ≤ sizeLine := by rw [sizeLine_eq]; exact (by decide : 1 ≤ 16777216)
theorem read_local {M : Model} {s : Shared} {name : Str} {scope : Scope} {L a : Addr} {cd : Value} {m : Str → Option Value} {x : Str} {pos : Pos} {v : Value} {Q : Value → Shared → Prop} {A : Around} {E : Value → Shared → Prop} (hn : s.heap.Ns L m) (hv : m x = some v) (h : Q v s) (hk : scope.kind = .function)
    (hl : scope.names.lookup x = some .local) (hd : (x == ("__debug__" : Str)) = false := by decide) : wpAny M A (eval (.Name x pos) (envOfC name scope L a cd)) Q E s := wpAny_Name (wpAny_loadName_local hk hl hn hv h) hd
structure InitLeft (h h2 : Heap) (x C dx t1 : Addr) (v : Value) : Prop where
  keep : ∀ b o, b ≠ x → h.get? b = some o → h2.get? b = some o
  obj : h2.get? x = some { cls := .ref C, dict := some dx, data := .fields #[.ref t1, .none, .none, .none, .bool false, .none] }
  dbig : h.objs.size ≤ dx
  dne : dx ≠ x
  ns : h2.Ns1 dx (fun y => if y = "at" then some v else none)
structure ErrMade (h h2 : Heap) (e C d : Addr) (v : Value) : Prop where
  keep : ∀ b o, h.get? b = some o → h2.get? b = some o
  new : h.objs.size ≤ e
  obj : ∃ oe vs, h2.get? e = some oe ∧ oe.cls = .ref C ∧ oe.dict = some d ∧ oe.data = .fields vs ∧ vs[1]? = some .none
  dbig : h.objs.size ≤ d
  dne : d ≠ e
  ns : h2.Ns1 d (fun y => if y = "at" then some v else none)
section
variable {prog : Program} {w : World} {A : Around} {E : Value → Shared → Prop} {R : Result → Shared → Prop} {s : Shared} {K : Frag} {mg : Str → Option Value} {C fI : Addr}
theorem err_init (T : Err K mg C fI) {x t0 : Addr} {v : Value} (X : K.In s.heap) (hlim : s.heap.NoLimit) (hx : s.heap.get? x = some (excO C t0)) (hroom : A.depth < recursionLimit)
    (hq : ∀ h2 tk dx, InitLeft s.heap h2 x C dx t0 v → R (.ok (.ret .none)) { s with heap := h2, toks := tk }) :
    codeAny (model prog w) A (.call (.ref fI) ⟨[.ref x, v], []⟩) R s := by
  obtain ⟨oc, od, doc, pm, an, cdv, ct, osl, p1, p2, q1, q2, q3, q4, sc, ho, hcd, hk, hnames, hge, hco⟩ := T.fn
  obtain ⟨nm', q, N, bs, bm, sn, sub, ab, col, dd, k0, k1, k2, k3, k5, hC, hbm⟩ := T.cls
  have hcl : clsIn K C = some { name := nm', bases := bs, mro := .ref C :: bm, ns := N, qualname := q, hasDict := true, slotNames := sn, subclasses := sub, abstract := ab, collection := col, hasDel := false } := by unfold clsIn; rw [hC] <;> rfl
  have l1 : sc.names.lookup ("self" : Str) = some .local := by rw [hnames]; decide +kernel
  have l2 : sc.names.lookup ("at" : Str) = some .local := by rw [hnames]; decide +kernel
  refine Att.call_fn (binds := [("self", .ref x), ("at", v)]) X hlim ho hcd hroom (BindsTo.of_eq (by first | rfl | with_unfolding_all rfl)) (by rw [List.all_cons, List.all_cons, l1, l2]; rfl) (fun s₁ IC => ?_) hco hge hk
  obtain ⟨h₁, tk₁, rfl⟩ := IC.toInCall.same
  have k : ∀ b o, s.heap.get? b = some o → h₁.get? b = some o := IC.toInCall.keep
  have hn := IC.toInCall.ns
  have X₁ : K.In h₁ := X.keeps k
  have hx₁ := k _ _ hx
  have b1 : (bindL (envOfC "BadOrder.__init__" sc s.heap.objs.size fI cdv).kindOf [("self", .ref x), ("at", v)] fun _ => none) ("self" : Str) = some (.ref x) :=
    L2.bindL_get (P := ["self", "at"]) (vs := [.ref x, v]) (i := 0) (by decide +kernel) rfl rfl l1
  have b2 : (bindL (envOfC "BadOrder.__init__" sc s.heap.objs.size fI cdv).kindOf [("self", .ref x), ("at", v)] fun _ => none) ("at" : Str) = some v :=
    L2.bindL_get (P := ["self", "at"]) (vs := [.ref x, v]) (i := 1) (by decide +kernel) rfl rfl l2
  show wpAny _ _ (execs _ _) _ _ _
  refine wpAny_execs_cons (plainObj_wpAny_Assign_Attribute ?_)
  refine read_local (v := v) hn b2 (read_local (v := .ref x) hn b1 ?_ hk l1) hk l2
  refine set_plain X₁ (ox := excO C t0) (od := none) ⟨hx₁, rfl, rfl, trivial⟩ T.sa ?_
  refine setattr_first X₁ hx₁ hcl (.own C hbm) rfl T.noF (fun h₃ tk₃ dx k₃ dn dne hx₃ hn₃ => ?_)
  show wpAny _ _ (execs _ _) _ _ _
  have z : s.heap.objs.size < h₁.objs.size := hn.lt
  exact wpAny_execs_nil (hq h₃ tk₃ dx ⟨fun b o hb e => k₃ b o hb (k b o e), hx₃, Nat.le_of_lt (Nat.lt_of_lt_of_le z dn), dne, hn₃⟩)
theorem err_made (T : Err K mg C fI) {v : Value} (X : K.In s.heap) (hlim : s.heap.NoLimit) (hroom : A.depth + 1 < recursionLimit)
    (hq : ∀ h2 tk e d, ErrMade s.heap h2 e C d v → R (.ok (.ret (.ref e))) { s with heap := h2, toks := tk }) :
    codeAny (model prog w) A (.call (.ref C) ⟨[v], []⟩) R s := by
  obtain ⟨nm', q, N, bs, bm, sn, sub, ab, col, dd, k0, k1, k2, k3, k5, hC, hbm⟩ := T.cls
  obtain ⟨hp, g, dr, tk, os⟩ := s
  have k : ∀ b o, hp.get? b = some o → ((hp.push (kdv_tup [v])).push (excO C hp.objs.size)).get? b = some o := fun b o e => Heap.get?_push_of_some _ (Heap.get?_push_of_some _ e)
  have hget : ((hp.push (kdv_tup [v])).push (excO C hp.objs.size)).get? (hp.objs.size + 1) = some (excO C hp.objs.size) := by heap_get
  refine call_own F.excBase_Exception (fun X => hbm.has X) (X _ _ hC) (looks_findIn X T.ini) (fun self => bind_fn X self T.tyI) (one_ok v) ?_
  refine err_init (s := ⟨(hp.push (kdv_tup [v])).push (excO C hp.objs.size), g, dr, tk, os⟩) T (X.keeps k) (hlim.keeps k) hget ?_ fun h2 tk2 dx ⟨k', hx, dn, dne, hns⟩ => ?_
  · show A.depth + 1 < recursionLimit
    exact hroom
  · have old : ∀ b o, hp.get? b = some o → h2.get? b = some o := fun b o e => k' b o (Nat.ne_of_lt (Nat.lt_succ_of_lt (Heap.lt_size e))) (k b o e)
    have z : hp.objs.size + 1 + 1 ≤ dx := by
      first
        | (simpa only [Heap.size_push] using dn)
        | exact dn
        | (have q := dn; rw [Heap.size_push, Heap.size_push] at q; exact q)
    exact ⟨rfl, hq h2 tk2 (hp.objs.size + 1) dx ⟨old, Nat.le_succ _, ⟨_, _, hx, rfl, rfl, rfl, rfl⟩, Nat.le_trans (Nat.le_trans (Nat.le_succ _) (Nat.le_succ _)) z, dne, hns⟩⟩
end
end ErBadOrder
end PySem
namespace Tw
open PySem L2
theorem relO_BadOrder {v : V} {v' : Value} (r : RelV v v') (f : Str) : RelO (List.lookup f [(("at" : Str), v)]) (if f = "at" then some v' else none) := by
  by_cases hw : f = "at"
  · subst hw
    rw [if_pos rfl]
    have q : List.lookup ("at" : Str) [(("at" : Str), v)] = some v := by simp [List.lookup]
    rw [q]
    exact r
  · rw [if_neg hw]
    have qw : (f == ("at" : Str)) = false := by simpa using hw
    have q2 : List.lookup f [(("at" : Str), v)] = none := by simp [List.lookup, qw]
    rw [q2]
    trivial
section
variable {X : Cx} {C fI : Addr}
def tMkBadOrder (C : Addr) (ta : TA) : L2.St → Hp → XK → Prop := fun σ H Q => ta σ H fun vs H1 => ∃ v, vs = [v] ∧ ∀ d, H1 d = none → Q (.ref C) (some d) (upd H1 d (.xd [(("at" : Str), v)]))
theorem pmk_BadOrder {a : Expr} {ta : TA} {p pos : Pos} {k : Nat} (T : PySem.ErBadOrder.Err X.K X.mg C fI) (hr : Room k X.A) (ha : PA X [a] ta) (hg : Gl X "BadOrder" := by rfl)
    (he : starEach (a :: []) X.env = (false, eval a X.env) :: starEach [] X.env := by rfl) (hpl : (backTo pos (starEach [] X.env)).any (·.1) = false := by rfl) :
    PMk X (.Call (.Name "BadOrder" p) [a] [] pos) (tMkBadOrder C ta) := by
  intro pins s σ H Q I h
  refine wpAny_Call_Name_kw (ld_glob I hg T.gC ?_)
  refine PySem.W.callWith_K (h₀ := X.base) I.ok.mod.kin T.kC (thn (ha.run pos pins s σ H _ I h) fun us s1 hh => ?_) he hpl
  obtain ⟨vs, H1, I1, r1, v, ev, q1⟩ := hh
  subst ev
  refine ⟨I1.kIn, ?_⟩
  cases r1 with
  | cons rv rn =>
    rename_i v' us'
    cases rn
    show wpAny _ _ (call (.ref C) [v']) _ _ _
    have hlim := I1.nolimit
    obtain ⟨hp, g, dr, tk, os⟩ := s1
    refine wpAny_call (PySem.ErBadOrder.err_made T I1.kIn hlim (by have := hr.dp; omega) fun h' tk' e d M => ?_)
    show MkP X pins σ Q (.ref e) ⟨h', g, dr, tk', os⟩
    obtain ⟨oe, fv, hoe, hc, hd, hdat, h1⟩ := M.obj
    have hns := M.ns
    obtain ⟨G', g1, g2⟩ := restrict h' fun b => decide (b ≠ e)
    have gk : ∀ b, b ≠ e → G'.get? b = h'.get? b := fun b hb => g1 b (decide_eq_true hb)
    have ge : G'.get? e = none := g2 e (by simp)
    have old : ∀ b o, hp.get? b = some o → G'.get? b = some o := fun b o q => (gk b (Nat.ne_of_lt (Nat.lt_of_lt_of_le (Heap.lt_size q) M.new))).trans (M.keep b o q)
    have ob : ObjOk X.prog X.w (upd H1 d (.xd [(("at" : Str), v)])) G' d (.xd [(("at" : Str), v)]) :=
      ⟨_, hns.at (fun o q => (gk d M.dne).trans q), fun f => relO_BadOrder rv f⟩
    have J : Inv X pins σ (upd H1 d (.xd [(("at" : Str), v)])) ⟨G', g, dr, tk', os⟩ := I1.laid (t' := tk') old M.dbig ob
    refine ⟨e, oe, fv, ⟨G', g, dr, tk', os⟩, _, .ref C, some d, rfl, J, fun b o q => ?_, ge, hoe, ⟨hc, hd⟩, hdat, h1, ?_, rfl, I1.bare, raises_own T.exC T.tyC, q1 d (I1.hok.fresh M.dbig)⟩
    · by_cases hb : b = e
      · have q' : G'.get? b = some o := q
        rw [hb, ge] at q'; cases q'
      · exact (gk b hb).symm.trans q
    · rw [upd_ne (Ne.symm M.dne)]
      exact I1.hok.fresh M.new
def tRaiseBadOrder (C : Addr) (W : WX) (ta : TA) : TS := fun _ σ H => tMkBadOrder C ta σ H fun cls d H' => W cls d σ H'
theorem ps_raiseBadOrder {a : Expr} {ta : TA} {W : WX} {p pos pos2 : Pos} {k : Nat} (hc : X.calm = true) (T : PySem.ErBadOrder.Err X.K X.mg C fI) (hr : Room k X.A) (tk : Takes X W) (ha : PA X [a] ta) (hg : Gl X "BadOrder" := by rfl)
    (he : starEach (a :: []) X.env = (false, eval a X.env) :: starEach [] X.env := by rfl) (hpl : (backTo pos (starEach [] X.env)).any (·.1) = false := by rfl) :
    PS X (.Raise (some (.Call (.Name "BadOrder" p) [a] [] pos)) none pos2) (tRaiseBadOrder C W ta) := ps_raise hc tk (pmk_BadOrder T hr ha hg he hpl)
def tByBadOrder (C : Addr) (a : Addr) (cls : Value) (d : Option Addr) (te : TE) : TE := fun σ H Q => te σ H fun x H1 => x = .ref a ∧ cls = .ref C ∧ ∃ (dd : Addr) (v : V), d = some dd ∧ H1 dd = some (.xd [(("at" : Str), v)]) ∧ Q v H1
theorem pe_byBadOrder {a : Addr} {oe : Obj} {cls : Value} {d : Option Addr} {pn : List (Addr × Obj)} {e : Expr} {te : TE} {pos : Pos} (T : PySem.ErBadOrder.Err X.K X.mg C fI) (hz : Zc cls d oe) (hf : ∃ vs, oe.data = .fields vs) (he : PE (X.suite a ((a, oe) :: pn)) e te)
    (hb : attributeBase e "at" X.env (eval e X.env) = eval e X.env := by rfl) :
    PE (X.suite a ((a, oe) :: pn)) (.Attribute e "at" pos) (tByBadOrder C a cls d te) := by
  refine ⟨fun pins s σ H Q I h => ?_⟩
  refine attr_of hb (thn (he.run pins s σ H _ I h) fun u s1 hh => ?_)
  obtain ⟨x, H1, I1, rx, ex, ec, dd, v, ed, ea, q⟩ := hh
  subst ex
  obtain rfl : u = Value.ref a := rx
  subst ec
  subst ed
  obtain ⟨ha, _⟩ := I1.pin (a, oe) (List.mem_append_left _ List.mem_cons_self)
  obtain ⟨vs, hd⟩ := hf
  have hx : ObjOk X.prog X.w H1 s1.heap dd (.xd [(("at" : Str), v)]) := I1.hok dd _ ea
  obtain ⟨mA, hns, hr⟩ := hx
  obtain ⟨od, ho, hl⟩ := lookIn_ns hns
  have l : List.lookup ("at" : Str) [(("at" : Str), v)] = some v := by simp [List.lookup]
  obtain ⟨u, hu, ru⟩ := RelO.some_of (v := v) (o := mA "at") (by rw [← l]; exact hr "at")
  have J : PySem.W.InstAt s1.heap a oe C (some od) := ⟨ha, hz.1, by unfold PySem.W.notCls; rw [hd] <;> rfl, by rw [hz.2]; exact ho⟩
  exact HandSPX.exc_get I1.kIn J T.ga T.gg T.exC (PySem.W.findObj_own T.hdC T.noF rfl (by rw [hl, hu])) (handed_of ru) ⟨v, H1, I1.tok _, ru, q⟩
end
end Tw

set_option Elab.async false
set_option linter.all false
set_option maxRecDepth 100000
set_option maxHeartbeats 4000000
/-! enumerate over a list or a tuple; a walk over either; a maker with two keyword-only parameters whose defaults are empty tuples -/
namespace PySem
namespace TwE
open Sem (wp)
theorem fresh_enum {v : Value} {o : Obj} {Hc : Heap → Prop} (B : Begins v o Hc) :
    Meets (Builtin.«enumerate.__new__» ⟨[.type "enumerate", v], []⟩) (fun _ R s => Hc s.heap ∧ R (.ok (.ret (.ref (s.heap.push o).objs.size)))
      { s with heap := (s.heap.push o).push { cls := .type "enumerate", data := .fields #[.none, .bool false, .ref s.heap.objs.size, rawInt 0, .none, .none] } }) :=
  .of_wp fun pr wd Ar Rr st hyp => by
    obtain ⟨hp, gg, dr, tc, os⟩ := st
    obtain ⟨hb, hr⟩ := hyp
    have sub0 := sub_enumerate
    have start : ∀ {A2 : Around} {E2 Q2 : Value → Shared → Prop}, Q2 (.ref hp.objs.size) ⟨hp.push o, gg, dr, tc, os⟩ → wpAny (model pr wd) A2 (pyIter v) Q2 E2 ⟨hp, gg, dr, tc, os⟩ := fun q => B.iter pr wd _ _ ⟨hp, gg, dr, tc, os⟩ _ hb q
    wp_walk using start
    refine wpAny_stack_any fun stk => wpAny_pure ?_
    split
    · rename_i cc _ _ _ _ _
      rcases (cc == Value.type "enumerate") with _ | _
      all_goals wp_walk using start
      all_goals exact ⟨_, rfl, hr⟩
    · wp_walk using start
      exact ⟨_, rfl, hr⟩
section
variable {prog : Program} {w : World} {A : Around} {E : Value → Shared → Prop} {s : Shared}
theorem enum_call {v : Value} {o : Obj} {Hc : Heap → Prop} {Q : Value → Shared → Prop} (B : Begins v o Hc) (h1 : Hc s.heap)
    (hq : ∀ h2, IsEnum h2 (s.heap.objs.size + 1) s.heap.objs.size 0 .none → h2.get? s.heap.objs.size = some o → h2.objs.size = s.heap.objs.size + 2 → (∀ b u, s.heap.get? b = some u → h2.get? b = some u) → Q (.ref (s.heap.objs.size + 1)) { s with heap := h2 }) :
    wpAny (model prog w) A (call (.type "enumerate") [v]) Q E s := by
  refine callType_new F.called_enumerate (by decide) (F.typeCall_enumerate_1 _) (F.newCall_enumerate_1 _) (fun x => F.args_object_init_2 x _) F.entry_enumerate_new (fresh_enum B) ⟨h1, ?_⟩
  have sz : (s.heap.push o).objs.size = s.heap.objs.size + 1 := Heap.size_push ..
  have en := Heap.get?_push_size (s.heap.push o) (o := { cls := .type "enumerate", data := .fields #[.none, .bool false, .ref s.heap.objs.size, rawInt 0, .none, .none] }) rfl
  rw [sz] at en
  show _ ∧ _
  rw [sz]
  exact ⟨⟨_, en, rfl⟩, hq _ en (Heap.get?_push_of_some _ (Heap.get?_push_size _ B.free)) (by rw [Heap.size_push, sz]) fun b u e => Heap.get?_push_of_some _ (Heap.get?_push_of_some _ e)⟩
end
end TwE
end PySem
namespace L2
open PySem PySem.Spec PyProof.Rows
/-- the tuple at a, each item in a new pair -/
def Itet (K : PySem.W.Frag) (a : Addr) : It :=
  ⟨fun i H => ∃ (xs : List V) (x : V), SqT K H a xs ∧ xs[i]? = some x, fun i H v H2 => ∃ T x, v = .ref T ∧ H T = none ∧ H2 = upd H T (.tup [.int (i : Nat), x]) ∧ ∀ xs, SqT K H a xs → xs[i]? = some x, fun i H => ∃ xs : List V, SqT K H a xs ∧ xs.length = i⟩
theorem tw_apart {h : Heap} {a it : Addr} {i : Nat} {its : Array Value} (p : h.IsTuple a its) (q : h.IsTupleIter it a i) : a ≠ it := by
  intro e
  obtain ⟨o, ho, hc, n, hd⟩ := p
  obtain ⟨o2, ho2, hc2, hd2⟩ := q
  rw [e, ho2] at ho
  cases ho
  rw [hd] at hd2
  cases hd2
theorem tw_apart2 {h : Heap} {a e it : Addr} {c : Int} {old : Value} {its : Array Value} (p : h.IsTuple a its) (q : IsEnum h e it c old) : e ≠ a := by
  intro z
  obtain ⟨o, ho, hc, n, hd⟩ := p
  have ho2 := q
  unfold IsEnum at ho2
  rw [z, ho] at ho2
  cases ho2
  cases hd
theorem turn_enumT {P : Program} {w : World} {K : PySem.W.Frag} {elts : List Expr} {kk : Nat} {tpos : Pos} (a e it : Addr) :
    Turn P w K (.Tuple elts kk tpos) (Itet K a) [e, it] e (fun i h => (∃ old, IsEnum h e it ((i : Nat) : Int) old) ∧ h.IsTupleIter it a i ∧ e ≠ it) where
  mem := by simp
  obj := fun i h st b hb => by
    obtain ⟨⟨old, he⟩, ⟨o, ho, hc, hd⟩, _⟩ := st
    rcases (show b = e ∨ b = it by simpa using hb) with rfl | rfl
    · exact ⟨_, he, fun v q => nomatch q⟩
    · exact ⟨o, ho, fun v q => by rw [hd] at q; cases q⟩
  keep := fun i h h2 st k => ⟨st.1.elim fun old he => ⟨old, k e (by simp) _ he⟩, st.2.1.at fun o q => k it (by simp) o q, st.2.2⟩
  item := by
    intro X hP hw hK hc i pins s σ H E I hf st hg
    subst hP hw hK
    obtain ⟨⟨old, he⟩, hit, hne⟩ := st
    obtain ⟨xs, x, hq, hx⟩ := hg
    obtain ⟨its, rv, p, hz⟩ := I.tuple hq
    have pt : s.heap.IsTuple a its.toArray := p
    obtain ⟨u, hu, ru⟩ := rv.get hx
    have hel : e < s.heap.objs.size := Heap.lt_size he
    have hil : it < s.heap.objs.size := by
      obtain ⟨_, q, _⟩ := hit
      exact Heap.lt_size q
    have hai := tw_apart pt hit
    have hea := tw_apart2 pt he
    have D := Draws.tuple (prog := X.prog) (w := X.w) (A := X.A.in1) (I.ok.hd hc) it a hai its.toArray
    have hlt : i < its.toArray.size := by
      have := (List.getElem?_eq_some_iff.mp hu).1
      simpa using this
    refine wpAny_pyNext_enum_itemD D he ⟨hit, pt⟩ hlt hne (by simp [hne, hea]) fun y h2 tk py ho st2 hT hsz hk => ?_
    obtain rfl : u = y := by
      rw [List.getElem?_toArray, hu] at py
      injection py
    refine ⟨_, rfl, wpAny_letOwnedTupleGo_enum (s := { s with heap := h2, toks := tk + 1 }) ho fun h3 he3 sb => ?_⟩
    have hT3 : h3.get? s.heap.objs.size = some { cls := .type "tuple", data := .seq #[.int i tk, u] } := (sb.2 _ (Nat.ne_of_gt hel)).trans hT
    have new : ObjOk X.prog X.w (upd H s.heap.objs.size (.tup [.int (i : Nat), x])) h3 s.heap.objs.size (.tup [.int (i : Nat), x]) :=
      ⟨by show 2 ≤ sizeLine; decide, [.int i tk, u], .cons ⟨_, rfl⟩ (.cons ru .nil), ⟨_, hT3, rfl, _, rfl⟩⟩
    have I3 : Inv X pins σ (upd H s.heap.objs.size (.tup [.int (i : Nat), x])) { s with heap := h3, toks := tk + 1 } :=
      I.turnedNew (ch := [e, it]) (fun b ob hb q => by
        have n1 : b ≠ e := fun z => hb (by simp [z])
        have n2 : b ≠ it := fun z => hb (by simp [z])
        exact (sb.2 b n1).trans (hk b ob n1 n2 q)) hf (Nat.le_refl _) new
    have e1 : ((i + 1 : Nat) : Int) = (i : Int) + 1 := by omega
    refine ⟨.ref s.heap.objs.size, _, I3, rfl, ⟨_, x, rfl, I.hok.fresh (Nat.le_refl _), rfl, fun ys hy => by rw [I.tuple_inj hy hq]; exact hx⟩, ⟨⟨u, by rw [e1]; exact he3⟩, st2.1.at fun o q => (sb.2 it (Ne.symm hne)).trans q, hne⟩, fun b hb => ?_⟩
    have hb2 : b < s.heap.objs.size := by
      rcases (show b = e ∨ b = it by simpa using hb) with rfl | rfl
      · exact hel
      · exact hil
    rw [upd_ne (Nat.ne_of_lt hb2)]
    exact (hf b hb).1
  done := by
    intro X hP hw hK hc i pins s σ H E I hf st hg
    subst hP hw hK
    obtain ⟨⟨old, he⟩, hit, hne⟩ := st
    obtain ⟨xs, hq, hx⟩ := hg
    obtain ⟨its, rv, p, hz⟩ := I.tuple hq
    have pt : s.heap.IsTuple a its.toArray := p
    obtain ⟨f0, f1, f2, f3, f4, f5⟩ := hf it (by simp)
    have D := Draws.tuple (prog := X.prog) (w := X.w) (A := X.A.in1) (I.ok.hd hc) it a (tw_apart pt hit) its.toArray
    have hl : its.toArray.size = i := by
      rw [List.size_toArray, ← rv.length, hx]
    exact wpAny_pyNext_enum_endD D he (by rw [hl]; exact ⟨hit, pt⟩) fun h2 eb => ⟨rfl, I.turned (t' := s.toks) (fun b o hb q => eb b o hb q) f0 f1 f3 f4 f5⟩
  self := fun A i s Q E st h => st.1.elim fun _ he => wpAny_pyIter_enum he h
/-- what enumerate gives of the items xs -/
structure EFits (J : It) (xs : List V) (H : Hp) : Prop where
  go : ∀ i, i < xs.length → J.go i H
  stop : J.stop xs.length H
  yld : ∀ i x H', J.yld i H x H' → ∃ T v, x = .ref T ∧ H T = none ∧ H' = upd H T (.tup [.int (i : Nat), v]) ∧ xs[i]? = some v
/-- a list or a tuple -/
def SqA (K : PySem.W.Frag) (H : Hp) (a : Addr) (xs : List V) : Prop := SqL K H a xs ∨ SqT K H a xs
theorem same_l {K : PySem.W.Frag} {H H' : Hp} {a : Addr} {xs : List V} (h : SqL K H a xs) (e : H' a = H a) : SqL K H' a xs := by
  rcases h with h | h
  · exact .inl (by unfold Rd at h ⊢; rw [e]; exact h)
  · exact .inr h
theorem same_t {K : PySem.W.Frag} {H H' : Hp} {a : Addr} {xs : List V} (h : SqT K H a xs) (e : H' a = H a) : SqT K H' a xs := by
  rcases h with h | h
  · exact .inl (by unfold Rd at h ⊢; rw [e]; exact h)
  · exact .inr h
theorem efits_l {K : PySem.W.Frag} {H : Hp} {a : Addr} {xs : List V} (h : SqL K H a xs) : EFits (Ite K a) xs H :=
  ⟨fun i hi => ⟨xs, xs[i], h, List.getElem?_eq_getElem hi⟩, ⟨xs, h, Nat.le_refl _⟩, fun i x H' ⟨T, v, e1, e2, e3, e4⟩ => ⟨T, v, e1, e2, e3, e4 xs h⟩⟩
theorem efits_t {K : PySem.W.Frag} {H : Hp} {a : Addr} {xs : List V} (h : SqT K H a xs) : EFits (Itet K a) xs H :=
  ⟨fun i hi => ⟨xs, xs[i], h, List.getElem?_eq_getElem hi⟩, ⟨xs, h, rfl⟩, fun i x H' ⟨T, v, e1, e2, e3, e4⟩ => ⟨T, v, e1, e2, e3, e4 xs h⟩⟩
def iEnumG (K : PySem.W.Frag) (ta : TA) : TI := fun σ H R => ta σ H fun vs H1 => ∃ a xs, vs = [.ref a] ∧ SqA K H1 a xs ∧ ∀ J, (∀ H', H' a = H1 a → EFits J xs H') → R J H1
theorem pi_enumG {X : Cx} {K : PySem.W.Frag} {e : Expr} {ta : TA} {p pos tpos : Pos} {elts : List Expr} {kk : Nat} (hK : X.K = K) (hg : Gl X "enumerate") (hm : X.mg "enumerate" = none) (ha : PA X [e] ta) (hs : starEach [e] X.env = [(false, eval e X.env)] := by rfl) :
    PI X (.Tuple elts kk tpos) (.Call (.Name "enumerate" p) [e] [] pos) (iEnumG K ta) := by
  subst hK
  refine ⟨fun pins s σ H R I h => ?_⟩
  refine Call_ (ld_blt I hg hm boot_enumerate (PyProof.Rows.callWith_type1 (thn (ha.run pos pins s σ H _ I h) fun us s1 ⟨vs, H1, I1, r1, q1⟩ => ?_) hs rfl))
  obtain ⟨a, xs, rfl, hs2, q⟩ := q1
  cases r1 with
  | cons r rr =>
    cases rr
    cases r
    have fp : ∀ b ∈ [s1.heap.objs.size + 1, s1.heap.objs.size], FpOk X pins H1 b := fun b hb => by
      have hle : s1.heap.objs.size ≤ b := by
        rcases (show b = s1.heap.objs.size + 1 ∨ b = s1.heap.objs.size by simpa using hb) with rfl | rfl
        · exact Nat.le_add_right _ _
        · exact Nat.le_refl _
      exact I1.fpOk hle (I1.hok.fresh hle)
    rcases hs2 with hq | hq
    · replace q := q (Ite X.K a) fun H' e => efits_l (same_l hq e)
      obtain ⟨its, rv, p2, hz⟩ := I1.list hq
      refine call_enumerate_list p2.isList fun h2 he hit hsz hk => wpAny_pyIter_enum he ?_
      exact ⟨s1.heap.objs.size + 1, [s1.heap.objs.size + 1, s1.heap.objs.size], _, _, H1, rfl, I1.kept (t' := s1.toks) hk, turn_enum a (s1.heap.objs.size + 1) s1.heap.objs.size, ⟨⟨.none, he⟩, hit, Nat.succ_ne_self _⟩, fp, q⟩
    · replace q := q (Itet X.K a) fun H' e => efits_t (same_t hq e)
      obtain ⟨its, rv, p2, hz⟩ := I1.tuple hq
      have pt : s1.heap.IsTuple a its.toArray := p2
      refine TwE.enum_call (begins_tuple a its.toArray) pt fun h2 he hit hsz hk => wpAny_pyIter_enum he ?_
      exact ⟨s1.heap.objs.size + 1, [s1.heap.objs.size + 1, s1.heap.objs.size], _, _, H1, rfl, I1.kept (t' := s1.toks) hk, turn_enumT a (s1.heap.objs.size + 1) s1.heap.objs.size, ⟨⟨.none, he⟩, ⟨_, hit, rfl, rfl⟩, Nat.succ_ne_self _⟩, fp, q⟩
def iSeq (K : PySem.W.Frag) (tl : TE) : TI := fun σ H R => tl σ H fun x H1 => ∃ a xs, x = .ref a ∧ SqA K H1 a xs ∧ ∀ J, (∀ H', H' a = H1 a → Tw.Fits J xs H') → R J H1
theorem pi_seqG {X : Cx} {K : PySem.W.Frag} {tg : Expr} {l : Expr} {tl : TE} (hK : X.K = K) (hl : PE X l tl) : PI X tg l (iSeq K tl) := by
  subst hK
  refine ⟨fun pins s σ H R I h => ?_⟩
  refine thn (hl.run pins s σ H _ I h) fun v s1 ⟨x, H1, I1, r1, q1⟩ => ?_
  obtain ⟨a, xs, rfl, hs2, q⟩ := q1
  cases r1
  have fp : ∀ b ∈ [s1.heap.objs.size], FpOk X pins H1 b := fun b hb => by
    obtain rfl : b = s1.heap.objs.size := by simpa using hb
    exact I1.fpOk (Nat.le_refl _) (I1.hok.fresh (Nat.le_refl _))
  rcases hs2 with hq | hq
  · replace q := q (Itl X.K a) fun H' e => Tw.fits_l (same_l hq e)
    obtain ⟨its, rv, p, hz⟩ := I1.list hq
    refine wpAny_pyIter_list p.isList ?_
    exact ⟨s1.heap.objs.size, [s1.heap.objs.size], _, _, H1, rfl, I1.kept (t' := s1.toks) fun b o e => Heap.get?_push_of_some _ e, turn_list a _, ⟨_, Heap.get?_push_size _ rfl, rfl, rfl⟩, fp, q⟩
  · replace q := q (Itt X.K a) fun H' e => Tw.fits_t (same_t hq e)
    obtain ⟨its, rv, p, hz⟩ := I1.tuple hq
    refine wpAny_pyIter_tuple (show s1.heap.IsTuple a its.toArray from p) ?_
    exact ⟨s1.heap.objs.size, [s1.heap.objs.size], _, _, H1, rfl, I1.kept (t' := s1.toks) fun b o e => Heap.get?_push_of_some _ e, turn_tuple a _, ⟨_, Heap.get?_push_size _ rfl, rfl, rfl⟩, fp, q⟩
end L2
namespace Tw
open PySem L2
section
variable {K : PySem.W.Frag} {σ : L2.St} {H : Hp} {D : Ends} {ta : TA} {te : TE} {a : Addr} {xs : List V}
theorem g_enumG {R : It → Hp → Prop} (q : ta σ H fun vs H1 => ∃ a xs, vs = [.ref a] ∧ SqA K H1 a xs ∧ ∀ J, (∀ H', H' a = H1 a → EFits J xs H') → R J H1) : iEnumG K ta σ H R := q
theorem g_seqG {R : It → Hp → Prop} (q : te σ H fun x H1 => ∃ a xs, x = .ref a ∧ SqA K H1 a xs ∧ ∀ J, (∀ H', H' a = H1 a → Fits J xs H') → R J H1) : iSeq K te σ H R := q
theorem for_enumA {J : It} {g : TG} {tb : TS} (Pv : Nat → L2.St → Hp → Prop) (h0 : Pv 0 σ H) (hl : ∀ i σ H, i ≤ xs.length → Pv i σ H → EFits J xs H)
    (hs : ∀ i v T σ H (D' : Ends), xs[i]? = some v → Pv i σ H → H T = none → (∀ σ H, Pv (i + 1) σ H → D'.nx σ H) → (∀ σ H, Pv (i + 1) σ H → D'.ct σ H) → (∀ σ H, D.nx σ H → D'.bk σ H) → D'.rt = D.rt → g (.ref T) σ (upd H T (.tup [.int (i : Nat), v])) fun σ2 H2 => tb D' σ2 H2)
    (hd : ∀ σ H, Pv xs.length σ H → D.nx σ H) :
    ∃ W : Nat → Nat → L2.St → Hp → Prop, (∃ m, W 0 m σ H) ∧ ∀ i m σ H, W i m σ H →
      (J.stop i H ∧ D.nx σ H) ∨ (J.go i H ∧ ∃ N : L2.St → Hp → Prop, (∀ σ' H', N σ' H' → ∃ m', m' < m ∧ W (i + 1) m' σ' H') ∧ ∀ x H', J.yld i H x H' → g x σ H' fun σ2 H2 => tb { D with nx := N, ct := N, bk := D.nx } σ2 H2) := by
  refine ⟨fun i m σ H => m = xs.length - i ∧ i ≤ xs.length ∧ Pv i σ H, ⟨xs.length, by simp, Nat.zero_le _, h0⟩, ?_⟩
  rintro i m σ H ⟨rfl, hi, p⟩
  have fi := hl i σ H hi p
  by_cases hlt : i < xs.length
  · refine .inr ⟨fi.go i hlt, Pv (i + 1), fun σ' H' q => ⟨xs.length - (i + 1), by omega, rfl, hlt, q⟩, fun x H' y => ?_⟩
    obtain ⟨T, v, rfl, hT, rfl, hv⟩ := fi.yld i x H' y
    exact hs i v T σ H { D with nx := Pv (i + 1), ct := Pv (i + 1), bk := D.nx } hv p hT (fun _ _ h => h) (fun _ _ h => h) (fun _ _ h => h) rfl
  · obtain rfl : i = xs.length := by omega
    exact .inl ⟨fi.stop, hd σ H p⟩
end
/-- a maker with two keyword-only parameters whose defaults are empty tuples -/
structure HereCD (K : PySem.W.Frag) (C : Addr) (qual : Str) (st : Stmt) (ps : List Str) (f : Addr) (fd : FuncData) : Prop where
  fn : Fun K "__init__" qual st f fd
  mkr : Mk K C f
  bd : ∃ d1 d2 : Addr, (∀ H, SqT K H d1 []) ∧ (∀ H, SqT K H d2 []) ∧ ∃ ds, Vals [.ref d1, .ref d2] ds ∧ Binds K fd ps ds
structure DefCD (P : Program) (w : World) (K : PySem.W.Frag) (mg : Str → Option Value) (base : Heap) (k : Nat) (C : Addr) (ps : List Str) (sp : Sp) : Prop where
  ex : ∃ (f : Addr) (fd : FuncData), FnOk P w K mg base CX0 k f fd ps sp ∧ Mk K C f ∧ ∃ d1 d2 : Addr, (∀ H, SqT K H d1 []) ∧ (∀ H, SqT K H d2 []) ∧ ∃ ds, Vals [.ref d1, .ref d2] ds ∧ Binds K fd ps ds
theorem HereCD.def {P : Program} {w : World} {K : PySem.W.Frag} {mg : Str → Option Value} {base : Heap} {k : Nat} {C : Addr} {qual : Str} {st : Stmt} {ps : List Str} {sp : Sp} {f : Addr} {fd : FuncData} (h : HereCD K C qual st ps f fd) (F : FnOk P w K mg base CX0 k f fd ps sp) : DefCD P w K mg base k C ps sp :=
  ⟨f, fd, F, h.mkr, h.bd⟩
def tNewD (K : PySem.W.Frag) (C : Addr) (sp : Sp) (t : TA) : TE := fun σ H Q => ∀ d1 d2 : Addr, (∀ H, SqT K H d1 []) → (∀ H, SqT K H d2 []) → t σ H fun vs H1 => ∀ x dx, H1 x = none → H1 dx = none → dx ≠ x →
  sp (.ref x :: (vs ++ [.ref d1, .ref d2])) (upd (upd H1 dx (.own x)) x (.ins C dx [])) (fun v H2 => v = .non ∧ Q (.ref x) H2) E0
theorem g_newD {K : PySem.W.Frag} {C : Addr} {sp : Sp} {t : TA} {σ : L2.St} {H : Hp} {Q : VK} (q : ∀ d1 d2 : Addr, (∀ H, SqT K H d1 []) → (∀ H, SqT K H d2 []) → t σ H fun vs H1 => ∀ x dx, H1 x = none → H1 dx = none → dx ≠ x →
  sp (.ref x :: (vs ++ [.ref d1, .ref d2])) (upd (upd H1 dx (.own x)) x (.ins C dx [])) (fun v H2 => v = .non ∧ Q (.ref x) H2) E0) : tNewD K C sp t σ H Q := q
theorem pe_newD {X : Cx} {K : PySem.W.Frag} {k j : Nat} {C : Addr} {x : Str} {p pos : Pos} {e : Expr} {es : List Expr} {ps : List Str} {sp : Sp} {t : TA} (hK : X.K = K)
    (D : DefCD X.prog X.w K X.mg X.base k C ps sp) (hr : Room j X.A) (hg : Gl X x) (hm : X.mg x = some (.ref C)) (ha : PA X (e :: es) t) (hk : k + 1 ≤ j := by decide) (hdb : (x == ("__debug__" : Str)) = false := by decide)
    (he : starEach (e :: es) X.env = (false, eval e X.env) :: starEach es X.env := by rfl) (hpl : (backTo pos (starEach es X.env)).any (·.1) = false := by rfl) : PE X (.Call (.Name x p) (e :: es) [] pos) (tNewD K C sp t) := by
  subst hK
  obtain ⟨f, fd, F, mk, d1, d2, e1, e2, ds, hv, hb⟩ := D.ex
  exact ⟨fun pins s σ H Q I h => (pe_make mk F (hr.mono hk) hg hm hb hv pass0 ha hdb he hpl).run pins s σ H Q I (h d1 d2 e1 e2)⟩
theorem kw_bd2 {K : PySem.W.Frag} {fd : FuncData} {D : Addr} {k1 k2 : Str} {ps : List Str} {n : Nat} {a1 a2 : Addr} {o1 o2 : Obj} {i1 i2 : Array Value} {n1 n2 : Nat} (hps : ps.length = n + 2) (h1 : PySem.W.nsIn K D k1 = some (some (.ref a1))) (h2 : PySem.W.nsIn K D k2 = some (some (.ref a2)))
    (l1 : K.lookup a1 = some o1) (c1 : o1.cls = .type "tuple") (g1 : o1.data = .seq i1 n1) (z1 : i1.size = 0) (l2 : K.lookup a2 = some o2) (c2 : o2.cls = .type "tuple") (g2 : o2.data = .seq i2 n2) (z2 : i2.size = 0)
    (h : ∀ us : List Value, us.length = n → ∀ u v : Value, KwChain D [(k1, u), (k2, v)] (bindArgs fd ⟨us, []⟩) (ps.zip (us ++ [u, v]))) :
    ∃ d1 d2 : Addr, (∀ H, SqT K H d1 []) ∧ (∀ H, SqT K H d2 []) ∧ ∃ ds, Vals [.ref d1, .ref d2] ds ∧ Binds K fd ps ds := by
  have nil : ∀ {i : Array Value}, i.size = 0 → Vals [] i.toList := fun {i} z => by
    have : i.toList = [] := List.length_eq_zero_iff.mp (by simpa using z)
    rw [this]
    exact .nil
  refine ⟨a1, a2, fun H => .inr ⟨o1, i1, n1, l1, c1, g1, by rw [z1]; exact Nat.zero_le _, nil z1⟩, fun H => .inr ⟨o2, i2, n2, l2, c2, g2, by rw [z2]; exact Nat.zero_le _, nil z2⟩, [.ref a1, .ref a2], .cons rfl (.cons rfl .nil), fun s us X hlen => BindsTo.of_looks fun M => KwChain.looks X (fun q hq => ?_) (h us ?_ (.ref a1) (.ref a2))⟩
  · rcases List.mem_cons.mp hq with rfl | hq
    · exact h1
    · obtain rfl := List.mem_singleton.mp hq
      exact h2
  · simp at hlen
    omega

def rTupG (K : PySem.W.Frag) : List V → Hp → VK → Prop := fun xs H Q => ∃ p ys, xs = [.ref p] ∧ ((SqL K H p ys ∧ ∀ l, H l = none → Q (.ref l) (upd H l (.tup ys))) ∨ (SqT K H p ys ∧ Q (.ref p) H))
theorem call_tupleG {X : Cx} {K : PySem.W.Frag} (h : X.K = K) : CallR X (.type "tuple") (rTupG K) := by subst h; exact call_tuple_of
section
variable {K : PySem.W.Frag} {σ : L2.St} {H : Hp} {Q : VK} {a : Addr} {xs : List V}
theorem g_tupL (h : SqL K H a xs) (q : ∀ l, H l = none → Q (.ref l) (upd H l (.tup xs))) : rTupG K [.ref a] H Q := ⟨a, xs, rfl, .inl ⟨h, q⟩⟩
theorem g_tupT (h : SqT K H a xs) (q : Q (.ref a) H) : rTupG K [.ref a] H Q := ⟨a, xs, rfl, .inr ⟨h, q⟩⟩
theorem g_dc {wi : TI} {g : TG} {tt : TT} {tk tv : TE} {vs : List Nat} (q : wi σ H fun J H1 => ∀ D, H1 D = none → ∃ W : Nat → Nat → Hp → Prop, (∃ m, W 0 m (upd H1 D (.dK []))) ∧ ∀ i m H, W i m H →
  (J.stop i H ∧ Q (.ref D) H) ∨ (J.go i H ∧ ∃ Nx : Hp → Prop, (∀ H', Nx H' → ∃ m', m' < m ∧ W (i + 1) m' H') ∧ ∀ x H', J.yld i H x H' → g x (wipe σ vs) H' fun σ2 H2 => wipe σ2 vs = wipe σ vs ∧ tt σ2 H2 fun b H3 =>
    if b = true then tk σ2 H3 fun y H4 => tv σ2 H4 fun z H5 => ∃ kvs k, y = kV k ∧ H5 D = some (.dK kvs) ∧ kvs.length < sizeLine ∧ Nx (upd H5 D (.dK (putK kvs k z))) else Nx H3)) : tDc wi g tt tk tv vs σ H Q := q
/-- a tuple, a list in the heap, a tuple of the written part: what isinstance sees -/
theorem tyx_t (h : SqT K H a xs) : TyX K H (.ref a) (.type "tuple") := by
  rcases h with h | ⟨o, its, n, h1, h2, _⟩
  · rcases h with h | ⟨o, h⟩
    · exact .base (.tup h)
    · exact .fTuple h
  · exact .kTuple h1 h2
end
end Tw


set_option Elab.async false
set_option linter.all false
set_option maxRecDepth 100000
set_option maxHeartbeats 4000000
namespace L
open PySem L2 Tw
local macro_rules | `(tactic| walk_at "hp") => `(tactic| first
  | assumption
  | exact upd_same
  | (refine Eq.trans (upd_ne ?hn) ?hr; (case hn => first | assumption | exact Ne.symm (by assumption)); (case hr => walk_at "hp")))
local macro_rules | `(tactic| walk_at "g1") => `(tactic| first
  | with_reducible refine g_nx ?_
  | with_reducible refine g_rt ?_
  | with_reducible refine g_seq ?_
  | with_reducible refine g_ret ?_
  | with_reducible refine g_if ?_
  | with_reducible refine g_asg ?_
  | with_reducible refine g_drop ?_
  | with_reducible refine g_asgSub ?_
  | with_reducible refine g_next ?_
  | with_reducible refine g_op ?_
  | ((with_reducible refine g_var0 ?_); refine ⟨_, rfl, ?_⟩)
  | with_reducible refine g_c ?_
  | with_reducible refine g_cons ?_
  | with_reducible refine g_nil ?_
  | with_reducible refine g_def ?_
  | with_reducible refine g_cb ?_
  | with_reducible refine g_test ?_
  | with_reducible refine g_B ?_
  | with_reducible refine g_bl ?_
  | with_reducible refine g_sl ?_
  | with_reducible refine g_name ?_
  | with_reducible refine g_lc ?_
  | with_reducible refine g_rng1 ?_
  | with_reducible refine g_for ?_
  | with_reducible refine g_yes ?_
  | with_reducible refine g_ilist ?_
  | ((with_reducible refine g_m1 ?_))
  | with_reducible refine g_m0 ?_
  | with_reducible refine g_noPart ?_
  | with_reducible refine g_part ?_
  | with_reducible refine g_int ?_
  | with_reducible refine g_tand ?_
  | with_reducible refine g_tor ?_
  | with_reducible refine g_tnot ?_
  | with_reducible refine g_vand ?_
  | with_reducible refine g_vor ?_
  | with_reducible refine g_vnot ?_
  | with_reducible refine g_eif ?_
  | with_reducible refine g_un ?_
  | with_reducible refine g_addI ?_
  | with_reducible refine g_subI ?_
  | with_reducible refine g_negI ?_
  | with_reducible refine g_ltI ?_
  | with_reducible refine g_ltS ?_
  | with_reducible refine g_leI ?_
  | with_reducible refine g_geS ?_
  | with_reducible refine g_inS ?_
  | with_reducible refine g_notInS ?_
  | with_reducible refine g_max2 ?_
  | with_reducible refine g_isiR (by assumption) (by decide) ?_
  | with_reducible refine g_isBl_tt ?_
  | with_reducible refine g_notBl_tt ?_
  | with_reducible refine g_isBl_tf ?_
  | with_reducible refine g_notBl_tf ?_
  | with_reducible refine g_isBl_ft ?_
  | with_reducible refine g_notBl_ft ?_
  | with_reducible refine g_isBl_ff ?_
  | with_reducible refine g_notBl_ff ?_
  | with_reducible refine g_isBl ?_
  | with_reducible refine g_notBl ?_
  | with_reducible refine g_istr ?_
  | with_reducible refine g_str1 ?_
  | with_reducible refine g_strE ?_
  | with_reducible refine g_gtI ?_
  | with_reducible refine g_geI ?_
  | with_reducible refine g_isN_non ?_
  | with_reducible refine g_isN_int ?_
  | with_reducible refine g_isN_str ?_
  | with_reducible refine g_isN_bl ?_
  | with_reducible refine g_isN_ref ?_
  | with_reducible refine g_notN_non ?_
  | with_reducible refine g_notN_int ?_
  | with_reducible refine g_notN_str ?_
  | with_reducible refine g_notN_bl ?_
  | with_reducible refine g_notN_ref ?_
  | with_reducible refine g_isN ?_
  | with_reducible refine g_notN ?_
  | with_reducible refine g_isiI kb_ii ?_
  | with_reducible refine g_isiI kb_is ?_
  | with_reducible refine g_isiI kb_ib ?_
  | with_reducible refine g_isiS kb_si ?_
  | with_reducible refine g_isiS kb_ss ?_
  | with_reducible refine g_isiS kb_sb ?_
  | with_reducible refine g_isiB kb_bi ?_
  | with_reducible refine g_isiB kb_bs ?_
  | with_reducible refine g_isiB kb_bb ?_
  | with_reducible refine g_isiN kb_ni ?_
  | with_reducible refine g_isiN kb_ns ?_
  | with_reducible refine g_isiN kb_nb ?_
  | with_reducible refine g_eqI ?_
  | with_reducible refine g_eqS ?_
  | with_reducible refine g_eqB ?_
  | with_reducible refine g_neI ?_
  | with_reducible refine g_neS ?_
  | with_reducible refine g_int1 ?_
  | with_reducible refine g_int1B ?_
  | with_reducible refine g_bool1B ?_
  | with_reducible refine g_bool1I ?_
  | ((with_reducible refine g_modI ?gm ?_); (case gm => first | assumption | decide | omega))
  | ((with_reducible refine g_mulI ?gm ?_); (case gm => first | exact Or.inl ⟨by decide, by decide⟩ | exact Or.inr ⟨by decide, by decide⟩ | (unfold CMul; omega)))
  | with_reducible refine g_tup ?_
  | with_reducible refine g_lst ?_
  | with_reducible refine g_bm ?_
  | ((with_reducible refine g_tyL ?_); refine ⟨⟨_, by walk_at "hp"⟩, ?_⟩)
  | (with_reducible refine g_app (by walk_at "hp") (by first | assumption | (simp only [List.length_map, List.length_append, List.length_cons, List.length_nil]; omega) | omega) ?_)
  | ((with_reducible refine g_ixL0 ?_); (refine' ⟨_, _, ?ga, ?gb, ?_⟩; (case ga => walk_at "hp"); (case gb => exact rfl)))
  | ((with_reducible refine g_ixL0 ?_); (refine' ⟨_, _, ?ga, atI_map ?gb, ?_⟩; (case ga => walk_at "hp"); (case gb => omega)))
  | ((with_reducible refine g_powI ?gm ?_); (case gm => first | exact ⟨by decide, by decide +kernel⟩ | exact cpow_small (by decide) (by decide) (by omega) (by omega)))
  | ((with_reducible refine g_fdI ?gm ?_); (case gm => first | exact ⟨by assumption, by assumption⟩ | exact ⟨by decide, by decide +kernel⟩))
  | ((with_reducible refine g_lenL0 ?_); (refine' ⟨_, ?ga, ?_⟩; (case ga => walk_at "hp")))
  | ((with_reducible refine g_setL0 ?_); (refine' ⟨_, _, ?ga, ?gb, ?_⟩; (case ga => walk_at "hp"); (case gb => exact rfl)))
  | with_reducible refine g_itup ?_
  | with_reducible refine g_lc2 ?_
  | with_reducible refine g_sortedSet ?_
  | with_reducible refine g_dget ?_
  | with_reducible refine g_din ?_
  | with_reducible refine g_dnotin ?_
  | with_reducible refine g_neB ?_
  | with_reducible refine g_opW ?_
  | with_reducible refine g_unW ?_
  | with_reducible refine g_callS ?_
  | with_reducible refine g_meX ?_
  | with_reducible refine g_me ?_
  | with_reducible refine g_new ?_
  | with_reducible refine g_sfld ?_
  | with_reducible refine g_fld ?_
  | with_reducible refine g_T ?_
  | with_reducible refine g_F ?_
  | with_reducible refine g_Tn ?_
  | with_reducible refine g_Fn ?_
  | with_reducible refine g_bk ?_
  | with_reducible refine g_ct ?_
  | with_reducible refine g_ctS ?_
  | with_reducible refine g_bkS ?_)
local macro_rules | `(tactic| walk_at "g") => `(tactic| repeat walk_at "g1")
local macro_rules | `(tactic| walk_at "G") => `(tactic| (walk_at "g"; try ((first | with_reducible refine g_dec (fun _ => ?_) (fun _ => ?_) | with_reducible refine g_ndec (fun _ => ?_) (fun _ => ?_)) <;> walk_at "G")))
def C_LETTERS : Str := Str.ofString "abcdefghijklmnopqrstuvwxyz"
def C_WORDS : List V := [.str "and", .str "or", .str "not", .str "sure", .str "in", .str "is", .str "empty", .str "begins", .str "always", .str "never"]
def C_NAME_SIGNS : Str := Str.ofString "abcdefghijklmnopqrstuvwxyz0123456789"
def C_KINDS : List V := [.str "number", .str "text"]
def C_DIRECTIONS : List V := [.str "up", .str "down"]
def top (i : Nat) : Stmt := PySem.Challenge.pw_tworows_k43_orders_are_read.main.body.getD i (.Pass ⟨0, 0, 0, 0⟩)
abbrev S_is_sequence : Stmt := top 14
abbrev N_is_sequence : List Str := ["thing"]
theorem sc_is_sequence : FnScope N_is_sequence ["thing"] (defScope S_is_sequence) := ⟨rfl, rfl, rfl, by decide +kernel, rfl, by decide +kernel, by decide +kernel⟩
abbrev S_is_name : Stmt := top 16
abbrev N_is_name : List Str := ["thing", "sign"]
theorem sc_is_name : FnScope N_is_name ["thing"] (defScope S_is_name) := ⟨rfl, rfl, rfl, by decide +kernel, rfl, by decide +kernel, by decide +kernel⟩
abbrev S_Shape_init : Stmt := inClass (top 37) 0
abbrev N_Shape_init : List Str := ["self", "columns", "checks", "keys", "column", "names", "test"]
theorem sc_Shape_init : FnScope N_Shape_init ["self", "columns", "checks", "keys"] (defScope S_Shape_init) := ⟨rfl, rfl, rfl, by decide +kernel, rfl, by decide +kernel, by decide +kernel⟩
abbrev S_is_short : Stmt := top 38
abbrev N_is_short : List Str := ["thing", "least", "most"]
theorem sc_is_short : FnScope N_is_short ["thing", "least", "most"] (defScope S_is_short) := ⟨rfl, rfl, rfl, by decide +kernel, rfl, by decide +kernel, by decide +kernel⟩
abbrev S_is_column : Stmt := top 39
abbrev N_is_column : List Str := ["thing", "right_kind"]
theorem sc_is_column : FnScope N_is_column ["thing"] (defScope S_is_column) := ⟨rfl, rfl, rfl, by decide +kernel, rfl, by decide +kernel, by decide +kernel⟩
abbrev S_need_columns : Stmt := top 40
abbrev N_need_columns : List Str := ["columns", "names", "at", "column"]
theorem sc_need_columns : FnScope N_need_columns ["columns"] (defScope S_need_columns) := ⟨rfl, rfl, rfl, by decide +kernel, rfl, by decide +kernel, by decide +kernel⟩
abbrev S_need_checks : Stmt := top 41
abbrev N_need_checks : List Str := ["spots", "checks", "at", "test"]
theorem sc_need_checks : FnScope N_need_checks ["spots", "checks"] (defScope S_need_checks) := ⟨rfl, rfl, rfl, by decide +kernel, rfl, by decide +kernel, by decide +kernel⟩
abbrev S_need_keys : Stmt := top 42
abbrev N_need_keys : List Str := ["spots", "keys", "at", "key"]
theorem sc_need_keys : FnScope N_need_keys ["spots", "keys"] (defScope S_need_keys) := ⟨rfl, rfl, rfl, by decide +kernel, rfl, by decide +kernel, by decide +kernel⟩
abbrev S_is_part : Stmt := top 51
abbrev N_is_part : List Str := ["thing"]
theorem sc_is_part : FnScope N_is_part ["thing"] (defScope S_is_part) := ⟨rfl, rfl, rfl, by decide +kernel, rfl, by decide +kernel, by decide +kernel⟩
abbrev S_need_order : Stmt := top 52
abbrev N_need_order : List Str := ["thing", "names", "at", "part"]
theorem sc_need_order : FnScope N_need_order ["thing"] (defScope S_need_order) := ⟨rfl, rfl, rfl, by decide +kernel, rfl, by decide +kernel, by decide +kernel⟩
abbrev S_order_in : Stmt := top 53
abbrev N_order_in : List Str := ["shape", "thing", "order", "at", "part"]
theorem sc_order_in : FnScope N_order_in ["shape", "thing"] (defScope S_order_in) := ⟨rfl, rfl, rfl, by decide +kernel, rfl, by decide +kernel, by decide +kernel⟩
abbrev S__law_int : Stmt := top 55
abbrev N__law_int : List Str := ["_law_thing"]
theorem sc__law_int : FnScope N__law_int ["_law_thing"] (defScope S__law_int) := ⟨rfl, rfl, rfl, by decide +kernel, rfl, by decide +kernel, by decide +kernel⟩
abbrev S__law_pool : Stmt := top 56
abbrev N__law_pool : List Str := ["_law_script", "_law_place", "_law_cell"]
theorem sc__law_pool : FnScope N__law_pool ["_law_script", "_law_place"] (defScope S__law_pool) := ⟨rfl, rfl, rfl, by decide +kernel, rfl, by decide +kernel, by decide +kernel⟩
abbrev S__law_draw : Stmt := top 57
abbrev N__law_draw : List Str := ["_law_pool_here", "_law_many", "_law_digit", "_law_one"]
theorem sc__law_draw : FnScope N__law_draw ["_law_pool_here", "_law_many"] (defScope S__law_draw) := ⟨rfl, rfl, rfl, by decide +kernel, rfl, by decide +kernel, by decide +kernel⟩
abbrev S__law_name : Stmt := top 58
abbrev N__law_name : List Str := ["_law_pool_here", "_law_taken", "_law_letters", "_law_name_here", "_law_many", "_law_k"]
theorem sc__law_name : FnScope N__law_name ["_law_pool_here", "_law_taken"] (defScope S__law_name) := ⟨rfl, rfl, rfl, by decide +kernel, rfl, by decide +kernel, by decide +kernel⟩
abbrev S__law_is_name : Stmt := top 60
abbrev N__law_is_name : List Str := ["_law_thing", "_law_char"]
theorem sc__law_is_name : FnScope N__law_is_name ["_law_thing"] (defScope S__law_is_name) := ⟨rfl, rfl, rfl, by decide +kernel, rfl, by decide +kernel, by decide +kernel⟩
abbrev S__law_fault : Stmt := top 61
abbrev N__law_fault : List Str := ["_law_thing", "_law_names", "_law_at", "_law_part"]
theorem sc__law_fault : FnScope N__law_fault ["_law_thing"] (defScope S__law_fault) := ⟨rfl, rfl, rfl, by decide +kernel, rfl, by decide +kernel, by decide +kernel⟩
abbrev S__law_odd : Stmt := top 62
abbrev N__law_odd : List Str := ["_law_pool_here", "_law_parts", "_law_at", "_law_pick", "_law_odd_here"]
theorem sc__law_odd : FnScope N__law_odd ["_law_pool_here", "_law_parts", "_law_at"] (defScope S__law_odd) := ⟨rfl, rfl, rfl, by decide +kernel, rfl, by decide +kernel, by decide +kernel⟩
abbrev S__law_said : Stmt := top 63
abbrev N__law_said : List Str := ["_law_shape", "_law_thing", "e"]
theorem sc__law_said : FnScope N__law_said ["_law_shape", "_law_thing"] (defScope S__law_said) := ⟨rfl, rfl, rfl, by decide +kernel, rfl, by decide +kernel, by decide +kernel⟩
abbrev S__law_right : Stmt := top 64
abbrev N__law_right : List Str := ["_law_said_here", "_law_fault_here", "_law_thing", "_law_at"]
theorem sc__law_right : FnScope N__law_right ["_law_said_here", "_law_fault_here", "_law_thing"] (defScope S__law_right) := ⟨rfl, rfl, rfl, by decide +kernel, rfl, by decide +kernel, by decide +kernel⟩
abbrev S_law : Stmt := top 65
abbrev N_law : List Str := ["_law_script", "_law_pool_here", "_law_spoil", "_law_as_tuple", "_law_parts", "_law_k", "_law_name_here", "_law_columns_here", "_law_other", "_law_shape", "_law_at", "_law_thing", "_law_fault_here", "_law_names", "_law_part", "_law_column"]
theorem sc_law : FnScope N_law ["_law_script"] (defScope S_law) := ⟨rfl, rfl, rfl, by decide +kernel, rfl, by decide +kernel, by decide +kernel⟩
structure Txt (K : PySem.W.Frag) (mg : Str → Option Value) : Prop where
  h_isinstance : mg "isinstance" = none
  h_list : mg "list" = none
  h_tuple : mg "tuple" = none
  h_all : mg "all" = none
  h_str : mg "str" = none
  h_len : mg "len" = none
  h_bool : mg "bool" = none
  h_enumerate : mg "enumerate" = none
  h_int : mg "int" = none
  h_range : mg "range" = none
  d_is_sequence : ∃ f fd, Here K mg "is_sequence" S_is_sequence ["thing"] f fd
  d_is_name : ∃ f fd, Here K mg "is_name" S_is_name ["thing"] f fd
  d_Shape_init : ∃ f fd, HereCD K (cadr mg "Shape") "Shape.__init__" S_Shape_init ["self", "columns", "checks", "keys"] f fd
  d_is_short : ∃ f fd, Here K mg "is_short" S_is_short ["thing", "least", "most"] f fd
  d_is_column : ∃ f fd, Here K mg "is_column" S_is_column ["thing"] f fd
  d_need_columns : ∃ f fd, Here K mg "need_columns" S_need_columns ["columns"] f fd
  d_need_checks : ∃ f fd, Here K mg "need_checks" S_need_checks ["spots", "checks"] f fd
  d_need_keys : ∃ f fd, Here K mg "need_keys" S_need_keys ["spots", "keys"] f fd
  d_is_part : ∃ f fd, Here K mg "is_part" S_is_part ["thing"] f fd
  d_need_order : ∃ f fd, Here K mg "need_order" S_need_order ["thing"] f fd
  d_order_in : ∃ f fd, Here K mg "order_in" S_order_in ["shape", "thing"] f fd
  d__law_int : ∃ f fd, Here K mg "_law_int" S__law_int ["_law_thing"] f fd
  d__law_pool : ∃ f fd, Here K mg "_law_pool" S__law_pool ["_law_script", "_law_place"] f fd
  d__law_draw : ∃ f fd, Here K mg "_law_draw" S__law_draw ["_law_pool_here", "_law_many"] f fd
  d__law_name : ∃ f fd, Here K mg "_law_name" S__law_name ["_law_pool_here", "_law_taken"] f fd
  d__law_is_name : ∃ f fd, Here K mg "_law_is_name" S__law_is_name ["_law_thing"] f fd
  d__law_fault : ∃ f fd, Here K mg "_law_fault" S__law_fault ["_law_thing"] f fd
  d__law_odd : ∃ f fd, Here K mg "_law_odd" S__law_odd ["_law_pool_here", "_law_parts", "_law_at"] f fd
  d__law_said : ∃ f fd, Here K mg "_law_said" S__law_said ["_law_shape", "_law_thing"] f fd
  d__law_right : ∃ f fd, Here K mg "_law_right" S__law_right ["_law_said_here", "_law_fault_here", "_law_thing"] f fd
  x_BadOrder : ∃ fI, PySem.ErBadOrder.Err K mg (cadr mg "BadOrder") fI
  is_Shape : OwnIs K (cadr mg "Shape")
  sf_Shape : PySem.W.selfFirst K (cadr mg "Shape") = true
  nr_Shape_and : PySem.W.findIn K (.ref (cadr mg "Shape")) (dunderR "and") = some none
  nr_Shape_or : PySem.W.findIn K (.ref (cadr mg "Shape")) (dunderR "or") = some none
  e_Shape : mg "Shape" = some (.ref (cadr mg "Shape"))
  cl_Shape : Cls K (cadr mg "Shape")
  n_Shape_layout : NoAttr K (cadr mg "Shape") "layout"
  n_Shape_spots : NoAttr K (cadr mg "Shape") "spots"
  n_Shape_check_tests : NoAttr K (cadr mg "Shape") "check_tests"
  n_Shape_key_rules : NoAttr K (cadr mg "Shape") "key_rules"
  k_LONGEST_NAME : ∃ t, mg "LONGEST_NAME" = some (.int 8 t)
  k_LETTERS : ∃ t, mg "LETTERS" = some (.str C_LETTERS t)
  k_WORDS : ∃ a, mg "WORDS" = some (.ref a) ∧ ∀ H : Hp, SqT K H a C_WORDS
  k_NAME_SIGNS : ∃ t, mg "NAME_SIGNS" = some (.str C_NAME_SIGNS t)
  k_KINDS : ∃ a, mg "KINDS" = some (.ref a) ∧ ∀ H : Hp, SqT K H a C_KINDS
  k_MOST_COLUMNS : ∃ t, mg "MOST_COLUMNS" = some (.int 12 t)
  k_MOST_RULES : ∃ t, mg "MOST_RULES" = some (.int 9 t)
  k_DIRECTIONS : ∃ a, mg "DIRECTIONS" = some (.ref a) ∧ ∀ H : Hp, SqT K H a C_DIRECTIONS
  k_MOST_PARTS : ∃ t, mg "MOST_PARTS" = some (.int 3 t)
def signs : Str := Str.ofString " !\"#$&'()*+,-./0123456789:;<=>?@ABCDEFGHIJKLMNOPQRSTUVWXYZ[\\]^_`abcdefghijklmnopqrstuvwxyz{|}~"
/-! texts of the 94 signs -/
def txtB (z : Str) : Bool := z.cps.toList.all fun c => decide (c ∈ signs.cps.toList)
def isTxtB : V → Bool
  | .str z => txtB z
  | _ => false
theorem none_bad {l : List Nat} {p : Nat → Bool} {f : Nat → V} : decide ((((l.filter fun n => !p n).map f).length : Int) = 0) = l.all p := by
  rw [List.length_map, Bool.eq_iff_iff, decide_eq_true_eq, List.all_eq_true]
  constructor
  · intro h c hc
    have h' : (l.filter fun n => !p n) = [] := List.length_eq_zero_iff.mp (by omega)
    have := (List.filter_eq_nil_iff.mp h') c hc
    simpa using this
  · intro h
    have h' : (l.filter fun n => !p n) = [] := List.filter_eq_nil_iff.mpr fun c hc => by
      have := h c hc
      simpa using this
    rw [h']
    rfl
def spThingB (F : V → Bool) : Sp := fun vs H Q _ => ∃ v, vs = [v] ∧ thing H v ∧ ∀ H', (∀ p o, H p = some o → H' p = some o) → Q (.bl (F v)) H'
def letters : List Nat := (Str.ofString "abcdefghijklmnopqrstuvwxyz").cps.toList
def nameSigns : List Nat := (Str.ofString "abcdefghijklmnopqrstuvwxyz0123456789").cps.toList
def keptWords : List Str := ["and", "or", "not", "sure", "in", "is", "empty", "begins", "always", "never"]
def nameP (z : Str) : Prop := z.length ≠ 0 ∧ z.length ≤ 8 ∧ (∀ c r, z.cps.toList = c :: r → c ∈ letters) ∧ z ∉ keptWords ∧ ∀ c ∈ z.cps.toList, c ∈ nameSigns
noncomputable def nameB : V → Bool
  | .str z => @decide (nameP z) (Classical.propDecidable _)
  | _ => false
theorem nameB_str {z : Str} : nameB (.str z) = true ↔ nameP z := by
  unfold nameB
  exact @decide_eq_true_iff _ (Classical.propDecidable _)
theorem nameB_no {z : Str} (h : ¬ nameP z) : nameB (.str z) = false := by
  cases e : nameB (.str z) with
  | false => rfl
  | true => exact absurd (nameB_str.mp e) h
theorem nameB_is {z : Str} {b : Bool} (h : nameP z ↔ b = true) : nameB (.str z) = b := by
  cases b with
  | true => exact nameB_str.mpr (h.mpr rfl)
  | false => exact nameB_no fun z => absurd (h.mp z) Bool.false_ne_true
def kindV : V → V
  | .int _ => .str (Str.ofString "number")
  | .str z => if txtB z = true then .str (Str.ofString "text") else .non
  | _ => .non
section
variable {P : Program} {w : World} {K : PySem.W.Frag} {mg : Str → Option Value} {base : Heap}
theorem ok_is_name (T : Txt K mg) : Def P w K mg base 1 "is_name" ["thing"] (spThingB nameB) := by
  obtain ⟨f, fd, h⟩ := T.d_is_name
  obtain ⟨t_LONGEST_NAME, G_LONGEST_NAME⟩ := T.k_LONGEST_NAME
  obtain ⟨t_LETTERS, G_LETTERS⟩ := T.k_LETTERS
  obtain ⟨t_WORDS, G_WORDS, Q_WORDS⟩ := T.k_WORDS
  obtain ⟨t_NAME_SIGNS, G_NAME_SIGNS⟩ := T.k_NAME_SIGNS
  refine h.def (Fun.okM h.fn sc_is_name (fun vs H Q E h => ?_) (fun cdv A outer s H vs Q E hr h => ?_))
  · obtain ⟨x, rfl, _⟩ := h
    rfl
  · obtain ⟨x, rfl, hx, k⟩ := h
    have k' := k H fun _ _ h => h
    refine ⟨_, (pss_cons (ps_if (pt_not (pt_val (pe_callB (call_isiG (K := K) rfl) (by rfl) T.h_isinstance (by decide +kernel) (pa_cons (pv 0) (pa_cons (pe_bltn (v := .ty "str") (by rfl) T.h_str (by decide +kernel) rfl) pa_nil)))))
  (pss_one (ps_ret pe_bl))
  pss_nil)
  (pss_cons (ps_if (PW.pt (pw_or (pt_cmpR op_eq (pe_callB (call_lenG (K := K) rfl) (by rfl) T.h_len (by decide +kernel) (pa_cons (pv 0) pa_nil)) pe_int (nomark _)) (pw_or1 (pt_cmpR op_gtG (pe_callB (call_lenG (K := K) rfl) (by rfl) T.h_len (by decide +kernel) (pa_cons (pv 0) pa_nil)) (pe_glob (v := .int 8) rfl G_LONGEST_NAME ⟨_, rfl⟩) (nomark _)))))
  (pss_one (ps_ret pe_bl))
  pss_nil)
  (pss_cons (ps_if (PW.pt (pw_or (pt_cmpR (op_notInG (K := K) rfl) (pe_ix (ix_seqG (K := K) rfl) (pv 0) pe_int (fun _ _ => rfl)) (pe_glob (v := .str C_LETTERS) rfl G_LETTERS ⟨_, rfl⟩) (by rfl)) (pw_or1 (pt_cmpR (op_inG (K := K) rfl) (pv 0) (pe_glob (v := .ref t_WORDS) rfl G_WORDS rfl) (by rfl)))))
  (pss_one (ps_ret pe_bl))
  pss_nil)
  (pss_one (ps_ret (pe_callB (cr_all rfl) (by rfl) T.h_all (by decide +kernel) (pa_cons (pe_lc (own := [("sign", 1)]) rfl sc_is_name.nd (pi_str (pv 0)) (blkOk_by (N := N_is_name) (sc := defScope S_is_name) (by decide +kernel)) (fun _ _ _ _ _ => pg_name (i := 1) sc_is_name.nd rfl (Or.inl rfl)) (fun _ _ _ _ _ => pts_nil) (fun _ _ _ _ _ => (pe_cmpR (op_inG (K := K) rfl) (pv 1) (pe_glob (v := .str C_NAME_SIGNS) rfl G_NAME_SIGNS ⟨_, rfl⟩) (by rfl)))) pa_nil))))))), ?_⟩
    rcases hx with rfl | ⟨b, rfl⟩ | ⟨i, rfl⟩ | ⟨z, rfl, hz⟩ | ⟨p, rfl, hp⟩
    case inr.inr.inr.inl =>
      walk_at "g"
      refine g_lenS (by rw [sizeLine_eq]; omega) ?_
      have no : ¬ nameP z → Q (.bl false) H := fun h => by rw [← nameB_no h]; exact k'
      walk_at "g"
      refine g_dec (fun h0 => ?_) (fun h0 => ?_)
      · walk_at "g"
        exact no fun n => n.1 (by omega)
      walk_at "g"
      refine g_lenS (by rw [sizeLine_eq]; omega) ?_
      walk_at "g"
      refine g_dec (fun h8 => ?_) (fun h8 => ?_)
      · walk_at "g"
        exact no fun n => by have := n.2.1; omega
      walk_at "g"
      obtain ⟨c, r, hcr⟩ : ∃ c r, z.cps.toList = c :: r := by
        cases e : z.cps.toList with
        | nil => exact absurd (by have e2 : z.cps.toList.length = z.length := Array.length_toList
                                  rw [e] at e2; simpa using e2.symm) h0
        | cons c r => exact ⟨c, r, rfl⟩
      refine g_ixS (n := c) (by rw [sizeLine_eq]; omega) (atI_nat (j := 0) (by rw [hcr]; rfl)) ?_
      walk_at "g"
      refine g_ndec (fun hc => ?_) (fun hc => ?_)
      · walk_at "g"
        exact no fun n => hc (n.2.2.1 c r hcr)
      walk_at "g"
      refine .inr ⟨_, keptWords.map V.str, rfl, .inr (Q_WORDS _), rfl, Tw.flat_strs _, ?_⟩
      walk_at "g"
      rw [if_neg Bool.false_ne_true, inV_strs]
      refine g_dec (fun hw => ?_) (fun hw => ?_)
      · walk_at "g"
        exact no fun n => n.2.2.2.1 hw
      walk_at "g"
      refine fun L hL => ?_
      refine lc_text (fun _ => true) (fun n => .bl (decide (n ∈ nameSigns))) (by omega) (fun n Hh R S hn hK hR hS => ?_) (fun H2 hK hL2 => ?_)
      · walk_at "g"
        refine ⟨rfl, ?_⟩
        walk_at "g"
        exact hR rfl
      · walk_at "g"
        refine ⟨L, z.cps.toList.map fun n => decide (n ∈ nameSigns), rfl, SqL.of ?_, ?_⟩
        · rw [hL2, List.filter_eq_self.mpr (fun _ _ => rfl), List.map_map]; rfl
        · walk_at "g"
          have e : nameB (.str z) = (z.cps.toList.map fun n => decide (n ∈ nameSigns)).all id := by
            refine nameB_is ?_
            rw [List.all_map, List.all_eq_true]
            constructor
            · intro n c hc
              exact decide_eq_true (n.2.2.2.2 c hc)
            · intro h
              exact ⟨by omega, by omega, fun c' r' e' => by rw [hcr] at e'; injection e' with e1 _; rw [← e1]; exact hc, hw, fun c hc => of_decide_eq_true (h c hc)⟩
          rw [← e]
          exact k _ fun p o h => hK p o (ne_of_none h hL) h
    all_goals (walk_at "g"; exact k')
end
/-! draws from a pool -/
def PD (H : Hp) (p : Addr) (n : Nat) : Prop := ∃ a b c : Int, H p = some (.lst [.int a, .int b, .int c]) ∧ 0 ≤ b ∧ b < 2147483648 ∧ 0 ≤ c ∧ c ≤ n
def Keep (d : Addr) (H H' : Hp) : Prop := ∀ p o, p ≠ d → H p = some o → H' p = some o
theorem Keep.refl (d : Addr) (H : Hp) : Keep d H H := fun _ _ _ h => h
theorem Keep.trans {d : Addr} {H H1 H2 : Hp} (a : Keep d H H1) (b : Keep d H1 H2) : Keep d H H2 := fun p o n h => b p o n (a p o n h)
theorem Keep.upd {d : Addr} {H H1 : Hp} {o : HO} (a : Keep d H H1) : Keep d H (L2.upd H1 d o) := fun p u n h => by rw [upd_ne n]; exact a p u n h
theorem Keep.new {d p : Addr} {H H1 : Hp} {o : HO} (a : Keep d H H1) (hp : H p = none) : Keep d H (L2.upd H1 p o) := fun q u n h => by rw [upd_ne (ne_of_none h hp)]; exact a q u n h
theorem Keep.back {d p : Addr} {H H1 : Hp} (a : Keep d H H1) (n : p ≠ d) (h : H1 p = none) : H p = none := by
  cases hh : H p with
  | none => rfl
  | some o => rw [a p o n hh] at h; cases h
theorem PD.other {H : Hp} {p q : Addr} {n : Nat} {o : HO} (D : PD H p n) (h : q ≠ p) : PD (upd H q o) p n := by
  obtain ⟨a, b, c, e, r⟩ := D
  exact ⟨a, b, c, by rw [upd_ne (Ne.symm h)]; exact e, r⟩
theorem PD.ne {H : Hp} {p q : Addr} {n : Nat} (D : PD H p n) (h : H q = none) : q ≠ p := by
  obtain ⟨a, b, c, e, r⟩ := D
  exact Ne.symm (ne_of_none e h)
theorem PD.new {H : Hp} {p q : Addr} {n : Nat} {o : HO} (D : PD H p n) (h : H q = none) : PD (upd H q o) p n := D.other (D.ne h)
theorem PD.mono {H : Hp} {p : Addr} {n m : Nat} (D : PD H p n) (h : n ≤ m) : PD H p m := by
  obtain ⟨a, b, c, e, h1, h2, h3, h4⟩ := D
  exact ⟨a, b, c, e, h1, h2, h3, by omega⟩
theorem PD.at {H : Hp} {p : Addr} {n : Nat} (D : PD H p n) : ∃ xs, H p = some (.lst xs) := by
  obtain ⟨a, b, c, e, r⟩ := D
  exact ⟨_, e⟩
def spPool (K : PySem.W.Frag) : Sp := fun vs H Q _ => ∃ (a : Addr) (ns : List Int) (k : Nat), vs = [.ref a, .int k] ∧ SqL K H a (ns.map V.int) ∧ ns.length ≤ 63 ∧ k < 100 ∧ ∀ p H', H p = none → Same H H' → PD H' p 200000 → Q (.ref p) H'
def spDrawP : Sp := fun vs H Q _ => ∃ (p : Addr) (m : Int) (n : Nat), vs = [.ref p, .int m] ∧ PD H p n ∧ n ≤ 1000000 ∧ 0 < m ∧ m.natAbs.log2 < 9000 ∧ ∀ r H', 0 ≤ r → r < m → PD H' p (n + 1) → Keep p H H' → Q (.int r) H'
section
variable {P : Program} {w : World} {K : PySem.W.Frag} {mg : Str → Option Value} {base : Heap}
theorem ok__law_pool (T : Txt K mg) : Def P w K mg base 1 "_law_pool" ["_law_script", "_law_place"] (spPool K) := by
  obtain ⟨f, fd, h⟩ := T.d__law_pool
  refine h.def (Fun.okM h.fn sc__law_pool (fun vs H Q E h => ?_) (fun cdv A outer s H vs Q E hr h => ?_))
  · obtain ⟨a, ns, k, rfl, _⟩ := h
    rfl
  · obtain ⟨a, ns, kk, rfl, hS, hlen, hk, k⟩ := h
    refine ⟨_, (pss_cons (ps_set (i := 2) sc__law_pool.nd rfl (Or.inl rfl) pe_int)
  (Evl.pss_cut (ps_if (pt_cmpR op_ltG (pv 1) (pe_callB (call_lenG (K := K) rfl) (by rfl) T.h_len (by decide +kernel) (pa_cons (pv 0) pa_nil)) (nomark _))
  (pss_one (ps_set (i := 2) sc__law_pool.nd rfl (Or.inl rfl) (pe_callTy call_intG (by rfl) T.h_int (by decide +kernel) (pa_cons (pe_ix (ix_seqG (K := K) rfl) (pv 0) (pv 1) (fun _ _ => rfl)) pa_nil))))
  pss_nil)
  (pss_cons (ps_if (pt_cmpR op_geG (pv 2) (pe_op op_powG' pe_int pe_int) (nomark _))
  (pss_one (ps_ret (pe_lst (pa_cons (pv 2) (pa_cons (pe_op op_modG (pe_callTy call_intG (by rfl) T.h_int (by decide +kernel) (pa_cons (pv 2) pa_nil)) pe_int) (pa_cons (pe_op op_mulG pe_int (pv 1)) pa_nil))))))
  pss_nil)
  (pss_one (ps_ret (pe_lst (pa_cons pe_int (pa_cons (pe_op op_modG (pe_callTy call_intG (by rfl) T.h_int (by decide +kernel) (pa_cons (pv 2) pa_nil)) pe_int) (pa_cons (pe_op op_mulG pe_int (pv 1)) pa_nil))))))))), ?_⟩
    walk_at "g"
    refine g_cutA (M := fun σ' H' => ∃ c : Int, σ' = [some (.ref a), some (.int kk), some (.int c)] ∧ H' = H) (fun D' hn _ _ _ => ?_) ?_
    · walk_at "g"
      refine g_lenL hS ?_
      walk_at "g"
      refine g_dec (fun h0 => ?_) (fun h0 => ?_)
      · walk_at "g"
        have hk2 : kk < ns.length := by rw [List.length_map] at h0; omega
        refine g_ixL hS (v := .int ns[kk]) (atI_nat (j := kk) (by rw [List.getElem?_map, List.getElem?_eq_getElem hk2]; rfl)) ?_
        walk_at "g"
        exact hn _ _ ⟨_, rfl, rfl⟩
      · walk_at "g"
        exact hn _ _ ⟨_, rfl, rfl⟩
    · rintro σ' H' ⟨c, rfl, rfl⟩
      have key : ∀ a' : Int, ∀ p, H' p = none → Q (.ref p) (upd H' p (.lst [.int a', .int (c % 2147483647), .int (1009 * (kk : Int))])) := fun a' p hp =>
        k p _ hp (fun q o h => by rw [upd_ne (ne_of_none h hp)]; exact h) ⟨_, _, _, upd_same, Int.emod_nonneg _ (by decide), by have := Int.emod_lt_of_pos c (b := 2147483647) (by decide); omega, by omega, by omega⟩
      walk_at "G"
      all_goals exact ⟨by show 3 ≤ sizeLine; decide, fun p hp => key _ p hp⟩
theorem ok__law_draw (T : Txt K mg) : Def P w K mg base 1 "_law_draw" ["_law_pool_here", "_law_many"] spDrawP := by
  obtain ⟨f, fd, h⟩ := T.d__law_draw
  refine h.def (Fun.okM h.fn sc__law_draw (fun vs H Q E h => ?_) (fun cdv A outer s H vs Q E hr h => ?_))
  · obtain ⟨p, m, n, rfl, _⟩ := h
    rfl
  · obtain ⟨p, m, n, rfl, ⟨a, b, c, e, hb0, hb1, hc0, hc1⟩, hn, hm, hml, k⟩ := h
    refine ⟨_, (pss_cons (ps_if (pt_cmpR op_gtG (pe_ix (ix_seqG (K := K) rfl) (pv 0) pe_int (fun _ _ => rfl)) pe_int (nomark _))
  (pss_cons (ps_set (i := 2) sc__law_draw.nd rfl (Or.inl rfl) (pe_op op_modG (pe_callTy call_intG (by rfl) T.h_int (by decide +kernel) (pa_cons (pe_ix (ix_seqG (K := K) rfl) (pv 0) pe_int (fun _ _ => rfl)) pa_nil)) (pv 1)))
  (pss_cons (ps_asg (pe_op op_fdG (pe_ix (ix_seqG (K := K) rfl) (pv 0) pe_int (fun _ _ => rfl)) (pv 1)) (pg_sub (pv 0) pe_int set_list))
  (pss_one (ps_ret (pv 2)))))
  pss_nil)
  (pss_cons (ps_asg (pe_op op_addG (pe_ix (ix_seqG (K := K) rfl) (pv 0) pe_int (fun _ _ => rfl)) pe_int) (pg_sub (pv 0) pe_int set_list))
  (pss_cons (ps_set (i := 3) sc__law_draw.nd rfl (Or.inl rfl) (pe_op op_modG (pe_callTy call_intG (by rfl) T.h_int (by decide +kernel) (pa_cons (pe_op op_powG' (pe_op op_addG (pe_op op_addG (pe_ix (ix_seqG (K := K) rfl) (pv 0) pe_int (fun _ _ => rfl)) (pe_op op_mulG pe_int (pe_ix (ix_seqG (K := K) rfl) (pv 0) pe_int (fun _ _ => rfl)))) pe_int) pe_int) pa_nil)) pe_int))
  (pss_cons (ps_set (i := 3) sc__law_draw.nd rfl (Or.inl rfl) (pe_op op_modG (pe_callTy call_intG (by rfl) T.h_int (by decide +kernel) (pa_cons (pe_op op_powG' (pe_op op_addG (pe_op op_mulG (pv 3) pe_int) (pe_op op_mulG pe_int (pe_ix (ix_seqG (K := K) rfl) (pv 0) pe_int (fun _ _ => rfl)))) pe_int) pa_nil)) pe_int))
  (pss_cons (ps_set (i := 3) sc__law_draw.nd rfl (Or.inl rfl) (pe_op op_modG (pe_callTy call_intG (by rfl) T.h_int (by decide +kernel) (pa_cons (pe_op op_mulG (pv 3) (pe_op op_addG (pe_op op_fdG (pv 3) pe_int) pe_int)) pa_nil)) pe_int))
  (pss_one (ps_ret (pe_op op_modG (pe_callTy call_intG (by rfl) T.h_int (by decide +kernel) (pa_cons (pe_op op_fdG (pv 3) pe_int) pa_nil)) (pv 1))))))))), ?_⟩
    walk_at "g"
    refine g_dec (fun h0 => ?_) (fun h0 => ?_)
    · walk_at "g"
      refine k _ _ (Int.emod_nonneg _ (by omega)) (Int.emod_lt_of_pos _ hm) ⟨_, _, _, upd_same, hb0, hb1, hc0, by omega⟩ (Keep.refl _ _).upd
    · walk_at "g"
      have m1 : ∀ x : Int, 0 ≤ x % 2147483647 ∧ x % 2147483647 < 2147483647 := fun x => ⟨Int.emod_nonneg _ (by decide), Int.emod_lt_of_pos _ (by decide)⟩
      have m2 : ∀ x : Int, 0 ≤ x % 2147483629 ∧ x % 2147483629 < 2147483629 := fun x => ⟨Int.emod_nonneg _ (by decide), Int.emod_lt_of_pos _ (by decide)⟩
      refine k _ _ (Int.emod_nonneg _ (by omega)) (Int.emod_lt_of_pos _ hm) ⟨_, _, _, upd_same, hb0, hb1, by omega, by omega⟩ (Keep.refl _ _).upd
end
/-! names from a pool -/
theorem log_small {m : Int} (h : m.natAbs < 2 ^ 64) : m.natAbs.log2 < 1920 := Nat.lt_of_lt_of_le (PySem.Flt.log2_lt_of (by decide) h) (by decide)
theorem nodup_le {α : Type} [DecidableEq α] : ∀ {ys xs : List α}, ys.Nodup → (∀ y ∈ ys, y ∈ xs) → ys.length ≤ xs.length
  | [], _, _, _ => Nat.zero_le _
  | y :: ys, xs, nd, h => by
    obtain ⟨n1, n2⟩ := List.nodup_cons.mp nd
    have hy := h y List.mem_cons_self
    have h2 : ys.length ≤ (xs.erase y).length := nodup_le n2 fun z hz => (List.mem_erase_of_ne (fun e : z = y => n1 (by rw [← e]; exact hz))).mpr (h z (List.mem_cons_of_mem _ hz))
    rw [List.length_erase_of_mem hy] at h2
    have := List.length_pos_of_mem hy
    simp
    omega
def digS (k : Nat) : Str := Str.ofString (toString (k : Int))
theorem dig_inj : ((List.range 60).map digS).Nodup := by decide +kernel
theorem dig_ok : ∀ k ∈ List.range 60, (digS k).length ≤ 2 ∧ (digS k).length ≠ 0 ∧ (∀ c ∈ (digS k).cps.toList, c ∈ nameSigns ∧ c < 97) := by decide +kernel
theorem kept_big : ∀ z ∈ keptWords, ∀ c ∈ z.cps.toList, 97 ≤ c := by decide +kernel
theorem app_inj {z a b : Str} (h : z ++ a = z ++ b) : a = b := by
  refine str_ext ?_
  have h2 := congrArg (fun s : Str => s.cps.toList) h
  simp only [PySem.W.KT.app_list] at h2
  exact List.append_cancel_left h2
theorem pick_at {ws : List Nat} {m : Nat} (hw : ws.length = m) {r : Int} (r0 : 0 ≤ r) (r1 : r < (m : Int)) : ∃ c, c ∈ ws ∧ atI ws r = some c := by
  obtain ⟨k4, rfl⟩ := Int.eq_ofNat_of_zero_le r0
  have hk : k4 < ws.length := by omega
  exact ⟨_, List.getElem_mem hk, atI_nat (List.getElem?_eq_getElem hk)⟩
/-- a name but for the words that are kept -/
def preP (z : Str) : Prop := z.length ≠ 0 ∧ z.length ≤ 8 ∧ (∀ c r, z.cps.toList = c :: r → c ∈ letters) ∧ ∀ c ∈ z.cps.toList, c ∈ nameSigns

theorem cut6 {z : Str} : (cutS z none (some 6)).cps.toList = z.cps.toList.take 6 := by
  show ((z.cps.toList.drop 0).take (HT.sIx z.length z.length (some ((6 : Nat) : Int)) - 0)) = _
  rw [HT.sIx_nat]
  have : z.cps.toList.length = z.length := Array.length_toList
  rw [List.drop_zero, Nat.sub_zero]
  by_cases h : 6 ≤ z.length
  · rw [Nat.min_eq_left h]
  · rw [Nat.min_eq_right (by omega), ← this, List.take_length, List.take_of_length_le (by omega)]
theorem cut6_len {z : Str} : (cutS z none (some 6)).length = min 6 z.length := by
  show (cutS z none (some 6)).cps.size = _
  have : z.cps.toList.length = z.length := Array.length_toList
  rw [← Array.length_toList, cut6, List.length_take, this]
theorem cut_name {z : Str} (hp : preP z) {i : Nat} (hi : i < 60) : nameP (cutS z none (some 6) ++ digS i) := by
  obtain ⟨d1, d2, d3⟩ := dig_ok i (List.mem_range.mpr hi)
  have hlen : (cutS z none (some 6) ++ digS i).length = min 6 z.length + (digS i).length := by rw [PySem.Str.length_append, cut6_len]
  have hz0 := hp.1
  have hcp : (cutS z none (some 6) ++ digS i).cps.toList = z.cps.toList.take 6 ++ (digS i).cps.toList := by rw [PySem.W.KT.app_list, cut6]
  refine ⟨by omega, by omega, fun c r h => ?_, fun hk => ?_, fun c h => ?_⟩
  · rw [hcp] at h
    cases e : z.cps.toList with
    | nil =>
      have : z.cps.toList.length = z.length := Array.length_toList
      rw [e] at this; simp at this; omega
    | cons b s =>
      rw [e] at h
      injection h with h1 _
      rw [← h1]
      exact hp.2.2.1 b s e
  · have hdl : (digS i).cps.toList.length = (digS i).length := Array.length_toList
    obtain ⟨c, hc⟩ : ∃ c, c ∈ (digS i).cps.toList := by
      cases e : (digS i).cps.toList with
      | nil => rw [e] at hdl; simp at hdl; omega
      | cons c r => exact ⟨c, List.mem_cons_self⟩
    have h1 := kept_big _ hk c (by rw [hcp]; exact List.mem_append.mpr (.inr hc))
    have h2 := (d3 c hc).2
    omega
  · rw [hcp] at h
    rcases List.mem_append.mp h with h | h
    · exact hp.2.2.2 c (List.mem_of_mem_take h)
    · exact (d3 c h).1
theorem preP.of {z : Str} (h : nameP z) : preP z := ⟨h.1, h.2.1, h.2.2.1, h.2.2.2.2⟩
theorem dig_one : ∀ k : Nat, k < 9 → (digS k).cps.toList = [48 + k] := by decide +kernel
theorem last_cut {z : Str} {k : Nat} (hk : k < 9) : (cutS z none (some 6) ++ digS k).cps.toList.getLast? = some (48 + k) := by
  rw [PySem.W.KT.app_list, dig_one k hk, List.getLast?_append]
  rfl
/-- names met so far, each among xs, no two alike -/
structure Chain (xs : List Str) (i : Nat) (z : Str) (ys : List Str) : Prop where
  nd : ys.Nodup
  len : ys.length = i - 1
  mem : ∀ y ∈ ys, y ∈ xs ∧ ∃ j, j + 1 < i ∧ y.cps.toList.getLast? = some (48 + j)
  last : 0 < i → z.cps.toList.getLast? = some (48 + (i - 1))
theorem Chain.zero {xs : List Str} {z : Str} : Chain xs 0 z [] := ⟨List.nodup_nil, rfl, fun y h => (nomatch h), fun h => absurd h (Nat.lt_irrefl 0)⟩
theorem Chain.next {xs ys : List Str} {i : Nat} {z : Str} (h : Chain xs i z ys) (hz : z ∈ xs) (hi : i < 9) : ∃ ys', Chain xs (i + 1) (cutS z none (some 6) ++ digS i) ys' := by
  cases i with
  | zero => exact ⟨[], List.nodup_nil, rfl, fun y h => (nomatch h), fun _ => last_cut hi⟩
  | succ i =>
    have hl := h.last (Nat.succ_pos i)
    refine ⟨z :: ys, List.nodup_cons.mpr ⟨fun hm => ?_, h.nd⟩, ?_, fun y hy => ?_, fun _ => last_cut hi⟩
    · obtain ⟨_, j, hj, e⟩ := h.mem z hm
      rw [hl] at e
      injection e with e
      simp at e
      omega
    · rw [List.length_cons, h.len]
      omega
    · rcases List.mem_cons.mp hy with rfl | hy
      · exact ⟨hz, i, by omega, by simpa using hl⟩
      · obtain ⟨h1, j, hj, e⟩ := h.mem y hy
        exact ⟨h1, j, by omega, e⟩
theorem Chain.end {xs ys : List Str} {z : Str} (h : Chain xs 9 z ys) (hx : xs.length ≤ 8) : z ∉ xs := fun hz => by
  obtain ⟨ys', h'⟩ : ∃ ys' : List Str, ys'.Nodup ∧ ys'.length = 9 ∧ ∀ y ∈ ys', y ∈ xs := by
    have hl := h.last (by omega)
    refine ⟨z :: ys, List.nodup_cons.mpr ⟨fun hm => ?_, h.nd⟩, by rw [List.length_cons, h.len], fun y hy => ?_⟩
    · obtain ⟨_, j, hj, e⟩ := h.mem z hm
      rw [hl] at e
      injection e with e
      simp at e
      omega
    · rcases List.mem_cons.mp hy with rfl | hy
      · exact hz
      · exact (h.mem y hy).1
  have := nodup_le h'.1 h'.2.2
  omega
def spNameN : Sp := fun vs H Q _ => ∃ (p L : Addr) (xs : List Str) (n : Nat), vs = [.ref p, .ref L] ∧ PD H p n ∧ n ≤ 900000 ∧ L ≠ p ∧ H L = some (.lst (xs.map V.str)) ∧ xs.length ≤ 8 ∧ ∀ z H', nameP z → z ∉ xs → PD H' p (n + 20) → Keep p H H' → Q (.str z) H'
section
variable {P : Program} {w : World} {K : PySem.W.Frag} {mg : Str → Option Value} {base : Heap}
theorem ok__law_name (T : Txt K mg) : Def P w K mg base 2 "_law_name" ["_law_pool_here", "_law_taken"] spNameN := by
  obtain ⟨f, fd, h⟩ := T.d__law_name
  refine h.def (Fun.okM h.fn sc__law_name (fun vs H Q E h => ?_) (fun cdv A outer s H vs Q E hr h => ?_))
  · obtain ⟨p, L, xs, n, rfl, _⟩ := h
    rfl
  · obtain ⟨p, L, xs, n, rfl, hD, hn, hLp, hL, hx8, k⟩ := h
    refine ⟨_, (pss_cons (ps_set (i := 2) sc__law_name.nd rfl (Or.inl rfl) pe_str)
  (pss_cons (ps_set (i := 3) sc__law_name.nd rfl (Or.inl rfl) (pe_ix (ix_seqG (K := K) rfl) (pv 2) (pe_def (ok__law_draw T) hr rfl (pa_cons (pv 0) (pa_cons pe_int pa_nil))) (fun _ _ => rfl)))
  (pss_cons (ps_set (i := 4) sc__law_name.nd rfl (Or.inl rfl) (pe_ix (ix_seqG (K := K) rfl) (pe_lst (pa_cons pe_int (pa_cons pe_int (pa_cons pe_int (pa_cons pe_int (pa_cons pe_int pa_nil)))))) (pe_def (ok__law_draw T) hr rfl (pa_cons (pv 0) (pa_cons pe_int pa_nil))) (fun _ _ => rfl)))
  (pss_cons (ps_for PassesOwn.never rfl (pi_range1 rfl T.h_range (pa_cons (pv 4) pa_nil)) (pg_name (i := 5) sc__law_name.nd rfl (Or.inl rfl))
  (pss_one (ps_set (i := 3) sc__law_name.nd rfl (Or.inl rfl) (pe_op op_addG (pv 3) (pe_ix (ix_seqG (K := K) rfl) (pv 2) (pe_def (ok__law_draw T) hr rfl (pa_cons (pv 0) (pa_cons pe_int pa_nil))) (fun _ _ => rfl))))))
  (Evl.pss_cut (ps_if (pt_cmpR (op_inG (K := K) rfl) (pv 3) (pe_lst (pa_cons pe_str (pa_cons pe_str (pa_cons pe_str (pa_cons pe_str (pa_cons pe_str (pa_cons pe_str (pa_cons pe_str (pa_cons pe_str (pa_cons pe_str (pa_cons pe_str pa_nil))))))))))) (by rfl))
  (pss_one (ps_set (i := 3) sc__law_name.nd rfl (Or.inl rfl) (pe_op op_addG (pe_slice (sl_G (K := K) rfl) (pv 3) po_none (po_some pe_int)) pe_str)))
  pss_nil)
  (pss_cons (ps_for PassesOwn.never rfl (pi_range1 rfl T.h_range (pa_cons pe_int pa_nil)) (pg_name (i := 5) sc__law_name.nd rfl (Or.inl rfl))
  (pss_one (ps_if (pt_cmpR (op_inG (K := K) rfl) (pv 3) (pv 1) (by rfl))
  (pss_one (ps_set (i := 3) sc__law_name.nd rfl (Or.inl rfl) (pe_op op_addG (pe_slice (sl_G (K := K) rfl) (pv 3) po_none (po_some pe_int)) (pe_callTy call_str_int (by rfl) T.h_str (by decide +kernel) (pa_cons (pv 5) pa_nil)))))
  pss_nil)))
  (pss_one (ps_ret (pv 3))))))))), ?_⟩
    walk_at "g"
    have hz1 : (Str.ofString "abcdefghijklmnopqrstuvwxyz0123456789").cps.toList = nameSigns := rfl
    generalize hz0 : Str.ofString "abcdefghijklmnopqrstuvwxyz0123456789" = zc at hz1 ⊢
    have hzc : zc.length = 36 := by rw [← hz0]; decide +kernel
    have hfst : ∀ k : Nat, k < 26 → ∃ c, nameSigns[k]? = some c ∧ c ∈ letters := by decide +kernel
    have hlt : ∀ c ∈ letters, c ∈ nameSigns := by decide +kernel
    have hnl : nameSigns.length = 36 := by decide +kernel
    clear hz0
    refine ⟨_, _, _, rfl, hD, by omega, by decide, by decide +kernel, fun r H1 r0 r1 D1 K1 => ?_⟩
    obtain ⟨r, rfl⟩ := Int.eq_ofNat_of_zero_le r0
    obtain ⟨c, hc, hcl⟩ := hfst r (by omega)
    refine g_ixS (n := c) (by rw [hzc]; decide) (by rw [hz1]; exact atI_nat hc) ?_
    walk_at "g"
    refine ⟨by show 5 ≤ sizeLine; decide, fun q hq => ?_⟩
    have nq := D1.ne hq
    have D2 := D1.new (o := .lst [.int 0, .int 0, .int 1, .int 2, .int 6]) hq
    have K2 := K1.new (o := .lst [.int 0, .int 0, .int 1, .int 2, .int 6]) (K1.back nq hq)
    have e2 : (upd H1 q (.lst [.int 0, .int 0, .int 1, .int 2, .int 6])) q = some (.lst [.int 0, .int 0, .int 1, .int 2, .int 6]) := upd_same
    generalize upd H1 q (.lst [.int 0, .int 0, .int 1, .int 2, .int 6]) = H2 at D2 K2 e2
    walk_at "g"
    refine ⟨_, _, _, rfl, D2, by omega, by decide, by decide +kernel, fun r3 H3 r30 r31 D3 K3 => ?_⟩
    obtain ⟨m, hm, m0, m1⟩ : ∃ m : Int, atI [V.int 0, V.int 0, V.int 1, V.int 2, V.int 6] r3 = some (.int m) ∧ 0 ≤ m ∧ m ≤ 6 := by
      have : r3 = 0 ∨ r3 = 1 ∨ r3 = 2 ∨ r3 = 3 ∨ r3 = 4 := by omega
      rcases this with rfl | rfl | rfl | rfl | rfl
      · exact ⟨0, rfl, by decide, by decide⟩
      · exact ⟨0, rfl, by decide, by decide⟩
      · exact ⟨1, rfl, by decide, by decide⟩
      · exact ⟨2, rfl, by decide, by decide⟩
      · exact ⟨6, rfl, by decide, by decide⟩
    refine g_ixL (SqL.of (K3 _ _ nq e2)) hm ?_
    have K03 := K2.trans K3
    walk_at "g"
    refine ⟨_, rfl, by omega, by omega, ?_⟩
    refine for_rangeA (fun i σ' H' => ∃ (z : Str) (s5 : Option V), σ' = [some (.ref p), some (.ref L), some (.str zc), some (.str z), some (.int m), s5] ∧ z.length = i + 1 ∧ preP z ∧ PD H' p (n + 2 + i) ∧ Keep p H H') ⟨_, none, rfl, rfl, ⟨by show 1 ≠ 0; omega, by show 1 ≤ 8; omega, fun a r h => ?_, fun a h => ?_⟩, D3.mono (by omega), K03⟩ ?_ ?_
    · have h' : [c] = a :: r := h
      injection h' with h1 _
      rw [← h1]; exact hcl
    · have : a = c := by simpa using h
      rw [this]; exact hlt c hcl
    · rintro i σ' H4 D' hi ⟨z, s5, rfl, hz, hp, D4, K4⟩ hnx hct hbk hrt
      walk_at "g"
      refine ⟨_, _, _, rfl, D4, by omega, by decide, by decide +kernel, fun r5 H5 r50 r51 D5 K5 => ?_⟩
      obtain ⟨c, hc, hat⟩ := pick_at (ws := nameSigns) hnl r50 r51
      refine g_ixS (n := c) (by rw [hzc]; decide) (by rw [hz1]; exact hat) ?_
      have hl1 : (z ++ (⟨#[c]⟩ : Str)).length = i + 1 + 1 := by rw [PySem.Str.length_append, hz]; rfl
      refine g_addS (by rw [sizeLine_eq]; show z.length + 1 ≤ _; omega) ?_
      walk_at "g"
      refine hnx _ _ ⟨_, _, rfl, hl1, ⟨by omega, by omega, fun a r h => ?_, fun a h => ?_⟩, D5, K4.trans K5⟩
      · rw [PySem.W.KT.app_list] at h
        cases e : z.cps.toList with
        | nil =>
          have : z.cps.toList.length = z.length := Array.length_toList
          rw [e, hz] at this; simp at this
        | cons b s =>
          rw [e] at h
          injection h with h1 _
          rw [← h1]
          exact hp.2.2.1 b s e
      · rw [PySem.W.KT.app_list] at h
        rcases List.mem_append.mp h with h | h
        · exact hp.2.2.2 a h
        · have : a = c := by simpa using h
          rw [this]; exact hc
    · rintro σ' H4 ⟨z, s5, rfl, hz, hp, D4, K4⟩
      refine g_seq ?_
      refine g_cutA (M := fun σ' H' => ∃ (z : Str) (s5 : Option V), σ' = [some (.ref p), some (.ref L), some (.str zc), some (.str z), some (.int m), s5] ∧ nameP z ∧ PD H' p (n + 20) ∧ Keep p H H') (fun D' hn1 hrt _ _ => ?_) ?_
      · walk_at "g"
        refine ⟨by show 10 ≤ sizeLine; decide, fun q hq => ?_⟩
        have hfl : (keptWords.map V.str) = [V.str (Str.ofString "and"), V.str (Str.ofString "or"), V.str (Str.ofString "not"), V.str (Str.ofString "sure"), V.str (Str.ofString "in"), V.str (Str.ofString "is"), V.str (Str.ofString "empty"), V.str (Str.ofString "begins"), V.str (Str.ofString "always"), V.str (Str.ofString "never")] := rfl
        rw [← hfl]
        refine .inr ⟨_, keptWords.map V.str, rfl, .inl (SqL.of upd_same), rfl, Tw.flat_strs _, ?_⟩
        rw [if_neg Bool.false_ne_true, inV_strs]
        walk_at "g"
        have nq := D4.ne hq
        have D5 := (D4.mono (m := n + 20) (by omega)).new (o := .lst (keptWords.map V.str)) hq
        have K5 := K4.new (o := .lst (keptWords.map V.str)) (K4.back nq hq)
        refine g_dec (fun hk => ?_) (fun hk => ?_)
        · walk_at "g"
          have h8 := hp.2.1
          refine g_slS (by rw [sizeLine_eq]; omega) ?_
          walk_at "g"
          refine g_addS (by rw [cut6_len, sizeLine_eq]; show min 6 z.length + 1 ≤ _; omega) ?_
          walk_at "g"
          exact hn1 _ _ ⟨_, _, rfl, cut_name hp (i := 0) (by omega), D5, K5⟩
        · walk_at "g"
          exact hn1 _ _ ⟨_, _, rfl, ⟨hp.1, hp.2.1, hp.2.2.1, hk, hp.2.2.2⟩, D5, K5⟩
      · rintro σ' H5 ⟨z, s5, rfl, hz, D5, K5⟩
        have hL5 := K5 _ _ hLp hL
        walk_at "g"
        refine ⟨_, rfl, by decide, by decide, ?_⟩
        refine for_rangeA (fun i σ' H' => ∃ (z : Str) (s5 : Option V), σ' = [some (.ref p), some (.ref L), some (.str zc), some (.str z), some (.int m), s5] ∧ nameP z ∧ (z ∉ xs ∨ ∃ ys, Chain xs i z ys) ∧ H' = H5) ⟨_, _, rfl, hz, .inr ⟨_, Chain.zero⟩, rfl⟩ ?_ ?_
        · rintro i σ' H6 D' hi ⟨z, s5, rfl, hz, hch, rfl⟩ hnx hct hbk hrt
          have hi9 : i < 9 := by simpa using hi
          walk_at "g"
          refine .inr ⟨_, xs.map V.str, rfl, .inl (SqL.of hL5), rfl, Tw.flat_strs _, ?_⟩
          rw [if_neg Bool.false_ne_true, inV_strs]
          walk_at "g"
          refine g_dec (fun hm => ?_) (fun hm => ?_)
          · walk_at "g"
            have h8 := hz.2.1
            refine g_slS (by rw [sizeLine_eq]; omega) ?_
            walk_at "g"
            refine ⟨_, rfl, log_small (by omega), ?_⟩
            have hds : Str.ofString (toString (0 + (i : Int))) = digS i := by unfold digS; rw [Int.zero_add]
            rw [hds]
            refine g_addS (by rw [cut6_len, sizeLine_eq]; have := (dig_ok i (List.mem_range.mpr (by omega))).1; omega) ?_
            walk_at "g"
            refine hnx _ _ ⟨_, _, rfl, cut_name (preP.of hz) (by omega), .inr ?_, rfl⟩
            rcases hch with h | ⟨ys, h⟩
            · exact absurd hm h
            · exact h.next hm hi9
          · walk_at "g"
            exact hnx _ _ ⟨_, _, rfl, hz, .inl hm, rfl⟩
        · rintro σ' H6 ⟨z, s5, rfl, hz, hch, rfl⟩
          walk_at "g"
          refine k _ _ hz ?_ D5 K5
          rcases hch with h | ⟨ys, h⟩
          · exact h
          · exact h.end hx8
end
def kS (k : Bool) : Str := if k = true then "text" else "number"
/-! columns, orders, rows -/
def LAt (H : Hp) (L : Addr) (ts : List (List V)) : Prop := ∃ qs : List Addr, H L = some (.lst (qs.map V.ref)) ∧ qs.length = ts.length ∧ ∀ (i : Nat) (q : Addr) (t : List V), qs[i]? = some q → ts[i]? = some t → H q = some (.tup t)
theorem LAt.keep {H H' : Hp} {L : Addr} {ts : List (List V)} (h : LAt H L ts) (k : ∀ q o, H q = some o → H' q = some o) : LAt H' L ts := by
  obtain ⟨qs, h1, h2, h3⟩ := h
  exact ⟨qs, k _ _ h1, h2, fun i q t hq ht => k _ _ (h3 i q t hq ht)⟩
theorem LAt.keepP {H H' : Hp} {L p : Addr} {ts : List (List V)} (h : LAt H L ts) (n : L ≠ p) (hp : ∃ xs, H p = some (.lst xs)) (k : Keep p H H') : LAt H' L ts := by
  obtain ⟨qs, h1, h2, h3⟩ := h
  refine ⟨qs, k _ _ n h1, h2, fun i q t hq ht => ?_⟩
  have e := h3 i q t hq ht
  exact k _ _ (fun z => by obtain ⟨xs, hx⟩ := hp; rw [z, hx] at e; cases e) e
theorem LAt.app {H : Hp} {L t : Addr} {ts : List (List V)} {qs : List Addr} {x : List V} (h : LAt H L ts) (e : H L = some (.lst (qs.map V.ref))) (ht : H t = none) :
    LAt (upd (upd H t (.tup x)) L (.lst (qs.map V.ref ++ [.ref t]))) L (ts ++ [x]) := by
  obtain ⟨qs', h1, h2, h3⟩ := h
  obtain rfl : qs' = qs := by
    rw [e] at h1
    injection h1 with e
    injection e with e
    exact ((List.map_inj_right (fun a b h => by injection h)).mp e).symm
  have nt : L ≠ t := ne_of_none e ht
  refine ⟨qs' ++ [t], by rw [upd_same, List.map_append]; rfl, by rw [List.length_append, List.length_append, h2]; rfl, fun i q u hq hu => ?_⟩
  by_cases hlt : i < qs'.length
  · rw [List.getElem?_append_left hlt] at hq
    rw [List.getElem?_append_left (by omega)] at hu
    have e' := h3 i q u hq hu
    rw [upd_ne (fun z => by rw [z, e] at e'; cases e'), upd_ne (ne_of_none e' ht)]
    exact e'
  · rw [List.getElem?_append_right (by omega)] at hq
    rw [List.getElem?_append_right (by omega), ← h2] at hu
    obtain ⟨hi0, _⟩ := List.getElem?_eq_some_iff.mp hq
    have : i - qs'.length = 0 := by simpa using hi0
    rw [this] at hq hu
    obtain rfl : t = q := by simpa using hq
    obtain rfl : x = u := by simpa using hu
    rw [upd_ne (Ne.symm nt)]
    exact upd_same
theorem LAt.get {H : Hp} {L : Addr} {ts : List (List V)} (h : LAt H L ts) {qs : List Addr} (e : H L = some (.lst (qs.map V.ref))) : qs.length = ts.length ∧ ∀ (i : Nat) (q : Addr) (t : List V), qs[i]? = some q → ts[i]? = some t → H q = some (.tup t) := by
  obtain ⟨qs', h1, h2, h3⟩ := h
  obtain rfl : qs' = qs := by
    rw [e] at h1
    injection h1 with e
    injection e with e
    exact ((List.map_inj_right (fun a b h => by injection h)).mp e).symm
  exact ⟨h2, h3⟩
abbrev Col := Str × Bool × Bool
def ct (c : Col) : List V := [.str c.1, .str (kS c.2.1), .bl c.2.2]
def dS (up : Bool) : Str := if up = true then "up" else "down"
def pt (c : Str × Bool) : List V := [.str c.1, .str (dS c.2)]
def kdA (cs : List Col) : Str → Option Bool := cs.foldl (fun f x => fun c => if c = x.1 then some x.2.1 else f c) (fun _ => none)
theorem kdA_app {cs : List Col} {x : Col} {c : Str} : kdA (cs ++ [x]) c = if c = x.1 then some x.2.1 else kdA cs c := by
  unfold kdA
  rw [List.foldl_append]
  rfl
theorem kdA_mem {cs : List Col} {x : Col} (h : x ∈ cs) : ∃ kd, kdA cs x.1 = some kd := by
  have key : ∀ (r : List Col) (l : List Col), x ∈ l ++ r → (x ∈ l → ∃ kd, kdA l x.1 = some kd) → ∃ kd, kdA (l ++ r) x.1 = some kd := by
    intro r
    induction r with
    | nil => intro l h k; rw [List.append_nil] at h ⊢; exact k h
    | cons y r ih =>
      intro l h k
      have e : l ++ y :: r = (l ++ [y]) ++ r := by simp
      rw [e] at h ⊢
      refine ih (l ++ [y]) h fun hm => ?_
      rw [kdA_app]
      by_cases hx : x.1 = y.1
      · rw [if_pos hx]; exact ⟨_, rfl⟩
      · rw [if_neg hx]
        rcases List.mem_append.mp hm with hm | hm
        · exact k hm
        · exact absurd (by rw [List.mem_singleton.mp hm]) hx
  exact key cs [] h fun hm => nomatch hm
theorem strs_of : ∀ {ys : List V}, (∀ y ∈ ys, ∃ z, y = .str z) → ∃ xs : List Str, ys = xs.map V.str
  | [], _ => ⟨[], rfl⟩
  | y :: ys, h => by
    obtain ⟨z, rfl⟩ := h y List.mem_cons_self
    obtain ⟨xs, rfl⟩ := strs_of fun y hy => h y (List.mem_cons_of_mem _ hy)
    exact ⟨z :: xs, rfl⟩
/-- a thing's kind -/
inductive TyOf7 (H : Hp) : V → String → Prop
  | non : TyOf7 H .non "NoneType"
  | bl (b : Bool) : TyOf7 H (.bl b) "bool"
  | int (i : Int) : TyOf7 H (.int i) "int"
  | str (z : Str) : TyOf7 H (.str z) "str"
  | lst {p : Addr} {xs : List V} (h : H p = some (.lst xs)) : TyOf7 H (.ref p) "list"
  | tup {p : Addr} {xs : List V} (h : H p = some (.tup xs)) : TyOf7 H (.ref p) "tuple"
  | dct {p : Addr} {kvs : List (Key × V)} (h : H p = some (.dK kvs)) : TyOf7 H (.ref p) "dict"
theorem TyOf7.x {H : Hp} {v : V} {T : String} (h : TyOf7 H v T) (K : PySem.W.Frag) : TyX K H v (.type T) := by
  cases h with
  | non => exact .base .non
  | bl b => exact .base (.bl b)
  | int i => exact .base (.int i)
  | str z => exact .base (.str z)
  | lst h => exact .base (.lst h)
  | tup h => exact .base (.tup h)
  | dct h => exact .base (.dK h)
abbrev XT (H H' : Hp) : Prop := ∀ q o, H q = some o → H' q = some o
theorem XT.new {H H1 : Hp} {t : Addr} {o : HO} (k : XT H H1) (h : H1 t = none) : XT H (upd H1 t o) := fun q u e => by rw [upd_ne (ne_of_none (k q u e) h)]; exact k q u e
theorem XT.pool {H H1 H2 : Hp} {p : Addr} (k : XT H H1) (h : H p = none) (K : Keep p H1 H2) : XT H H2 := fun q u e => K q u (ne_of_none e h) (k q u e)
theorem xtL {K : PySem.W.Frag} {H H' : Hp} {a : Addr} {xs : List V} (h : SqL K H a xs) (k : XT H H') : SqL K H' a xs := by
  rcases h with h | h
  · rcases h with h | ⟨o, h⟩
    · exact .inl (.inl (k _ _ h))
    · exact .inl (.inr ⟨o, k _ _ h⟩)
  · exact .inr h
theorem XT.trans {H H1 H2 : Hp} (a : XT H H1) (b : XT H1 H2) : XT H H2 := fun q o h => b q o (a q o h)

/-- a comprehension with a promise over what it has taken -/
theorem lc_inv {σ : L2.St} {g : TG} {tt : TT} {te : TE} {vs : List Nat} {J : It} {H1 : Hp} {D : Addr} {Qd : Hp → Prop} (xs : List V) (Pv : Nat → List V → Hp → Prop) (h0 : Pv 0 [] (upd H1 D (.lst []))) (hJ : ∀ i acc H, Pv i acc H → Fits J xs H) (hlen : xs.length ≤ 1000000)
    (hD : ∀ i acc H, Pv i acc H → H D = some (.lst acc) ∧ acc.length ≤ i)
    (hs : ∀ i acc x Hh (R : V → Hp → Prop) (S : Hp → Prop), xs[i]? = some x → Pv i acc Hh → (∀ y H4, H4 D = some (.lst acc) → Pv (i + 1) (acc ++ [y]) (upd H4 D (.lst (acc ++ [y]))) → R y H4) → (∀ H3, Pv (i + 1) acc H3 → S H3) →
      g x (wipe σ vs) Hh fun σ2 H2 => wipe σ2 vs = wipe σ vs ∧ tt σ2 H2 fun b H3 => if b = true then te σ2 H3 R else S H3)
    (hd : ∀ acc H, Pv xs.length acc H → Qd H) :
    ∃ W : Nat → Nat → Hp → Prop, (∃ m, W 0 m (upd H1 D (.lst []))) ∧ ∀ i m H, W i m H →
      (J.stop i H ∧ Qd H) ∨ (J.go i H ∧ ∃ Nx : Hp → Prop, (∀ H', Nx H' → ∃ m', m' < m ∧ W (i + 1) m' H') ∧ ∀ x H', J.yld i H x H' → g x (wipe σ vs) H' fun σ2 H2 => wipe σ2 vs = wipe σ vs ∧ tt σ2 H2 fun b H3 =>
        if b = true then te σ2 H3 fun y H4 => ∃ acc, H4 D = some (.lst acc) ∧ acc.length < sizeLine ∧ Nx (upd H4 D (.lst (acc ++ [y]))) else Nx H3) := by
  refine ⟨fun i m H => m = xs.length - i ∧ i ≤ xs.length ∧ ∃ acc, Pv i acc H, ⟨xs.length, by simp, Nat.zero_le _, [], h0⟩, ?_⟩
  rintro i m H ⟨rfl, hi, acc, hp⟩
  have fi := hJ i acc H hp
  by_cases hlt : i < xs.length
  · refine .inr ⟨fi.go i hlt, fun H' => ∃ acc, Pv (i + 1) acc H', fun H' w => ⟨xs.length - (i + 1), by omega, rfl, hlt, w⟩, ?_⟩
    intro x H' hy
    obtain ⟨rfl, hx⟩ := fi.yld i x H' hy
    obtain ⟨d1, d2⟩ := hD i acc _ hp
    exact hs i acc x _ _ _ hx hp (fun y H4 e q => ⟨acc, e, by rw [sizeLine_eq]; omega, _, q⟩) (fun H3 q => ⟨_, q⟩)
  · have e : i = xs.length := by omega
    subst e
    exact .inl ⟨fi.stop _ (Nat.le_refl _), hd acc H hp⟩

theorem TyOf7.keep {H H' : Hp} {v : V} {T : String} (h : TyOf7 H v T) (k : XT H H') : TyOf7 H' v T := by
  cases h with
  | non => exact .non
  | bl b => exact .bl b
  | int i => exact .int i
  | str z => exact .str z
  | lst h => exact .lst (k _ _ h)
  | tup h => exact .tup (k _ _ h)
  | dct h => exact .dct (k _ _ h)
theorem XT.refl {H : Hp} : XT H H := fun _ _ h => h
theorem kit_seq {K : PySem.W.Frag} : ∀ T ∈ kinds7, PySem.W.kitAny K (.type T) [.type "list", .type "tuple"] = some (decide (T = "list" ∨ T = "tuple")) := by
  intro T h
  unfold kinds7 at h
  simp only [List.mem_cons, List.not_mem_nil, or_false] at h
  rcases h with rfl | rfl | rfl | rfl | rfl | rfl | rfl
  · exact kitAny_cons (b := false) (kit_ty (by decide +kernel)) (fun _ => kitAny_cons (b := false) (kit_ty (by decide +kernel)) (fun _ => rfl) (fun z => nomatch z)) (fun z => nomatch z)
  · exact kitAny_cons (b := false) (kit_ty (by decide +kernel)) (fun _ => kitAny_cons (b := false) (kit_ty (by decide +kernel)) (fun _ => rfl) (fun z => nomatch z)) (fun z => nomatch z)
  · exact kitAny_cons (b := false) (kit_ty (by decide +kernel)) (fun _ => kitAny_cons (b := false) (kit_ty (by decide +kernel)) (fun _ => rfl) (fun z => nomatch z)) (fun z => nomatch z)
  · exact kitAny_cons (b := false) (kit_ty (by decide +kernel)) (fun _ => kitAny_cons (b := false) (kit_ty (by decide +kernel)) (fun _ => rfl) (fun z => nomatch z)) (fun z => nomatch z)
  · exact kitAny_cons (b := true) (kit_ty (by decide +kernel)) (fun z => nomatch z) (fun _ => by decide)
  · exact kitAny_cons (b := false) (kit_ty (by decide +kernel)) (fun _ => kitAny_cons (b := true) (kit_ty (by decide +kernel)) (fun z => nomatch z) (fun _ => by decide)) (fun z => nomatch z)
  · exact kitAny_cons (b := false) (kit_ty (by decide +kernel)) (fun _ => kitAny_cons (b := false) (kit_ty (by decide +kernel)) (fun _ => rfl) (fun z => nomatch z)) (fun z => nomatch z)
/-! shapes without checks and keys -/
def spSeqX (K : PySem.W.Frag) : Sp := fun vs H Q _ => ∃ v Tn, vs = [v] ∧ Tn ∈ kinds7 ∧ (∀ H', XT H H' → TyX K H' v (.type Tn)) ∧ ∀ H', XT H H' → Q (.bl (decide (Tn = "list" ∨ Tn = "tuple"))) H'
def spShort (K : PySem.W.Frag) : Sp := fun vs H Q _ => ∃ (v : V) (a b : Int), vs = [v, .int a, .int b] ∧
  ((∃ Tn, Tn ∈ kinds7 ∧ TyOf7 H v Tn ∧ Tn ≠ "list" ∧ Tn ≠ "tuple" ∧ ∀ H', XT H H' → Q (.bl false) H') ∨
   (∃ p xs, v = .ref p ∧ (H p = some (.lst xs) ∨ SqT K H p xs) ∧ ∀ H', XT H H' → Q (.bl (decide (a ≤ (xs.length : Int)) && decide ((xs.length : Int) ≤ b))) H'))
theorem xtT {K : PySem.W.Frag} {H H' : Hp} {a : Addr} {xs : List V} (h : SqT K H a xs) (k : XT H H') : SqT K H' a xs := by
  rcases h with h | h
  · rcases h with h | ⟨o, h⟩
    · exact .inl (.inl (k _ _ h))
    · exact .inl (.inr ⟨o, k _ _ h⟩)
  · exact .inr h
def keysP (kvs : List (Key × V)) (S : List Str) : Prop := ∀ z : Str, (valV kvs (Sum.inr z)).isSome = decide (z ∈ S)
theorem keysP.nil : keysP [] [] := fun z => rfl
theorem keysP.put {kvs : List (Key × V)} {S : List Str} {c : Str} {v : V} (h : keysP kvs S) : keysP (putK kvs (Sum.inr c) v) (S ++ [c]) := fun z => by
  rw [valV_put]
  by_cases e : z = c
  · rw [if_pos (by rw [e]), e]
    exact (decide_eq_true (List.mem_append.mpr (.inr (List.mem_singleton.mpr rfl)))).symm
  · rw [if_neg (fun h => e (by injection h)), h z]
    exact decide_eq_decide.mpr ⟨fun h => List.mem_append.mpr (.inl h), fun h => (List.mem_append.mp h).elim id fun h => absurd (List.mem_singleton.mp h) e⟩
structure ColsOk (cs : List Col) : Prop where
  ne : 1 ≤ cs.length
  le : cs.length ≤ 12
  nm : ∀ c ∈ cs, nameP c.1
  nd : (cs.map (·.1)).Nodup
/-- a shape made of the columns cs -/
def ShapeAt (C : Addr) (H : Hp) (cs : List Col) (x : Addr) : Prop := ∃ dx fs D kvs, H x = some (.ins C dx fs) ∧ fs.lookup ("spots" : Str) = some (V.ref D) ∧ H D = some (.dK kvs) ∧ keysP kvs (cs.map (·.1))
theorem ShapeAt.keep {C x : Addr} {H H' : Hp} {cs : List Col} (h : ShapeAt C H cs x) (k : XT H H') : ShapeAt C H' cs x := by
  obtain ⟨dx, fs, D, kvs, h1, h2, h3, h4⟩ := h
  exact ⟨dx, fs, D, kvs, k _ _ h1, h2, k _ _ h3, h4⟩
theorem g_dput {σ : L2.St} {H : Hp} {D : Ends} {td ty tv : TE} (q : tv σ H fun v H1 => td σ H1 fun x H2 => ty σ H2 fun y H3 => ∃ a H4, x = .ref a ∧ DPut H3 a y v H4 ∧ D.nx σ H4) : sDPut td ty tv D σ H := q
section
variable {P : Program} {w : World} {K : PySem.W.Frag} {mg : Str → Option Value} {base : Heap}
theorem ok_is_sequence (T : Txt K mg) : Def P w K mg base 1 "is_sequence" ["thing"] (spSeqX K) := by
  obtain ⟨f, fd, h⟩ := T.d_is_sequence
  refine h.def (Fun.okM h.fn sc_is_sequence (fun vs H Q E h => ?_) (fun cdv A outer s H vs Q E hr h => ?_))
  · obtain ⟨v, Tn, rfl, _⟩ := h
    rfl
  · obtain ⟨v, Tn, rfl, hT, ty, k⟩ := h
    refine ⟨_, (pss_one (ps_ret (pe_callB call_isiT (by rfl) T.h_isinstance (by decide +kernel) (pa_cons (pv 0) (pa_cons (pe_tup (pa_cons (pe_bltn (v := .ty "list") (by rfl) T.h_list (by decide +kernel) rfl) (pa_cons (pe_bltn (v := .ty "tuple") (by rfl) T.h_tuple (by decide +kernel) rfl) pa_nil))) pa_nil))))), ?_⟩
    walk_at "g"
    refine ⟨by show 2 ≤ sizeLine; decide, fun t ht => ?_⟩
    walk_at "g"
    have kt : XT H (upd H t (.tup [.ty "list", .ty "tuple"])) := fun q o h => by rw [upd_ne (ne_of_none h ht)]; exact h
    refine ⟨v, t, _, _, _, _, rfl, upd_same, .cons (.ty "list") (.cons (.ty "tuple") .nil), ty _ kt, kit_seq Tn hT, ?_⟩
    walk_at "g"
    exact k _ kt
theorem ok_is_short (T : Txt K mg) : Def P w K mg base 2 "is_short" ["thing", "least", "most"] (spShort K) := by
  obtain ⟨f, fd, h⟩ := T.d_is_short
  refine h.def (Fun.okM h.fn sc_is_short (fun vs H Q E h => ?_) (fun cdv A outer s H vs Q E hr h => ?_))
  · obtain ⟨v, a, b, rfl, _⟩ := h
    rfl
  · obtain ⟨v, a, b, rfl, h⟩ := h
    refine ⟨_, (pss_one (ps_ret (pe_and (pe_def (ok_is_sequence T) hr rfl (pa_cons (pv 0) pa_nil)) (pe_and (pe_cmpR op_leG (pv 1) (pe_callB (call_lenG (K := K) rfl) (by rfl) T.h_len (by decide +kernel) (pa_cons (pv 0) pa_nil)) (nomark _)) (pe_one (pe_cmpR op_leG (pe_callB (call_lenG (K := K) rfl) (by rfl) T.h_len (by decide +kernel) (pa_cons (pv 0) pa_nil)) (pv 2) (nomark _))))))), ?_⟩
    rcases h with ⟨Tn, hT, ty, n1, n2, k⟩ | ⟨p, xs, rfl, hp, k⟩
    · walk_at "g"
      refine ⟨v, Tn, rfl, hT, fun H' x => (ty.keep x).x K, fun H' x => ?_⟩
      rw [decide_eq_false (fun h => h.elim n1 n2)]
      walk_at "g"
      exact k _ x
    · rcases hp with hp | hp
      · walk_at "g"
        refine ⟨.ref p, "list", rfl, by decide, fun H' x => .base (.lst (x _ _ hp)), fun H' x => ?_⟩
        rw [show decide ("list" = "list" ∨ "list" = "tuple") = true by decide]
        walk_at "g"
        refine g_lenL (SqL.of (x _ _ hp)) ?_
        walk_at "g"
        by_cases ha : a ≤ (xs.length : Int)
        · rw [decide_eq_true ha]
          walk_at "g"
          refine g_lenL (SqL.of (x _ _ hp)) ?_
          walk_at "g"
          have := k _ x
          rw [decide_eq_true ha, Bool.true_and] at this
          exact this
        · rw [decide_eq_false ha]
          walk_at "g"
          have := k _ x
          rw [decide_eq_false ha, Bool.false_and] at this
          exact this
      · walk_at "g"
        refine ⟨.ref p, "tuple", rfl, by decide, fun H' x => tyx_t (xtT hp x), fun H' x => ?_⟩
        rw [show decide ("tuple" = "list" ∨ "tuple" = "tuple") = true by decide]
        walk_at "g"
        refine g_lenT (xtT hp x) ?_
        walk_at "g"
        by_cases ha : a ≤ (xs.length : Int)
        · rw [decide_eq_true ha]
          walk_at "g"
          refine g_lenT (xtT hp x) ?_
          walk_at "g"
          have := k _ x
          rw [decide_eq_true ha, Bool.true_and] at this
          exact this
        · rw [decide_eq_false ha]
          walk_at "g"
          have := k _ x
          rw [decide_eq_false ha, Bool.false_and] at this
          exact this
theorem ok_is_column (T : Txt K mg) : Def P w K mg base 3 "is_column" ["thing"] (fun vs H Q _ => ∃ (t : Addr) (c : Col), vs = [.ref t] ∧ H t = some (.tup (ct c)) ∧ nameP c.1 ∧ ∀ H', XT H H' → Q (.bl true) H') := by
  obtain ⟨f, fd, h⟩ := T.d_is_column
  obtain ⟨t_KINDS, G_KINDS, Q_KINDS⟩ := T.k_KINDS
  refine h.def (Fun.okM h.fn sc_is_column (fun vs H Q E h => ?_) (fun cdv A outer s H vs Q E hr h => ?_))
  · obtain ⟨t, c, rfl, _⟩ := h
    rfl
  · obtain ⟨t, c, rfl, ht, hc, k⟩ := h
    refine ⟨_, (pss_cons (ps_if (pt_not (pt_val (pe_def (ok_is_short T) hr rfl (pa_cons (pv 0) (pa_cons pe_int (pa_cons pe_int pa_nil))))))
  (pss_one (ps_ret pe_bl))
  pss_nil)
  (pss_cons (ps_set (i := 1) sc_is_column.nd rfl (Or.inl rfl) (pe_and (pe_callB (call_isiG (K := K) rfl) (by rfl) T.h_isinstance (by decide +kernel) (pa_cons (pe_ix (ix_seqG (K := K) rfl) (pv 0) pe_int (fun _ _ => rfl)) (pa_cons (pe_bltn (v := .ty "str") (by rfl) T.h_str (by decide +kernel) rfl) pa_nil))) (pe_one (pe_cmpR (op_inG (K := K) rfl) (pe_ix (ix_seqG (K := K) rfl) (pv 0) pe_int (fun _ _ => rfl)) (pe_glob (v := .ref t_KINDS) rfl G_KINDS rfl) (by rfl)))))
  (pss_one (ps_ret (pe_and (pe_def (ok_is_name T) hr rfl (pa_cons (pe_ix (ix_seqG (K := K) rfl) (pv 0) pe_int (fun _ _ => rfl)) pa_nil)) (pe_and (pv 1) (pe_one (pe_callB (call_isiG (K := K) rfl) (by rfl) T.h_isinstance (by decide +kernel) (pa_cons (pe_ix (ix_seqG (K := K) rfl) (pv 0) pe_int (fun _ _ => rfl)) (pa_cons (pe_bltn (v := .ty "bool") (by rfl) T.h_bool (by decide +kernel) rfl) pa_nil)))))))))), ?_⟩
    walk_at "g"
    refine ⟨_, _, _, rfl, .inr ⟨t, _, rfl, .inr (SqT.of ht), fun H1 x1 => ?_⟩⟩
    have h1 := x1 _ _ ht
    rw [show (decide ((3 : Int) ≤ ((ct c).length : Int)) && decide (((ct c).length : Int) ≤ 3)) = true by rfl]
    walk_at "g"
    refine g_ixT (SqT.of h1) (v := .str (kS c.2.1)) (by rfl) ?_
    walk_at "g"
    refine g_ixT (SqT.of h1) (v := .str (kS c.2.1)) (by rfl) ?_
    walk_at "g"
    refine .inr ⟨_, [Str.ofString "number", Str.ofString "text"].map V.str, rfl, .inr (Q_KINDS _), rfl, Tw.flat_strs _, ?_⟩
    rw [if_neg Bool.false_ne_true, inV_strs, show decide (kS c.2.1 ∈ [Str.ofString "number", Str.ofString "text"]) = true by cases c.2.1 <;> decide +kernel]
    walk_at "g"
    refine g_ixT (SqT.of h1) (v := .str c.1) (by rfl) ?_
    walk_at "g"
    refine ⟨_, rfl, .inr (.inr (.inr (.inl ⟨_, rfl, by have := hc.2.1; omega⟩))), fun H2 x2 => ?_⟩
    rw [nameB_str.mpr hc]
    walk_at "g"
    refine g_ixT (SqT.of (x2 _ _ h1)) (v := .bl c.2.2) (by rfl) ?_
    walk_at "g"
    exact k _ (x1.trans x2)
theorem ok_need_columns (T : Txt K mg) : Def P w K mg base 4 "need_columns" ["columns"] (fun vs H Q _ => ∃ (L : Addr) (cs : List Col), vs = [.ref L] ∧ LAt H L (cs.map ct) ∧ ColsOk cs ∧ ∀ H', XT H H' → Q .non H') := by
  obtain ⟨f, fd, h⟩ := T.d_need_columns
  obtain ⟨t_MOST_COLUMNS, G_MOST_COLUMNS⟩ := T.k_MOST_COLUMNS
  refine h.def (Fun.okM h.fn sc_need_columns (fun vs H Q E h => ?_) (fun cdv A outer s H vs Q E hr h => ?_))
  · obtain ⟨L, cs, rfl, _⟩ := h
    rfl
  · obtain ⟨L, cs, rfl, hC, hcs, k⟩ := h
    obtain ⟨qs, hL, hlen, hcol⟩ := id hC
    rw [List.length_map] at hlen
    have n1 := hcs.ne
    have n2 := hcs.le
    refine ⟨_, (pss_cons (ps_if (pt_not (pt_val (pe_def (ok_is_short T) hr rfl (pa_cons (pv 0) (pa_cons pe_int (pa_cons (pe_glob (v := .int 12) rfl G_MOST_COLUMNS ⟨_, rfl⟩) pa_nil))))))
  (pss_one ps_never)
  pss_nil)
  (pss_cons (ps_set (i := 1) sc_need_columns.nd rfl (Or.inl rfl) pe_dnewK)
  (pss_one (ps_for PassesOwn.never rfl (pi_enumG (K := K) rfl (by rfl) T.h_enumerate (pa_cons (pv 0) pa_nil)) (pg_tupG (K := K) (n := 2) rfl rfl (pgs_cons (pg_name (i := 2) sc_need_columns.nd rfl (Or.inl rfl)) (pgs_cons (pg_name (i := 3) sc_need_columns.nd rfl (Or.inl rfl)) pgs_nil)))
  (pss_cons (ps_if (PW.pt (pw_or (pt_not (pt_val (pe_def (ok_is_column T) hr rfl (pa_cons (pv 3) pa_nil)))) (pw_or1 (pt_cmp (pc_din (hu_of hr) (pe_ix (ix_seqG (K := K) rfl) (pv 3) pe_int (fun _ _ => rfl)) (pv 1))))))
  (pss_one ps_never)
  pss_nil)
  (pss_one (ps_dput (hu_of hr) (pv 1) (pe_ix (ix_seqG (K := K) rfl) (pv 3) pe_int (fun _ _ => rfl)) pe_bl rfl))))))), ?_⟩
    walk_at "g"
    refine ⟨_, _, _, rfl, .inr ⟨L, _, rfl, .inl hL, fun H1 x1 => ?_⟩⟩
    rw [show (decide ((1 : Int) ≤ ((qs.map V.ref).length : Int)) && decide (((qs.map V.ref).length : Int) ≤ 12)) = true by
      rw [List.length_map, decide_eq_true (by omega), decide_eq_true (by omega)]; rfl]
    walk_at "g"
    intro r hr
    have x2 := x1.new (o := .dK []) hr
    have e2 : (upd H1 r (.dK [])) r = some (.dK []) := upd_same
    generalize upd H1 r (.dK []) = H2 at x2 e2
    have hHr : H r = none := by
      cases e : H r with
      | none => rfl
      | some o => rw [x1 _ _ e] at hr; cases hr
    have nr : L ≠ r := fun z => by rw [z, hHr] at hL; cases hL
    walk_at "g"
    refine g_enumG ?_
    walk_at "g"
    refine ⟨L, qs.map V.ref, rfl, .inl (SqL.of (x2 _ _ hL)), fun J hJ => ?_⟩
    refine for_enumA (xs := qs.map V.ref) (fun i σ' H' => ∃ (s2 s3 : Option V) (kvs : List (Key × V)), σ' = [some (.ref L), some (.ref r), s2, s3] ∧ XT H H' ∧ H' r = some (.dK kvs) ∧ keysP kvs ((cs.take i).map (·.1)) ∧ kvs.length ≤ i) ⟨none, none, [], rfl, x2, e2, keysP.nil, Nat.le_refl _⟩ ?_ ?_ ?_
    · rintro i σ' H' hi ⟨s2, s3, kvs, rfl, x3, _⟩
      exact hJ H' (by rw [x3 _ _ hL, x2 _ _ hL])
    · rintro i v t σ' H3 D' hv ⟨s2, s3, kvs, rfl, x3, e3, hk, hkl⟩ ht hnx hct hbk hrt
      rw [List.getElem?_map] at hv
      obtain ⟨q, hq, rfl⟩ := Option.map_eq_some_iff.mp hv
      have hil : i < cs.length := by
        have := (List.getElem?_eq_some_iff.mp hq).1
        omega
      obtain ⟨c, hc⟩ : ∃ c, cs[i]? = some c := ⟨_, List.getElem?_eq_getElem hil⟩
      have eq := hcol i q (ct c) hq (by rw [List.getElem?_map, hc]; rfl)
      have hcm : c ∈ cs := List.mem_of_getElem? hc
      have etk : (cs.take (i + 1)).map (·.1) = (cs.take i).map (·.1) ++ [c.1] := by rw [List.take_succ, hc, List.map_append]; rfl
      have hnot : c.1 ∉ (cs.take i).map (·.1) := fun hm => by
        have hnd := hcs.nd
        have e1 : cs.map (·.1) = (cs.take (i + 1)).map (·.1) ++ (cs.drop (i + 1)).map (·.1) := by rw [← List.map_append, List.take_append_drop]
        rw [e1, etk, List.append_assoc] at hnd
        exact (List.nodup_append.mp hnd).2.2 _ hm _ (List.mem_append.mpr (.inl (List.mem_singleton.mpr rfl))) rfl
      have x4 := x3.new (o := .tup [.int (i : Nat), .ref q]) ht
      have nrt : r ≠ t := ne_of_none e3 ht
      have e4 : (upd H3 t (.tup [.int (i : Nat), .ref q])) r = some (.dK kvs) := by rw [upd_ne nrt]; exact e3
      refine g_gtup upd_same rfl ?_
      refine g_gcons ?_
      walk_at "g"
      refine g_gcons ?_
      walk_at "g"
      refine g_gnil ?_
      generalize upd H3 t (.tup [.int (i : Nat), .ref q]) = H4 at x4 e4
      have eq4 := x4 _ _ eq
      walk_at "g"
      refine ⟨_, _, rfl, eq4, hcs.nm c hcm, fun H5 x5 => ?_⟩
      walk_at "g"
      refine g_ixT (SqT.of (x5 _ _ eq4)) (v := .str c.1) (by rfl) ?_
      walk_at "g"
      refine ⟨_, _, rfl, DGet.k (k := Sum.inr c.1) (x5 _ _ e4), ?_⟩
      rw [hk, decide_eq_false hnot]
      walk_at "g"
      refine g_dput ?_
      walk_at "g"
      refine g_ixT (SqT.of (x5 _ _ eq4)) (v := .str c.1) (by rfl) ?_
      refine ⟨r, _, rfl, DPut.k (k := Sum.inr c.1) (x5 _ _ e4) (by rw [sizeLine_eq]; omega), ?_⟩
      refine hnx _ _ ⟨_, _, _, rfl, fun q o h => ?_, upd_same, by rw [etk]; exact hk.put, Nat.le_trans (length_putK _ _ _) (by omega)⟩
      rw [upd_ne (fun z => by rw [z, hHr] at h; cases h)]
      exact x5 _ _ (x4 _ _ h)
    · rintro σ' H' ⟨s2, s3, kvs, rfl, x3, _⟩
      exact k _ x3
end
section
variable {P : Program} {w : World} {K : PySem.W.Frag} {mg : Str → Option Value} {base : Heap}
def spNone2 (K : PySem.W.Frag) : Sp := fun vs H Q _ => ∃ (v : V) (d : Addr), vs = [v, .ref d] ∧ (∀ H, SqT K H d []) ∧ ∀ H', XT H H' → Q .non H'
theorem ok_need_checks (T : Txt K mg) : Def P w K mg base 3 "need_checks" ["spots", "checks"] (spNone2 K) := by
  obtain ⟨f, fd, h⟩ := T.d_need_checks
  obtain ⟨t_MOST_RULES, G_MOST_RULES⟩ := T.k_MOST_RULES
  refine h.def (Fun.okM h.fn sc_need_checks (fun vs H Q E h => ?_) (fun cdv A outer s H vs Q E hr h => ?_))
  · obtain ⟨v, d, rfl, _⟩ := h
    rfl
  · obtain ⟨v, d, rfl, hd, k⟩ := h
    refine ⟨_, (pss_cons (ps_if (pt_not (pt_val (pe_def (ok_is_short T) hr rfl (pa_cons (pv 1) (pa_cons pe_int (pa_cons (pe_glob (v := .int 9) rfl G_MOST_RULES ⟨_, rfl⟩) pa_nil))))))
  (pss_one ps_never)
  pss_nil)
  (pss_one (ps_for PassesOwn.never rfl (pi_enumG (K := K) rfl (by rfl) T.h_enumerate (pa_cons (pv 1) pa_nil)) (pg_tupG (K := K) (n := 2) rfl rfl (pgs_cons (pg_name (i := 2) sc_need_checks.nd rfl (Or.inl rfl)) (pgs_cons (pg_name (i := 3) sc_need_checks.nd rfl (Or.inl rfl)) pgs_nil)))
  (pss_one ps_never)))), ?_⟩
    walk_at "g"
    refine ⟨_, _, _, rfl, .inr ⟨d, [], rfl, .inr (hd _), fun H1 x1 => ?_⟩⟩
    rw [show (decide ((0 : Int) ≤ (([] : List V).length : Int)) && decide ((([] : List V).length : Int) ≤ 9)) = true by rfl]
    walk_at "g"
    refine g_enumG ?_
    walk_at "g"
    refine ⟨d, [], rfl, .inr (hd _), fun J hJ => ?_⟩
    refine for_enumA (xs := []) (fun i σ' H' => H' = H1) rfl (fun i σ' H' _ e => hJ H' (by rw [e])) ?_ ?_
    · intro i v t σ' H3 D' hv
      simp at hv
    · rintro σ' H' rfl
      exact k _ x1
theorem ok_need_keys (T : Txt K mg) : Def P w K mg base 3 "need_keys" ["spots", "keys"] (spNone2 K) := by
  obtain ⟨f, fd, h⟩ := T.d_need_keys
  obtain ⟨t_MOST_RULES, G_MOST_RULES⟩ := T.k_MOST_RULES
  refine h.def (Fun.okM h.fn sc_need_keys (fun vs H Q E h => ?_) (fun cdv A outer s H vs Q E hr h => ?_))
  · obtain ⟨v, d, rfl, _⟩ := h
    rfl
  · obtain ⟨v, d, rfl, hd, k⟩ := h
    refine ⟨_, (pss_cons (ps_if (pt_not (pt_val (pe_def (ok_is_short T) hr rfl (pa_cons (pv 1) (pa_cons pe_int (pa_cons (pe_glob (v := .int 9) rfl G_MOST_RULES ⟨_, rfl⟩) pa_nil))))))
  (pss_one ps_never)
  pss_nil)
  (pss_one (ps_for PassesOwn.never rfl (pi_enumG (K := K) rfl (by rfl) T.h_enumerate (pa_cons (pv 1) pa_nil)) (pg_tupG (K := K) (n := 2) rfl rfl (pgs_cons (pg_name (i := 2) sc_need_keys.nd rfl (Or.inl rfl)) (pgs_cons (pg_name (i := 3) sc_need_keys.nd rfl (Or.inl rfl)) pgs_nil)))
  (pss_one ps_never)))), ?_⟩
    walk_at "g"
    refine ⟨_, _, _, rfl, .inr ⟨d, [], rfl, .inr (hd _), fun H1 x1 => ?_⟩⟩
    rw [show (decide ((0 : Int) ≤ (([] : List V).length : Int)) && decide ((([] : List V).length : Int) ≤ 9)) = true by rfl]
    walk_at "g"
    refine g_enumG ?_
    walk_at "g"
    refine ⟨d, [], rfl, .inr (hd _), fun J hJ => ?_⟩
    refine for_enumA (xs := []) (fun i σ' H' => H' = H1) rfl (fun i σ' H' _ e => hJ H' (by rw [e])) ?_ ?_
    · intro i v t σ' H3 D' hv
      simp at hv
    · rintro σ' H' rfl
      exact k _ x1
theorem eq_of_tup {H : Hp} {q : Addr} {xs ys : List V} (h : H q = some (.tup xs)) (k : H q = some (.tup ys)) : xs = ys := by
  rw [h] at k
  injection k with k
  injection k
theorem ok_Shape_init (T : Txt K mg) : DefCD P w K mg base 5 (cadr mg "Shape") ["self", "columns", "checks", "keys"] (fun vs H Q _ => ∃ (x L d1 d2 dx : Addr) (cs : List Col), vs = [.ref x, .ref L, .ref d1, .ref d2] ∧ H x = some (.ins (cadr mg "Shape") dx []) ∧ LAt H L (cs.map ct) ∧ ColsOk cs ∧ (∀ H, SqT K H d1 []) ∧ (∀ H, SqT K H d2 []) ∧ ∀ H', (∀ q o, q ≠ x → H q = some o → H' q = some o) → ShapeAt (cadr mg "Shape") H' cs x → Q .non H') := by
  obtain ⟨f, fd, h⟩ := T.d_Shape_init
  refine h.def (Fun.okM h.fn sc_Shape_init (fun vs H Q E h => ?_) (fun cdv A outer s H vs Q E hr h => ?_))
  · obtain ⟨x, L, d1, d2, dx, cs, rfl, _⟩ := h
    rfl
  · obtain ⟨x, L, d1, d2, dx, cs, rfl, hx, hC, hcs, hd1, hd2, k⟩ := h
    refine ⟨_, (pss_cons (ps_expr (pe_def (ok_need_columns T) hr rfl (pa_cons (pv 1) pa_nil)))
  (pss_cons (ps_fld (pv 0) (pe_callTy (call_tupleG (K := K) rfl) (by rfl) T.h_tuple (by decide +kernel) (pa_cons (pe_lc (own := [("column", 4)]) rfl sc_Shape_init.nd (pi_seqG (K := K) rfl (pv 1)) (blkOk_by (N := N_Shape_init) (sc := defScope S_Shape_init) (by decide +kernel)) (fun _ _ _ _ _ => pg_name (i := 4) sc_Shape_init.nd rfl (Or.inl rfl)) (fun _ _ _ _ _ => pts_nil) (fun _ _ _ _ _ => (pe_callTy (call_tupleG (K := K) rfl) (by rfl) T.h_tuple (by decide +kernel) (pa_cons (pv 4) pa_nil)))) pa_nil)) rfl)
  (pss_cons (ps_fld (pv 0) (pe_dc (own := [("column", 4)]) rfl sc_Shape_init.nd (pi_tupG (K := K) rfl (pe_fldG (K := K) rfl (pv 0) rfl)) (blkOk_by (N := N_Shape_init) (sc := defScope S_Shape_init) (by decide +kernel)) (fun _ _ _ _ _ => pg_name (i := 4) sc_Shape_init.nd rfl (Or.inl rfl)) (fun _ _ _ _ _ => pts_nil) (fun _ _ _ _ _ => (pe_ix (ix_seqG (K := K) rfl) (pv 4) pe_int (fun _ _ => rfl))) (fun _ _ _ _ _ => (pv 4))) rfl)
  (pss_cons (ps_expr (pe_def (ok_need_checks T) hr rfl (pa_cons (pe_fldG (K := K) rfl (pv 0) rfl) (pa_cons (pv 2) pa_nil))))
  (pss_cons (ps_fld (pv 0) (pe_callTy (call_tupleG (K := K) rfl) (by rfl) T.h_tuple (by decide +kernel) (pa_cons (pv 2) pa_nil)) rfl)
  (pss_cons (ps_expr (pe_def (ok_need_keys T) hr rfl (pa_cons (pe_fldG (K := K) rfl (pv 0) rfl) (pa_cons (pv 3) pa_nil))))
  (pss_one (ps_fld (pv 0) (pe_callTy (call_tupleG (K := K) rfl) (by rfl) T.h_tuple (by decide +kernel) (pa_cons (pe_lc (own := [("names", 5), ("test", 6)]) rfl sc_Shape_init.nd (pi_tupG (K := K) rfl (pv 3)) (blkOk_by (N := N_Shape_init) (sc := defScope S_Shape_init) (by decide +kernel)) (fun _ _ _ _ _ => (pg_tupG (K := K) (n := 2) rfl rfl (pgs_cons (pg_name (i := 5) sc_Shape_init.nd rfl (Or.inl rfl)) (pgs_cons (pg_name (i := 6) sc_Shape_init.nd rfl (Or.inl rfl)) pgs_nil)))) (fun _ _ _ _ _ => pts_nil) (fun _ _ _ _ _ => pe_never)) pa_nil)) rfl)))))))), ?_⟩
    have hcl := hcs.le
    walk_at "g"
    refine ⟨L, cs, rfl, hC, hcs, fun H1 x1 => ?_⟩
    obtain ⟨qs, hL, hlen, hcol⟩ := id (hC.keep x1)
    rw [List.length_map] at hlen
    have hx1 := x1 _ _ hx
    walk_at "g"
    refine g_seqG ?_
    walk_at "g"
    refine ⟨L, qs.map V.ref, rfl, .inl (SqL.of hL), fun J hJ D hD => ?_⟩
    refine lc_new (qs.map V.ref) (fun i y H' => ∃ q c, y = .ref q ∧ cs[i]? = some c ∧ H' q = some (.tup (ct c))) hD (fun H2 k2 => hJ H2 (by rw [k2 _ _ hL, hL])) (by rw [List.length_map]; omega) ?_ ?_ ?_
    · rintro i y Ha Hb ⟨zs, hz⟩ ⟨q, c, rfl, h1, h2⟩ hk
      exact ⟨q, c, rfl, h1, hk _ _ (fun z => by rw [z, hz] at h2; cases h2) h2⟩
    · intro i y Hh R S hy kh _ hR
      rw [List.getElem?_map] at hy
      obtain ⟨q, hqi, rfl⟩ := Option.map_eq_some_iff.mp hy
      have hil : i < cs.length := by
        have := (List.getElem?_eq_some_iff.mp hqi).1
        omega
      obtain ⟨c, hc⟩ : ∃ c, cs[i]? = some c := ⟨_, List.getElem?_eq_getElem hil⟩
      have et := kh _ _ (hcol i q (ct c) hqi (by rw [List.getElem?_map, hc]; rfl))
      walk_at "g"
      refine ⟨rfl, ?_⟩
      walk_at "g"
      refine g_tupT (SqT.of et) ?_
      exact hR _ _ (fun q o h => h) ⟨q, c, rfl, hc, et⟩
    · intro H2 ys x2 hW hyl hys
      have hyq : ∀ (i : Nat) (y : V), ys[i]? = some y → ∃ q c, y = .ref q ∧ cs[i]? = some c ∧ H2 q = some (.tup (ct c)) := hys
      walk_at "g"
      refine g_tupL (SqL.of hW) fun t ht => ?_
      have hx2 := x2 _ _ hx1
      have x3 : XT H2 (upd H2 t (.tup ys)) := fun q o h => by rw [upd_ne (ne_of_none h ht)]; exact h
      have et : (upd H2 t (.tup ys)) t = some (.tup ys) := upd_same
      generalize upd H2 t (.tup ys) = H3 at x3 et
      have hx3 := x3 _ _ hx2
      walk_at "g"
      refine ⟨x, _, dx, _, rfl, hx3, T.cl_Shape, T.n_Shape_layout, by decide, ?_⟩
      have kA : ∀ q o, q ≠ x → H q = some o → (upd H3 x (.ins (cadr mg "Shape") dx (putF "layout" (.ref t) []))) q = some o := fun q o n h => by rw [upd_ne n]; exact x3 _ _ (x2 _ _ (x1 _ _ h))
      have eA : (upd H3 x (.ins (cadr mg "Shape") dx (putF "layout" (.ref t) []))) x = some (.ins (cadr mg "Shape") dx (putF "layout" (.ref t) [])) := upd_same
      have xt : t ≠ x := fun z => by rw [z, hx3] at et; cases et
      have etA : (upd H3 x (.ins (cadr mg "Shape") dx (putF "layout" (.ref t) []))) t = some (.tup ys) := by rw [upd_ne xt]; exact et
      have yA : ∀ (i : Nat) (y : V), ys[i]? = some y → ∃ q c, y = .ref q ∧ cs[i]? = some c ∧ (upd H3 x (.ins (cadr mg "Shape") dx (putF "layout" (.ref t) []))) q = some (.tup (ct c)) := fun i y hy => by
        obtain ⟨q, c, h1, h2, h3⟩ := hyq i y hy
        have h4 := x3 _ _ h3
        exact ⟨q, c, h1, h2, by rw [upd_ne (fun z => by rw [z, hx3] at h4; cases h4)]; exact h4⟩
      have l1 : (putF ("layout" : Str) (V.ref t) []).lookup ("layout" : Str) = some (V.ref t) := by rfl
      have l1n : (putF ("layout" : Str) (V.ref t) []).length < 1000 := by show 1 < 1000; decide
      generalize upd H3 x (.ins (cadr mg "Shape") dx (putF "layout" (.ref t) [])) = HA at kA eA etA yA
      walk_at "g"
      refine g_dc ?_
      walk_at "g"
      refine ⟨x, _, dx, _, _, rfl, eA, T.cl_Shape, T.n_Shape_layout, l1, ?_⟩
      refine ⟨t, rfl, ⟨ys, SqT.of etA⟩, fun D hD => ?_⟩
      have hDt : t ≠ D := ne_of_none etA hD
      refine dc_tup (xs := ys) (fun i H' => (∀ q o, q ≠ D → HA q = some o → H' q = some o) ∧ ∃ kvs, H' D = some (.dK kvs) ∧ keysP kvs ((cs.take i).map (·.1)) ∧ kvs.length ≤ i) ⟨fun q o n h => by rw [upd_ne n]; exact h, [], upd_same, keysP.nil, Nat.le_refl _⟩ (fun i H' _ p => SqT.of (p.1 _ _ hDt etA)) ?_ ?_
      · rintro i y H' hy ⟨kD, kvs, eD, hk, hkl⟩
        obtain ⟨q, c, rfl, hc, hq⟩ := yA i y hy
        have eq := kD _ _ (ne_of_none hq hD) hq
        have hil : i < cs.length := (List.getElem?_eq_some_iff.mp hc).1
        walk_at "g"
        refine ⟨rfl, ?_⟩
        walk_at "g"
        refine g_ixT (SqT.of eq) (v := .str c.1) (by rfl) ?_
        walk_at "g"
        refine ⟨kvs, Sum.inr c.1, rfl, eD, by rw [sizeLine_eq]; omega, fun q o n h => by rw [upd_ne n]; exact kD _ _ n h, _, upd_same, ?_, Nat.le_trans (length_putK _ _ _) (by omega)⟩
        rw [List.take_succ, hc, List.map_append]
        exact hk.put
      · rintro HB ⟨kB, kvs, eD, hk, hkl⟩
        have hyl2 : ys.length = cs.length := by rw [hyl, List.length_map, hlen]
        rw [hyl2, List.take_length] at hk
        have hxD : x ≠ D := ne_of_none eA hD
        have eB := kB _ _ hxD eA
        walk_at "g"
        refine ⟨x, _, dx, _, rfl, eB, T.cl_Shape, T.n_Shape_spots, l1n, ?_⟩
        have fC : ∃ fs, putF ("spots" : Str) (V.ref D) (putF ("layout" : Str) (V.ref t) []) = fs ∧ fs.lookup ("spots" : Str) = some (V.ref D) ∧ fs.length < 900 := ⟨_, rfl, by rfl, by show 2 < 900; decide⟩
        obtain ⟨fs, e3, l3, n3⟩ := fC
        rw [e3]
        have kC : ∀ q o, q ≠ x → H q = some o → (upd HB x (.ins (cadr mg "Shape") dx fs)) q = some o := fun q o n h => by
          have h2 := kA _ _ n h
          rw [upd_ne n]; exact kB _ _ (ne_of_none h2 hD) h2
        have eC : (upd HB x (.ins (cadr mg "Shape") dx fs)) x = some (.ins (cadr mg "Shape") dx fs) := upd_same
        have eDC : (upd HB x (.ins (cadr mg "Shape") dx fs)) D = some (.dK kvs) := by rw [upd_ne (Ne.symm hxD)]; exact eD
        generalize upd HB x (.ins (cadr mg "Shape") dx fs) = HC at kC eC eDC
        walk_at "g"
        refine ⟨x, _, dx, _, _, rfl, eC, T.cl_Shape, T.n_Shape_spots, l3, ?_⟩
        walk_at "g"
        refine ⟨_, _, rfl, hd1, fun HE xE => ?_⟩
        walk_at "g"
        refine g_tupT (hd1 _) ?_
        walk_at "g"
        refine ⟨x, _, dx, _, rfl, xE _ _ eC, T.cl_Shape, T.n_Shape_check_tests, by omega, ?_⟩
        have fF : ∃ fs', putF ("check_tests" : Str) (V.ref d1) fs = fs' ∧ fs'.lookup ("spots" : Str) = some (V.ref D) ∧ fs'.length < 950 := by
          rw [← e3]
          exact ⟨_, rfl, by rfl, by show 3 < 950; decide⟩
        obtain ⟨fs', e4, l4, n4⟩ := fF
        rw [e4]
        have kF : ∀ q o, q ≠ x → H q = some o → (upd HE x (.ins (cadr mg "Shape") dx fs')) q = some o := fun q o n h => by
          rw [upd_ne n]; exact xE _ _ (kC _ _ n h)
        have eF : (upd HE x (.ins (cadr mg "Shape") dx fs')) x = some (.ins (cadr mg "Shape") dx fs') := upd_same
        have eDF : (upd HE x (.ins (cadr mg "Shape") dx fs')) D = some (.dK kvs) := by rw [upd_ne (Ne.symm hxD)]; exact xE _ _ eDC
        generalize upd HE x (.ins (cadr mg "Shape") dx fs') = HF at kF eF eDF
        walk_at "g"
        refine ⟨x, _, dx, _, _, rfl, eF, T.cl_Shape, T.n_Shape_spots, l4, ?_⟩
        walk_at "g"
        refine ⟨_, _, rfl, hd2, fun HG xG => ?_⟩
        walk_at "g"
        refine ⟨d2, rfl, ⟨[], hd2 _⟩, fun D2 hD2 => ?_⟩
        have xI : XT HG (upd HG D2 (.lst [])) := fun q o h => by rw [upd_ne (ne_of_none h hD2)]; exact h
        have hzs : (upd HG D2 (.lst [])) D2 = some (.lst []) := upd_same
        refine ⟨fun i m H' => i = 0 ∧ m = 0 ∧ H' = upd HG D2 (.lst []), ⟨0, rfl, rfl, rfl⟩, ?_⟩
        rintro i m H' ⟨rfl, rfl, rfl⟩
        refine .inl ⟨⟨[], hd2 _, Nat.le_refl _⟩, ?_⟩
        generalize upd HG D2 (.lst []) = HI at xI hzs
        walk_at "g"
        refine g_tupL (SqL.of hzs) fun t2 ht2 => ?_
        have eI := xI _ _ (xG _ _ eF)
        have x2I : XT HI (upd HI t2 (.tup [])) := fun q o h => by rw [upd_ne (ne_of_none h ht2)]; exact h
        walk_at "g"
        refine ⟨x, _, dx, _, rfl, x2I _ _ eI, T.cl_Shape, T.n_Shape_key_rules, by omega, ?_⟩
        have fJ : ∃ fs2, putF ("key_rules" : Str) (V.ref t2) fs' = fs2 ∧ fs2.lookup ("spots" : Str) = some (V.ref D) := by
          rw [← e4, ← e3]
          exact ⟨_, rfl, by rfl⟩
        obtain ⟨fs2, e5, l5⟩ := fJ
        rw [e5]
        walk_at "g"
        refine k _ (fun q o n h => ?_) ⟨dx, fs2, D, kvs, upd_same, l5, ?_, hk⟩
        · rw [upd_ne n]
          exact x2I _ _ (xI _ _ (xG _ _ (kF _ _ n h)))
        · rw [upd_ne (Ne.symm hxD)]
          exact x2I _ _ (xI _ _ (xG _ _ eDF))
end
/-! orders -/
inductive PtAt (H : Hp) : V → Option (Str × Bool) → Prop
  | nos {v : V} {T : String} (hT : T ∈ kinds7) (h : TyOf7 H v T) (n : T ≠ "list") (m : T ≠ "tuple") : PtAt H v none
  | len {p : Addr} {xs : List V} (h : H p = some (.lst xs) ∨ H p = some (.tup xs)) (n : xs.length ≠ 2) : PtAt H (.ref p) none
  | nam {p : Addr} {x y : V} (h : H p = some (.tup [x, y])) (hx : thing H x) (n : nameB x = false) : PtAt H (.ref p) none
  | dir {p : Addr} {z : Str} {y : V} (h : H p = some (.tup [.str z, y])) (hz : nameP z) (hy : (∃ b, y = .bl b) ∨ ∃ s : Str, y = .str s ∧ s ≠ "up" ∧ s ≠ "down") : PtAt H (.ref p) none
  | ok {p : Addr} {c : Str × Bool} (h : H p = some (.tup (pt c))) (hz : nameP c.1) : PtAt H (.ref p) (some c)
theorem PtAt.keep {H H' : Hp} {v : V} {r : Option (Str × Bool)} (h : PtAt H v r) (k : XT H H') : PtAt H' v r := by
  cases h with
  | nos hT h n m => exact .nos hT (h.keep k) n m
  | len h n => exact .len (h.elim (fun h => .inl (k _ _ h)) fun h => .inr (k _ _ h)) n
  | nam h hx n => exact .nam (k _ _ h) (hx.keep k) n
  | dir h hz hy => exact .dir (k _ _ h) hz hy
  | ok h hz => exact .ok (k _ _ h) hz
/-- the first wrong part -/
def bad : List Str → Nat → List (Option (Str × Bool)) → Option Nat
  | _, _, [] => none
  | _, i, none :: _ => some i
  | S, i, some c :: r => if c.1 ∈ S then some i else bad (S ++ [c.1]) (i + 1) r
def dueF : Option (List (Option (Str × Bool))) → Option Int
  | none => some (-1)
  | some rs => if rs.length < 1 ∨ 3 < rs.length then some (-1) else (bad [] 0 rs).map Int.ofNat
/-- a thing that is given as an order -/
inductive ThAt (H : Hp) : V → Option (List (Option (Str × Bool))) → Prop
  | nos {v : V} {T : String} (hT : T ∈ kinds7) (h : TyOf7 H v T) (n : T ≠ "list") (m : T ≠ "tuple") : ThAt H v none
  | seq {p : Addr} {xs : List V} {rs : List (Option (Str × Bool))} (h : H p = some (.lst xs) ∨ H p = some (.tup xs)) (hl : xs.length = rs.length) (hs : ∀ (i : Nat) x r, xs[i]? = some x → rs[i]? = some r → PtAt H x r) : ThAt H (.ref p) (some rs)
theorem ThAt.keep {H H' : Hp} {v : V} {d : Option (List (Option (Str × Bool)))} (h : ThAt H v d) (k : XT H H') : ThAt H' v d := by
  cases h with
  | nos hT h n m => exact .nos hT (h.keep k) n m
  | seq h hl hs => exact .seq (h.elim (fun h => .inl (k _ _ h)) fun h => .inr (k _ _ h)) hl fun i x r hx hr => (hs i x r hx hr).keep k
theorem seq_t {K : PySem.W.Frag} {H : Hp} {p : Addr} {xs : List V} (h : H p = some (.lst xs) ∨ H p = some (.tup xs)) : H p = some (.lst xs) ∨ SqT K H p xs := h.elim .inl fun h => .inr (SqT.of h)
theorem seq_a {K : PySem.W.Frag} {H : Hp} {p : Addr} {xs : List V} (h : H p = some (.lst xs) ∨ H p = some (.tup xs)) : SqA K H p xs := h.elim (fun h => .inl (SqL.of h)) fun h => .inr (SqT.of h)
theorem g_ixA {K : PySem.W.Frag} {H : Hp} {p : Addr} {xs : List V} {i : Int} {v : V} {Q : VK} (h : H p = some (.lst xs) ∨ H p = some (.tup xs)) (e : atI xs i = some v) (q : Q v H) : rIx K (.ref p) (.int i) H Q := by
  rcases h with h | h
  · exact g_ixL (SqL.of h) e q
  · exact g_ixT (SqT.of h) e q
theorem seq_keep {H H' : Hp} {p : Addr} {xs : List V} (h : H p = some (.lst xs) ∨ H p = some (.tup xs)) (k : XT H H') : H' p = some (.lst xs) ∨ H' p = some (.tup xs) := h.elim (fun h => .inl (k _ _ h)) fun h => .inr (k _ _ h)
theorem dS_in {u : Bool} : decide (dS u ∈ [Str.ofString "up", Str.ofString "down"]) = true := by cases u <;> decide +kernel
/-- the order made -/
def OT (H : Hp) (a : Addr) (ps : List (Str × Bool)) : Prop := ∃ qs : List Addr, H a = some (.tup (qs.map V.ref)) ∧ qs.length = ps.length ∧ ∀ (i : Nat) (q : Addr) (c : Str × Bool), qs[i]? = some q → ps[i]? = some c → H q = some (.tup (pt c))
theorem OT.keep {H H' : Hp} {a : Addr} {ps : List (Str × Bool)} (h : OT H a ps) (k : XT H H') : OT H' a ps := by
  obtain ⟨qs, h1, h2, h3⟩ := h
  exact ⟨qs, k _ _ h1, h2, fun i q c hq hc => k _ _ (h3 i q c hq hc)⟩
def xat (i : Int) : HO := .xd [(("at" : Str), .int i)]
def spNeedO (CB : Addr) : Sp := fun vs H Q E => ∃ (v : V) (d : Option (List (Option (Str × Bool)))), vs = [v] ∧ ThAt H v d ∧
  (∀ i, dueF d = some i → ∀ e H', XT H H' → H' e = some (xat i) → E (.ref CB) (some e) H') ∧
  (∀ rs cs, d = some rs → rs = cs.map some → dueF d = none → ∀ t H', XT H H' → OT H' t cs → Q (.ref t) H')
theorem bad_none : ∀ {rs : List (Option (Str × Bool))} {S : List Str} {i : Nat}, bad S i rs = none → ∃ cs : List (Str × Bool), rs = cs.map some
  | [], _, _, _ => ⟨[], rfl⟩
  | none :: _, _, _, h => by cases h
  | some c :: r, S, i, h => by
    unfold bad at h
    by_cases hm : c.1 ∈ S
    · rw [if_pos hm] at h; cases h
    · rw [if_neg hm] at h
      obtain ⟨cs, e⟩ := bad_none h
      exact ⟨c :: cs, by rw [e]; rfl⟩
section
variable {P : Program} {w : World} {K : PySem.W.Frag} {mg : Str → Option Value} {base : Heap}
theorem ok_is_part (T : Txt K mg) : Def P w K mg base 3 "is_part" ["thing"] (fun vs H Q _ => ∃ (v : V) (r : Option (Str × Bool)), vs = [v] ∧ PtAt H v r ∧ ∀ H', XT H H' → Q (.bl r.isSome) H') := by
  obtain ⟨f, fd, h⟩ := T.d_is_part
  obtain ⟨t_DIRECTIONS, G_DIRECTIONS, Q_DIRECTIONS⟩ := T.k_DIRECTIONS
  refine h.def (Fun.okM h.fn sc_is_part (fun vs H Q E h => ?_) (fun cdv A outer s H vs Q E hr h => ?_))
  · obtain ⟨v, r, rfl, _⟩ := h
    rfl
  · obtain ⟨v, r, rfl, hp, k⟩ := h
    refine ⟨_, (pss_cons (ps_if (PW.pt (pw_or (pt_not (pt_val (pe_def (ok_is_short T) hr rfl (pa_cons (pv 0) (pa_cons pe_int (pa_cons pe_int pa_nil)))))) (pw_or1 (pt_not (pt_val (pe_def (ok_is_name T) hr rfl (pa_cons (pe_ix (ix_seqG (K := K) rfl) (pv 0) pe_int (fun _ _ => rfl)) pa_nil)))))))
  (pss_one (ps_ret pe_bl))
  pss_nil)
  (pss_one (ps_ret (pe_and (pe_callB (call_isiG (K := K) rfl) (by rfl) T.h_isinstance (by decide +kernel) (pa_cons (pe_ix (ix_seqG (K := K) rfl) (pv 0) pe_int (fun _ _ => rfl)) (pa_cons (pe_bltn (v := .ty "str") (by rfl) T.h_str (by decide +kernel) rfl) pa_nil))) (pe_one (pe_cmpR (op_inG (K := K) rfl) (pe_ix (ix_seqG (K := K) rfl) (pv 0) pe_int (fun _ _ => rfl)) (pe_glob (v := .ref t_DIRECTIONS) rfl G_DIRECTIONS rfl) (by rfl))))))), ?_⟩
    have two : (decide ((2 : Int) ≤ ((2 : Nat) : Int)) && decide (((2 : Nat) : Int) ≤ 2)) = true := by decide
    cases hp with
    | nos hT ty n m =>
      walk_at "g"
      refine ⟨v, _, _, rfl, .inl ⟨_, hT, ty, n, m, fun H1 x1 => ?_⟩⟩
      walk_at "g"
      exact k _ x1
    | len hp n =>
      rename_i p xs
      walk_at "g"
      refine ⟨_, _, _, rfl, .inr ⟨p, xs, rfl, seq_t hp, fun H1 x1 => ?_⟩⟩
      have : (decide ((2 : Int) ≤ (xs.length : Int)) && decide ((xs.length : Int) ≤ 2)) = false := by
        by_cases h2 : (2 : Int) ≤ (xs.length : Int)
        · rw [decide_eq_true h2, decide_eq_false (by omega)]; rfl
        · rw [decide_eq_false h2]; rfl
      rw [this]
      walk_at "g"
      exact k _ x1
    | nam hp hx n =>
      rename_i p x y
      walk_at "g"
      refine ⟨_, _, _, rfl, .inr ⟨p, [x, y], rfl, .inr (SqT.of hp), fun H1 x1 => ?_⟩⟩
      rw [show (decide ((2 : Int) ≤ (([x, y] : List V).length : Int)) && decide ((([x, y] : List V).length : Int) ≤ 2)) = true from two]
      walk_at "g"
      refine g_ixT (SqT.of (x1 _ _ hp)) (v := x) (by rfl) ?_
      walk_at "g"
      refine ⟨_, rfl, hx.keep x1, fun H2 x2 => ?_⟩
      rw [n]
      walk_at "g"
      exact k _ (x1.trans x2)
    | dir hp hz hy =>
      rename_i p z y
      walk_at "g"
      refine ⟨_, _, _, rfl, .inr ⟨p, [.str z, y], rfl, .inr (SqT.of hp), fun H1 x1 => ?_⟩⟩
      rw [show (decide ((2 : Int) ≤ (([.str z, y] : List V).length : Int)) && decide ((([.str z, y] : List V).length : Int) ≤ 2)) = true from two]
      walk_at "g"
      refine g_ixT (SqT.of (x1 _ _ hp)) (v := .str z) (by rfl) ?_
      walk_at "g"
      refine ⟨_, rfl, .inr (.inr (.inr (.inl ⟨_, rfl, by have := hz.2.1; omega⟩))), fun H2 x2 => ?_⟩
      rw [nameB_str.mpr hz]
      have hp2 := x2 _ _ (x1 _ _ hp)
      walk_at "g"
      rcases hy with ⟨b, rfl⟩ | ⟨s', rfl, n1, n2⟩
      · refine g_ixT (SqT.of hp2) (v := .bl b) (by rfl) ?_
        walk_at "g"
        exact k _ (x1.trans x2)
      · refine g_ixT (SqT.of hp2) (v := .str s') (by rfl) ?_
        walk_at "g"
        refine g_ixT (SqT.of hp2) (v := .str s') (by rfl) ?_
        walk_at "g"
        refine .inr ⟨_, [Str.ofString "up", Str.ofString "down"].map V.str, rfl, .inr (Q_DIRECTIONS _), rfl, Tw.flat_strs _, ?_⟩
        rw [if_neg Bool.false_ne_true, inV_strs, decide_eq_false (fun h => by
          rcases List.mem_cons.mp h with h | h
          · exact n1 h
          · exact n2 (List.mem_singleton.mp h))]
        walk_at "g"
        exact k _ (x1.trans x2)
    | ok hp hz =>
      rename_i p c
      walk_at "g"
      refine ⟨_, _, _, rfl, .inr ⟨p, pt c, rfl, .inr (SqT.of hp), fun H1 x1 => ?_⟩⟩
      rw [show (decide ((2 : Int) ≤ ((pt c).length : Int)) && decide (((pt c).length : Int) ≤ 2)) = true from two]
      walk_at "g"
      refine g_ixT (SqT.of (x1 _ _ hp)) (v := .str c.1) (by rfl) ?_
      walk_at "g"
      refine ⟨_, rfl, .inr (.inr (.inr (.inl ⟨_, rfl, by have := hz.2.1; omega⟩))), fun H2 x2 => ?_⟩
      rw [nameB_str.mpr hz]
      have hp2 := x2 _ _ (x1 _ _ hp)
      walk_at "g"
      refine g_ixT (SqT.of hp2) (v := .str (dS c.2)) (by rfl) ?_
      walk_at "g"
      refine g_ixT (SqT.of hp2) (v := .str (dS c.2)) (by rfl) ?_
      walk_at "g"
      refine .inr ⟨_, [Str.ofString "up", Str.ofString "down"].map V.str, rfl, .inr (Q_DIRECTIONS _), rfl, Tw.flat_strs _, ?_⟩
      rw [if_neg Bool.false_ne_true, inV_strs, dS_in]
      walk_at "g"
      exact k _ (x1.trans x2)
end
section
variable {P : Program} {w : World} {K : PySem.W.Frag} {mg : Str → Option Value} {base : Heap}
theorem g_raiseBO {C : Addr} {W : WX} {ta : TA} {D : Ends} {σ : L2.St} {H : Hp} (q : ta σ H fun vs H1 => ∃ v, vs = [v] ∧ ∀ d, H1 d = none → W (.ref C) (some d) σ (upd H1 d (.xd [(("at" : Str), v)]))) : tRaiseBadOrder C W ta D σ H := q
theorem due_len {rs : List (Option (Str × Bool))} (h : ¬ (rs.length < 1 ∨ 3 < rs.length)) : dueF (some rs) = (bad [] 0 rs).map Int.ofNat := by
  show (if rs.length < 1 ∨ 3 < rs.length then some (-1) else (bad [] 0 rs).map Int.ofNat) = _
  rw [if_neg h]
theorem due_bad {rs : List (Option (Str × Bool))} (h : rs.length < 1 ∨ 3 < rs.length) : dueF (some rs) = some (-1) := by
  show (if rs.length < 1 ∨ 3 < rs.length then some (-1) else (bad [] 0 rs).map Int.ofNat) = _
  rw [if_pos h]
theorem bad_in {S : List Str} {i : Nat} {c : Str × Bool} {r : List (Option (Str × Bool))} (h : c.1 ∈ S) : bad S i (some c :: r) = some i := by
  show (if c.1 ∈ S then some i else bad (S ++ [c.1]) (i + 1) r) = _
  rw [if_pos h]
theorem bad_step {S : List Str} {i : Nat} {c : Str × Bool} {r : List (Option (Str × Bool))} (h : c.1 ∉ S) : bad S i (some c :: r) = bad (S ++ [c.1]) (i + 1) r := by
  show (if c.1 ∈ S then some i else bad (S ++ [c.1]) (i + 1) r) = _
  rw [if_neg h]
theorem ok_need_order (T : Txt K mg) : DefX P w K mg base 4 "need_order" ["thing"] (spNeedO (cadr mg "BadOrder")) := by
  obtain ⟨f, fd, h⟩ := T.d_need_order
  obtain ⟨t_MOST_PARTS, G_MOST_PARTS⟩ := T.k_MOST_PARTS
  obtain ⟨fE_BadOrder, EB_BadOrder⟩ := T.x_BadOrder
  refine h.defX (Fun.okMX h.fn sc_need_order (fun vs H Q E h => ?_) (fun cdv A outer s H vs Q E hr h => ?_))
  · obtain ⟨v, d, rfl, _⟩ := h
    rfl
  · obtain ⟨v, d, rfl, hT, kE, kQ⟩ := h
    refine ⟨_, (pss_cons (ps_if (pt_not (pt_val (pe_def (ok_is_short T) hr rfl (pa_cons (pv 0) (pa_cons pe_int (pa_cons (pe_glob (v := .int 3) rfl G_MOST_PARTS ⟨_, rfl⟩) pa_nil))))))
  (pss_one (ps_raiseBadOrder rfl EB_BadOrder hr (takes_of rfl rfl rfl rfl) (pa_cons (pe_un un_negG pe_int) pa_nil)))
  pss_nil)
  (pss_cons (ps_set (i := 1) sc_need_order.nd rfl (Or.inl rfl) pe_dnewK)
  (pss_cons (ps_for (passes_of rfl) rfl (pi_enumG (K := K) rfl (by rfl) T.h_enumerate (pa_cons (pv 0) pa_nil)) (pg_tupG (K := K) (n := 2) rfl rfl (pgs_cons (pg_name (i := 2) sc_need_order.nd rfl (Or.inl rfl)) (pgs_cons (pg_name (i := 3) sc_need_order.nd rfl (Or.inl rfl)) pgs_nil)))
  (pss_cons (ps_if (PW.pt (pw_or (pt_not (pt_val (pe_def (ok_is_part T) hr rfl (pa_cons (pv 3) pa_nil)))) (pw_or1 (pt_cmp (pc_din (hu_of hr) (pe_ix (ix_seqG (K := K) rfl) (pv 3) pe_int (fun _ _ => rfl)) (pv 1))))))
  (pss_one (ps_raiseBadOrder rfl EB_BadOrder hr (takes_of rfl rfl rfl rfl) (pa_cons (pv 2) pa_nil)))
  pss_nil)
  (pss_one (ps_dput (hu_of hr) (pv 1) (pe_ix (ix_seqG (K := K) rfl) (pv 3) pe_int (fun _ _ => rfl)) pe_bl rfl))))
  (pss_one (ps_ret (pe_callTy (call_tupleG (K := K) rfl) (by rfl) T.h_tuple (by decide +kernel) (pa_cons (pe_lc (own := [("part", 3)]) rfl sc_need_order.nd (pi_seqG (K := K) rfl (pv 0)) (blkOk_by (N := N_need_order) (sc := defScope S_need_order) (by decide +kernel)) (fun _ _ _ _ _ => pg_name (i := 3) sc_need_order.nd rfl (Or.inl rfl)) (fun _ _ _ _ _ => pts_nil) (fun _ _ _ _ _ => (pe_callTy (call_tupleG (K := K) rfl) (by rfl) T.h_tuple (by decide +kernel) (pa_cons (pv 3) pa_nil)))) pa_nil))))))), ?_⟩
    cases hT with
    | nos hT ty n m =>
      walk_at "g"
      refine ⟨v, _, _, rfl, .inl ⟨_, hT, ty, n, m, fun H1 x1 => ?_⟩⟩
      walk_at "g"
      refine g_raiseBO ?_
      walk_at "g"
      exact ⟨_, rfl, fun d hd => kE (-1) rfl d _ (x1.new hd) upd_same⟩
    | seq hp hl hs =>
      rename_i p xs rs
      walk_at "g"
      refine ⟨_, _, _, rfl, .inr ⟨p, xs, rfl, seq_t hp, fun H1 x1 => ?_⟩⟩
      by_cases hlen : xs.length < 1 ∨ 3 < xs.length
      · have : (decide ((1 : Int) ≤ (xs.length : Int)) && decide ((xs.length : Int) ≤ 3)) = false := by
          by_cases h2 : (1 : Int) ≤ (xs.length : Int)
          · rw [decide_eq_true h2, decide_eq_false (by omega)]; rfl
          · rw [decide_eq_false h2]; rfl
        rw [this]
        walk_at "g"
        refine g_raiseBO ?_
        walk_at "g"
        exact ⟨_, rfl, fun d hd => kE (-1) (due_bad (by omega)) d _ (x1.new hd) upd_same⟩
      · rw [show (decide ((1 : Int) ≤ (xs.length : Int)) && decide ((xs.length : Int) ≤ 3)) = true by
          rw [decide_eq_true (by omega), decide_eq_true (by omega)]; rfl]
        have hd : dueF (some rs) = (bad [] 0 rs).map Int.ofNat := due_len (by omega)
        walk_at "g"
        intro r hr
        have x2 := x1.new (o := .dK []) hr
        have e2 : (upd H1 r (.dK [])) r = some (.dK []) := upd_same
        generalize upd H1 r (.dK []) = H2 at x2 e2
        have hHr : H r = none := by
          cases e : H r with
          | none => rfl
          | some o => rw [x1 _ _ e] at hr; cases hr
        have nr : p ≠ r := fun z => by rw [z, hHr] at hp; rcases hp with h | h <;> cases h
        walk_at "g"
        refine g_enumG ?_
        walk_at "g"
        refine ⟨p, xs, rfl, seq_a (seq_keep hp x2), fun J hJ => ?_⟩
        refine for_enumA (xs := xs) (fun i σ' H' => ∃ (s2 s3 : Option V) (kvs : List (Key × V)) (cs : List (Str × Bool)), σ' = [some (.ref p), some (.ref r), s2, s3] ∧ XT H H' ∧ H' r = some (.dK kvs) ∧ keysP kvs (cs.map (·.1)) ∧ kvs.length ≤ i ∧ rs.take i = cs.map some ∧ bad [] 0 rs = bad (cs.map (·.1)) i (rs.drop i)) ⟨none, none, [], [], rfl, x2, e2, keysP.nil, Nat.le_refl _, rfl, rfl⟩ ?_ ?_ ?_
        · rintro i σ' H' hi ⟨s2, s3, kvs, cs, rfl, x3, _⟩
          refine hJ H' ?_
          rcases hp with h | h
          · rw [x3 _ _ h, x2 _ _ h]
          · rw [x3 _ _ h, x2 _ _ h]
        · rintro i v t σ' H3 D' hv ⟨s2, s3, kvs, cs, rfl, x3, e3, hk, hkl, htk, hbad⟩ ht hnx hct hbk hrt
          have hil : i < xs.length := (List.getElem?_eq_some_iff.mp hv).1
          obtain ⟨ro, hro⟩ : ∃ ro, rs[i]? = some ro := ⟨_, List.getElem?_eq_getElem (by omega)⟩
          have hpt := hs i v ro hv hro
          have edr : rs.drop i = ro :: rs.drop (i + 1) := by
            rw [List.drop_eq_getElem_cons (by omega)]
            congr 1
            exact Option.some.inj (by rw [← hro, List.getElem?_eq_getElem (by omega)])
          have x4 := x3.new (o := .tup [.int (i : Nat), v]) ht
          have nrt : r ≠ t := ne_of_none e3 ht
          have e4 : (upd H3 t (.tup [.int (i : Nat), v])) r = some (.dK kvs) := by rw [upd_ne nrt]; exact e3
          refine g_gtup upd_same rfl ?_
          refine g_gcons ?_
          walk_at "g"
          refine g_gcons ?_
          walk_at "g"
          refine g_gnil ?_
          generalize upd H3 t (.tup [.int (i : Nat), v]) = H4 at x4 e4
          walk_at "g"
          refine ⟨_, _, rfl, hpt.keep x4, fun H5 x5 => ?_⟩
          have x45 := x4.trans x5
          cases ro with
          | none =>
            rw [show (none : Option (Str × Bool)).isSome = false from rfl]
            walk_at "g"
            refine g_raiseBO ?_
            walk_at "g"
            exact ⟨_, rfl, fun d hdn => kE i (by rw [hd, hbad, edr]; rfl) d _ (x45.new hdn) upd_same⟩
          | some c =>
            cases hpt with
            | ok hq hz =>
            rename_i q
            have eq5 := x45 _ _ hq
            have e5 := x5 _ _ e4
            rw [show (some c).isSome = true from rfl]
            walk_at "g"
            refine g_ixT (SqT.of eq5) (v := .str c.1) (show atI (pt c) 0 = some (.str c.1) from rfl) ?_
            walk_at "g"
            refine ⟨_, _, rfl, DGet.k (k := Sum.inr c.1) e5, ?_⟩
            rw [hk]
            walk_at "g"
            refine g_dec (fun hm => ?_) (fun hm => ?_)
            · walk_at "g"
              refine g_raiseBO ?_
              walk_at "g"
              exact ⟨_, rfl, fun d hdn => kE i (by rw [hd, hbad, edr, bad_in hm]; rfl) d _ (x45.new hdn) upd_same⟩
            · walk_at "g"
              refine g_dput ?_
              walk_at "g"
              refine g_ixT (SqT.of eq5) (v := .str c.1) (by rfl) ?_
              refine ⟨r, _, rfl, DPut.k (k := Sum.inr c.1) e5 (by rw [sizeLine_eq]; omega), ?_⟩
              refine hnx _ _ ⟨_, _, _, cs ++ [c], rfl, fun q o h => ?_, upd_same, by rw [List.map_append]; exact hk.put, Nat.le_trans (length_putK _ _ _) (by omega), ?_, ?_⟩
              · rw [upd_ne (fun z => by rw [z, hHr] at h; cases h)]
                exact x45 _ _ h
              · rw [List.take_succ, hro, htk, List.map_append]
                rfl
              · rw [hbad, edr, bad_step hm, List.map_append]
                rfl
        · rintro σ' H3 ⟨s2, s3, kvs, cs, rfl, x3, e3, hk, hkl, htk, hbad⟩
          have hrs : rs = cs.map some := by rw [← htk, List.take_of_length_le (by omega)]
          have hnone : dueF (some rs) = none := by
            rw [hd, hbad, List.drop_of_length_le (by omega)]
            rfl
          walk_at "g"
          refine g_seqG ?_
          walk_at "g"
          refine ⟨p, xs, rfl, seq_a (seq_keep hp x3), fun J hJ D hD => ?_⟩
          refine lc_new xs (fun i y H' => ∃ q c, y = .ref q ∧ cs[i]? = some c ∧ H' q = some (.tup (pt c))) hD (fun H2 k2 => hJ H2 (by
            rcases seq_keep hp x3 with h | h
            · rw [k2 _ _ h, h]
            · rw [k2 _ _ h, h])) (by omega) ?_ ?_ ?_
          · rintro i y Ha Hb ⟨zs, hz⟩ ⟨q, c, rfl, h1, h2⟩ hk
            exact ⟨q, c, rfl, h1, hk _ _ (fun z => by rw [z, hz] at h2; cases h2) h2⟩
          · intro i y Hh R S hy kh _ hR
            have hil : i < xs.length := (List.getElem?_eq_some_iff.mp hy).1
            have hcl : cs.length = xs.length := by rw [hl, hrs, List.length_map]
            obtain ⟨c, hc⟩ : ∃ c, cs[i]? = some c := ⟨_, List.getElem?_eq_getElem (by omega)⟩
            have hpt := (hs i y (some c) hy (by rw [hrs, List.getElem?_map, hc]; rfl)).keep (x3.trans kh)
            cases hpt with
            | ok hq hz =>
            rename_i q
            walk_at "g"
            refine ⟨rfl, ?_⟩
            walk_at "g"
            refine g_tupT (SqT.of hq) ?_
            exact hR _ _ (fun q o h => h) ⟨q, c, rfl, hc, hq⟩
          · intro HA ys xA hW hyl hys
            have hcl : cs.length = xs.length := by rw [hl, hrs, List.length_map]
            walk_at "g"
            refine g_tupL (SqL.of hW) fun t ht => ?_
            obtain ⟨qs, rfl, hqs⟩ : ∃ qs : List Addr, ys = qs.map V.ref ∧ ∀ (i : Nat) (q : Addr), qs[i]? = some q → ∃ c, cs[i]? = some c ∧ HA q = some (.tup (pt c)) := by
              have key : ∀ (ys : List V), (∀ y ∈ ys, ∃ q, y = .ref q) → ∃ qs : List Addr, ys = qs.map V.ref := by
                intro ys
                induction ys with
                | nil => exact fun _ => ⟨[], rfl⟩
                | cons y r ih =>
                  intro h
                  obtain ⟨q, rfl⟩ := h y List.mem_cons_self
                  obtain ⟨qs, rfl⟩ := ih fun z hz => h z (List.mem_cons_of_mem _ hz)
                  exact ⟨q :: qs, rfl⟩
              obtain ⟨qs, rfl⟩ := key ys fun y hy => by
                obtain ⟨i, hi⟩ := List.getElem?_of_mem hy
                obtain ⟨q, c, e, _⟩ := hys i y hi
                exact ⟨q, e⟩
              refine ⟨qs, rfl, fun i q hq => ?_⟩
              obtain ⟨q2, c, e, h1, h2⟩ := hys i (.ref q) (by rw [List.getElem?_map, hq]; rfl)
              injection e with e
              exact ⟨c, h1, by rw [e]; exact h2⟩
            have xB : XT HA (upd HA t (.tup (qs.map V.ref))) := fun q o h => by rw [upd_ne (ne_of_none h ht)]; exact h
            refine kQ rs cs rfl hrs hnone t _ (fun q o h => xB _ _ (xA _ _ (x3 _ _ h))) ⟨qs, upd_same, by rw [hcl, ← hyl, List.length_map], fun i q c hq hc => ?_⟩
            obtain ⟨c2, h1, h2⟩ := hqs i q hq
            rw [hc] at h1
            injection h1 with h1
            rw [h1]
            exact xB _ _ h2
end
/-! orders in a shape; the law's own reading of orders -/
def outF (S : List Str) : Nat → List (Str × Bool) → Option Nat
  | _, [] => none
  | i, c :: r => if c.1 ∈ S then outF S (i + 1) r else some i
theorem out_in {S : List Str} {i : Nat} {c : Str × Bool} {r : List (Str × Bool)} (h : c.1 ∈ S) : outF S i (c :: r) = outF S (i + 1) r := by
  show (if c.1 ∈ S then outF S (i + 1) r else some i) = _
  rw [if_pos h]
theorem out_not {S : List Str} {i : Nat} {c : Str × Bool} {r : List (Str × Bool)} (h : c.1 ∉ S) : outF S i (c :: r) = some i := by
  show (if c.1 ∈ S then outF S (i + 1) r else some i) = _
  rw [if_neg h]
def dueF2 (S : List Str) (d : Option (List (Option (Str × Bool)))) : Option Int := match dueF d with
  | some i => some i
  | none => match d with
    | some rs => (outF S 0 (rs.filterMap id)).map Int.ofNat
    | none => none
theorem due2_some {S : List Str} {d : Option (List (Option (Str × Bool)))} {i : Int} (h : dueF d = some i) : dueF2 S d = some i := by
  unfold dueF2
  rw [h]
theorem filt_some {cs : List (Str × Bool)} : (cs.map some).filterMap id = cs := by
  rw [List.filterMap_map]
  exact List.filterMap_some
theorem due2_none {S : List Str} {cs : List (Str × Bool)} (h : dueF (some (cs.map some)) = none) : dueF2 S (some (cs.map some)) = (outF S 0 cs).map Int.ofNat := by
  unfold dueF2
  rw [h]
  show (outF S 0 ((cs.map some).filterMap id)).map Int.ofNat = _
  rw [filt_some]
def fV : Option Int → V
  | none => .non
  | some i => .int i
theorem dueF_seq {d : Option (List (Option (Str × Bool)))} (h : dueF d = none) : ∃ cs : List (Str × Bool), d = some (cs.map some) := by
  cases d with
  | none => cases h
  | some rs =>
    by_cases hl : rs.length < 1 ∨ 3 < rs.length
    · rw [due_bad hl] at h; cases h
    · rw [due_len hl] at h
      have hb : bad [] 0 rs = none := by
        cases e : bad [] 0 rs with
        | none => rfl
        | some j => rw [e] at h; cases h
      obtain ⟨cs, e⟩ := bad_none hb
      exact ⟨cs, by rw [e]⟩
section
variable {P : Program} {w : World} {K : PySem.W.Frag} {mg : Str → Option Value} {base : Heap}
def spIn (C CB : Addr) : Sp := fun vs H Q E => ∃ (x : Addr) (v : V) (cols : List Col) (d : Option (List (Option (Str × Bool)))), vs = [.ref x, v] ∧ ShapeAt C H cols x ∧ ThAt H v d ∧
  (∀ i, dueF2 (cols.map (·.1)) d = some i → ∀ e H', XT H H' → H' e = some (xat i) → E (.ref CB) (some e) H') ∧
  (∀ cs, d = some (cs.map some) → dueF2 (cols.map (·.1)) d = none → ∀ t H', XT H H' → OT H' t cs → Q (.ref t) H')
theorem ok_order_in (T : Txt K mg) : DefX P w K mg base 5 "order_in" ["shape", "thing"] (spIn (cadr mg "Shape") (cadr mg "BadOrder")) := by
  obtain ⟨f, fd, h⟩ := T.d_order_in
  obtain ⟨fE_BadOrder, EB_BadOrder⟩ := T.x_BadOrder
  refine h.defX (Fun.okMX h.fn sc_order_in (fun vs H Q E h => ?_) (fun cdv A outer s H vs Q E hr h => ?_))
  · obtain ⟨x, v, cols, d, rfl, _⟩ := h
    rfl
  · obtain ⟨x, v, cols, d, rfl, hSh, hT, kE, kQ⟩ := h
    refine ⟨_, (pss_cons (ps_set (i := 2) sc_order_in.nd rfl (Or.inl rfl) (pe_defX (takes_of rfl rfl rfl rfl) (ok_need_order T) hr rfl (pa_cons (pv 1) pa_nil)))
  (pss_cons (ps_for (passes_of rfl) rfl (pi_enumG (K := K) rfl (by rfl) T.h_enumerate (pa_cons (pv 2) pa_nil)) (pg_tupG (K := K) (n := 2) rfl rfl (pgs_cons (pg_name (i := 3) sc_order_in.nd rfl (Or.inl rfl)) (pgs_cons (pg_name (i := 4) sc_order_in.nd rfl (Or.inl rfl)) pgs_nil)))
  (pss_one (ps_if (pt_cmp (pc_dnotin (hu_of hr) (pe_ix (ix_seqG (K := K) rfl) (pv 4) pe_int (fun _ _ => rfl)) (pe_fldG (K := K) rfl (pv 0) rfl)))
  (pss_one (ps_raiseBadOrder rfl EB_BadOrder hr (takes_of rfl rfl rfl rfl) (pa_cons (pv 3) pa_nil)))
  pss_nil)))
  (pss_one (ps_ret (pv 2))))), ?_⟩
    walk_at "g"
    refine ⟨v, d, rfl, hT, fun i hi e H' x' he => kE i (due2_some hi) e H' x' he, fun rs cs hd hrs hn t H1 x1 ho => ?_⟩
    subst hrs hd
    have h2 := due2_none (S := cols.map (·.1)) hn
    obtain ⟨qs, hq1, hql, hqt⟩ := ho
    walk_at "g"
    refine g_enumG ?_
    walk_at "g"
    refine ⟨t, qs.map V.ref, rfl, .inr (SqT.of hq1), fun J hJ => ?_⟩
    refine for_enumA (xs := qs.map V.ref) (fun i σ' H' => ∃ (s3 s4 : Option V), σ' = [some (.ref x), some v, some (.ref t), s3, s4] ∧ XT H1 H' ∧ outF (cols.map (·.1)) 0 cs = outF (cols.map (·.1)) i (cs.drop i)) ⟨none, none, rfl, XT.refl, rfl⟩ ?_ ?_ ?_
    · rintro i σ' H' hi ⟨s3, s4, rfl, x3, _⟩
      exact hJ H' (by rw [x3 _ _ hq1, hq1])
    · rintro i y T0 σ' H3 D' hy ⟨s3, s4, rfl, x3, hout⟩ hT0 hnx hct hbk hrt
      rw [List.getElem?_map] at hy
      obtain ⟨q, hqi, rfl⟩ := Option.map_eq_some_iff.mp hy
      have hil : i < cs.length := by
        have := (List.getElem?_eq_some_iff.mp hqi).1
        omega
      obtain ⟨c, hc⟩ : ∃ c, cs[i]? = some c := ⟨_, List.getElem?_eq_getElem hil⟩
      have edr : cs.drop i = c :: cs.drop (i + 1) := by
        rw [List.drop_eq_getElem_cons hil]
        congr 1
        exact Option.some.inj (by rw [← hc, List.getElem?_eq_getElem hil])
      have x4 := x3.new (o := .tup [.int (i : Nat), .ref q]) hT0
      refine g_gtup upd_same rfl ?_
      refine g_gcons ?_
      walk_at "g"
      refine g_gcons ?_
      walk_at "g"
      refine g_gnil ?_
      generalize upd H3 T0 (.tup [.int (i : Nat), .ref q]) = H4 at x4
      have eq4 := x4 _ _ (hqt i q c hqi hc)
      obtain ⟨dx, fs, Dk, kvs, e1, e2, e3, e4⟩ := hSh.keep (x1.trans x4)
      walk_at "g"
      refine g_ixT (SqT.of eq4) (v := .str c.1) (show atI (pt c) 0 = some (.str c.1) from rfl) ?_
      walk_at "g"
      refine ⟨x, _, dx, _, _, rfl, e1, T.cl_Shape, T.n_Shape_spots, e2, ?_⟩
      refine ⟨Dk, _, rfl, DGet.k (k := Sum.inr c.1) e3, ?_⟩
      rw [e4]
      walk_at "g"
      refine g_ndec (fun hm => ?_) (fun hm => ?_)
      · walk_at "g"
        refine g_raiseBO ?_
        walk_at "g"
        exact ⟨_, rfl, fun d hdn => kE i (by rw [h2, hout, edr, out_not hm]; rfl) d _ ((x1.trans x4).new hdn) upd_same⟩
      · walk_at "g"
        exact hnx _ _ ⟨_, _, rfl, x4, by rw [hout, edr, out_in hm]⟩
    · rintro σ' H3 ⟨s3, s4, rfl, x3, hout⟩
      walk_at "g"
      refine kQ cs rfl ?_ t H3 (x1.trans x3) ⟨qs, x3 _ _ hq1, hql, fun i q c hq hc => x3 _ _ (hqt i q c hq hc)⟩
      rw [h2, hout, List.drop_of_length_le (by rw [List.length_map]; omega)]
      rfl
theorem ok__law_int (T : Txt K mg) : Def P w K mg base 1 "_law_int" ["_law_thing"] (fun vs H Q _ => ∃ i, vs = [.int i] ∧ Q (.bl true) H) := by
  obtain ⟨f, fd, h⟩ := T.d__law_int
  refine h.def (Fun.okM h.fn sc__law_int (fun vs H Q E h => ?_) (fun cdv A outer s H vs Q E hr h => ?_))
  · obtain ⟨i, rfl, _⟩ := h
    rfl
  · obtain ⟨i, rfl, k⟩ := h
    refine ⟨_, (pss_one (ps_ret (pe_and (pe_callB (call_isiG (K := K) rfl) (by rfl) T.h_isinstance (by decide +kernel) (pa_cons (pv 0) (pa_cons (pe_bltn (v := .ty "int") (by rfl) T.h_int (by decide +kernel) rfl) pa_nil))) (pe_one (pe_not (pe_callB (call_isiG (K := K) rfl) (by rfl) T.h_isinstance (by decide +kernel) (pa_cons (pv 0) (pa_cons (pe_bltn (v := .ty "bool") (by rfl) T.h_bool (by decide +kernel) rfl) pa_nil)))))))), ?_⟩
    walk_at "g"
    exact k
end
theorem for_textA {σ : L2.St} {H : Hp} {D : Ends} {z : Str} {g : TG} {tb : TS} (Pv : Nat → L2.St → Hp → Prop) (h0 : Pv 0 σ H)
    (hs : ∀ i n σ H (D' : Ends), z.cps.toList[i]? = some n → Pv i σ H → (∀ σ H, Pv (i + 1) σ H → D'.nx σ H) → (∀ σ H, Pv (i + 1) σ H → D'.ct σ H) → (∀ σ H, D.nx σ H → D'.bk σ H) → D'.rt = D.rt → g (.str ⟨#[n]⟩) σ H fun σ2 H2 => tb D' σ2 H2)
    (hd : ∀ σ H, Pv z.cps.size σ H → D.nx σ H) :
    ∃ W : Nat → Nat → L2.St → Hp → Prop, (∃ m, W 0 m σ H) ∧ ∀ i m σ H, W i m σ H →
      ((Its z).stop i H ∧ D.nx σ H) ∨ ((Its z).go i H ∧ ∃ N : L2.St → Hp → Prop, (∀ σ' H', N σ' H' → ∃ m', m' < m ∧ W (i + 1) m' σ' H') ∧ ∀ x H', (Its z).yld i H x H' → g x σ H' fun σ2 H2 => tb { D with nx := N, ct := N, bk := D.nx } σ2 H2) := by
  refine ⟨fun i m σ H => m = z.cps.size - i ∧ i ≤ z.cps.size ∧ Pv i σ H, ⟨z.cps.size, by simp, Nat.zero_le _, h0⟩, ?_⟩
  rintro i m σ H ⟨rfl, hi, p⟩
  by_cases hlt : i < z.cps.size
  · refine .inr ⟨hlt, Pv (i + 1), fun σ' H' q => ⟨z.cps.size - (i + 1), by omega, rfl, hlt, q⟩, fun x H' y => ?_⟩
    obtain ⟨rfl, n, hn, rfl⟩ := y
    exact hs i n σ H' { D with nx := Pv (i + 1), ct := Pv (i + 1), bk := D.nx } (by rw [Array.getElem?_toList]; exact hn) p (fun _ _ h => h) (fun _ _ h => h) (fun _ _ h => h) rfl
  · have e : i = z.cps.size := by omega
    subst e
    exact .inl ⟨Nat.le_refl _, hd σ H p⟩
section
variable {P : Program} {w : World} {K : PySem.W.Frag} {mg : Str → Option Value} {base : Heap}
theorem ok__law_is_name (T : Txt K mg) : Def P w K mg base 1 "_law_is_name" ["_law_thing"] (spThingB nameB) := by
  obtain ⟨f, fd, h⟩ := T.d__law_is_name
  refine h.def (Fun.okM h.fn sc__law_is_name (fun vs H Q E h => ?_) (fun cdv A outer s H vs Q E hr h => ?_))
  · obtain ⟨x, rfl, _⟩ := h
    rfl
  · obtain ⟨x, rfl, hx, k⟩ := h
    have k' := k H fun _ _ h => h
    refine ⟨_, (pss_cons (ps_if (PW.pt (pw_or (pt_not (pt_val (pe_callB (call_isiG (K := K) rfl) (by rfl) T.h_isinstance (by decide +kernel) (pa_cons (pv 0) (pa_cons (pe_bltn (v := .ty "str") (by rfl) T.h_str (by decide +kernel) rfl) pa_nil))))) (pw_or (pt_cmpR op_ltG (pe_callB (call_lenG (K := K) rfl) (by rfl) T.h_len (by decide +kernel) (pa_cons (pv 0) pa_nil)) pe_int (nomark _)) (pw_or1 (pt_cmpR op_gtG (pe_callB (call_lenG (K := K) rfl) (by rfl) T.h_len (by decide +kernel) (pa_cons (pv 0) pa_nil)) pe_int (nomark _))))))
  (pss_one (ps_ret pe_bl))
  pss_nil)
  (pss_cons (ps_if (pt_cmpR (op_inG (K := K) rfl) (pv 0) (pe_lst (pa_cons pe_str (pa_cons pe_str (pa_cons pe_str (pa_cons pe_str (pa_cons pe_str (pa_cons pe_str (pa_cons pe_str (pa_cons pe_str (pa_cons pe_str (pa_cons pe_str pa_nil))))))))))) (by rfl))
  (pss_one (ps_ret pe_bl))
  pss_nil)
  (pss_cons (ps_for PassesOwn.never rfl (pi_str (pv 0)) (pg_name (i := 1) sc__law_is_name.nd rfl (Or.inl rfl))
  (pss_one (ps_if (pt_cmpR (op_notInG (K := K) rfl) (pv 1) pe_str (by rfl))
  (pss_one (ps_ret pe_bl))
  pss_nil)))
  (pss_one (ps_ret (pe_cmpR (op_notInG (K := K) rfl) (pe_ix (ix_seqG (K := K) rfl) (pv 0) pe_int (fun _ _ => rfl)) pe_str (by rfl))))))), ?_⟩
    rcases hx with rfl | ⟨b, rfl⟩ | ⟨i, rfl⟩ | ⟨z, rfl, hz⟩ | ⟨p, rfl, hp⟩
    case inr.inr.inr.inl =>
      have hzl : z.cps.toList.length = z.length := Array.length_toList
      walk_at "g"
      refine g_lenS (by rw [sizeLine_eq]; omega) ?_
      walk_at "g"
      have no : ∀ H', XT H H' → ¬ nameP z → Q (.bl false) H' := fun H' x h => by rw [← nameB_no h]; exact k H' x
      refine g_dec (fun h0 => ?_) (fun h0 => ?_)
      · walk_at "g"
        exact no _ XT.refl fun n => n.1 (by omega)
      walk_at "g"
      refine g_lenS (by rw [sizeLine_eq]; omega) ?_
      walk_at "g"
      refine g_dec (fun h8 => ?_) (fun h8 => ?_)
      · walk_at "g"
        exact no _ XT.refl fun n => by have := n.2.1; omega
      walk_at "g"
      refine ⟨by show 10 ≤ sizeLine; decide, fun q hq => ?_⟩
      have hfl : (keptWords.map V.str) = [V.str (Str.ofString "and"), V.str (Str.ofString "or"), V.str (Str.ofString "not"), V.str (Str.ofString "sure"), V.str (Str.ofString "in"), V.str (Str.ofString "is"), V.str (Str.ofString "empty"), V.str (Str.ofString "begins"), V.str (Str.ofString "always"), V.str (Str.ofString "never")] := rfl
      rw [← hfl]
      have xq : XT H (upd H q (.lst (keptWords.map V.str))) := XT.refl.new hq
      refine .inr ⟨_, keptWords.map V.str, rfl, .inl (SqL.of upd_same), rfl, Tw.flat_strs _, ?_⟩
      rw [if_neg Bool.false_ne_true, inV_strs]
      walk_at "g"
      generalize upd H q (.lst (keptWords.map V.str)) = H1 at xq
      refine g_dec (fun hk => ?_) (fun hk => ?_)
      · walk_at "g"
        exact no _ xq fun n => n.2.2.2.1 hk
      walk_at "g"
      have hsg : (Str.ofString "abcdefghijklmnopqrstuvwxyz0123456789").cps.toList = nameSigns := rfl
      refine for_textA (fun i σ' H' => ∃ s1 : Option V, σ' = [some (.str z), s1] ∧ H' = H1 ∧ ∀ j c, j < i → z.cps.toList[j]? = some c → c ∈ nameSigns) ⟨none, rfl, rfl, fun j c h => absurd h (Nat.not_lt_zero j)⟩ ?_ ?_
      · rintro i n σ' H' D' hn ⟨s1, rfl, rfl, hin⟩ hnx hct hbk hrt
        walk_at "g"
        rw [hsg]
        refine g_ndec (fun hm => ?_) (fun hm => ?_)
        · walk_at "g"
          rw [hrt]
          exact no _ xq fun h => hm (h.2.2.2.2 n (List.mem_of_getElem? hn))
        · walk_at "g"
          refine hnx _ _ ⟨_, rfl, rfl, fun j c hj hc => ?_⟩
          by_cases e : j = i
          · subst e
            rw [hn] at hc
            injection hc with hc
            rw [← hc]; exact hm
          · exact hin j c (by omega) hc
      · rintro σ' H' ⟨s1, rfl, rfl, hin⟩
        obtain ⟨c, r, hcr⟩ : ∃ c r, z.cps.toList = c :: r := by
          cases e : z.cps.toList with
          | nil => rw [e] at hzl; simp at hzl; omega
          | cons c r => exact ⟨c, r, rfl⟩
        have all : ∀ c ∈ z.cps.toList, c ∈ nameSigns := fun c hc => by
          obtain ⟨j, hj⟩ := List.getElem?_of_mem hc
          have := (List.getElem?_eq_some_iff.mp hj).1
          exact hin j c (by have e : z.cps.size = z.cps.toList.length := Array.length_toList.symm
                            omega) hj
        have dig : ∀ c ∈ nameSigns, (c ∈ letters ↔ ¬ c ∈ (Str.ofString "0123456789").cps.toList) := by decide +kernel
        walk_at "g"
        refine g_ixS (n := c) (by rw [sizeLine_eq]; omega) (atI_nat (j := 0) (by rw [hcr]; rfl)) ?_
        walk_at "g"
        have e : nameB (.str z) = !decide (c ∈ (Str.ofString "0123456789").cps.toList) := by
          refine nameB_is ?_
          have hd := dig c (all c (by rw [hcr]; exact List.mem_cons_self))
          constructor
          · intro n
            have := hd.mp (n.2.2.1 c r hcr)
            rw [decide_eq_false this]; rfl
          · intro h
            have h' : ¬ c ∈ (Str.ofString "0123456789").cps.toList := fun hm => by rw [decide_eq_true hm] at h; cases h
            exact ⟨by omega, by omega, fun c' r' e' => by rw [hcr] at e'; injection e' with e1 _; rw [← e1]; exact hd.mpr h', hk, all⟩
        rw [← e]
        exact k _ xq
    all_goals (walk_at "g"; exact k')
end
section
variable {P : Program} {w : World} {K : PySem.W.Frag} {mg : Str → Option Value} {base : Heap}
theorem g_isSeq {H H' : Hp} {v : V} {Tn : String} {t : Addr} {b : Bool} {Q : VK} (hT : Tn ∈ kinds7) (ty : TyX K H' v (.type Tn)) (e : H' t = some (.tup [.ty "list", .ty "tuple"])) (hb : decide (Tn = "list" ∨ Tn = "tuple") = b) (q : Q (.bl b) H') : rIsiT K [v, .ref t] H' Q := by
  subst hb
  exact ⟨v, t, _, _, _, _, rfl, e, .cons (.ty "list") (.cons (.ty "tuple") .nil), ty, kit_seq Tn hT, q⟩
theorem seq_ty {H : Hp} {p : Addr} {xs : List V} (h : H p = some (.lst xs) ∨ H p = some (.tup xs)) : ∃ Tn, Tn ∈ kinds7 ∧ TyX K H (.ref p) (.type Tn) ∧ decide (Tn = "list" ∨ Tn = "tuple") = true := by
  rcases h with h | h
  · exact ⟨"list", by decide, .base (.lst h), by decide⟩
  · exact ⟨"tuple", by decide, .base (.tup h), by decide⟩
theorem g_lenA {H : Hp} {p : Addr} {xs : List V} {Q : VK} (h : H p = some (.lst xs) ∨ H p = some (.tup xs)) (q : Q (.int (xs.length : Int)) H) : rLenG K [.ref p] H Q := by
  rcases h with h | h
  · exact g_lenL (SqL.of h) q
  · exact g_lenT (SqT.of h) q
theorem ok__law_fault (T : Txt K mg) : Def P w K mg base 2 "_law_fault" ["_law_thing"] (fun vs H Q _ => ∃ (v : V) (d : Option (List (Option (Str × Bool)))), vs = [v] ∧ ThAt H v d ∧ ∀ H', XT H H' → Q (fV (dueF d)) H') := by
  obtain ⟨f, fd, h⟩ := T.d__law_fault
  refine h.def (Fun.okM h.fn sc__law_fault (fun vs H Q E h => ?_) (fun cdv A outer s H vs Q E hr h => ?_))
  · obtain ⟨v, d, rfl, _⟩ := h
    rfl
  · obtain ⟨v, d, rfl, hT, k⟩ := h
    refine ⟨_, (pss_cons (ps_if (PW.pt (pw_or (pt_not (pt_val (pe_callB call_isiT (by rfl) T.h_isinstance (by decide +kernel) (pa_cons (pv 0) (pa_cons (pe_tup (pa_cons (pe_bltn (v := .ty "list") (by rfl) T.h_list (by decide +kernel) rfl) (pa_cons (pe_bltn (v := .ty "tuple") (by rfl) T.h_tuple (by decide +kernel) rfl) pa_nil))) pa_nil))))) (pw_or (pt_cmpR op_ltG (pe_callB (call_lenG (K := K) rfl) (by rfl) T.h_len (by decide +kernel) (pa_cons (pv 0) pa_nil)) pe_int (nomark _)) (pw_or1 (pt_cmpR op_gtG (pe_callB (call_lenG (K := K) rfl) (by rfl) T.h_len (by decide +kernel) (pa_cons (pv 0) pa_nil)) pe_int (nomark _))))))
  (pss_one (ps_ret (pe_un un_negG pe_int)))
  pss_nil)
  (pss_cons (ps_set (i := 1) sc__law_fault.nd rfl (Or.inl rfl) (pe_lst pa_nil))
  (pss_cons (ps_for PassesOwn.never rfl (pi_range1 rfl T.h_range (pa_cons (pe_callB (call_lenG (K := K) rfl) (by rfl) T.h_len (by decide +kernel) (pa_cons (pv 0) pa_nil)) pa_nil)) (pg_name (i := 2) sc__law_fault.nd rfl (Or.inl rfl))
  (pss_cons (ps_set (i := 3) sc__law_fault.nd rfl (Or.inl rfl) (pe_ix (ix_seqG (K := K) rfl) (pv 0) (pv 2) (fun _ _ => rfl)))
  (pss_cons (ps_if (PW.pt (pw_or (pt_not (pt_val (pe_callB call_isiT (by rfl) T.h_isinstance (by decide +kernel) (pa_cons (pv 3) (pa_cons (pe_tup (pa_cons (pe_bltn (v := .ty "list") (by rfl) T.h_list (by decide +kernel) rfl) (pa_cons (pe_bltn (v := .ty "tuple") (by rfl) T.h_tuple (by decide +kernel) rfl) pa_nil))) pa_nil))))) (pw_or (pt_cmpR op_ne (pe_callB (call_lenG (K := K) rfl) (by rfl) T.h_len (by decide +kernel) (pa_cons (pv 3) pa_nil)) pe_int (nomark _)) (pw_or1 (pt_not (pt_val (pe_def (ok__law_is_name T) hr rfl (pa_cons (pe_ix (ix_seqG (K := K) rfl) (pv 3) pe_int (fun _ _ => rfl)) pa_nil))))))))
  (pss_one (ps_ret (pv 2)))
  pss_nil)
  (pss_cons (ps_if (PW.pt (pw_or (pt_not (pt_val (pe_callB (call_isiG (K := K) rfl) (by rfl) T.h_isinstance (by decide +kernel) (pa_cons (pe_ix (ix_seqG (K := K) rfl) (pv 3) pe_int (fun _ _ => rfl)) (pa_cons (pe_bltn (v := .ty "str") (by rfl) T.h_str (by decide +kernel) rfl) pa_nil))))) (pw_or (pt_cmpR (op_notInG (K := K) rfl) (pe_ix (ix_seqG (K := K) rfl) (pv 3) pe_int (fun _ _ => rfl)) (pe_lst (pa_cons pe_str (pa_cons pe_str pa_nil))) (by rfl)) (pw_or1 (pt_cmpR (op_inG (K := K) rfl) (pe_ix (ix_seqG (K := K) rfl) (pv 3) pe_int (fun _ _ => rfl)) (pv 1) (by rfl))))))
  (pss_one (ps_ret (pv 2)))
  pss_nil)
  (pss_one (ps_expr (pe_bm PySem.F.plainAttrs_list PySem.F.slot_list_append PySem.F.type_list_append mt_append (pv 1) (pa_cons (pe_ix (ix_seqG (K := K) rfl) (pv 3) pe_int (fun _ _ => rfl)) pa_nil))))))))
  (pss_one (ps_ret pe_non))))), ?_⟩
    have sz2 : ([.ty "list", .ty "tuple"] : List V).length ≤ sizeLine := by show 2 ≤ sizeLine; decide
    cases hT with
    | nos hT ty n m =>
      walk_at "g"
      refine ⟨sz2, fun t ht => ?_⟩
      have xt : XT H (upd H t (.tup [.ty "list", .ty "tuple"])) := XT.refl.new ht
      walk_at "g"
      refine g_isSeq (H := H) hT ((ty.keep xt).x K) upd_same (decide_eq_false (fun h => h.elim n m)) ?_
      walk_at "g"
      exact k _ xt
    | seq hp hl hs =>
      rename_i p xs rs
      walk_at "g"
      refine ⟨sz2, fun t ht => ?_⟩
      have xt : XT H (upd H t (.tup [.ty "list", .ty "tuple"])) := XT.refl.new ht
      have et : (upd H t (.tup [.ty "list", .ty "tuple"])) t = some (.tup [.ty "list", .ty "tuple"]) := upd_same
      generalize upd H t (.tup [.ty "list", .ty "tuple"]) = H1 at xt et
      obtain ⟨Tn, h1, h2, h3⟩ := seq_ty (K := K) (seq_keep hp xt)
      walk_at "g"
      refine g_isSeq (H := H) h1 h2 et h3 ?_
      walk_at "g"
      refine g_lenA (seq_keep hp xt) ?_
      walk_at "g"
      have short : (xs.length < 1 ∨ 3 < xs.length) → Q (.int (-1)) H1 := fun h => by
        have := k _ xt
        rw [due_bad (by omega)] at this
        exact this
      refine g_dec (fun h0 => ?_) (fun h0 => ?_)
      · walk_at "g"
        exact short (by omega)
      walk_at "g"
      refine g_lenA (seq_keep hp xt) ?_
      walk_at "g"
      refine g_dec (fun h4 => ?_) (fun h4 => ?_)
      · walk_at "g"
        exact short (by omega)
      have hd : dueF (some rs) = (bad [] 0 rs).map Int.ofNat := due_len (by omega)
      walk_at "g"
      refine ⟨Nat.zero_le _, fun N hN => ?_⟩
      have hHN : H N = none := by
        cases e : H N with
        | none => rfl
        | some o => rw [xt _ _ e] at hN; cases hN
      have x2 := xt.new (o := .lst []) hN
      have e2 : (upd H1 N (.lst [])) N = some (.lst []) := upd_same
      generalize upd H1 N (.lst []) = H2 at x2 e2
      walk_at "g"
      refine g_lenA (seq_keep hp x2) ?_
      refine ⟨_, rfl, by omega, by omega, ?_⟩
      refine for_rangeA (fun i σ' H' => ∃ (s2 s3 : Option V) (cs : List (Str × Bool)), σ' = [some (.ref p), some (.ref N), s2, s3] ∧ XT H H' ∧ H' N = some (.lst ((cs.map (·.1)).map V.str)) ∧ cs.length ≤ i ∧ rs.take i = cs.map some ∧ bad [] 0 rs = bad (cs.map (·.1)) i (rs.drop i)) ⟨none, none, [], rfl, x2, e2, Nat.le_refl _, rfl, rfl⟩ ?_ ?_
      · rintro i σ' H3 D' hi ⟨s2, s3, cs, rfl, x3, e3, hcl, htk, hbad⟩ hnx hct hbk hrt
        have hil : i < xs.length := by simpa using hi
        have e0 : (0 + (i : Int)) = ((i : Nat) : Int) := Int.zero_add _
        obtain ⟨v, hv⟩ : ∃ v, xs[i]? = some v := ⟨_, List.getElem?_eq_getElem hil⟩
        obtain ⟨ro, hro⟩ : ∃ ro, rs[i]? = some ro := ⟨_, List.getElem?_eq_getElem (by omega)⟩
        have edr : rs.drop i = ro :: rs.drop (i + 1) := by
          rw [List.drop_eq_getElem_cons (by omega)]
          congr 1
          exact Option.some.inj (by rw [← hro, List.getElem?_eq_getElem (by omega)])
        have hpt := (hs i v ro hv hro).keep x3
        have out : ∀ H', XT H H' → bad [] 0 rs = some i → Q (.int (0 + (i : Int))) H' := fun H' x e => by
          have := k _ x
          rw [hd, e] at this
          rw [e0]
          exact this
        walk_at "g"
        refine g_ixA (seq_keep hp x3) (v := v) (by rw [e0]; exact atI_nat hv) ?_
        walk_at "g"
        refine ⟨sz2, fun t4 ht4 => ?_⟩
        have x4 := x3.new (o := .tup [.ty "list", .ty "tuple"]) ht4
        have y4 : XT H3 (upd H3 t4 (.tup [.ty "list", .ty "tuple"])) := XT.refl.new ht4
        have et4 : (upd H3 t4 (.tup [.ty "list", .ty "tuple"])) t4 = some (.tup [.ty "list", .ty "tuple"]) := upd_same
        have e4 := y4 _ _ e3
        replace hpt := hpt.keep y4
        generalize upd H3 t4 (.tup [.ty "list", .ty "tuple"]) = H4 at x4 y4 et4 e4 hpt
        walk_at "g"
        cases hpt with
        | nos hT ty n m =>
          refine g_isSeq (H := H) hT (ty.x K) et4 (decide_eq_false (fun h => h.elim n m)) ?_
          walk_at "g"
          rw [hrt]
          exact out _ x4 (by rw [hbad, edr]; rfl)
        | len hq n =>
          obtain ⟨Tn, h1, h2, h3⟩ := seq_ty (K := K) hq
          refine g_isSeq (H := H) h1 h2 et4 h3 ?_
          walk_at "g"
          refine g_lenA hq ?_
          walk_at "g"
          refine g_ndec (fun hne => ?_) (fun hne => absurd hne (by omega))
          walk_at "g"
          rw [hrt]
          exact out _ x4 (by rw [hbad, edr]; rfl)
        | nam hq hx n =>
          rename_i q x y
          obtain ⟨Tn, h1, h2, h3⟩ := seq_ty (K := K) (.inr hq)
          refine g_isSeq (H := H) h1 h2 et4 h3 ?_
          walk_at "g"
          refine g_lenT (SqT.of hq) ?_
          walk_at "g"
          refine g_ndec (fun hne => absurd rfl hne) (fun _ => ?_)
          walk_at "g"
          refine g_ixT (SqT.of hq) (v := x) (show atI [x, y] 0 = some x from rfl) ?_
          walk_at "g"
          refine ⟨_, rfl, hx, fun H5 x5 => ?_⟩
          rw [n]
          walk_at "g"
          rw [hrt]
          exact out _ (x4.trans x5) (by rw [hbad, edr]; rfl)
        | dir hq hz hy =>
          rename_i q z y
          obtain ⟨Tn, h1, h2, h3⟩ := seq_ty (K := K) (.inr hq)
          refine g_isSeq (H := H) h1 h2 et4 h3 ?_
          walk_at "g"
          refine g_lenT (SqT.of hq) ?_
          walk_at "g"
          refine g_ndec (fun hne => absurd rfl hne) (fun _ => ?_)
          walk_at "g"
          refine g_ixT (SqT.of hq) (v := .str z) (show atI [V.str z, y] 0 = some (.str z) from rfl) ?_
          walk_at "g"
          refine ⟨_, rfl, .inr (.inr (.inr (.inl ⟨_, rfl, by have := hz.2.1; omega⟩))), fun H5 x5 => ?_⟩
          rw [nameB_str.mpr hz]
          have hq5 := x5 _ _ hq
          walk_at "g"
          rcases hy with ⟨b, rfl⟩ | ⟨s', rfl, n1, n2⟩
          · refine g_ixT (SqT.of hq5) (v := .bl b) (show atI [V.str z, V.bl b] 1 = some (.bl b) from rfl) ?_
            walk_at "g"
            rw [hrt]
            exact out _ (x4.trans x5) (by rw [hbad, edr]; rfl)
          · refine g_ixT (SqT.of hq5) (v := .str s') (show atI [V.str z, V.str s'] 1 = some (.str s') from rfl) ?_
            walk_at "g"
            refine g_ixT (SqT.of hq5) (v := .str s') (show atI [V.str z, V.str s'] 1 = some (.str s') from rfl) ?_
            walk_at "g"
            refine ⟨by show 2 ≤ sizeLine; decide, fun l hl => ?_⟩
            refine .inr ⟨_, [Str.ofString "up", Str.ofString "down"].map V.str, rfl, .inl (SqL.of upd_same), rfl, Tw.flat_strs _, ?_⟩
            rw [if_pos rfl, inV_strs, decide_eq_false (fun h => by
              rcases List.mem_cons.mp h with h | h
              · exact n1 h
              · exact n2 (List.mem_singleton.mp h))]
            walk_at "g"
            rw [hrt]
            exact out _ ((x4.trans x5).new hl) (by rw [hbad, edr]; rfl)
        | ok hq hz =>
          rename_i q c
          obtain ⟨Tn, h1, h2, h3⟩ := seq_ty (K := K) (.inr hq)
          refine g_isSeq (H := H) h1 h2 et4 h3 ?_
          walk_at "g"
          refine g_lenT (SqT.of hq) ?_
          walk_at "g"
          refine g_ndec (fun hne => absurd rfl hne) (fun _ => ?_)
          walk_at "g"
          refine g_ixT (SqT.of hq) (v := .str c.1) (show atI (pt c) 0 = some (.str c.1) from rfl) ?_
          walk_at "g"
          refine ⟨_, rfl, .inr (.inr (.inr (.inl ⟨_, rfl, by have := hz.2.1; omega⟩))), fun H5 x5 => ?_⟩
          rw [nameB_str.mpr hz]
          have hq5 := x5 _ _ hq
          have e5 := x5 _ _ e4
          walk_at "g"
          refine g_ixT (SqT.of hq5) (v := .str (dS c.2)) (show atI (pt c) 1 = some (.str (dS c.2)) from rfl) ?_
          walk_at "g"
          refine g_ixT (SqT.of hq5) (v := .str (dS c.2)) (show atI (pt c) 1 = some (.str (dS c.2)) from rfl) ?_
          walk_at "g"
          refine ⟨by show 2 ≤ sizeLine; decide, fun l hl => ?_⟩
          have x6 := (x4.trans x5).new (o := .lst ([Str.ofString "up", Str.ofString "down"].map V.str)) hl
          have y6 : XT H5 (upd H5 l (.lst ([Str.ofString "up", Str.ofString "down"].map V.str))) := XT.refl.new hl
          have e6 := y6 _ _ e5
          have hq6 := y6 _ _ hq5
          have el : (upd H5 l (.lst ([Str.ofString "up", Str.ofString "down"].map V.str))) l = some (.lst ([Str.ofString "up", Str.ofString "down"].map V.str)) := upd_same
          have eL : upd H5 l (.lst [.str (Str.ofString "up"), .str (Str.ofString "down")]) = upd H5 l (.lst ([Str.ofString "up", Str.ofString "down"].map V.str)) := rfl
          rw [eL]
          generalize upd H5 l (.lst ([Str.ofString "up", Str.ofString "down"].map V.str)) = H6 at x6 e6 hq6 el
          refine .inr ⟨_, [Str.ofString "up", Str.ofString "down"].map V.str, rfl, .inl (SqL.of el), rfl, Tw.flat_strs _, ?_⟩
          rw [if_pos rfl, inV_strs, dS_in]
          walk_at "g"
          refine g_ixT (SqT.of hq6) (v := .str c.1) (show atI (pt c) 0 = some (.str c.1) from rfl) ?_
          walk_at "g"
          refine .inr ⟨_, (cs.map (·.1)).map V.str, rfl, .inl (SqL.of e6), rfl, Tw.flat_strs _, ?_⟩
          rw [if_neg Bool.false_ne_true, inV_strs]
          walk_at "g"
          refine g_dec (fun hm => ?_) (fun hm => ?_)
          · walk_at "g"
            rw [hrt]
            exact out _ x6 (by rw [hbad, edr, bad_in hm])
          · walk_at "g"
            refine g_ixT (SqT.of hq6) (v := .str c.1) (show atI (pt c) 0 = some (.str c.1) from rfl) ?_
            walk_at "g"
            refine hnx _ _ ⟨_, _, cs ++ [c], rfl, fun q o h => ?_, ?_, by rw [List.length_append]; show _ + 1 ≤ _; omega, ?_, ?_⟩
            · rw [upd_ne (fun z => by rw [z, hHN] at h; cases h)]
              exact x6 _ _ h
            · rw [upd_same, List.map_append, List.map_append]
              rfl
            · rw [List.take_succ, hro, htk, List.map_append]
              rfl
            · rw [hbad, edr, bad_step hm, List.map_append]
              rfl
      · rintro σ' H3 ⟨s2, s3, cs, rfl, x3, e3, hcl, htk, hbad⟩
        walk_at "g"
        have := k _ x3
        rw [hd, hbad, List.drop_of_length_le (by omega)] at this
        exact this
end
/-- what the law keeps of a call -/
def SaidAt (H : Hp) (t : Addr) (cs : List (Str × Bool)) : Option Int → Prop
  | some i => H t = some (.tup [.str "refused", .int i])
  | none => ∃ o, H t = some (.tup [.str "told", .ref o]) ∧ OT H o cs
theorem name_strOk {z : Str} (h : nameP z) : PySem.PyData.strOk z = true := by
  unfold PySem.PyData.strOk
  rw [← Array.all_toList, List.all_eq_true]
  intro c hc
  have : ∀ c ∈ nameSigns, c < 128 := by decide +kernel
  have := this c (h.2.2.2.2 c hc)
  exact decide_eq_true (by omega)
def pdP (c : Str × Bool) : PyData := .tuple [.str c.1, .str (dS c.2)]
theorem sh_part {c : Str × Bool} (h : nameP c.1) : SeqAt.shaped (pdP c) = true := by
  have e1 := name_strOk h
  have e2 : PySem.PyData.strOk (dS c.2) = true := by cases c.2 <;> decide +kernel
  unfold SeqAt.shaped pdP
  rw [Bool.and_eq_true]
  refine ⟨by simp [PyData.canLay0, PyData.canLayAll0, e1, e2], decide_eq_true ?_⟩
  simp only [PyData.depth, PyData.depthAll]
  omega
section
variable {P : Program} {w : World} {K : PySem.W.Frag} {mg : Str → Option Value} {base : Heap}
theorem ok__law_said (T : Txt K mg) : Def P w K mg base 6 "_law_said" ["_law_shape", "_law_thing"] (fun vs H Q _ => ∃ (s v : V) (d : Option (List (Option (Str × Bool)))) (r : Option Int), vs = [s, v] ∧ ThAt H v d ∧
    ((s = .non ∧ r = dueF d) ∨ ∃ (x : Addr) (cols : List Col), s = .ref x ∧ ShapeAt (cadr mg "Shape") H cols x ∧ r = dueF2 (cols.map (·.1)) d) ∧
    ∀ t H', XT H H' → (∀ cs, (r = none → d = some (cs.map some)) → SaidAt H' t cs r → Q (.ref t) H')) := by
  obtain ⟨f, fd, h⟩ := T.d__law_said
  obtain ⟨fE_BadOrder, EB_BadOrder⟩ := T.x_BadOrder
  refine h.def (Fun.okM h.fn sc__law_said (fun vs H Q E h => ?_) (fun cdv A outer s H vs Q E hr h => ?_))
  · obtain ⟨s, v, d, r, rfl, _⟩ := h
    rfl
  · obtain ⟨sv, v, d, r, rfl, hT, hc, k⟩ := h
    refine ⟨_, (pss_one (ps_try_as (i := 2) (Wout := fun _ _ _ _ => False) rfl rfl sc__law_said.nd rfl rfl ⟨rfl, by decide, Or.inl EB_BadOrder.gC⟩ takes0 (fun W pn xe tk _ =>
  (pss_cons (ps_if (pt_cmpR op_isNG (pv 0) pe_non (nomark _))
  (pss_one (ps_ret (pe_tup (pa_cons pe_str (pa_cons (pe_defX tk (ok_need_order T) hr rfl (pa_cons (pv 1) pa_nil)) pa_nil)))))
  pss_nil)
  (pss_one (ps_ret (pe_tup (pa_cons pe_str (pa_cons (pe_defX tk (ok_order_in T) hr rfl (pa_cons (pv 0) (pa_cons (pv 1) pa_nil))) pa_nil)))))))
  (fun a oe cls d pn hz hf => (pss_one (ps_ret (pe_tup (pa_cons pe_str (pa_cons (pe_byBadOrder EB_BadOrder hz hf (pv 2)) pa_nil)))))))), ?_⟩
    have caught : ∀ (D : Ends) (i : Int) (e : Addr) (H' : Hp), D.rt = Q → XT H H' → r = some i → H' e = some (xat i) →
        wAs K (.ref (cadr mg "BadOrder")) 2 (fun a cls d => tRet (tTup (tCons (tC (.str (Str.ofString "refused"))) (tCons (tByBadOrder (cadr mg "BadOrder") a cls d (tVar 2)) tNil)))) (fun _ _ _ _ => False) D (.ref (cadr mg "BadOrder")) (some e) (L2.start N__law_said [sv, v]) H' := by
      intro D i e H' hD hx hr2 he
      refine ⟨true, EB_BadOrder.te, fun _ a0 ha0 => ?_, fun q => Bool.noConfusion q⟩
      walk_at "g"
      refine ⟨_, rfl, rfl, rfl, e, _, rfl, he, ?_⟩
      walk_at "g"
      refine ⟨by show 2 ≤ sizeLine; decide, fun t ht => ?_⟩
      show D.rt _ _
      rw [hD]
      refine k t _ (hx.new ht) [] (fun h => by rw [hr2] at h; cases h) ?_
      rw [hr2]
      exact upd_same
    have told : ∀ (D : Ends) (cs : List (Str × Bool)) (o : Addr) (H' : Hp), D.rt = Q → XT H H' → r = none → d = some (cs.map some) → OT H' o cs → ∀ t, H' t = none → D.rt (.ref t) (upd H' t (.tup [.str "told", .ref o])) := by
      intro D cs o H' hD hx hr2 hd ho t ht
      rw [hD]
      refine k t _ (hx.new ht) cs (fun _ => hd) ?_
      rw [hr2]
      exact ⟨o, upd_same, ho.keep (XT.refl.new ht)⟩
    rcases hc with ⟨rfl, hr2⟩ | ⟨x, cols, rfl, hSh, hr2⟩
    · walk_at "g"
      refine ⟨v, d, rfl, hT, fun i hi e H' x he => caught _ i e H' rfl x (by rw [hr2]; exact hi) he, fun rs cs hd hrs hn o H' x ho => ?_⟩
      walk_at "g"
      refine ⟨by show 2 ≤ sizeLine; decide, fun t ht => ?_⟩
      exact told _ cs o H' rfl x (by rw [hr2]; exact hn) (by rw [hd, hrs]) ho t ht
    · walk_at "g"
      refine ⟨x, v, cols, d, rfl, hSh, hT, fun i hi e H' x he => caught _ i e H' rfl x (by rw [hr2]; exact hi) he, fun cs hd hn o H' x ho => ?_⟩
      walk_at "g"
      refine ⟨by show 2 ≤ sizeLine; decide, fun t ht => ?_⟩
      exact told _ cs o H' rfl x (by rw [hr2]; exact hn) hd ho t ht
end
section
variable {X : Cx} {K : PySem.W.Frag} {H : Hp} {Q : VK}
theorem hu64_of {A : Around} {k : Nat} (hr : Room k A) : A.units + 64 < cLine := by
  have := hr.un
  omega
theorem op_neDu (h : X.K = K) (hu : X.A.units + 64 < cLine) : OpR X (compareOp .NotEq) (rNeD K) := by subst h; exact op_neD hu
theorem op_eqDu (h : X.K = K) (hu : X.A.units + 64 < cLine) : OpR X (compareOp .Eq) (rEqD K) := by subst h; exact op_eqD hu
/-- two tuples of the same two texts -/
theorem g_neSame {p q : Addr} {a b : Str} (h1 : H p = some (.tup [.str a, .str b])) (h2 : H q = some (.tup [.str a, .str b])) (hs : SeqAt.shaped (.tuple [.str a, .str b]) = true) (he : PyData.eqv (.tuple [.str a, .str b]) (.tuple [.str a, .str b]) = true) (k : Q (.bl false) H) : rNeD K (.ref p) (.ref q) H Q :=
  ⟨.tuple [.str a, .str b], .tuple [.str a, .str b], .tup (SqT.of h1) (.cons (.str a) (.cons (.str b) .nil)), .tup (SqT.of h2) (.cons (.str a) (.cons (.str b) .nil)), hs, hs, by rw [he]; exact k⟩
end
theorem hu0_of {A : Around} {k : Nat} (hr : Room k A) : A.units < cLine := by
  have := hr.un
  omega
theorem call_sortedSG {X : Cx} {K : PySem.W.Frag} (h : X.K = K) : CallR X (.builtin "sorted") (rSortedS K) := by subst h; exact cr_sortedS
theorem kb_tup : kitB "tuple" "tuple" = some true := by decide +kernel
theorem dS_nd : Str.ofString "told" ≠ Str.ofString "refused" := by decide +kernel
section
variable {P : Program} {w : World} {K : PySem.W.Frag} {mg : Str → Option Value} {base : Heap}
theorem ok__law_right (T : Txt K mg) : Def P w K mg base 2 "_law_right" ["_law_said_here", "_law_fault_here", "_law_thing"] (fun vs H Q _ => ∃ (t : Addr) (r : Option Int) (v : V) (cs : List (Str × Bool)), vs = [.ref t, fV r, v] ∧ SaidAt H t cs r ∧ (r = none → ThAt H v (some (cs.map some)) ∧ cs.length ≤ 3) ∧ ∀ H', XT H H' → Q (.bl true) H') := by
  obtain ⟨f, fd, h⟩ := T.d__law_right
  refine h.def (Fun.okM h.fn sc__law_right (fun vs H Q E h => ?_) (fun cdv A outer s H vs Q E hr h => ?_))
  · obtain ⟨t, r, v, cs, rfl, _⟩ := h
    rfl
  · obtain ⟨t, r, v, cs, rfl, hS, hT, k⟩ := h
    refine ⟨_, (pss_cons (ps_if (pt_cmpR op_notNG (pv 1) pe_non (nomark _))
  (pss_one (ps_ret (pe_and (pe_cmpR op_eq (pe_ix (ix_seqG (K := K) rfl) (pv 0) pe_int (fun _ _ => rfl)) pe_str (nomark _)) (pe_and (pe_def (ok__law_int T) hr rfl (pa_cons (pe_ix (ix_seqG (K := K) rfl) (pv 0) pe_int (fun _ _ => rfl)) pa_nil)) (pe_one (pe_cmpR op_eq (pe_ix (ix_seqG (K := K) rfl) (pv 0) pe_int (fun _ _ => rfl)) (pv 1) (nomark _)))))))
  pss_nil)
  (pss_cons (ps_if (PW.pt (pw_or (pt_cmpR op_ne (pe_ix (ix_seqG (K := K) rfl) (pv 0) pe_int (fun _ _ => rfl)) pe_str (nomark _)) (pw_or (pt_not (pt_val (pe_callB (call_isiG (K := K) rfl) (by rfl) T.h_isinstance (by decide +kernel) (pa_cons (pe_ix (ix_seqG (K := K) rfl) (pv 0) pe_int (fun _ _ => rfl)) (pa_cons (pe_bltn (v := .ty "tuple") (by rfl) T.h_tuple (by decide +kernel) rfl) pa_nil))))) (pw_or1 (pt_cmpR op_ne (pe_callB (call_lenG (K := K) rfl) (by rfl) T.h_len (by decide +kernel) (pa_cons (pe_ix (ix_seqG (K := K) rfl) (pv 0) pe_int (fun _ _ => rfl)) pa_nil)) (pe_callB (call_lenG (K := K) rfl) (by rfl) T.h_len (by decide +kernel) (pa_cons (pv 2) pa_nil)) (nomark _))))))
  (pss_one (ps_ret pe_bl))
  pss_nil)
  (pss_cons (ps_for PassesOwn.never rfl (pi_range1 rfl T.h_range (pa_cons (pe_callB (call_lenG (K := K) rfl) (by rfl) T.h_len (by decide +kernel) (pa_cons (pv 2) pa_nil)) pa_nil)) (pg_name (i := 3) sc__law_right.nd rfl (Or.inl rfl))
  (pss_one (ps_if (PW.pt (pw_or (pt_not (pt_val (pe_callB (call_isiG (K := K) rfl) (by rfl) T.h_isinstance (by decide +kernel) (pa_cons (pe_ix (ix_seqG (K := K) rfl) (pe_ix (ix_seqG (K := K) rfl) (pv 0) pe_int (fun _ _ => rfl)) (pv 3) (fun _ _ => rfl)) (pa_cons (pe_bltn (v := .ty "tuple") (by rfl) T.h_tuple (by decide +kernel) rfl) pa_nil))))) (pw_or1 (pt_cmpR (op_neDu (K := K) rfl (hu64_of hr)) (pe_ix (ix_seqG (K := K) rfl) (pe_ix (ix_seqG (K := K) rfl) (pv 0) pe_int (fun _ _ => rfl)) (pv 3) (fun _ _ => rfl)) (pe_tup (pa_cons (pe_ix (ix_seqG (K := K) rfl) (pe_ix (ix_seqG (K := K) rfl) (pv 2) (pv 3) (fun _ _ => rfl)) pe_int (fun _ _ => rfl)) (pa_cons (pe_ix (ix_seqG (K := K) rfl) (pe_ix (ix_seqG (K := K) rfl) (pv 2) (pv 3) (fun _ _ => rfl)) pe_int (fun _ _ => rfl)) pa_nil))) (nomark _)))))
  (pss_one (ps_ret pe_bl))
  pss_nil)))
  (pss_one (ps_ret pe_bl))))), ?_⟩
    cases r with
    | some i =>
      have ht : H t = some (.tup [.str "refused", .int i]) := hS
      have ef : fV (some i) = V.int i := rfl
      rw [ef]
      walk_at "g"
      refine g_ixT (SqT.of ht) (v := .str "refused") (by rfl) ?_
      walk_at "g"
      rw [decide_eq_true (rfl : Str.ofString "refused" = Str.ofString "refused")]
      walk_at "g"
      refine g_ixT (SqT.of ht) (v := .int i) (by rfl) ?_
      walk_at "g"
      refine ⟨i, rfl, ?_⟩
      walk_at "g"
      refine g_ixT (SqT.of ht) (v := .int i) (by rfl) ?_
      walk_at "g"
      have := k _ XT.refl
      rw [decide_eq_true (rfl : i = i)]
      exact this
    | none =>
      obtain ⟨o, ht, ho⟩ := hS
      obtain ⟨hTh, hcs⟩ := hT rfl
      obtain ⟨qs, hq1, hql, hqt⟩ := id ho
      cases hTh with
      | seq hp hl hs =>
      rename_i p xs
      rw [List.length_map] at hl
      have ef : fV none = V.non := rfl
      rw [ef]
      walk_at "g"
      refine g_ixT (SqT.of ht) (v := .str "told") (by rfl) ?_
      walk_at "g"
      rw [decide_eq_true (rfl : Str.ofString "told" = Str.ofString "told")]
      walk_at "g"
      refine g_ixT (SqT.of ht) (v := .ref o) (by rfl) ?_
      walk_at "g"
      refine g_isi (.base (.tup hq1)) kb_tup ?_
      walk_at "g"
      refine g_ixT (SqT.of ht) (v := .ref o) (by rfl) ?_
      walk_at "g"
      refine g_lenT (SqT.of hq1) ?_
      walk_at "g"
      refine g_lenA hp ?_
      walk_at "g"
      rw [List.length_map, hql, hl]
      refine g_ndec (fun hne => absurd rfl hne) (fun _ => ?_)
      walk_at "g"
      refine g_lenA hp ?_
      refine ⟨_, rfl, by omega, by omega, ?_⟩
      refine for_rangeA (fun i σ' H' => ∃ (s3 : Option V), σ' = [some (.ref t), some .non, some (.ref p), s3] ∧ XT H H') ⟨none, rfl, XT.refl⟩ ?_ ?_
      · rintro i σ' H1 D' hi ⟨s3, rfl, x1⟩ hnx hct hbk hrt
        have hil : i < cs.length := by
          have : i < xs.length := by simpa using hi
          omega
        have e0 : (0 + (i : Int)) = ((i : Nat) : Int) := Int.zero_add _
        obtain ⟨c, hc⟩ : ∃ c, cs[i]? = some c := ⟨_, List.getElem?_eq_getElem hil⟩
        obtain ⟨q, hq⟩ : ∃ q, qs[i]? = some q := ⟨_, List.getElem?_eq_getElem (by omega)⟩
        obtain ⟨y, hy⟩ : ∃ y, xs[i]? = some y := ⟨_, List.getElem?_eq_getElem (by omega)⟩
        have hpt := (hs i y (some c) hy (by rw [List.getElem?_map, hc]; rfl)).keep x1
        cases hpt with
        | ok hq2 hz =>
        rename_i q2
        have ht1 := x1 _ _ ht
        have ho1 := x1 _ _ hq1
        have hqq := x1 _ _ (hqt i q c hq hc)
        have ixo : atI (qs.map V.ref) (0 + (i : Int)) = some (.ref q) := by rw [e0]; exact atI_nat (by rw [List.getElem?_map, hq]; rfl)
        have ixp : atI xs (0 + (i : Int)) = some (.ref q2) := by rw [e0]; exact atI_nat hy
        have hp1 := seq_keep hp x1
        walk_at "g"
        refine g_ixT (SqT.of ht1) (v := .ref o) (by rfl) ?_
        walk_at "g"
        refine g_ixT (SqT.of ho1) ixo ?_
        walk_at "g"
        refine g_isi (.base (.tup hqq)) kb_tup ?_
        walk_at "g"
        refine g_ixT (SqT.of ht1) (v := .ref o) (by rfl) ?_
        walk_at "g"
        refine g_ixT (SqT.of ho1) ixo ?_
        walk_at "g"
        refine g_ixA hp1 ixp ?_
        walk_at "g"
        refine g_ixT (SqT.of hq2) (v := .str c.1) (show atI (pt c) 0 = some (.str c.1) from rfl) ?_
        walk_at "g"
        refine g_ixA hp1 ixp ?_
        walk_at "g"
        refine g_ixT (SqT.of hq2) (v := .str (dS c.2)) (show atI (pt c) 1 = some (.str (dS c.2)) from rfl) ?_
        walk_at "g"
        refine ⟨by show 2 ≤ sizeLine; decide, fun u hu => ?_⟩
        have x2 := x1.new (o := .tup [.str c.1, .str (dS c.2)]) hu
        have hq3 : (upd H1 u (.tup [.str c.1, .str (dS c.2)])) q = some (.tup [.str c.1, .str (dS c.2)]) := by rw [upd_ne (ne_of_none hqq hu)]; exact hqq
        have hsh : SeqAt.shaped (pdP c) = true := sh_part hz
        refine ⟨pdP c, pdP c, .tup (SqT.of hq3) (.cons (.str _) (.cons (.str _) .nil)), .tup (SqT.of upd_same) (.cons (.str _) (.cons (.str _) .nil)), hsh, hsh, ?_⟩
        rw [SeqAt.eqv_refl _ (SeqAt.canLay_of_shaped hsh)]
        walk_at "g"
        exact hnx _ _ ⟨_, rfl, x2⟩
      · rintro σ' H1 ⟨s3, rfl, x1⟩
        walk_at "g"
        exact k _ x1
end
/-- things that are read as parts, none of them the list at L -/
def AllPt (H : Hp) (L : Addr) (vs : List V) : Prop := (∃ o, H L = some o) ∧ ∀ v ∈ vs, v ≠ .ref L ∧ ∃ r, PtAt H v r
theorem AllPt.keep {H H' : Hp} {L : Addr} {vs : List V} (h : AllPt H L vs) (k : XT H H') : AllPt H' L vs := ⟨h.1.elim fun o e => ⟨o, k _ _ e⟩, fun v hv => by
  obtain ⟨hn, r, hr⟩ := h.2 v hv
  exact ⟨hn, r, hr.keep k⟩⟩
theorem AllPt.new {H : Hp} {L : Addr} {vs : List V} {p : Addr} {o : HO} (h : AllPt H L vs) (hp : H p = none) (hv : ∃ r, PtAt (upd H p o) (.ref p) r) : AllPt (upd H p o) L (vs ++ [.ref p]) := by
  have h' := h.keep (XT.refl.new (o := o) hp)
  refine ⟨h'.1, fun u hu => ?_⟩
  rcases List.mem_append.mp hu with hu | hu
  · exact h'.2 u hu
  · rw [List.mem_singleton.mp hu]
    refine ⟨fun e => ?_, hv⟩
    injection e with e
    obtain ⟨u, hu⟩ := h.1
    rw [← e, hp] at hu
    cases hu
theorem nm_a : nameP (Str.ofString "a") := by
  refine ⟨by decide +kernel, by decide +kernel, fun c r h => ?_, by decide +kernel, by decide +kernel⟩
  have e : (Str.ofString "a").cps.toList = [97] := by decide +kernel
  rw [e] at h
  injection h with h1 _
  rw [← h1]
  decide +kernel
theorem nm_in : nameB (.str (Str.ofString "in")) = false := nameB_no fun h => h.2.2.2.1 (by decide +kernel)
theorem nm_ab : nameB (.str (Str.ofString "a b")) = false := nameB_no fun h => absurd (h.2.2.2.2 32 (by decide +kernel)) (by decide +kernel)
theorem nm_long : nameB (.str (Str.ofString "abcdefghi")) = false := nameB_no fun h => absurd h.2.1 (by decide +kernel)
theorem nm_1a : nameB (.str (Str.ofString "1a")) = false := nameB_no fun h => by
  have e : (Str.ofString "1a").cps.toList = [49, 97] := by decide +kernel
  exact absurd (h.2.2.1 49 [97] e) (by decide +kernel)
theorem thS {H : Hp} {z : Str} (h : z.length ≤ 100) : thing H (.str z) := .inr (.inr (.inr (.inl ⟨z, rfl, h⟩)))
theorem upd_twice {H : Hp} {p : Addr} {a b : HO} : upd (upd H p a) p b = upd H p b := by
  funext q
  by_cases h : q = p
  · rw [h, upd_same, upd_same]
  · rw [upd_ne h, upd_ne h, upd_ne h]
section
variable {P : Program} {w : World} {K : PySem.W.Frag} {mg : Str → Option Value} {base : Heap}
theorem ok__law_odd (T : Txt K mg) : Def P w K mg base 2 "_law_odd" ["_law_pool_here", "_law_parts", "_law_at"] (fun vs H Q _ => ∃ (p L : Addr) (ps : List (Str × Bool)) (i : Nat) (n : Nat), vs = [.ref p, .ref L, .int (i : Nat)] ∧ PD H p n ∧ n ≤ 900000 ∧ L ≠ p ∧ LAt H L (ps.map pt) ∧ (∀ c ∈ ps, nameP c.1) ∧ i < ps.length ∧ i < 100 ∧
    ∀ v r H', PtAt H' v r → v ≠ .ref L → PD H' p (n + 3) → Keep p H H' → Q v H') := by
  obtain ⟨f, fd, h⟩ := T.d__law_odd
  refine h.def (Fun.okM h.fn sc__law_odd (fun vs H Q E h => ?_) (fun cdv A outer s H vs Q E hr h => ?_))
  · obtain ⟨p, L, ps, i, n, rfl, _⟩ := h
    rfl
  · obtain ⟨p, L, ps, i, n, rfl, hD, hn, hLp, hC, hnm, hi, hi100, k⟩ := h
    refine ⟨_, (pss_cons (ps_set (i := 3) sc__law_odd.nd rfl (Or.inl rfl) (pe_def (ok__law_draw T) hr rfl (pa_cons (pv 0) (pa_cons pe_int pa_nil))))
  (Evl.pss_cut (ps_if (PW.pt (pw_and (pt_cmpR op_eq (pv 3) pe_int (nomark _)) (pw_and1 (pt_cmpR op_gtG (pv 2) pe_int (nomark _)))))
  (pss_one (ps_ret (pe_tup (pa_cons (pe_ix (ix_seqG (K := K) rfl) (pe_ix (ix_seqG (K := K) rfl) (pv 1) (pe_def (ok__law_draw T) hr rfl (pa_cons (pv 0) (pa_cons (pv 2) pa_nil))) (fun _ _ => rfl)) pe_int (fun _ _ => rfl)) (pa_cons pe_str pa_nil)))))
  pss_nil)
  (pss_cons (ps_set (i := 4) sc__law_odd.nd rfl (Or.inl rfl) (pe_lst (pa_cons pe_non (pa_cons pe_str (pa_cons (pe_tup (pa_cons pe_str pa_nil)) (pa_cons (pe_tup (pa_cons pe_str (pa_cons pe_str (pa_cons pe_str pa_nil)))) (pa_cons (pe_tup (pa_cons pe_str (pa_cons pe_str pa_nil))) (pa_cons (pe_tup (pa_cons pe_str (pa_cons pe_str pa_nil))) (pa_cons (pe_tup (pa_cons pe_int (pa_cons pe_str pa_nil))) (pa_cons (pe_tup (pa_cons (pe_lst (pa_cons pe_str pa_nil)) (pa_cons pe_str pa_nil))) (pa_cons (pe_tup (pa_cons pe_str (pa_cons pe_bl pa_nil))) pa_nil)))))))))))
  (pss_cons (ps_set (i := 4) sc__law_odd.nd rfl (Or.inl rfl) (pe_op op_addG (pv 4) (pe_lst (pa_cons (pe_tup (pa_cons pe_str (pa_cons pe_str pa_nil))) (pa_cons (pe_tup (pa_cons pe_str (pa_cons pe_str pa_nil))) (pa_cons (pe_disp (pps_cons pe_str pe_str pps_nil) (by rfl) (by rfl) (fun z => by cases z) (by decide)) (pa_cons (pe_tup (pa_cons pe_str (pa_cons pe_str pa_nil))) (pa_cons (pe_lst pa_nil) pa_nil))))))))
  (pss_one (ps_ret (pe_ix (ix_seqG (K := K) rfl) (pv 4) (pv 3) (fun _ _ => rfl)))))))), ?_⟩
    walk_at "g"
    refine ⟨_, _, _, rfl, hD, by omega, by decide, by decide +kernel, fun r H1 r0 r1 D1 K1 => ?_⟩
    obtain ⟨qs, hq1, hql, hqt⟩ := id (hC.keepP hLp hD.at K1)
    rw [List.length_map] at hql
    obtain ⟨r, rfl⟩ := Int.eq_ofNat_of_zero_le r0
    refine g_cutA (M := fun σ' H' => σ' = [some (.ref p), some (.ref L), some (.int (i : Nat)), some (.int (r : Nat)), none] ∧ H' = H1) (fun D' hn1 hrt _ _ => ?_) ?_
    · walk_at "g"
      refine g_dec (fun h13 => ?_) (fun h13 => ?_)
      · walk_at "g"
        refine g_dec (fun h0 => ?_) (fun h0 => ?_)
        · walk_at "g"
          refine ⟨_, _, _, rfl, D1, by omega, by omega, Nat.lt_of_lt_of_le (log_small (by omega)) (by decide), fun j H2 j0 j1 D2 K2 => ?_⟩
          obtain ⟨j, rfl⟩ := Int.eq_ofNat_of_zero_le j0
          have hjl : j < ps.length := by omega
          obtain ⟨c, hc⟩ : ∃ c, ps[j]? = some c := ⟨_, List.getElem?_eq_getElem hjl⟩
          obtain ⟨q, hq⟩ : ∃ q, qs[j]? = some q := ⟨_, List.getElem?_eq_getElem (by omega)⟩
          have hL2 := K2 _ _ hLp hq1
          have hqq := hqt j q (pt c) hq (by rw [List.getElem?_map, hc]; rfl)
          have hq2 := K2 _ _ (fun z => by obtain ⟨xs, hx⟩ := D1.at; rw [z, hx] at hqq; cases hqq) hqq
          refine g_ixL (SqL.of hL2) (v := .ref q) (atI_nat (j := j) (by rw [List.getElem?_map, hq]; rfl)) ?_
          walk_at "g"
          refine g_ixT (SqT.of hq2) (v := .str c.1) (show atI (pt c) 0 = some (.str c.1) from rfl) ?_
          walk_at "g"
          refine ⟨by show 2 ≤ sizeLine; decide, fun t ht => ?_⟩
          rw [hrt]
          exact k (.ref t) (some (c.1, true)) _ (.ok (c := (c.1, true)) upd_same (hnm c (List.mem_of_getElem? hc))) (fun e => by injection e with e; rw [e, hL2] at ht; cases ht) ((D2.new ht).mono (by omega)) ((K1.trans K2).new ((K1.trans K2).back (D2.ne ht) ht))
        · walk_at "g"
          exact hn1 _ _ ⟨rfl, rfl⟩
      · walk_at "g"
        exact hn1 _ _ ⟨rfl, rfl⟩
    · rintro σ' H' ⟨rfl, rfl⟩
      have A0 : AllPt H' L [.non, .str (Str.ofString "up")] := ⟨⟨_, hq1⟩, fun v hv => by
        rcases List.mem_cons.mp hv with rfl | hv
        · exact ⟨(fun e => nomatch e), none, .nos (by decide) .non (by decide) (by decide)⟩
        · rw [List.mem_singleton.mp hv]
          exact ⟨(fun e => nomatch e), none, .nos (by decide) (.str _) (by decide) (by decide)⟩⟩
      have DK0 : PD H' p (n + 1) ∧ Keep p H H' := ⟨D1, K1⟩
      walk_at "g"
      refine ⟨by show 1 ≤ sizeLine; decide, fun q1 hq1 => ?_⟩
      have DK1 : PD (upd H' q1 (.tup [.str (Str.ofString "a")])) p (n + 1) ∧ Keep p H (upd H' q1 (.tup [.str (Str.ofString "a")])) := ⟨DK0.1.new hq1, DK0.2.new (DK0.2.back (DK0.1.ne hq1) hq1)⟩
      have A1 := A0.new (o := (.tup [.str (Str.ofString "a")])) hq1 ⟨_, .len (.inr upd_same) (by decide)⟩
      generalize upd H' q1 (.tup [.str (Str.ofString "a")]) = J1 at DK1 A1 ⊢
      walk_at "g"
      refine ⟨by show 3 ≤ sizeLine; decide, fun q2 hq2 => ?_⟩
      have DK2 : PD (upd J1 q2 (.tup [.str (Str.ofString "a"), .str (Str.ofString "up"), .str (Str.ofString "up")])) p (n + 1) ∧ Keep p H (upd J1 q2 (.tup [.str (Str.ofString "a"), .str (Str.ofString "up"), .str (Str.ofString "up")])) := ⟨DK1.1.new hq2, DK1.2.new (DK1.2.back (DK1.1.ne hq2) hq2)⟩
      have A2 := A1.new (o := (.tup [.str (Str.ofString "a"), .str (Str.ofString "up"), .str (Str.ofString "up")])) hq2 ⟨_, .len (.inr upd_same) (by decide)⟩
      generalize upd J1 q2 (.tup [.str (Str.ofString "a"), .str (Str.ofString "up"), .str (Str.ofString "up")]) = J2 at DK2 A2 ⊢
      walk_at "g"
      refine ⟨by show 2 ≤ sizeLine; decide, fun q3 hq3 => ?_⟩
      have DK3 : PD (upd J2 q3 (.tup [.str (Str.ofString "a"), .str (Str.ofString "Up")])) p (n + 1) ∧ Keep p H (upd J2 q3 (.tup [.str (Str.ofString "a"), .str (Str.ofString "Up")])) := ⟨DK2.1.new hq3, DK2.2.new (DK2.2.back (DK2.1.ne hq3) hq3)⟩
      have A3 := A2.new (o := (.tup [.str (Str.ofString "a"), .str (Str.ofString "Up")])) hq3 ⟨_, .dir upd_same nm_a (.inr ⟨_, rfl, by decide +kernel, by decide +kernel⟩)⟩
      generalize upd J2 q3 (.tup [.str (Str.ofString "a"), .str (Str.ofString "Up")]) = J3 at DK3 A3 ⊢
      walk_at "g"
      refine ⟨by show 2 ≤ sizeLine; decide, fun q4 hq4 => ?_⟩
      have DK4 : PD (upd J3 q4 (.tup [.str (Str.ofString "in"), .str (Str.ofString "up")])) p (n + 1) ∧ Keep p H (upd J3 q4 (.tup [.str (Str.ofString "in"), .str (Str.ofString "up")])) := ⟨DK3.1.new hq4, DK3.2.new (DK3.2.back (DK3.1.ne hq4) hq4)⟩
      have A4 := A3.new (o := (.tup [.str (Str.ofString "in"), .str (Str.ofString "up")])) hq4 ⟨_, .nam upd_same (thS (by decide +kernel)) nm_in⟩
      generalize upd J3 q4 (.tup [.str (Str.ofString "in"), .str (Str.ofString "up")]) = J4 at DK4 A4 ⊢
      walk_at "g"
      refine ⟨by show 2 ≤ sizeLine; decide, fun q5 hq5 => ?_⟩
      have DK5 : PD (upd J4 q5 (.tup [.int 3, .str (Str.ofString "down")])) p (n + 1) ∧ Keep p H (upd J4 q5 (.tup [.int 3, .str (Str.ofString "down")])) := ⟨DK4.1.new hq5, DK4.2.new (DK4.2.back (DK4.1.ne hq5) hq5)⟩
      have A5 := A4.new (o := (.tup [.int 3, .str (Str.ofString "down")])) hq5 ⟨_, .nam upd_same (.inr (.inr (.inl ⟨_, rfl⟩))) rfl⟩
      generalize upd J4 q5 (.tup [.int 3, .str (Str.ofString "down")]) = J5 at DK5 A5 ⊢
      walk_at "g"
      refine ⟨by show 1 ≤ sizeLine; decide, fun q6 hq6 => ?_⟩
      have DK6 : PD (upd J5 q6 (.lst [.str (Str.ofString "a")])) p (n + 1) ∧ Keep p H (upd J5 q6 (.lst [.str (Str.ofString "a")])) := ⟨DK5.1.new hq6, DK5.2.new (DK5.2.back (DK5.1.ne hq6) hq6)⟩
      have A6 := A5.keep (XT.refl.new (o := (.lst [.str (Str.ofString "a")])) hq6)
      have eL : (upd J5 q6 (.lst [.str (Str.ofString "a")])) q6 = some (.lst [.str (Str.ofString "a")]) := upd_same
      generalize upd J5 q6 (.lst [.str (Str.ofString "a")]) = J6 at DK6 A6 eL ⊢
      walk_at "g"
      refine ⟨by show 2 ≤ sizeLine; decide, fun q7 hq7 => ?_⟩
      have DK7 : PD (upd J6 q7 (.tup [.ref q6, .str (Str.ofString "up")])) p (n + 1) ∧ Keep p H (upd J6 q7 (.tup [.ref q6, .str (Str.ofString "up")])) := ⟨DK6.1.new hq7, DK6.2.new (DK6.2.back (DK6.1.ne hq7) hq7)⟩
      have A7 := A6.new (o := (.tup [.ref q6, .str (Str.ofString "up")])) hq7 ⟨_, .nam upd_same (.inr (.inr (.inr (.inr ⟨q6, rfl, .inl ⟨_, by rw [upd_ne (ne_of_none eL hq7)]; exact eL⟩⟩)))) rfl⟩
      generalize upd J6 q7 (.tup [.ref q6, .str (Str.ofString "up")]) = J7 at DK7 A7 ⊢
      walk_at "g"
      refine ⟨by show 2 ≤ sizeLine; decide, fun q8 hq8 => ?_⟩
      have DK8 : PD (upd J7 q8 (.tup [.str (Str.ofString "a"), .bl true])) p (n + 1) ∧ Keep p H (upd J7 q8 (.tup [.str (Str.ofString "a"), .bl true])) := ⟨DK7.1.new hq8, DK7.2.new (DK7.2.back (DK7.1.ne hq8) hq8)⟩
      have A8 := A7.new (o := (.tup [.str (Str.ofString "a"), .bl true])) hq8 ⟨_, .dir upd_same nm_a (.inl ⟨_, rfl⟩)⟩
      generalize upd J7 q8 (.tup [.str (Str.ofString "a"), .bl true]) = J8 at DK8 A8 ⊢
      walk_at "g"
      refine ⟨by show 9 ≤ sizeLine; decide, fun l1 hl1 => ?_⟩
      have vs1 : ∃ vs1 : List V, vs1 = [.non, .str (Str.ofString "up"), .ref q1, .ref q2, .ref q3, .ref q4, .ref q5, .ref q7, .ref q8] := ⟨_, rfl⟩
      obtain ⟨vs1, ev1⟩ := vs1
      have A9 : AllPt J8 L vs1 := by rw [ev1]; exact A8
      have z9 : vs1.length = 9 := by rw [ev1]; rfl
      rw [← ev1]
      have DK9 : PD (upd J8 l1 (.lst vs1)) p (n + 1) ∧ Keep p H (upd J8 l1 (.lst vs1)) := ⟨DK8.1.new hl1, DK8.2.new (DK8.2.back (DK8.1.ne hl1) hl1)⟩
      replace A9 := A9.keep (XT.refl.new (o := .lst vs1) hl1)
      have e9 : (upd J8 l1 (.lst vs1)) l1 = some (.lst vs1) := upd_same
      generalize upd J8 l1 (.lst vs1) = J9 at DK9 A9 e9 ⊢
      walk_at "g"
      have B9 : AllPt J9 L [] := ⟨A9.1, fun v hv => nomatch hv⟩
      refine ⟨by show 2 ≤ sizeLine; decide, fun q10 hq10 => ?_⟩
      have DK10 : PD (upd J9 q10 (.tup [.str (Str.ofString "a b"), .str (Str.ofString "up")])) p (n + 1) ∧ Keep p H (upd J9 q10 (.tup [.str (Str.ofString "a b"), .str (Str.ofString "up")])) := ⟨DK9.1.new hq10, DK9.2.new (DK9.2.back (DK9.1.ne hq10) hq10)⟩
      have A10 := A9.keep (XT.refl.new (o := (.tup [.str (Str.ofString "a b"), .str (Str.ofString "up")])) hq10)
      have e10 : (upd J9 q10 (.tup [.str (Str.ofString "a b"), .str (Str.ofString "up")])) l1 = some (.lst vs1) := by rw [upd_ne (ne_of_none e9 hq10)]; exact e9
      have B10 := B9.new (o := (.tup [.str (Str.ofString "a b"), .str (Str.ofString "up")])) hq10 ⟨_, .nam upd_same (thS (by decide +kernel)) nm_ab⟩
      generalize upd J9 q10 (.tup [.str (Str.ofString "a b"), .str (Str.ofString "up")]) = J10 at DK10 A10 e10 B10 ⊢
      walk_at "g"
      refine ⟨by show 2 ≤ sizeLine; decide, fun q11 hq11 => ?_⟩
      have DK11 : PD (upd J10 q11 (.tup [.str (Str.ofString "abcdefghi"), .str (Str.ofString "down")])) p (n + 1) ∧ Keep p H (upd J10 q11 (.tup [.str (Str.ofString "abcdefghi"), .str (Str.ofString "down")])) := ⟨DK10.1.new hq11, DK10.2.new (DK10.2.back (DK10.1.ne hq11) hq11)⟩
      have A11 := A10.keep (XT.refl.new (o := (.tup [.str (Str.ofString "abcdefghi"), .str (Str.ofString "down")])) hq11)
      have e11 : (upd J10 q11 (.tup [.str (Str.ofString "abcdefghi"), .str (Str.ofString "down")])) l1 = some (.lst vs1) := by rw [upd_ne (ne_of_none e10 hq11)]; exact e10
      have B11 := B10.new (o := (.tup [.str (Str.ofString "abcdefghi"), .str (Str.ofString "down")])) hq11 ⟨_, .nam upd_same (thS (by decide +kernel)) nm_long⟩
      generalize upd J10 q11 (.tup [.str (Str.ofString "abcdefghi"), .str (Str.ofString "down")]) = J11 at DK11 A11 e11 B11 ⊢
      walk_at "g"
      intro q12 hq12
      refine ⟨upd_same, [(Sum.inr (Str.ofString "a"), .str (Str.ofString "up"))], rfl, by decide, ?_⟩
      generalize mergeK [] [((Sum.inr (Str.ofString "a") : Key), V.str (Str.ofString "up"))] = kvo
      rw [upd_twice]
      have DK12 : PD (upd J11 q12 (.dK kvo)) p (n + 1) ∧ Keep p H (upd J11 q12 (.dK kvo)) := ⟨DK11.1.new hq12, DK11.2.new (DK11.2.back (DK11.1.ne hq12) hq12)⟩
      have A12 := A11.keep (XT.refl.new (o := .dK kvo) hq12)
      have e12 : (upd J11 q12 (.dK kvo)) l1 = some (.lst vs1) := by rw [upd_ne (ne_of_none e11 hq12)]; exact e11
      have B12 := B11.new (o := .dK kvo) hq12 ⟨_, .nos (by decide) (.dct upd_same) (by decide) (by decide)⟩
      generalize upd J11 q12 (.dK kvo) = J12 at DK12 A12 e12 B12 ⊢
      walk_at "g"
      refine ⟨by show 2 ≤ sizeLine; decide, fun q13 hq13 => ?_⟩
      have DK13 : PD (upd J12 q13 (.tup [.str (Str.ofString "1a"), .str (Str.ofString "up")])) p (n + 1) ∧ Keep p H (upd J12 q13 (.tup [.str (Str.ofString "1a"), .str (Str.ofString "up")])) := ⟨DK12.1.new hq13, DK12.2.new (DK12.2.back (DK12.1.ne hq13) hq13)⟩
      have A13 := A12.keep (XT.refl.new (o := (.tup [.str (Str.ofString "1a"), .str (Str.ofString "up")])) hq13)
      have e13 : (upd J12 q13 (.tup [.str (Str.ofString "1a"), .str (Str.ofString "up")])) l1 = some (.lst vs1) := by rw [upd_ne (ne_of_none e12 hq13)]; exact e12
      have B13 := B12.new (o := (.tup [.str (Str.ofString "1a"), .str (Str.ofString "up")])) hq13 ⟨_, .nam upd_same (thS (by decide +kernel)) nm_1a⟩
      generalize upd J12 q13 (.tup [.str (Str.ofString "1a"), .str (Str.ofString "up")]) = J13 at DK13 A13 e13 B13 ⊢
      walk_at "g"
      refine ⟨Nat.zero_le _, fun q14 hq14 => ?_⟩
      have DK14 : PD (upd J13 q14 (.lst [])) p (n + 1) ∧ Keep p H (upd J13 q14 (.lst [])) := ⟨DK13.1.new hq14, DK13.2.new (DK13.2.back (DK13.1.ne hq14) hq14)⟩
      have A14 := A13.keep (XT.refl.new (o := (.lst [])) hq14)
      have e14 : (upd J13 q14 (.lst [])) l1 = some (.lst vs1) := by rw [upd_ne (ne_of_none e13 hq14)]; exact e13
      have B14 := B13.new (o := (.lst [])) hq14 ⟨_, .len (.inl upd_same) (by decide)⟩
      generalize upd J13 q14 (.lst []) = J14 at DK14 A14 e14 B14 ⊢
      walk_at "g"
      refine ⟨by show 5 ≤ sizeLine; decide, fun l2 hl2 => ?_⟩
      have vs2 : ∃ vs2 : List V, vs2 = [.ref q10, .ref q11, .ref q12, .ref q13, .ref q14] := ⟨_, rfl⟩
      obtain ⟨vs2, ev2⟩ := vs2
      have B15 : AllPt J14 L vs2 := by rw [ev2]; exact B14
      have z2 : vs2.length = 5 := by rw [ev2]; rfl
      rw [← ev2]
      have DK15 : PD (upd J14 l2 (.lst vs2)) p (n + 1) ∧ Keep p H (upd J14 l2 (.lst vs2)) := ⟨DK14.1.new hl2, DK14.2.new (DK14.2.back (DK14.1.ne hl2) hl2)⟩
      have A15 := A14.keep (XT.refl.new (o := .lst vs2) hl2)
      replace B15 := B15.keep (XT.refl.new (o := .lst vs2) hl2)
      have e15 : (upd J14 l2 (.lst vs2)) l1 = some (.lst vs1) := by rw [upd_ne (ne_of_none e14 hl2)]; exact e14
      have f15 : (upd J14 l2 (.lst vs2)) l2 = some (.lst vs2) := upd_same
      generalize upd J14 l2 (.lst vs2) = J15 at DK15 A15 e15 B15 f15 ⊢
      refine .inr (.inr ⟨l1, l2, vs1, vs2, rfl, rfl, e15, f15, by rw [z9, z2, sizeLine_eq]; decide, fun l3 hl3 => ?_⟩)
      have DK16 : PD (upd J15 l3 (.lst (vs1 ++ vs2))) p (n + 1) ∧ Keep p H (upd J15 l3 (.lst (vs1 ++ vs2))) := ⟨DK15.1.new hl3, DK15.2.new (DK15.2.back (DK15.1.ne hl3) hl3)⟩
      have A16 := A15.keep (XT.refl.new (o := .lst (vs1 ++ vs2)) hl3)
      have B16 := B15.keep (XT.refl.new (o := .lst (vs1 ++ vs2)) hl3)
      have e16 : (upd J15 l3 (.lst (vs1 ++ vs2))) l3 = some (.lst (vs1 ++ vs2)) := upd_same
      generalize upd J15 l3 (.lst (vs1 ++ vs2)) = J16 at DK16 A16 e16 B16 ⊢
      walk_at "g"
      have hrl : r < (vs1 ++ vs2).length := by rw [List.length_append, z9, z2]; omega
      obtain ⟨v, hv⟩ : ∃ v, (vs1 ++ vs2)[r]? = some v := ⟨_, List.getElem?_eq_getElem hrl⟩
      have hvm : v ∈ vs1 ++ vs2 := List.mem_of_getElem? hv
      obtain ⟨hvL, ro, hro⟩ : v ≠ .ref L ∧ ∃ ro, PtAt J16 v ro := (List.mem_append.mp hvm).elim (fun h => A16.2 v h) fun h => B16.2 v h
      refine g_ixL (SqL.of e16) (v := v) (atI_nat (j := r) hv) ?_
      walk_at "g"
      exact k v ro _ hro hvL (DK16.1.mono (by omega)) DK16.2
end
def spLaw (K : PySem.W.Frag) : Sp := fun vs H Q _ => ∃ (a : Addr) (ns : List Int), vs = [.ref a] ∧ SqL K H a (ns.map V.int) ∧ ns.length ≤ 63 ∧ ∀ H', Q (.bl true) H'
/-! the law -/
theorem strs_new {ps : List (Str × Bool)} {ys : List V} (hl : ys.length = ps.length) (h : ∀ (i : Nat) (y : V), ys[i]? = some y → ∃ c, ps[i]? = some c ∧ y = .str c.1) : ys = (ps.map (·.1)).map V.str := by
  refine List.ext_getElem (by rw [hl, List.length_map, List.length_map]) fun i h1 h2 => ?_
  obtain ⟨c, hc, e⟩ := h i ys[i] (List.getElem?_eq_getElem h1)
  rw [e, List.getElem_map, List.getElem_map]
  obtain ⟨h3, h4⟩ := List.getElem?_eq_some_iff.mp hc
  rw [h4]
theorem strs_newC {ps : List Col} {ys : List V} (hl : ys.length = ps.length) (h : ∀ (i : Nat) (y : V), ys[i]? = some y → ∃ c, ps[i]? = some c ∧ y = .str c.1) : ys = (ps.map (·.1)).map V.str := by
  refine List.ext_getElem (by rw [hl, List.length_map, List.length_map]) fun i h1 h2 => ?_
  obtain ⟨c, hc, e⟩ := h i ys[i] (List.getElem?_eq_getElem h1)
  rw [e, List.getElem_map, List.getElem_map]
  obtain ⟨h3, h4⟩ := List.getElem?_eq_some_iff.mp hc
  rw [h4]
theorem PD.xt {H H' : Hp} {p : Addr} {n : Nat} (D : PD H p n) (k : XT H H') : PD H' p n := by
  obtain ⟨a, b, c, e, r⟩ := D
  exact ⟨a, b, c, k _ _ e, r⟩
theorem PtAt.setL {H : Hp} {L : Addr} {xs ys : List V} {v : V} {r : Option (Str × Bool)} (hL : H L = some (.lst xs)) (hv : v ≠ .ref L) (h : PtAt H v r) : PtAt (upd H L (.lst ys)) v r := by
  have kt : ∀ {p : Addr} {zs : List V}, H p = some (.tup zs) → (upd H L (.lst ys)) p = some (.tup zs) := fun {p zs} h => by
    rw [upd_ne (fun e => by rw [e, hL] at h; cases h)]; exact h
  cases h with
  | nos hT ty n m =>
    refine .nos hT ?_ n m
    cases ty with
    | non => exact .non
    | bl b => exact .bl b
    | int i => exact .int i
    | str z => exact .str z
    | lst h => exact absurd rfl n
    | tup h => exact absurd rfl m
    | dct h => exact .dct (by rw [upd_ne (fun e => by rw [e, hL] at h; cases h)]; exact h)
  | len hp n =>
    refine .len ?_ n
    have hne : ∀ {p : Addr}, V.ref p ≠ .ref L → p ≠ L := fun h e => h (by rw [e])
    rcases hp with h | h
    · exact .inl (by rw [upd_ne (hne hv)]; exact h)
    · exact .inr (kt h)
  | nam h hx n =>
    refine .nam (kt h) ?_ n
    rcases hx with e | e | e | e | ⟨q, e, hq⟩
    · exact .inl e
    · exact .inr (.inl e)
    · exact .inr (.inr (.inl e))
    · exact .inr (.inr (.inr (.inl e)))
    · refine .inr (.inr (.inr (.inr ⟨q, e, ?_⟩)))
      by_cases e2 : q = L
      · rw [e2]; exact .inl ⟨_, upd_same⟩
      · rcases hq with ⟨zs, h⟩ | ⟨zs, h⟩ | ⟨zs, h⟩
        · exact .inl ⟨zs, by rw [upd_ne e2]; exact h⟩
        · exact .inr (.inl ⟨zs, by rw [upd_ne e2]; exact h⟩)
        · exact .inr (.inr ⟨zs, by rw [upd_ne e2]; exact h⟩)
  | dir h hz hy => exact .dir (kt h) hz hy
  | ok h hz => exact .ok (kt h) hz
/-- the parts as they stand in the list -/
def PsAt (H : Hp) (L : Addr) (vs : List V) : Prop := H L = some (.lst vs) ∧ ∃ rs : List (Option (Str × Bool)), vs.length = rs.length ∧ ∀ (i : Nat) x r, vs[i]? = some x → rs[i]? = some r → PtAt H x r
theorem PsAt.keep {H H' : Hp} {L : Addr} {vs : List V} (h : PsAt H L vs) (k : XT H H') : PsAt H' L vs := by
  obtain ⟨h1, rs, h2, h3⟩ := h
  exact ⟨k _ _ h1, rs, h2, fun i x r hx hr => (h3 i x r hx hr).keep k⟩
theorem due_len3 {rs : List (Option (Str × Bool))} (h : dueF (some rs) = none) : rs.length ≤ 3 := by
  by_cases hl : rs.length < 1 ∨ 3 < rs.length
  · rw [due_bad hl] at h; cases h
  · omega
theorem flat_same {K : PySem.W.Frag} {H H0 : Hp} {vs : List V} {rs : List (Option (Str × Bool))} (hl : vs.length = rs.length) (h : ∀ (i : Nat) x r, vs[i]? = some x → rs[i]? = some r → PtAt H x r) : Paired (EqV K H0 1) vs vs := by
  have key : ∀ ws : List V, (∀ v ∈ ws, ∃ r, PtAt H v r) → Paired (EqV K H0 1) ws ws := by
    intro ws
    induction ws with
    | nil => exact fun _ => .nil
    | cons v r ih =>
      intro h
      refine .cons ?_ (ih fun u hu => h u (List.mem_cons_of_mem _ hu))
      obtain ⟨ro, hr⟩ := h v List.mem_cons_self
      cases hr with
      | nos hT ty n m =>
        cases ty with
        | non => exact .inl ⟨rfl, rfl⟩
        | bl b => exact .inl ⟨rfl, rfl⟩
        | int i => exact .inl ⟨rfl, rfl⟩
        | str z => exact .inl ⟨rfl, rfl⟩
        | lst h => exact .inr (.inl ⟨_, rfl, rfl⟩)
        | tup h => exact .inr (.inl ⟨_, rfl, rfl⟩)
        | dct h => exact .inr (.inl ⟨_, rfl, rfl⟩)
      | len h n => exact .inr (.inl ⟨_, rfl, rfl⟩)
      | nam h hx n => exact .inr (.inl ⟨_, rfl, rfl⟩)
      | dir h hz hy => exact .inr (.inl ⟨_, rfl, rfl⟩)
      | ok h hz => exact .inr (.inl ⟨_, rfl, rfl⟩)
  refine key vs fun v hv => ?_
  obtain ⟨i, hi⟩ := List.getElem?_of_mem hv
  have hil := (List.getElem?_eq_some_iff.mp hi).1
  exact ⟨_, h i v _ hi (List.getElem?_eq_getElem (by omega))⟩
theorem ixN_nat {n j : Nat} (h : j < n) : ixN n (j : Int) = some j := by
  unfold ixN
  rw [if_pos (by omega), if_pos (by omega), Int.toNat_natCast]
theorem ShapeAt.keepP {C x p : Addr} {H H' : Hp} {cs : List Col} (h : ShapeAt C H cs x) (hp : ∃ xs, H p = some (.lst xs)) (k : Keep p H H') : ShapeAt C H' cs x := by
  obtain ⟨xs, e⟩ := hp
  obtain ⟨dx, fs, D, kvs, h1, h2, h3, h4⟩ := h
  exact ⟨dx, fs, D, kvs, k _ _ (fun z => by rw [z, e] at h1; cases h1) h1, h2, k _ _ (fun z => by rw [z, e] at h3; cases h3) h3, h4⟩
theorem PsAt.th {H : Hp} {L q : Addr} {vs : List V} (h : PsAt H L vs) (e : H q = some (.lst vs) ∨ H q = some (.tup vs)) : ∃ d, ThAt H (.ref q) d := by
  obtain ⟨h1, rs, h2, h3⟩ := h
  exact ⟨some rs, .seq e h2 h3⟩
section
variable {P : Program} {w : World} {K : PySem.W.Frag} {mg : Str → Option Value} {base : Heap}
theorem ok_law (T : Txt K mg) {f : Addr} {fd : FuncData} (F : Fun K "law" "law" S_law f fd) : FnOk P w K mg base CX0 7 f fd ["_law_script"] (spLaw K) := by
  refine Fun.okM F sc_law (fun vs H Q E h => ?_) (fun cdv A outer s H vs Q E hr h => ?_)
  · obtain ⟨a, ns, rfl, _⟩ := h
    rfl
  · obtain ⟨a, ns, rfl, hS, hlen, k⟩ := h
    refine ⟨_, (pss_cons (ps_set (i := 1) sc_law.nd rfl (Or.inr rfl) (pe_def (ok__law_pool T) hr rfl (pa_cons (pv 0) (pa_cons pe_int pa_nil))))
  (pss_cons (ps_set (i := 2) sc_law.nd rfl (Or.inl rfl) (pe_def (ok__law_draw T) hr rfl (pa_cons (pv 1) (pa_cons pe_int pa_nil))))
  (pss_cons (ps_set (i := 3) sc_law.nd rfl (Or.inl rfl) (pe_cmpR op_eq (pe_def (ok__law_draw T) hr rfl (pa_cons (pv 1) (pa_cons pe_int pa_nil))) pe_int (nomark _)))
  (pss_cons (ps_set (i := 4) sc_law.nd rfl (Or.inl rfl) (pe_lst pa_nil))
  (pss_cons (ps_for PassesOwn.never rfl (pi_range1 rfl T.h_range (pa_cons (pe_def (ok__law_draw T) hr rfl (pa_cons (pv 1) (pa_cons pe_int pa_nil))) pa_nil)) (pg_name (i := 5) sc_law.nd rfl (Or.inl rfl))
  (pss_cons (ps_set (i := 6) sc_law.nd rfl (Or.inl rfl) (pe_def (ok__law_name T) hr rfl (pa_cons (pv 1) (pa_cons (pe_lc (own := [("_law_part", 14)]) rfl sc_law.nd (pi_list (pv 4)) (blkOk_by (N := N_law) (sc := defScope S_law) (by decide +kernel)) (fun _ _ _ _ _ => pg_name (i := 14) sc_law.nd rfl (Or.inl rfl)) (fun _ _ _ _ _ => pts_nil) (fun _ _ _ _ _ => (pe_ix (ix_seqG (K := K) rfl) (pv 14) pe_int (fun _ _ => rfl)))) pa_nil))))
  (pss_one (ps_expr (pe_bm PySem.F.plainAttrs_list PySem.F.slot_list_append PySem.F.type_list_append mt_append (pv 4) (pa_cons (pe_tup (pa_cons (pv 6) (pa_cons (pe_ix (ix_seqG (K := K) rfl) (pe_lst (pa_cons pe_str (pa_cons pe_str pa_nil))) (pe_def (ok__law_draw T) hr rfl (pa_cons (pv 1) (pa_cons pe_int pa_nil))) (fun _ _ => rfl)) pa_nil))) pa_nil))))))
  (pss_cons (ps_setLc (i := 7) (own := [("_law_part", 14)]) rfl sc_law.nd rfl rfl (sw_true rfl rfl rfl (by decide +kernel)) (pi_list (pv 4)) (blkOk_by (N := N_law) (sc := defScope S_law) (by decide +kernel)) (fun _ _ _ _ _ => pg_name (i := 14) sc_law.nd rfl (Or.inl rfl)) (fun _ _ _ _ _ => pts_one (pt_cmpR op_gtG (pe_def (ok__law_draw T) hr rfl (pa_cons (pv 1) (pa_cons pe_int pa_nil))) pe_int (nomark _))) (fun _ _ _ _ _ => (pe_tup (pa_cons (pe_ix (ix_seqG (K := K) rfl) (pv 14) pe_int (fun _ _ => rfl)) (pa_cons pe_str (pa_cons pe_bl pa_nil))))))
  (pss_cons (ps_set (i := 8) sc_law.nd rfl (Or.inl rfl) (pe_def (ok__law_name T) hr rfl (pa_cons (pv 1) (pa_cons (pe_lc (own := [("_law_part", 14)]) rfl sc_law.nd (pi_list (pv 4)) (blkOk_by (N := N_law) (sc := defScope S_law) (by decide +kernel)) (fun _ _ _ _ _ => pg_name (i := 14) sc_law.nd rfl (Or.inl rfl)) (fun _ _ _ _ _ => pts_nil) (fun _ _ _ _ _ => (pe_ix (ix_seqG (K := K) rfl) (pv 14) pe_int (fun _ _ => rfl)))) pa_nil))))
  (pss_cons (ps_expr (pe_bm PySem.F.plainAttrs_list PySem.F.slot_list_append PySem.F.type_list_append mt_append (pv 7) (pa_cons (pe_tup (pa_cons (pv 8) (pa_cons pe_str (pa_cons pe_bl pa_nil)))) pa_nil)))
  (pss_cons (ps_set (i := 9) sc_law.nd rfl (Or.inl rfl) (pe_newD (K := K) rfl (ok_Shape_init T) hr rfl T.e_Shape (pa_cons (pv 7) pa_nil)))
  (Evl.pss_cut (ps_if (PW.pt (pw_and (pt_cmpR op_gtG (pv 2) pe_int (nomark _)) (pw_and1 (pt_cmpR op_gtG (pe_callB (call_lenG (K := K) rfl) (by rfl) T.h_len (by decide +kernel) (pa_cons (pv 4) pa_nil)) pe_int (nomark _)))))
  (pss_cons (ps_set (i := 10) sc_law.nd rfl (Or.inl rfl) (pe_def (ok__law_draw T) hr rfl (pa_cons (pv 1) (pa_cons (pe_callB (call_lenG (K := K) rfl) (by rfl) T.h_len (by decide +kernel) (pa_cons (pv 4) pa_nil)) pa_nil))))
  (pss_one (ps_asg (pe_def (ok__law_odd T) hr rfl (pa_cons (pv 1) (pa_cons (pv 4) (pa_cons (pv 10) pa_nil)))) (pg_sub (pv 4) (pv 10) set_list))))
  pss_nil)
  (pss_cons (ps_set (i := 11) sc_law.nd rfl (Or.inl rfl) (pe_callTy (call_listG (K := K) rfl) (by rfl) T.h_list (by decide +kernel) (pa_cons (pv 4) pa_nil)))
  (Evl.pss_cut (ps_if (pt_val (pv 3))
  (pss_one (ps_set (i := 11) sc_law.nd rfl (Or.inl rfl) (pe_callTy (call_tupleG (K := K) rfl) (by rfl) T.h_tuple (by decide +kernel) (pa_cons (pv 4) pa_nil))))
  pss_nil)
  (Evl.pss_cut (ps_if (pt_cmpR op_eq (pv 2) pe_int (nomark _))
  (pss_one (ps_set (i := 11) sc_law.nd rfl (Or.inl rfl) (pe_ix (ix_seqG (K := K) rfl) (pe_lst (pa_cons pe_non (pa_cons pe_str (pa_cons pe_int (pa_cons (pe_disp (pps_cons pe_str pe_str pps_nil) (by rfl) (by rfl) (fun z => by cases z) (by decide)) (pa_cons pe_bl pa_nil)))))) (pe_def (ok__law_draw T) hr rfl (pa_cons (pv 1) (pa_cons pe_int pa_nil))) (fun _ _ => rfl))))
  pss_nil)
  (pss_cons (ps_set (i := 12) sc_law.nd rfl (Or.inl rfl) (pe_def (ok__law_fault T) hr rfl (pa_cons (pv 11) pa_nil)))
  (pss_cons (ps_if (pt_not (pt_val (pe_def (ok__law_right T) hr rfl (pa_cons (pe_def (ok__law_said T) hr rfl (pa_cons pe_non (pa_cons (pv 11) pa_nil))) (pa_cons (pv 12) (pa_cons (pv 11) pa_nil))))))
  (pss_one (ps_ret pe_bl))
  pss_nil)
  (Evl.pss_cut (ps_if (pt_cmpR op_isNG (pv 12) pe_non (nomark _))
  (pss_cons (ps_setLc (i := 13) (own := [("_law_column", 15)]) rfl sc_law.nd rfl rfl (sw_true rfl rfl rfl (by decide +kernel)) (pi_list (pv 7)) (blkOk_by (N := N_law) (sc := defScope S_law) (by decide +kernel)) (fun _ _ _ _ _ => pg_name (i := 15) sc_law.nd rfl (Or.inl rfl)) (fun _ _ _ _ _ => pts_nil) (fun _ _ _ _ _ => (pe_ix (ix_seqG (K := K) rfl) (pv 15) pe_int (fun _ _ => rfl))))
  (pss_one (ps_for PassesOwn.never rfl (pi_range1 rfl T.h_range (pa_cons (pe_callB (call_lenG (K := K) rfl) (by rfl) T.h_len (by decide +kernel) (pa_cons (pv 11) pa_nil)) pa_nil)) (pg_name (i := 10) sc_law.nd rfl (Or.inl rfl))
  (pss_one (ps_if (PW.pt (pw_and (pt_cmpR op_isNG (pv 12) pe_non (nomark _)) (pw_and1 (pt_cmpR (op_notInG (K := K) rfl) (pe_ix (ix_seqG (K := K) rfl) (pe_ix (ix_seqG (K := K) rfl) (pv 11) (pv 10) (fun _ _ => rfl)) pe_int (fun _ _ => rfl)) (pv 13) (by rfl)))))
  (pss_one (ps_set (i := 12) sc_law.nd rfl (Or.inl rfl) (pv 10)))
  pss_nil)))))
  pss_nil)
  (pss_cons (ps_if (pt_not (pt_val (pe_def (ok__law_right T) hr rfl (pa_cons (pe_def (ok__law_said T) hr rfl (pa_cons (pv 9) (pa_cons (pv 11) pa_nil))) (pa_cons (pv 12) (pa_cons (pv 11) pa_nil))))))
  (pss_one (ps_ret pe_bl))
  pss_nil)
  (pss_one (ps_ret (pe_or (pe_cmpR op_eq (pv 2) pe_int (nomark _)) (pe_one (pe_cmpR (op_eqVu (K := K) rfl (hu64_of hr)) (pe_callTy (call_listG (K := K) rfl) (by rfl) T.h_list (by decide +kernel) (pa_cons (pv 11) pa_nil)) (pv 4) (nomark _))))))))))))))))))))))), ?_⟩
    walk_at "g"
    refine ⟨a, ns, 0, rfl, hS, hlen, by decide, fun p H1 hp S1 D0 => ?_⟩
    walk_at "g"
    refine ⟨p, 8, 200000, rfl, D0, by decide, by decide, by decide, fun r1 H2 r10 r11 D1 K1 => ?_⟩
    walk_at "g"
    refine ⟨p, 2, _, rfl, D1, by decide, by decide, by decide, fun r2 H3 r20 r21 D2 K2 => ?_⟩
    walk_at "g"
    generalize decide (r2 = 1) = tp
    refine ⟨Nat.zero_le _, fun L hL => ?_⟩
    have nL := D2.ne hL
    have D3 := D2.new (o := .lst []) hL
    have e3 : LAt (upd H3 L (.lst [])) L (([] : List (Str × Bool)).map pt) := ⟨[], upd_same, rfl, fun i q t h => by simp at h⟩
    generalize upd H3 L (.lst []) = H4 at D3 e3
    clear D0 D1 D2 S1 K1 K2 hp
    walk_at "g"
    refine ⟨p, 5, _, rfl, D3, by decide, by decide, by decide, fun m H5 m0 m1 D4 K4 => ?_⟩
    have e4 := e3.keepP nL D3.at K4
    walk_at "g"
    refine ⟨_, rfl, by omega, by omega, ?_⟩
    refine for_rangeA (fun i σ' H' => ∃ (s5 s6 : Option V) (ps : List (Str × Bool)), σ' = [some (.ref a), some (.ref p), some (.int r1), some (.bl tp), some (.ref L), s5, s6, none, none, none, none, none, none, none, none, none] ∧ PD H' p (200003 + 30 * i) ∧ LAt H' L (ps.map pt) ∧ ps.length = i ∧ (∀ c ∈ ps, nameP c.1) ∧ (ps.map (·.1)).Nodup) ⟨none, none, [], rfl, D4, e4, rfl, fun c hc => (nomatch hc), List.nodup_nil⟩ ?_ ?_
    · rintro i σ' H6 D' hi ⟨s5, s6, ps, rfl, D6, hC6, rfl, hnm, hnd⟩ hnx hct hbk hrt
      obtain ⟨qs, hq6, hlen6, hcol⟩ := id hC6
      rw [List.length_map] at hlen6
      walk_at "g"
      refine ⟨L, rfl, ⟨_, SqL.of hq6⟩, fun Do hDo => ?_⟩
      refine lc_new (qs.map V.ref) (fun i y _ => ∃ c, ps[i]? = some c ∧ y = .str c.1) hDo (fun H2 k2 => fits_l (SqL.of (k2 _ _ hq6))) (by rw [List.length_map]; omega) (fun i y Ha Hb _ h _ => h) ?_ ?_
      · intro j x Hh R S hx kh _ hR
        rw [List.getElem?_map] at hx
        obtain ⟨q, hqj, rfl⟩ := Option.map_eq_some_iff.mp hx
        have hjl : j < ps.length := by
          have := (List.getElem?_eq_some_iff.mp hqj).1
          omega
        obtain ⟨c, hc⟩ : ∃ c, ps[j]? = some c := ⟨_, List.getElem?_eq_getElem hjl⟩
        have et := kh _ _ (hcol j q (pt c) hqj (by rw [List.getElem?_map, hc]; rfl))
        walk_at "g"
        refine ⟨rfl, ?_⟩
        walk_at "g"
        refine g_ixT (SqT.of et) (v := .str c.1) (show atI (pt c) 0 = some (.str c.1) from rfl) ?_
        exact hR _ _ (fun q o h => h) ⟨c, hc, rfl⟩
      · intro H7 ys x7 h7 hyl hys
        obtain rfl : ys = (ps.map (·.1)).map V.str := strs_new (by rw [hyl, List.length_map, hlen6]) hys
        have D7 := D6.xt x7
        have hDp : Do ≠ p := D6.ne hDo
        have hC7 := hC6.keep x7
        walk_at "g"
        refine ⟨p, Do, ps.map (·.1), _, rfl, D7, by omega, hDp, h7, by rw [List.length_map]; omega, fun z H8 hz hnot D8 K8 => ?_⟩
        have hC8 := hC7.keepP nL D7.at K8
        obtain ⟨qs8, hq8, _⟩ := id hC8
        walk_at "g"
        refine ⟨by show 2 ≤ sizeLine; decide, fun l hl => ?_⟩
        have nl := D8.ne hl
        have D9 := D8.new (o := .lst [.str (dS true), .str (dS false)]) hl
        have hC9 := hC8.keep (XT.refl.new (o := .lst [.str (dS true), .str (dS false)]) hl)
        have e9 : (upd H8 l (.lst [.str (dS true), .str (dS false)])) l = some (.lst [.str (dS true), .str (dS false)]) := upd_same
        have e0 : upd H8 l (.lst [.str (Str.ofString "up"), .str (Str.ofString "down")]) = upd H8 l (.lst [.str (dS true), .str (dS false)]) := rfl
        rw [e0]
        generalize upd H8 l (.lst [.str (dS true), .str (dS false)]) = H9 at D9 hC9 e9
        walk_at "g"
        refine ⟨p, 2, _, rfl, D9, by omega, by decide, by decide, fun r3 H10 r30 r31 D10 K10 => ?_⟩
        obtain ⟨up, ek⟩ : ∃ up : Bool, atI [V.str (dS true), V.str (dS false)] r3 = some (.str (dS up)) := by
          have : r3 = 0 ∨ r3 = 1 := by omega
          rcases this with rfl | rfl
          · exact ⟨true, rfl⟩
          · exact ⟨false, rfl⟩
        refine g_ixL (SqL.of (K10 _ _ nl e9)) ek ?_
        have hC10 := hC9.keepP nL D9.at K10
        walk_at "g"
        refine ⟨by show 2 ≤ sizeLine; decide, fun t ht => ?_⟩
        obtain ⟨qs10, hq10, hlen10, _⟩ := id hC10
        rw [List.length_map] at hlen10
        have hpl5 : ps.length < 5 := by omega
        have nt : L ≠ t := ne_of_none hq10 ht
        walk_at "g"
        refine hnx _ _ ⟨_, _, ps ++ [(z, up)], rfl, ((D10.new ht).other nL).mono (by omega), ?_, by rw [List.length_append]; rfl, fun c hc => ?_, ?_⟩
        · have := hC10.app (x := pt (z, up)) hq10 ht
          rw [List.map_append]
          exact this
        · rcases List.mem_append.mp hc with hc | hc
          · exact hnm c hc
          · rw [List.mem_singleton.mp hc]; exact hz
        · rw [List.map_append]
          refine List.nodup_append.mpr ⟨hnd, List.nodup_cons.mpr ⟨fun h => (nomatch h), List.nodup_nil⟩, fun u hu v hv e => ?_⟩
          rw [List.mem_singleton.mp hv] at e
          have e' : u = z := e
          exact hnot (by rw [← e']; exact hu)
    · rintro σ' H6 ⟨s5, s6, ps, rfl, D6, hC6, hpl, hnm, hnd⟩
      have hpl4 : ps.length ≤ 4 := by omega
      replace D6 := D6.mono (m := 200200) (by omega)
      obtain ⟨qs, hq6, hlen6, hcol⟩ := id hC6
      rw [List.length_map] at hlen6
      walk_at "g"
      refine ⟨L, rfl, ⟨_, SqL.of hq6⟩, fun Dc hDc => ?_⟩
      have nDc : Dc ≠ p := D6.ne hDc
      have nLD : L ≠ Dc := ne_of_none hq6 hDc
      refine lc_inv (qs.map V.ref) (fun i acc H' => ∃ (cs : List Col) (ks : List Addr), acc = ks.map V.ref ∧ LAt H' Dc (cs.map ct) ∧ H' Dc = some (.lst (ks.map V.ref)) ∧ PD H' p (200200 + i) ∧ LAt H' L (ps.map pt) ∧ H' L = some (.lst (qs.map V.ref)) ∧ cs.length ≤ i ∧ ks.length = cs.length ∧ (cs.map (·.1)).Sublist ((ps.take i).map (·.1))) ⟨[], [], rfl, ⟨[], upd_same, rfl, fun i q t h => by simp at h⟩, upd_same, D6.new hDc, hC6.keep (XT.refl.new hDc), by rw [upd_ne nLD]; exact hq6, Nat.le_refl _, rfl, List.Sublist.refl _⟩ ?_ (by rw [List.length_map]; omega) ?_ ?_ ?_
      · rintro i acc H' ⟨cs, ks, rfl, h1, h2, h3, h4, h5, _⟩
        exact fits_l (SqL.of h5)
      · rintro i acc H' ⟨cs, ks, rfl, h1, h2, h3, h4, h5, h6, h7, h8⟩
        exact ⟨h2, by rw [List.length_map]; omega⟩
      · rintro i acc x Hh R S hx ⟨cs, ks, rfl, h1, h2, h3, h4, h5, h6, h7, h8⟩ hR hS
        rw [List.getElem?_map] at hx
        obtain ⟨q, hqi, rfl⟩ := Option.map_eq_some_iff.mp hx
        have hil : i < ps.length := by
          have := (List.getElem?_eq_some_iff.mp hqi).1
          omega
        obtain ⟨c, hc⟩ : ∃ c, ps[i]? = some c := ⟨_, List.getElem?_eq_getElem hil⟩
        have etk : (ps.take (i + 1)).map (·.1) = (ps.take i).map (·.1) ++ [c.1] := by rw [List.take_succ, hc, List.map_append]; rfl
        walk_at "g"
        refine ⟨rfl, ?_⟩
        walk_at "g"
        refine ⟨p, 4, _, rfl, h3, by omega, by decide, by decide, fun r3 H3 r30 r31 D3 K3 => ?_⟩
        have g1 := h1.keepP nDc h3.at K3
        have g2 := K3 _ _ nDc h2
        have g4 := h4.keepP nL h3.at K3
        have g5 := K3 _ _ nL h5
        walk_at "g"
        refine g_dec (fun hpos => ?_) (fun hpos => ?_)
        · have eq := (g4.get g5).2 i q (pt c) hqi (by rw [List.getElem?_map, hc]; rfl)
          walk_at "g"
          refine g_ixT (SqT.of eq) (v := .str c.1) (show atI (pt c) 0 = some (.str c.1) from rfl) ?_
          walk_at "g"
          refine ⟨by show 3 ≤ sizeLine; decide, fun t ht => ?_⟩
          have nDt : Dc ≠ t := ne_of_none g2 ht
          have eT : upd H3 t (.tup [.str c.1, .str (Str.ofString "text"), .bl false]) = upd H3 t (.tup (ct (c.1, true, false))) := rfl
          rw [eT]
          refine hR _ _ (by rw [upd_ne nDt]; exact g2) ⟨cs ++ [(c.1, true, false)], ks ++ [t], by rw [List.map_append]; rfl, ?_, by rw [upd_same, List.map_append]; rfl, ((D3.new ht).other nDc).mono (by omega), ?_, ?_, by rw [List.length_append]; show _ + 1 ≤ _; omega, by rw [List.length_append, List.length_append, h7]; rfl, ?_⟩
          · rw [List.map_append]
            exact g1.app (x := ct (c.1, true, false)) g2 ht
          · refine (g4.keep (XT.refl.new (o := .tup (ct (c.1, true, false))) ht)).keepP nLD ⟨_, by rw [upd_ne nDt]; exact g2⟩ fun q o nq h => by rw [upd_ne nq]; exact h
          · rw [upd_ne nLD, upd_ne (ne_of_none g5 ht)]; exact g5
          · rw [List.map_append, etk]
            exact List.Sublist.append h8 (List.Sublist.refl _)
        · exact hS _ ⟨cs, ks, rfl, g1, g2, D3.mono (by omega), g4, g5, by omega, h7, by rw [etk]; exact h8.trans (List.sublist_append_left _ _)⟩
      · rintro acc H7 ⟨cs, ks, rfl, hC7, hDc7, D7, hL7, hq7, hcl, hkl, hsub⟩
        rw [List.length_map, hlen6, List.take_length] at hsub
        rw [List.length_map, hlen6] at hcl
        replace D7 := D7.mono (m := 200300) (by rw [List.length_map]; omega)
        clear hq6 D6 hC6 hDc
        walk_at "g"
        refine ⟨L, rfl, ⟨_, SqL.of hq7⟩, fun Do hDo => ?_⟩
        refine lc_new (qs.map V.ref) (fun i y _ => ∃ c, ps[i]? = some c ∧ y = .str c.1) hDo (fun H2 k2 => fits_l (SqL.of (k2 _ _ hq7))) (by rw [List.length_map]; omega) (fun i y Ha Hb _ h _ => h) ?_ ?_
        · intro j x Hh R S hx kh _ hR
          rw [List.getElem?_map] at hx
          obtain ⟨q, hqj, rfl⟩ := Option.map_eq_some_iff.mp hx
          have hjl : j < ps.length := by
            have := (List.getElem?_eq_some_iff.mp hqj).1
            omega
          obtain ⟨c, hc⟩ : ∃ c, ps[j]? = some c := ⟨_, List.getElem?_eq_getElem hjl⟩
          have et := kh _ _ ((hL7.get hq7).2 j q (pt c) hqj (by rw [List.getElem?_map, hc]; rfl))
          walk_at "g"
          refine ⟨rfl, ?_⟩
          walk_at "g"
          refine g_ixT (SqT.of et) (v := .str c.1) (show atI (pt c) 0 = some (.str c.1) from rfl) ?_
          exact hR _ _ (fun q o h => h) ⟨c, hc, rfl⟩
        · intro H8 ys x8 h8 hyl hys
          obtain rfl : ys = (ps.map (·.1)).map V.str := strs_new (by rw [hyl, List.length_map, hlen6]) hys
          have D8 := D7.xt x8
          have hDp : Do ≠ p := D7.ne hDo
          walk_at "g"
          refine ⟨p, Do, ps.map (·.1), _, rfl, D8, by omega, hDp, h8, by rw [List.length_map]; omega, fun z H9 hz hnot D9 K9 => ?_⟩
          have hC9 := (hC7.keep x8).keepP nDc D8.at K9
          have hL9 := (hL7.keep x8).keepP nL D8.at K9
          have hq9 := K9 _ _ nL (x8 _ _ hq7)
          have hDc9 := K9 _ _ nDc (x8 _ _ hDc7)
          have hkl4 : ks.length ≤ 4 := by omega
          walk_at "g"
          refine ⟨by show 3 ≤ sizeLine; decide, fun t ht => ?_⟩
          have nDt : Dc ≠ t := ne_of_none hDc9 ht
          walk_at "g"
          have eT : upd H9 t (.tup [.str z, .str (Str.ofString "number"), .bl true]) = upd H9 t (.tup (ct (z, false, true))) := rfl
          rw [eT]
          have hC10 : LAt (upd (upd H9 t (.tup (ct (z, false, true)))) Dc (.lst (ks.map V.ref ++ [.ref t]))) Dc ((cs ++ [(z, false, true)]).map ct) := by
            rw [List.map_append]
            exact hC9.app (x := ct (z, false, true)) hDc9 ht
          have D10 : PD (upd (upd H9 t (.tup (ct (z, false, true)))) Dc (.lst (ks.map V.ref ++ [.ref t]))) p 200400 := ((D9.new ht).other nDc).mono (by omega)
          have hL10 : LAt (upd (upd H9 t (.tup (ct (z, false, true)))) Dc (.lst (ks.map V.ref ++ [.ref t]))) L (ps.map pt) := (hL9.keep (XT.refl.new (o := .tup (ct (z, false, true))) ht)).keepP nLD ⟨_, by rw [upd_ne nDt]; exact hDc9⟩ fun q o nq h => by rw [upd_ne nq]; exact h
          have hq10 : (upd (upd H9 t (.tup (ct (z, false, true)))) Dc (.lst (ks.map V.ref ++ [.ref t]))) L = some (.lst (qs.map V.ref)) := by rw [upd_ne nLD, upd_ne (ne_of_none hq9 ht)]; exact hq9
          generalize upd (upd H9 t (.tup (ct (z, false, true)))) Dc (.lst (ks.map V.ref ++ [.ref t])) = H10 at hC10 D10 hL10 hq10 ⊢
          have hcs : ColsOk (cs ++ [(z, false, true)]) := by
            refine ⟨by rw [List.length_append]; show 1 ≤ _ + 1; omega, by rw [List.length_append]; show _ + 1 ≤ 12; omega, fun c hc => ?_, ?_⟩
            · rcases List.mem_append.mp hc with hc | hc
              · have hm := hsub.subset (List.mem_map.mpr ⟨c, hc, rfl⟩)
                obtain ⟨d, hd, e⟩ := List.mem_map.mp hm
                have := hnm d hd
                rw [e] at this
                exact this
              · rw [List.mem_singleton.mp hc]; exact hz
            · rw [List.map_append]
              refine List.nodup_append.mpr ⟨hsub.nodup hnd, List.nodup_cons.mpr ⟨fun h => (nomatch h), List.nodup_nil⟩, fun u hu v hv e => ?_⟩
              rw [List.mem_singleton.mp hv] at e
              have e' : u = z := e
              exact hnot (by rw [← e']; exact hsub.subset hu)
          generalize hcsx : cs ++ [(z, false, true)] = cx at hC10 hcs
          clear hC9 hL9 hq9 hDc9 D9 K9 D8 x8 h8 hC7 hDc7 D7 hL7 hq7 hcol
          walk_at "g"
          refine g_newD ?_
          intro d1 d2 hd1 hd2
          walk_at "g"
          intro x dx hx hdx hne
          have xN : XT H10 (upd (upd H10 dx (.own x)) x (.ins (cadr mg "Shape") dx [])) := fun q o h => by rw [upd_ne (ne_of_none h hx), upd_ne (ne_of_none h hdx)]; exact h
          refine ⟨x, Dc, d1, d2, dx, cx, rfl, upd_same, hC10.keep xN, hcs, hd1, hd2, fun H11 k11 hSh => ⟨rfl, ?_⟩⟩
          have x11 : XT H10 H11 := fun q o h => k11 q o (ne_of_none h hx) (xN q o h)
          have D11 := D10.xt x11
          have hL11 := hL10.keep x11
          have hC11 := hC10.keep x11
          have hq11 := x11 _ _ hq10
          clear xN k11 hx hdx D10 hL10 hC10 hq10 x11
          have P11 : PsAt H11 L (qs.map V.ref) := ⟨hq11, ps.map some, by rw [List.length_map, List.length_map, hlen6], fun i y r hy hr => by
            rw [List.getElem?_map] at hy hr
            obtain ⟨q, hq, rfl⟩ := Option.map_eq_some_iff.mp hy
            obtain ⟨c, hc, rfl⟩ := Option.map_eq_some_iff.mp hr
            exact .ok ((hL11.get hq11).2 i q (pt c) hq (by rw [List.getElem?_map, hc]; rfl)) (hnm c (List.mem_of_getElem? hc))⟩
          walk_at "g"
          refine g_cutA (M := fun σ' H' => ∃ (s10 : Option V) (vs : List V), σ' = [some (.ref a), some (.ref p), some (.int r1), some (.bl tp), some (.ref L), s5, s6, some (.ref Dc), some (.str z), some (.ref x), s10, none, none, none, none, none] ∧ PD H' p 200500 ∧ PsAt H' L vs ∧ vs.length ≤ 4 ∧ ShapeAt (cadr mg "Shape") H' cx x ∧ LAt H' Dc (cx.map ct)) (fun D' hn1 hrt _ _ => ?_) ?_
          · walk_at "g"
            refine g_dec (fun h1 => ?_) (fun h1 => ?_)
            · walk_at "g"
              rw [List.length_map]
              refine g_dec (fun h0 => ?_) (fun h0 => ?_)
              · walk_at "g"
                refine ⟨p, _, _, rfl, D11, by omega, by rw [List.length_map]; omega, Nat.lt_of_lt_of_le (log_small (by rw [List.length_map]; omega)) (by decide), fun j H12 j0 j1 D12 K12 => ?_⟩
                rw [List.length_map] at j1
                obtain ⟨j, rfl⟩ := Int.eq_ofNat_of_zero_le j0
                have hjl : j < ps.length := by omega
                walk_at "g"
                refine ⟨p, L, ps, j, _, rfl, D12, by omega, nL, hL11.keepP nL D11.at K12, hnm, hjl, by omega, fun v r H13 hpt hvL D13 K13 => ?_⟩
                have hL13 := (hL11.keepP nL D11.at K12).keepP nL D12.at K13
                have hq13 := K13 _ _ nL (K12 _ _ nL hq11)
                have hSh13 := (hSh.keepP D11.at K12).keepP D12.at K13
                have hC13 := (hC11.keepP nDc D11.at K12).keepP nDc D12.at K13
                walk_at "g"
                refine g_setL hq13 (n := j) (ixN_nat (by rw [List.length_map]; omega)) ?_
                refine hn1 _ _ ⟨_, (qs.map V.ref).set j v, rfl, (D13.other nL).mono (by omega), ⟨upd_same, (ps.map some).set j r, by rw [List.length_set, List.length_set, List.length_map, List.length_map, hlen6], fun i y ro hy hro => ?_⟩, by rw [List.length_set, List.length_map]; omega, ?_, ?_⟩
                · by_cases e : j = i
                  · subst e
                    rw [List.getElem?_set_self (by rw [List.length_map]; omega)] at hy
                    rw [List.getElem?_set_self (by rw [List.length_map]; omega)] at hro
                    injection hy with hy
                    injection hro with hro
                    rw [← hy, ← hro]
                    exact hpt.setL hq13 hvL
                  · rw [List.getElem?_set_ne e, List.getElem?_map] at hy
                    rw [List.getElem?_set_ne e, List.getElem?_map] at hro
                    obtain ⟨q, hq, rfl⟩ := Option.map_eq_some_iff.mp hy
                    obtain ⟨c, hc, rfl⟩ := Option.map_eq_some_iff.mp hro
                    have hqq := (hL13.get hq13).2 i q (pt c) hq (by rw [List.getElem?_map, hc]; rfl)
                    exact PtAt.setL hq13 (fun e => by injection e with e; rw [e, hq13] at hqq; cases hqq) (.ok hqq (hnm c (List.mem_of_getElem? hc)))
                · exact hSh13.keepP ⟨_, hq13⟩ fun q o nq h => by rw [upd_ne nq]; exact h
                · exact hC13.keepP (Ne.symm nLD) ⟨_, hq13⟩ fun q o nq h => by rw [upd_ne nq]; exact h
              · walk_at "g"
                exact hn1 _ _ ⟨_, _, rfl, D11.mono (by omega), P11, by rw [List.length_map]; omega, hSh, hC11⟩
            · walk_at "g"
              exact hn1 _ _ ⟨_, _, rfl, D11.mono (by omega), P11, by rw [List.length_map]; omega, hSh, hC11⟩
          · rintro σ' H12 ⟨s10, vs, rfl, D12, P12, hvl, hSh12, hC12⟩
            clear hSh hC11 hq11 hL11 P11 D11
            walk_at "g"
            refine g_list (SqL.of P12.1) fun l1 hl1 => ?_
            have x13 : XT H12 (upd H12 l1 (.lst vs)) := XT.refl.new hl1
            have e13 : (upd H12 l1 (.lst vs)) l1 = some (.lst vs) := upd_same
            generalize upd H12 l1 (.lst vs) = H13 at x13 e13
            have D13 := D12.xt x13
            have P13 := P12.keep x13
            have hSh13 := hSh12.keep x13
            have hC13 := hC12.keep x13
            walk_at "g"
            refine g_cutA (M := fun σ' H' => ∃ (q : Addr), σ' = [some (.ref a), some (.ref p), some (.int r1), some (.bl tp), some (.ref L), s5, s6, some (.ref Dc), some (.str z), some (.ref x), s10, some (.ref q), none, none, none, none] ∧ PD H' p 200500 ∧ PsAt H' L vs ∧ (H' q = some (.lst vs) ∨ H' q = some (.tup vs)) ∧ ShapeAt (cadr mg "Shape") H' cx x ∧ LAt H' Dc (cx.map ct)) (fun D' hn1 hrt _ _ => ?_) ?_
            · walk_at "g"
              refine g_split (fun _ => ?_) (fun _ => ?_)
              · walk_at "g"
                refine g_tupL (SqL.of P13.1) fun t ht => ?_
                have x14 : XT H13 (upd H13 t (.tup vs)) := XT.refl.new ht
                exact hn1 _ _ ⟨t, rfl, D13.xt x14, P13.keep x14, .inr upd_same, hSh13.keep x14, hC13.keep x14⟩
              · walk_at "g"
                exact hn1 _ _ ⟨_, rfl, D13, P13, .inl e13, hSh13, hC13⟩
            · rintro σ' H14 ⟨q, rfl, D14, P14, e14, hSh14, hC14⟩
              refine g_cutA (M := fun σ' H' => ∃ (v : V) (d : Option (List (Option (Str × Bool)))), σ' = [some (.ref a), some (.ref p), some (.int r1), some (.bl tp), some (.ref L), s5, s6, some (.ref Dc), some (.str z), some (.ref x), s10, some v, none, none, none, none] ∧ ThAt H' v d ∧ ShapeAt (cadr mg "Shape") H' cx x ∧ LAt H' Dc (cx.map ct) ∧ (r1 = 0 ∨ ∃ q ws, v = .ref q ∧ (H' q = some (.lst ws) ∨ H' q = some (.tup ws)) ∧ H' L = some (.lst ws) ∧ ∀ H0, Paired (EqV K H0 1) ws ws)) (fun D' hn1 hrt _ _ => ?_) ?_
              · walk_at "g"
                refine g_dec (fun h0 => ?_) (fun h0 => ?_)
                · walk_at "g"
                  intro dk hdk
                  refine ⟨upd_same, [(Sum.inr (Str.ofString "a"), .str (Str.ofString "up"))], rfl, by decide, ?_⟩
                  generalize mergeK [] [((Sum.inr (Str.ofString "a") : Key), V.str (Str.ofString "up"))] = kvo
                  rw [upd_twice]
                  have x15 : XT H14 (upd H14 dk (.dK kvo)) := XT.refl.new hdk
                  have e15 : (upd H14 dk (.dK kvo)) dk = some (.dK kvo) := upd_same
                  generalize upd H14 dk (.dK kvo) = H15 at x15 e15 ⊢
                  walk_at "g"
                  refine ⟨by show 5 ≤ sizeLine; decide, fun l5 hl5 => ?_⟩
                  have x16 := x15.new (o := .lst [.non, .str (Str.ofString "a"), .int 7, .ref dk, .bl true]) hl5
                  have e16 : (upd H15 l5 (.lst [.non, .str (Str.ofString "a"), .int 7, .ref dk, .bl true])) dk = some (.dK kvo) := by rw [upd_ne (ne_of_none e15 hl5)]; exact e15
                  have f16 : (upd H15 l5 (.lst [.non, .str (Str.ofString "a"), .int 7, .ref dk, .bl true])) l5 = some (.lst [.non, .str (Str.ofString "a"), .int 7, .ref dk, .bl true]) := upd_same
                  have D16 := (D14.xt x15).new (o := .lst [.non, .str (Str.ofString "a"), .int 7, .ref dk, .bl true]) hl5
                  generalize upd H15 l5 (.lst [.non, .str (Str.ofString "a"), .int 7, .ref dk, .bl true]) = H16 at x16 e16 f16 D16 ⊢
                  walk_at "g"
                  refine ⟨p, 5, _, rfl, D16, by omega, by decide, by decide, fun r5 H17 r50 r51 D17 K17 => ?_⟩
                  have nop : ∀ {b : Addr} {o : HO}, (∀ zs, o ≠ .lst zs) → H16 b = some o → H17 b = some o := fun {b o} no h => K17 _ _ (fun z => by
                    obtain ⟨zs, hz⟩ := D16.at
                    rw [z, hz] at h
                    injection h with h
                    exact no zs h.symm) h
                  have e17 := nop (fun zs e => by cases e) e16
                  have n5 : l5 ≠ p := fun z => by
                    obtain ⟨a1, b1, c1, h1, _⟩ := D16
                    rw [← z, f16] at h1
                    injection h1 with h1
                    injection h1 with h1
                    cases h1
                  have f17 := K17 _ _ n5 f16
                  obtain ⟨v, hv, hTv⟩ : ∃ v, atI [V.non, .str (Str.ofString "a"), .int 7, .ref dk, .bl true] r5 = some v ∧ ThAt H17 v none := by
                    have : r5 = 0 ∨ r5 = 1 ∨ r5 = 2 ∨ r5 = 3 ∨ r5 = 4 := by omega
                    rcases this with rfl | rfl | rfl | rfl | rfl
                    · exact ⟨_, rfl, .nos (by decide) .non (by decide) (by decide)⟩
                    · exact ⟨_, rfl, .nos (by decide) (.str _) (by decide) (by decide)⟩
                    · exact ⟨_, rfl, .nos (by decide) (.int _) (by decide) (by decide)⟩
                    · exact ⟨_, rfl, .nos (by decide) (.dct e17) (by decide) (by decide)⟩
                    · exact ⟨_, rfl, .nos (by decide) (.bl _) (by decide) (by decide)⟩
                  refine g_ixL (SqL.of f17) hv ?_
                  walk_at "g"
                  exact hn1 _ _ ⟨_, _, rfl, hTv, (hSh14.keep x16).keepP D16.at K17, (hC14.keep x16).keepP nDc D16.at K17, .inl h0⟩
                · walk_at "g"
                  obtain ⟨d, hd⟩ := P14.th e14
                  obtain ⟨f14, rs, hrl, hrp⟩ := P14
                  exact hn1 _ _ ⟨_, d, rfl, hd, hSh14, hC14, .inr ⟨q, vs, rfl, e14, f14, fun H0 => flat_same hrl hrp⟩⟩
              · rintro σ' H15 ⟨v, d, rfl, hT15, hSh15, hC15, hend⟩
                walk_at "g"
                refine ⟨v, d, rfl, hT15, fun H16 x16 => ?_⟩
                walk_at "g"
                refine ⟨.non, v, d, dueF d, rfl, hT15.keep x16, .inl ⟨rfl, rfl⟩, fun t1 H17 x17 cs1 hcs1 hS1 => ?_⟩
                have x167 := x16.trans x17
                walk_at "g"
                refine ⟨t1, dueF d, v, cs1, rfl, hS1, fun hn => ?_, fun H18 x18 => ?_⟩
                · have e := hcs1 hn
                  refine ⟨by rw [← e]; exact hT15.keep x167, ?_⟩
                  rw [e] at hn
                  have := due_len3 hn
                  rw [List.length_map] at this
                  exact this
                have y18 := x167.trans x18
                walk_at "g"
                refine g_cutA (M := fun σ' H' => ∃ (s10 s13 : Option V), σ' = [some (.ref a), some (.ref p), some (.int r1), some (.bl tp), some (.ref L), s5, s6, some (.ref Dc), some (.str z), some (.ref x), s10, some v, some (fV (dueF2 (cx.map (·.1)) d)), s13, none, none] ∧ XT H15 H') (fun D' hn1 hrt _ _ => ?_) ?_
                · cases hdd : dueF d with
                  | some i =>
                    have e2 := due2_some (S := cx.map (·.1)) hdd
                    rw [show fV (some i) = V.int i from rfl]
                    walk_at "g"
                    exact hn1 _ _ ⟨_, _, by rw [e2]; rfl, y18⟩
                  | none =>
                    obtain ⟨cs3, rfl⟩ := dueF_seq hdd
                    rw [show fV none = V.non from rfl]
                    have h3 := due_len3 hdd
                    rw [List.length_map] at h3
                    have e2 := due2_none (S := cx.map (·.1)) hdd
                    cases hT15 with
                    | seq hp15 hl15 hs15 =>
                    rename_i q xs
                    rw [List.length_map] at hl15
                    obtain ⟨kc, hkc, hkl2, hkt⟩ := id (hC15.keep y18)
                    rw [List.length_map] at hkl2
                    have hcle := hcs.le
                    walk_at "g"
                    refine ⟨Dc, rfl, ⟨_, SqL.of hkc⟩, fun DN hDN => ?_⟩
                    refine lc_new (kc.map V.ref) (fun i y _ => ∃ c, cx[i]? = some c ∧ y = .str c.1) hDN (fun H2 k2 => fits_l (SqL.of (k2 _ _ hkc))) (by rw [List.length_map]; omega) (fun i y Ha Hb _ h _ => h) ?_ ?_
                    · intro j y Hh R S hy kh _ hR
                      rw [List.getElem?_map] at hy
                      obtain ⟨q3, hqj, rfl⟩ := Option.map_eq_some_iff.mp hy
                      have hjl : j < cx.length := by
                        have := (List.getElem?_eq_some_iff.mp hqj).1
                        omega
                      obtain ⟨c, hc⟩ : ∃ c, cx[j]? = some c := ⟨_, List.getElem?_eq_getElem hjl⟩
                      have et := kh _ _ (hkt j q3 (ct c) hqj (by rw [List.getElem?_map, hc]; rfl))
                      walk_at "g"
                      refine ⟨rfl, ?_⟩
                      walk_at "g"
                      refine g_ixT (SqT.of et) (v := .str c.1) (show atI (ct c) 0 = some (.str c.1) from rfl) ?_
                      exact hR _ _ (fun q o h => h) ⟨c, hc, rfl⟩
                    · intro H19 ys x19 h19 hyl hys
                      obtain rfl : ys = (cx.map (·.1)).map V.str := strs_newC (by rw [hyl, List.length_map, hkl2]) hys
                      have x1519 := y18.trans x19
                      walk_at "g"
                      refine g_lenA (seq_keep hp15 x1519) ?_
                      refine ⟨_, rfl, by omega, by omega, ?_⟩
                      refine for_rangeA (fun i σ' H' => ∃ (s10 : Option V) (w : Option Nat), σ' = [some (.ref a), some (.ref p), some (.int r1), some (.bl tp), some (.ref L), s5, s6, some (.ref Dc), some (.str z), some (.ref x), s10, some (.ref q), some (fV (w.map Int.ofNat)), some (.ref DN), none, none] ∧ H' = H19 ∧ ((w = none ∧ outF (cx.map (·.1)) 0 cs3 = outF (cx.map (·.1)) i (cs3.drop i)) ∨ (w ≠ none ∧ outF (cx.map (·.1)) 0 cs3 = w))) ⟨_, none, rfl, rfl, .inl ⟨rfl, rfl⟩⟩ ?_ ?_
                      · rintro i σ' H' D2' hi ⟨s10', w, rfl, rfl, hw⟩ hnx hct hbk hrt2
                        have hil : i < cs3.length := by
                          have : i < xs.length := by simpa using hi
                          omega
                        have e0 : (0 + (i : Int)) = ((i : Nat) : Int) := Int.zero_add _
                        rcases hw with ⟨rfl, hw⟩ | ⟨hw1, hw⟩
                        · rw [show fV ((none : Option Nat).map Int.ofNat) = V.non from rfl]
                          obtain ⟨c, hc⟩ : ∃ c, cs3[i]? = some c := ⟨_, List.getElem?_eq_getElem hil⟩
                          obtain ⟨y, hy⟩ : ∃ y, xs[i]? = some y := ⟨_, List.getElem?_eq_getElem (by omega)⟩
                          have edr : cs3.drop i = c :: cs3.drop (i + 1) := by
                            rw [List.drop_eq_getElem_cons hil]
                            congr 1
                            exact Option.some.inj (by rw [← hc, List.getElem?_eq_getElem hil])
                          have hpt := (hs15 i y (some c) hy (by rw [List.getElem?_map, hc]; rfl)).keep x1519
                          cases hpt with
                          | ok hq3 hz3 =>
                          rename_i q3
                          walk_at "g"
                          refine g_ixA (seq_keep hp15 x1519) (v := .ref q3) (by rw [e0]; exact atI_nat hy) ?_
                          walk_at "g"
                          refine g_ixT (SqT.of hq3) (v := .str c.1) (show atI (pt c) 0 = some (.str c.1) from rfl) ?_
                          walk_at "g"
                          refine .inr ⟨_, (cx.map (·.1)).map V.str, rfl, .inl (SqL.of h19), rfl, Tw.flat_strs _, ?_⟩
                          rw [if_pos rfl, inV_strs]
                          walk_at "g"
                          refine g_ndec (fun hm => ?_) (fun hm => ?_)
                          · walk_at "g"
                            exact hnx _ _ ⟨_, some i, by rw [e0]; rfl, rfl, .inr ⟨fun h => (nomatch h), by rw [hw, edr, out_not hm]⟩⟩
                          · walk_at "g"
                            exact hnx _ _ ⟨_, none, rfl, rfl, .inl ⟨rfl, by rw [hw, edr, out_in hm]⟩⟩
                        · cases w with
                          | none => exact absurd rfl hw1
                          | some j =>
                            rw [show fV ((some j).map Int.ofNat) = V.int (Int.ofNat j) from rfl]
                            walk_at "g"
                            exact hnx _ _ ⟨_, some j, rfl, rfl, .inr ⟨fun h => (nomatch h), hw⟩⟩
                      · rintro σ' H' ⟨s10', w, rfl, rfl, hw⟩
                        have ew : outF (cx.map (·.1)) 0 cs3 = w := by
                          rcases hw with ⟨rfl, hw⟩ | ⟨_, hw⟩
                          · rw [hw, List.drop_of_length_le (by omega)]
                            rfl
                          · exact hw
                        exact hn1 _ _ ⟨_, _, by rw [e2, ew], x1519⟩
                · rintro σ' H19 ⟨s10', s13, rfl, x19⟩
                  walk_at "g"
                  refine ⟨.ref x, v, d, dueF2 (cx.map (·.1)) d, rfl, hT15.keep x19, .inr ⟨x, cx, rfl, hSh15.keep x19, rfl⟩, fun t2 H20 x20 cs2 hcs2 hS2 => ?_⟩
                  have x1920 := x19.trans x20
                  walk_at "g"
                  refine ⟨t2, dueF2 (cx.map (·.1)) d, v, cs2, rfl, hS2, fun hn => ?_, fun H21 x21 => ?_⟩
                  · have e := hcs2 hn
                    refine ⟨by rw [← e]; exact hT15.keep x1920, ?_⟩
                    have hn' : dueF d = none := by
                      cases e2 : dueF d with
                      | none => rfl
                      | some i => rw [due2_some e2] at hn; cases hn
                    rw [e] at hn'
                    have := due_len3 hn'
                    rw [List.length_map] at this
                    exact this
                  have x22 := x1920.trans x21
                  walk_at "g"
                  refine g_dec (fun h0 => ?_) (fun h0 => ?_)
                  · walk_at "g"
                    exact k _
                  · rcases hend with h | ⟨q2, ws, rfl, hq2, hL2, hpair⟩
                    · exact absurd h h0
                    · walk_at "g"
                      have hq22 := seq_keep hq2 x22
                      have hL22 := x22 _ _ hL2
                      refine ⟨q2, ws, rfl, hq22.elim (fun h => .inl (SqL.of h)) (fun h => .inr (SqT.of h)), fun l hl => ?_⟩
                      have hL23 : (upd H21 l (.lst ws)) L = some (.lst ws) := by rw [upd_ne (ne_of_none hL22 hl)]; exact hL22
                      have e23 : (upd H21 l (.lst ws)) l = some (.lst ws) := upd_same
                      generalize upd H21 l (.lst ws) = H23 at hL23 e23
                      walk_at "g"
                      refine ⟨1, by decide, .inl ⟨l, L, ws, ws, rfl, rfl, SqL.of e23, SqL.of hL23, hpair _⟩, ?_⟩
                      walk_at "g"
                      exact k _
end
theorem kitSelf {K : PySem.W.Frag} {C : Addr} : PySem.W.kitOne K (.ref C) (.ref C) = some true := by
  unfold PySem.W.kitOne
  rw [if_pos (beq_self_eq_true _)]
theorem kitNo {K : PySem.W.Frag} {C : Addr} {T : String} (h2 : PySem.W.isClsIn K C = true) (h3 : PySem.W.typeIn K (.ref C) = some (.type "type")) (h4 : PySem.W.subIn K (.type T) (.ref C) = some false) : PySem.W.kitOne K (.type T) (.ref C) = some false := by
  have e1 : ¬ (Value.type T == Value.ref C) = true := fun z => nomatch (beq_iff_eq.mp z)
  have e2 : ((PySem.W.clsIn K C).isSome && PySem.W.typeIn K (.ref C) == some (.type "type")) = true := by
    have h2' : (PySem.W.clsIn K C).isSome = true := h2
    rw [h2', h3] <;> rfl
  show (if (Value.type T == Value.ref C) = true then some true else (if ((PySem.W.clsIn K C).isSome && PySem.W.typeIn K (.ref C) == some (.type "type")) = true then PySem.W.subIn K (.type T) (.ref C) else none)) = some false
  rw [if_neg e1, if_pos e2]
  exact h4
theorem exmSelf {K : PySem.W.Frag} {S : Addr} (h1 : PySem.W.subIn K (.ref S) (.type "BaseException") = some true) (h2 : PySem.W.isClsIn K S = true) (h3 : PySem.W.typeIn K (.ref S) = some (.type "type")) (h4 : PySem.W.subIn K (.ref S) (.ref S) = some true) : PySem.W.exmOne K (.ref S) (.ref S) = some true := by
  have e1 : (PySem.W.subIn K (.ref S) (.type "BaseException") == some true) = true := by rw [h1] <;> rfl
  have e2 : ((PySem.W.clsIn K S).isSome && PySem.W.typeIn K (.ref S) == some (.type "type")) = true := by
    have h2' : (PySem.W.clsIn K S).isSome = true := h2
    rw [h2', h3] <;> rfl
  show (if (PySem.W.subIn K (.ref S) (.type "BaseException") == some true) = true then (if ((PySem.W.clsIn K S).isSome && PySem.W.typeIn K (.ref S) == some (.type "type")) = true then PySem.W.subIn K (.ref S) (.ref S) else none) else none) = some true
  rw [if_pos e1, if_pos e2]
  exact h4
theorem all_mk {l : PySem.W.OpenLaw} {w : World} {K : PySem.W.Frag} {h : Heap} {mg : Str → Option Value} {fa f_is_sequence f_is_name f_Shape_init f_is_short f_is_column f_need_columns f_need_checks f_need_keys f_is_part f_need_order f_order_in f__law_int f__law_pool f__law_draw f__law_name f__law_is_name f__law_fault f__law_odd f__law_said f__law_right f_law : Addr} {c_Shape : Addr} {c_BadOrder feBadOrder : Addr} (X : K.In h) (G : h.Ns mainGlobals mg) (hfa : mg "law" = some (.ref fa))
    {od_is_sequence an_is_sequence : Option Addr} {sl_is_sequence : Array (Option Value)} {oc_is_sequence kV_is_sequence dc_is_sequence pm_is_sequence cd_is_sequence ct_is_sequence : Value}
    {od_is_name an_is_name : Option Addr} {sl_is_name : Array (Option Value)} {oc_is_name kV_is_name dc_is_name pm_is_name cd_is_name ct_is_name : Value}
    {od_Shape_init an_Shape_init : Option Addr} {sl_Shape_init : Array (Option Value)} {oc_Shape_init dc_Shape_init pm_Shape_init cd_Shape_init ct_Shape_init : Value}
    {od_is_short an_is_short : Option Addr} {sl_is_short : Array (Option Value)} {oc_is_short kV_is_short dc_is_short pm_is_short cd_is_short ct_is_short : Value}
    {od_is_column an_is_column : Option Addr} {sl_is_column : Array (Option Value)} {oc_is_column kV_is_column dc_is_column pm_is_column cd_is_column ct_is_column : Value}
    {od_need_columns an_need_columns : Option Addr} {sl_need_columns : Array (Option Value)} {oc_need_columns kV_need_columns dc_need_columns pm_need_columns cd_need_columns ct_need_columns : Value}
    {od_need_checks an_need_checks : Option Addr} {sl_need_checks : Array (Option Value)} {oc_need_checks kV_need_checks dc_need_checks pm_need_checks cd_need_checks ct_need_checks : Value}
    {od_need_keys an_need_keys : Option Addr} {sl_need_keys : Array (Option Value)} {oc_need_keys kV_need_keys dc_need_keys pm_need_keys cd_need_keys ct_need_keys : Value}
    {od_is_part an_is_part : Option Addr} {sl_is_part : Array (Option Value)} {oc_is_part kV_is_part dc_is_part pm_is_part cd_is_part ct_is_part : Value}
    {od_need_order an_need_order : Option Addr} {sl_need_order : Array (Option Value)} {oc_need_order kV_need_order dc_need_order pm_need_order cd_need_order ct_need_order : Value}
    {od_order_in an_order_in : Option Addr} {sl_order_in : Array (Option Value)} {oc_order_in kV_order_in dc_order_in pm_order_in cd_order_in ct_order_in : Value}
    {od__law_int an__law_int : Option Addr} {sl__law_int : Array (Option Value)} {oc__law_int kV__law_int dc__law_int pm__law_int cd__law_int ct__law_int : Value}
    {od__law_pool an__law_pool : Option Addr} {sl__law_pool : Array (Option Value)} {oc__law_pool kV__law_pool dc__law_pool pm__law_pool cd__law_pool ct__law_pool : Value}
    {od__law_draw an__law_draw : Option Addr} {sl__law_draw : Array (Option Value)} {oc__law_draw kV__law_draw dc__law_draw pm__law_draw cd__law_draw ct__law_draw : Value}
    {od__law_name an__law_name : Option Addr} {sl__law_name : Array (Option Value)} {oc__law_name kV__law_name dc__law_name pm__law_name cd__law_name ct__law_name : Value}
    {od__law_is_name an__law_is_name : Option Addr} {sl__law_is_name : Array (Option Value)} {oc__law_is_name kV__law_is_name dc__law_is_name pm__law_is_name cd__law_is_name ct__law_is_name : Value}
    {od__law_fault an__law_fault : Option Addr} {sl__law_fault : Array (Option Value)} {oc__law_fault kV__law_fault dc__law_fault pm__law_fault cd__law_fault ct__law_fault : Value}
    {od__law_odd an__law_odd : Option Addr} {sl__law_odd : Array (Option Value)} {oc__law_odd kV__law_odd dc__law_odd pm__law_odd cd__law_odd ct__law_odd : Value}
    {od__law_said an__law_said : Option Addr} {sl__law_said : Array (Option Value)} {oc__law_said kV__law_said dc__law_said pm__law_said cd__law_said ct__law_said : Value}
    {od__law_right an__law_right : Option Addr} {sl__law_right : Array (Option Value)} {oc__law_right kV__law_right dc__law_right pm__law_right cd__law_right ct__law_right : Value}
    {od_law an_law : Option Addr} {sl_law : Array (Option Value)} {oc_law kV_law dc_law pm_law cd_law ct_law : Value}
    (a_Shape : PySem.W.nsIn K mainGlobals "Shape" = some (some (.ref c_Shape))) (pg_Shape : PySem.W.plainGet K c_Shape Str.empty = true) (hd_Shape : PySem.W.hasDictIn K c_Shape = true) (po_Shape : PySem.W.plainOver K c_Shape = true) (sa_Shape : PySem.W.findIn K (.ref c_Shape) "__setattr__" = some (some (.builtin "object.__setattr__"))) (mk_Shape : PySem.W.makesIn K c_Shape = true) (kc_Shape : PySem.W.keepIn K (.ref c_Shape) = true)
    (sf_Shape : PySem.W.selfFirst K c_Shape = true)
    (nr_Shape_and : PySem.W.findIn K (.ref c_Shape) (dunderR "and") = some none)
    (nr_Shape_or : PySem.W.findIn K (.ref c_Shape) (dunderR "or") = some none)
    (ia_Shape : PySem.W.findIn K (.ref c_Shape) "__class__" = some (some (.builtin "object.__class__"))) (in_Shape : PySem.W.specialIn K (.builtin "object.__class__") "__get__" = some (some (.builtin "getset_descriptor.__get__"))) (it_Shape : PySem.W.takesIn K (.builtin "object.__class__") = some true) (im_Shape : PySem.W.mroIn K c_Shape (.type "object") = some true) (io_Shape : PySem.W.isClsIn K c_Shape = true) (iy_Shape : PySem.W.typeIn K (.ref c_Shape) = some (.type "type"))
    (iz_Shape_NoneType : PySem.W.subIn K (.type "NoneType") (.ref c_Shape) = some false)
    (iz_Shape_bool : PySem.W.subIn K (.type "bool") (.ref c_Shape) = some false)
    (iz_Shape_int : PySem.W.subIn K (.type "int") (.ref c_Shape) = some false)
    (iz_Shape_str : PySem.W.subIn K (.type "str") (.ref c_Shape) = some false)
    (iz_Shape_list : PySem.W.subIn K (.type "list") (.ref c_Shape) = some false)
    (iz_Shape_tuple : PySem.W.subIn K (.type "tuple") (.ref c_Shape) = some false)
    (iz_Shape_dict : PySem.W.subIn K (.type "dict") (.ref c_Shape) = some false)
    (n_Shape_layout : PySem.W.findIn K (.ref c_Shape) "layout" = some none)
    (n_Shape_spots : PySem.W.findIn K (.ref c_Shape) "spots" = some none)
    (n_Shape_check_tests : PySem.W.findIn K (.ref c_Shape) "check_tests" = some none)
    (n_Shape_key_rules : PySem.W.findIn K (.ref c_Shape) "key_rules" = some none)
    {nm_eBadOrder q_eBadOrder : Str} {N_eBadOrder : Addr} {bs_eBadOrder bm_eBadOrder : List Value} {sn_eBadOrder : List Str} {su_eBadOrder : List Value} {ab_eBadOrder : Bool} {co_eBadOrder : Option Bool} {dd_eBadOrder : Option Addr} {m0_eBadOrder m1_eBadOrder m2_eBadOrder m3_eBadOrder m5_eBadOrder : Option Value} {oc_eBadOrder doc_eBadOrder pm_eBadOrder cd_eBadOrder ct_eBadOrder : Value} {od_eBadOrder an_eBadOrder : Option Addr} {sl_eBadOrder : Array (Option Value)} {p1_eBadOrder p2_eBadOrder q1_eBadOrder q2_eBadOrder q3_eBadOrder q4_eBadOrder : Pos} {sc_eBadOrder : Scope}
    (a_eBadOrder : PySem.W.nsIn K mainGlobals "BadOrder" = some (some (.ref c_BadOrder))) (x_eBadOrder : K.lookup c_BadOrder = some (excClassObj nm_eBadOrder q_eBadOrder c_BadOrder N_eBadOrder bs_eBadOrder bm_eBadOrder true sn_eBadOrder su_eBadOrder ab_eBadOrder co_eBadOrder dd_eBadOrder m0_eBadOrder m1_eBadOrder m2_eBadOrder m3_eBadOrder m5_eBadOrder "Exception.__new__")) (o_eBadOrder : PySem.TwX.OwnEx bm_eBadOrder) (sa_eBadOrder : PySem.W.findIn K (.ref c_BadOrder) "__setattr__" = some (some (.builtin "object.__setattr__"))) (ga_eBadOrder : PySem.W.findIn K (.ref c_BadOrder) "__getattribute__" = some (some (.builtin "BaseException.__getattribute__"))) (gg_eBadOrder : PySem.W.findIn K (.ref c_BadOrder) "__getattr__" = some none) (nb_eBadOrder : PySem.W.findIn K (.ref c_BadOrder) "at" = some none) (i_eBadOrder : PySem.W.findIn K (.ref c_BadOrder) "__init__" = some (some (.ref feBadOrder))) (t_eBadOrder : PySem.W.typeIn K (.ref feBadOrder) = some (.type "function"))
    (l_eBadOrder : K.lookup feBadOrder = some ⟨oc_eBadOrder, od_eBadOrder, .func (PySem.W.fnOf "__init__" "BadOrder.__init__" (PySem.ErBadOrder.inA p1_eBadOrder p2_eBadOrder) (PySem.ErBadOrder.inB q1_eBadOrder q2_eBadOrder q3_eBadOrder q4_eBadOrder) sc_eBadOrder .none .none doc_eBadOrder pm_eBadOrder an_eBadOrder cd_eBadOrder ct_eBadOrder), sl_eBadOrder⟩) (cc_eBadOrder : PySem.W.codeIn K cd_eBadOrder "BadOrder.__init__" = true) (s1_eBadOrder : sc_eBadOrder.kind = .function) (s2_eBadOrder : sc_eBadOrder.names = [(PySem.Str.ofString "self", .local), (PySem.Str.ofString "at", .local)]) (s3_eBadOrder : sc_eBadOrder.isGenerator = false) (s4_eBadOrder : sc_eBadOrder.isCoroutine = false)
    (k_eBadOrder : PySem.W.keepIn K (.ref c_BadOrder) = true) (eC_eBadOrder : PySem.W.subIn K (.ref c_BadOrder) (.type "BaseException") = some true) (tC_eBadOrder : PySem.W.typeIn K (.ref c_BadOrder) = some (.type "type")) (hC_eBadOrder : PySem.W.hasDictIn K c_BadOrder = true) (te_eBadOrder : PySem.W.isClsIn K c_BadOrder = true) (tf_eBadOrder : PySem.W.subIn K (.ref c_BadOrder) (.ref c_BadOrder) = some true)
    (a_is_sequence : PySem.W.nsIn K mainGlobals "is_sequence" = some (some (.ref f_is_sequence))) (l_is_sequence : K.lookup f_is_sequence = some ⟨oc_is_sequence, od_is_sequence, .func (PySem.W.fnOf "is_sequence" "is_sequence" (defArgs S_is_sequence) (defBody S_is_sequence) (defScope S_is_sequence) .none kV_is_sequence dc_is_sequence pm_is_sequence an_is_sequence cd_is_sequence ct_is_sequence), sl_is_sequence⟩) (c_is_sequence : PySem.W.codeIn K cd_is_sequence "is_sequence" = true) (k_is_sequence : PySem.W.keepIn K (.ref f_is_sequence) = true)
    (a_is_name : PySem.W.nsIn K mainGlobals "is_name" = some (some (.ref f_is_name))) (l_is_name : K.lookup f_is_name = some ⟨oc_is_name, od_is_name, .func (PySem.W.fnOf "is_name" "is_name" (defArgs S_is_name) (defBody S_is_name) (defScope S_is_name) .none kV_is_name dc_is_name pm_is_name an_is_name cd_is_name ct_is_name), sl_is_name⟩) (c_is_name : PySem.W.codeIn K cd_is_name "is_name" = true) (k_is_name : PySem.W.keepIn K (.ref f_is_name) = true)
    {kD_Shape_init da1_Shape_init da2_Shape_init : Addr} {do1_Shape_init do2_Shape_init : Obj} {di1_Shape_init di2_Shape_init : Array Value} {dn1_Shape_init dn2_Shape_init : Nat}
    (a_Shape_init : PySem.W.findIn K (.ref c_Shape) "__init__" = some (some (.ref f_Shape_init))) (i_Shape_init : PySem.W.isFn K (.ref f_Shape_init) = true) (l_Shape_init : K.lookup f_Shape_init = some ⟨oc_Shape_init, od_Shape_init, .func (PySem.W.fnOf "__init__" "Shape.__init__" (defArgs S_Shape_init) (defBody S_Shape_init) (defScope S_Shape_init) .none (.ref kD_Shape_init) dc_Shape_init pm_Shape_init an_Shape_init cd_Shape_init ct_Shape_init), sl_Shape_init⟩) (c_Shape_init : PySem.W.codeIn K cd_Shape_init "Shape.__init__" = true) (k_Shape_init : PySem.W.keepIn K (.ref f_Shape_init) = true)
    (kn1_Shape_init : PySem.W.nsIn K kD_Shape_init "checks" = some (some (.ref da1_Shape_init))) (kl1_Shape_init : K.lookup da1_Shape_init = some do1_Shape_init) (gc_1_Shape_init : do1_Shape_init.cls = .type "tuple") (gd_1_Shape_init : do1_Shape_init.data = .seq di1_Shape_init dn1_Shape_init) (kz1_Shape_init : di1_Shape_init.size = 0)
    (kn2_Shape_init : PySem.W.nsIn K kD_Shape_init "keys" = some (some (.ref da2_Shape_init))) (kl2_Shape_init : K.lookup da2_Shape_init = some do2_Shape_init) (gc_2_Shape_init : do2_Shape_init.cls = .type "tuple") (gd_2_Shape_init : do2_Shape_init.data = .seq di2_Shape_init dn2_Shape_init) (kz2_Shape_init : di2_Shape_init.size = 0)
    (a_is_short : PySem.W.nsIn K mainGlobals "is_short" = some (some (.ref f_is_short))) (l_is_short : K.lookup f_is_short = some ⟨oc_is_short, od_is_short, .func (PySem.W.fnOf "is_short" "is_short" (defArgs S_is_short) (defBody S_is_short) (defScope S_is_short) .none kV_is_short dc_is_short pm_is_short an_is_short cd_is_short ct_is_short), sl_is_short⟩) (c_is_short : PySem.W.codeIn K cd_is_short "is_short" = true) (k_is_short : PySem.W.keepIn K (.ref f_is_short) = true)
    (a_is_column : PySem.W.nsIn K mainGlobals "is_column" = some (some (.ref f_is_column))) (l_is_column : K.lookup f_is_column = some ⟨oc_is_column, od_is_column, .func (PySem.W.fnOf "is_column" "is_column" (defArgs S_is_column) (defBody S_is_column) (defScope S_is_column) .none kV_is_column dc_is_column pm_is_column an_is_column cd_is_column ct_is_column), sl_is_column⟩) (c_is_column : PySem.W.codeIn K cd_is_column "is_column" = true) (k_is_column : PySem.W.keepIn K (.ref f_is_column) = true)
    (a_need_columns : PySem.W.nsIn K mainGlobals "need_columns" = some (some (.ref f_need_columns))) (l_need_columns : K.lookup f_need_columns = some ⟨oc_need_columns, od_need_columns, .func (PySem.W.fnOf "need_columns" "need_columns" (defArgs S_need_columns) (defBody S_need_columns) (defScope S_need_columns) .none kV_need_columns dc_need_columns pm_need_columns an_need_columns cd_need_columns ct_need_columns), sl_need_columns⟩) (c_need_columns : PySem.W.codeIn K cd_need_columns "need_columns" = true) (k_need_columns : PySem.W.keepIn K (.ref f_need_columns) = true)
    (a_need_checks : PySem.W.nsIn K mainGlobals "need_checks" = some (some (.ref f_need_checks))) (l_need_checks : K.lookup f_need_checks = some ⟨oc_need_checks, od_need_checks, .func (PySem.W.fnOf "need_checks" "need_checks" (defArgs S_need_checks) (defBody S_need_checks) (defScope S_need_checks) .none kV_need_checks dc_need_checks pm_need_checks an_need_checks cd_need_checks ct_need_checks), sl_need_checks⟩) (c_need_checks : PySem.W.codeIn K cd_need_checks "need_checks" = true) (k_need_checks : PySem.W.keepIn K (.ref f_need_checks) = true)
    (a_need_keys : PySem.W.nsIn K mainGlobals "need_keys" = some (some (.ref f_need_keys))) (l_need_keys : K.lookup f_need_keys = some ⟨oc_need_keys, od_need_keys, .func (PySem.W.fnOf "need_keys" "need_keys" (defArgs S_need_keys) (defBody S_need_keys) (defScope S_need_keys) .none kV_need_keys dc_need_keys pm_need_keys an_need_keys cd_need_keys ct_need_keys), sl_need_keys⟩) (c_need_keys : PySem.W.codeIn K cd_need_keys "need_keys" = true) (k_need_keys : PySem.W.keepIn K (.ref f_need_keys) = true)
    (a_is_part : PySem.W.nsIn K mainGlobals "is_part" = some (some (.ref f_is_part))) (l_is_part : K.lookup f_is_part = some ⟨oc_is_part, od_is_part, .func (PySem.W.fnOf "is_part" "is_part" (defArgs S_is_part) (defBody S_is_part) (defScope S_is_part) .none kV_is_part dc_is_part pm_is_part an_is_part cd_is_part ct_is_part), sl_is_part⟩) (c_is_part : PySem.W.codeIn K cd_is_part "is_part" = true) (k_is_part : PySem.W.keepIn K (.ref f_is_part) = true)
    (a_need_order : PySem.W.nsIn K mainGlobals "need_order" = some (some (.ref f_need_order))) (l_need_order : K.lookup f_need_order = some ⟨oc_need_order, od_need_order, .func (PySem.W.fnOf "need_order" "need_order" (defArgs S_need_order) (defBody S_need_order) (defScope S_need_order) .none kV_need_order dc_need_order pm_need_order an_need_order cd_need_order ct_need_order), sl_need_order⟩) (c_need_order : PySem.W.codeIn K cd_need_order "need_order" = true) (k_need_order : PySem.W.keepIn K (.ref f_need_order) = true)
    (a_order_in : PySem.W.nsIn K mainGlobals "order_in" = some (some (.ref f_order_in))) (l_order_in : K.lookup f_order_in = some ⟨oc_order_in, od_order_in, .func (PySem.W.fnOf "order_in" "order_in" (defArgs S_order_in) (defBody S_order_in) (defScope S_order_in) .none kV_order_in dc_order_in pm_order_in an_order_in cd_order_in ct_order_in), sl_order_in⟩) (c_order_in : PySem.W.codeIn K cd_order_in "order_in" = true) (k_order_in : PySem.W.keepIn K (.ref f_order_in) = true)
    (a__law_int : PySem.W.nsIn K mainGlobals "_law_int" = some (some (.ref f__law_int))) (l__law_int : K.lookup f__law_int = some ⟨oc__law_int, od__law_int, .func (PySem.W.fnOf "_law_int" "_law_int" (defArgs S__law_int) (defBody S__law_int) (defScope S__law_int) .none kV__law_int dc__law_int pm__law_int an__law_int cd__law_int ct__law_int), sl__law_int⟩) (c__law_int : PySem.W.codeIn K cd__law_int "_law_int" = true) (k__law_int : PySem.W.keepIn K (.ref f__law_int) = true)
    (a__law_pool : PySem.W.nsIn K mainGlobals "_law_pool" = some (some (.ref f__law_pool))) (l__law_pool : K.lookup f__law_pool = some ⟨oc__law_pool, od__law_pool, .func (PySem.W.fnOf "_law_pool" "_law_pool" (defArgs S__law_pool) (defBody S__law_pool) (defScope S__law_pool) .none kV__law_pool dc__law_pool pm__law_pool an__law_pool cd__law_pool ct__law_pool), sl__law_pool⟩) (c__law_pool : PySem.W.codeIn K cd__law_pool "_law_pool" = true) (k__law_pool : PySem.W.keepIn K (.ref f__law_pool) = true)
    (a__law_draw : PySem.W.nsIn K mainGlobals "_law_draw" = some (some (.ref f__law_draw))) (l__law_draw : K.lookup f__law_draw = some ⟨oc__law_draw, od__law_draw, .func (PySem.W.fnOf "_law_draw" "_law_draw" (defArgs S__law_draw) (defBody S__law_draw) (defScope S__law_draw) .none kV__law_draw dc__law_draw pm__law_draw an__law_draw cd__law_draw ct__law_draw), sl__law_draw⟩) (c__law_draw : PySem.W.codeIn K cd__law_draw "_law_draw" = true) (k__law_draw : PySem.W.keepIn K (.ref f__law_draw) = true)
    (a__law_name : PySem.W.nsIn K mainGlobals "_law_name" = some (some (.ref f__law_name))) (l__law_name : K.lookup f__law_name = some ⟨oc__law_name, od__law_name, .func (PySem.W.fnOf "_law_name" "_law_name" (defArgs S__law_name) (defBody S__law_name) (defScope S__law_name) .none kV__law_name dc__law_name pm__law_name an__law_name cd__law_name ct__law_name), sl__law_name⟩) (c__law_name : PySem.W.codeIn K cd__law_name "_law_name" = true) (k__law_name : PySem.W.keepIn K (.ref f__law_name) = true)
    (a__law_is_name : PySem.W.nsIn K mainGlobals "_law_is_name" = some (some (.ref f__law_is_name))) (l__law_is_name : K.lookup f__law_is_name = some ⟨oc__law_is_name, od__law_is_name, .func (PySem.W.fnOf "_law_is_name" "_law_is_name" (defArgs S__law_is_name) (defBody S__law_is_name) (defScope S__law_is_name) .none kV__law_is_name dc__law_is_name pm__law_is_name an__law_is_name cd__law_is_name ct__law_is_name), sl__law_is_name⟩) (c__law_is_name : PySem.W.codeIn K cd__law_is_name "_law_is_name" = true) (k__law_is_name : PySem.W.keepIn K (.ref f__law_is_name) = true)
    (a__law_fault : PySem.W.nsIn K mainGlobals "_law_fault" = some (some (.ref f__law_fault))) (l__law_fault : K.lookup f__law_fault = some ⟨oc__law_fault, od__law_fault, .func (PySem.W.fnOf "_law_fault" "_law_fault" (defArgs S__law_fault) (defBody S__law_fault) (defScope S__law_fault) .none kV__law_fault dc__law_fault pm__law_fault an__law_fault cd__law_fault ct__law_fault), sl__law_fault⟩) (c__law_fault : PySem.W.codeIn K cd__law_fault "_law_fault" = true) (k__law_fault : PySem.W.keepIn K (.ref f__law_fault) = true)
    (a__law_odd : PySem.W.nsIn K mainGlobals "_law_odd" = some (some (.ref f__law_odd))) (l__law_odd : K.lookup f__law_odd = some ⟨oc__law_odd, od__law_odd, .func (PySem.W.fnOf "_law_odd" "_law_odd" (defArgs S__law_odd) (defBody S__law_odd) (defScope S__law_odd) .none kV__law_odd dc__law_odd pm__law_odd an__law_odd cd__law_odd ct__law_odd), sl__law_odd⟩) (c__law_odd : PySem.W.codeIn K cd__law_odd "_law_odd" = true) (k__law_odd : PySem.W.keepIn K (.ref f__law_odd) = true)
    (a__law_said : PySem.W.nsIn K mainGlobals "_law_said" = some (some (.ref f__law_said))) (l__law_said : K.lookup f__law_said = some ⟨oc__law_said, od__law_said, .func (PySem.W.fnOf "_law_said" "_law_said" (defArgs S__law_said) (defBody S__law_said) (defScope S__law_said) .none kV__law_said dc__law_said pm__law_said an__law_said cd__law_said ct__law_said), sl__law_said⟩) (c__law_said : PySem.W.codeIn K cd__law_said "_law_said" = true) (k__law_said : PySem.W.keepIn K (.ref f__law_said) = true)
    (a__law_right : PySem.W.nsIn K mainGlobals "_law_right" = some (some (.ref f__law_right))) (l__law_right : K.lookup f__law_right = some ⟨oc__law_right, od__law_right, .func (PySem.W.fnOf "_law_right" "_law_right" (defArgs S__law_right) (defBody S__law_right) (defScope S__law_right) .none kV__law_right dc__law_right pm__law_right an__law_right cd__law_right ct__law_right), sl__law_right⟩) (c__law_right : PySem.W.codeIn K cd__law_right "_law_right" = true) (k__law_right : PySem.W.keepIn K (.ref f__law_right) = true)
    (a_law : PySem.W.nsIn K mainGlobals "law" = some (some (.ref f_law))) (l_law : K.lookup f_law = some ⟨oc_law, od_law, .func (PySem.W.fnOf "law" "law" (defArgs S_law) (defBody S_law) (defScope S_law) .none kV_law dc_law pm_law an_law cd_law ct_law), sl_law⟩) (c_law : PySem.W.codeIn K cd_law "law" = true) (k_law : PySem.W.keepIn K (.ref f_law) = true)
    (z_isinstance : PySem.W.nsIn K mainGlobals "isinstance" = some none)
    (z_list : PySem.W.nsIn K mainGlobals "list" = some none)
    (z_tuple : PySem.W.nsIn K mainGlobals "tuple" = some none)
    (z_all : PySem.W.nsIn K mainGlobals "all" = some none)
    (z_str : PySem.W.nsIn K mainGlobals "str" = some none)
    (z_len : PySem.W.nsIn K mainGlobals "len" = some none)
    (z_bool : PySem.W.nsIn K mainGlobals "bool" = some none)
    (z_enumerate : PySem.W.nsIn K mainGlobals "enumerate" = some none)
    (z_int : PySem.W.nsIn K mainGlobals "int" = some none)
    (z_range : PySem.W.nsIn K mainGlobals "range" = some none)
    {t_LONGEST_NAME : Tok} (g_LONGEST_NAME : PySem.W.nsIn K mainGlobals "LONGEST_NAME" = some (some (.int 8 t_LONGEST_NAME)))
    {t_LETTERS : Tok} (g_LETTERS : PySem.W.nsIn K mainGlobals "LETTERS" = some (some (.str C_LETTERS t_LETTERS)))
    {ca_WORDS : Addr} {co_WORDS : Obj} {ci_WORDS : Array Value} {cn_WORDS : Nat} (g_WORDS : PySem.W.nsIn K mainGlobals "WORDS" = some (some (.ref ca_WORDS))) (gl_WORDS : K.lookup ca_WORDS = some co_WORDS) (gc_WORDS : co_WORDS.cls = .type "tuple") (gd_WORDS : co_WORDS.data = .seq ci_WORDS cn_WORDS) (gs_WORDS : ci_WORDS.size ≤ sizeLine) (gv_WORDS : Vals C_WORDS ci_WORDS.toList)
    {t_NAME_SIGNS : Tok} (g_NAME_SIGNS : PySem.W.nsIn K mainGlobals "NAME_SIGNS" = some (some (.str C_NAME_SIGNS t_NAME_SIGNS)))
    {ca_KINDS : Addr} {co_KINDS : Obj} {ci_KINDS : Array Value} {cn_KINDS : Nat} (g_KINDS : PySem.W.nsIn K mainGlobals "KINDS" = some (some (.ref ca_KINDS))) (gl_KINDS : K.lookup ca_KINDS = some co_KINDS) (gc_KINDS : co_KINDS.cls = .type "tuple") (gd_KINDS : co_KINDS.data = .seq ci_KINDS cn_KINDS) (gs_KINDS : ci_KINDS.size ≤ sizeLine) (gv_KINDS : Vals C_KINDS ci_KINDS.toList)
    {t_MOST_COLUMNS : Tok} (g_MOST_COLUMNS : PySem.W.nsIn K mainGlobals "MOST_COLUMNS" = some (some (.int 12 t_MOST_COLUMNS)))
    {t_MOST_RULES : Tok} (g_MOST_RULES : PySem.W.nsIn K mainGlobals "MOST_RULES" = some (some (.int 9 t_MOST_RULES)))
    {ca_DIRECTIONS : Addr} {co_DIRECTIONS : Obj} {ci_DIRECTIONS : Array Value} {cn_DIRECTIONS : Nat} (g_DIRECTIONS : PySem.W.nsIn K mainGlobals "DIRECTIONS" = some (some (.ref ca_DIRECTIONS))) (gl_DIRECTIONS : K.lookup ca_DIRECTIONS = some co_DIRECTIONS) (gc_DIRECTIONS : co_DIRECTIONS.cls = .type "tuple") (gd_DIRECTIONS : co_DIRECTIONS.data = .seq ci_DIRECTIONS cn_DIRECTIONS) (gs_DIRECTIONS : ci_DIRECTIONS.size ≤ sizeLine) (gv_DIRECTIONS : Vals C_DIRECTIONS ci_DIRECTIONS.toList)
    {t_MOST_PARTS : Tok} (g_MOST_PARTS : PySem.W.nsIn K mainGlobals "MOST_PARTS" = some (some (.int 3 t_MOST_PARTS)))
    : ∃ fd : FuncData, (∀ (s : Shared) (v : Value), BindsTo s fd ⟨[v], []⟩ [("_law_script", v)]) ∧ ∀ base : Heap, K.In base → base.Ns mainGlobals mg → FnOk l.prog w K mg base CX0 7 fa fd ["_law_script"] (spLaw K) := by
  have e := hfa.symm.trans (PySem.W.mg_of X G a_law)
  cases e
  have hc_Shape : cadr mg "Shape" = c_Shape := cadr_of (PySem.W.mg_of X G a_Shape)
  have T : Txt K mg := {
    h_isinstance := PySem.W.mg_none_of X G z_isinstance
    h_list := PySem.W.mg_none_of X G z_list
    h_tuple := PySem.W.mg_none_of X G z_tuple
    h_all := PySem.W.mg_none_of X G z_all
    h_str := PySem.W.mg_none_of X G z_str
    h_len := PySem.W.mg_none_of X G z_len
    h_bool := PySem.W.mg_none_of X G z_bool
    h_enumerate := PySem.W.mg_none_of X G z_enumerate
    h_int := PySem.W.mg_none_of X G z_int
    h_range := PySem.W.mg_none_of X G z_range
    d_is_sequence := ⟨f_is_sequence, _, fun_mk (st := S_is_sequence) l_is_sequence c_is_sequence k_is_sequence, PySem.W.mg_of X G a_is_sequence, (fun_mk (st := S_is_sequence) l_is_sequence c_is_sequence k_is_sequence).binds (ps := ["thing"]) fun _ _ _ _ _ _ us hl => match us, hl with | [_], _ => rfl⟩
    d_is_name := ⟨f_is_name, _, fun_mk (st := S_is_name) l_is_name c_is_name k_is_name, PySem.W.mg_of X G a_is_name, (fun_mk (st := S_is_name) l_is_name c_is_name k_is_name).binds (ps := ["thing"]) fun _ _ _ _ _ _ us hl => match us, hl with | [_], _ => rfl⟩
    d_Shape_init := by rw [hc_Shape]; exact ⟨f_Shape_init, _, fun_mk (st := S_Shape_init) l_Shape_init c_Shape_init k_Shape_init, ⟨mk_Shape, a_Shape_init, i_Shape_init, kc_Shape⟩, kw_bd2 rfl kn1_Shape_init kn2_Shape_init kl1_Shape_init gc_1_Shape_init gd_1_Shape_init kz1_Shape_init kl2_Shape_init gc_2_Shape_init gd_2_Shape_init kz2_Shape_init (fun us hl u v => match us, hl with | [_, _], _ => ⟨_, _, _, _, _, _, rfl, rfl, ⟨_, _, _, _, _, _, rfl, rfl, rfl⟩⟩)⟩
    d_is_short := ⟨f_is_short, _, fun_mk (st := S_is_short) l_is_short c_is_short k_is_short, PySem.W.mg_of X G a_is_short, (fun_mk (st := S_is_short) l_is_short c_is_short k_is_short).binds (ps := ["thing", "least", "most"]) fun _ _ _ _ _ _ us hl => match us, hl with | [_, _, _], _ => rfl⟩
    d_is_column := ⟨f_is_column, _, fun_mk (st := S_is_column) l_is_column c_is_column k_is_column, PySem.W.mg_of X G a_is_column, (fun_mk (st := S_is_column) l_is_column c_is_column k_is_column).binds (ps := ["thing"]) fun _ _ _ _ _ _ us hl => match us, hl with | [_], _ => rfl⟩
    d_need_columns := ⟨f_need_columns, _, fun_mk (st := S_need_columns) l_need_columns c_need_columns k_need_columns, PySem.W.mg_of X G a_need_columns, (fun_mk (st := S_need_columns) l_need_columns c_need_columns k_need_columns).binds (ps := ["columns"]) fun _ _ _ _ _ _ us hl => match us, hl with | [_], _ => rfl⟩
    d_need_checks := ⟨f_need_checks, _, fun_mk (st := S_need_checks) l_need_checks c_need_checks k_need_checks, PySem.W.mg_of X G a_need_checks, (fun_mk (st := S_need_checks) l_need_checks c_need_checks k_need_checks).binds (ps := ["spots", "checks"]) fun _ _ _ _ _ _ us hl => match us, hl with | [_, _], _ => rfl⟩
    d_need_keys := ⟨f_need_keys, _, fun_mk (st := S_need_keys) l_need_keys c_need_keys k_need_keys, PySem.W.mg_of X G a_need_keys, (fun_mk (st := S_need_keys) l_need_keys c_need_keys k_need_keys).binds (ps := ["spots", "keys"]) fun _ _ _ _ _ _ us hl => match us, hl with | [_, _], _ => rfl⟩
    d_is_part := ⟨f_is_part, _, fun_mk (st := S_is_part) l_is_part c_is_part k_is_part, PySem.W.mg_of X G a_is_part, (fun_mk (st := S_is_part) l_is_part c_is_part k_is_part).binds (ps := ["thing"]) fun _ _ _ _ _ _ us hl => match us, hl with | [_], _ => rfl⟩
    d_need_order := ⟨f_need_order, _, fun_mk (st := S_need_order) l_need_order c_need_order k_need_order, PySem.W.mg_of X G a_need_order, (fun_mk (st := S_need_order) l_need_order c_need_order k_need_order).binds (ps := ["thing"]) fun _ _ _ _ _ _ us hl => match us, hl with | [_], _ => rfl⟩
    d_order_in := ⟨f_order_in, _, fun_mk (st := S_order_in) l_order_in c_order_in k_order_in, PySem.W.mg_of X G a_order_in, (fun_mk (st := S_order_in) l_order_in c_order_in k_order_in).binds (ps := ["shape", "thing"]) fun _ _ _ _ _ _ us hl => match us, hl with | [_, _], _ => rfl⟩
    d__law_int := ⟨f__law_int, _, fun_mk (st := S__law_int) l__law_int c__law_int k__law_int, PySem.W.mg_of X G a__law_int, (fun_mk (st := S__law_int) l__law_int c__law_int k__law_int).binds (ps := ["_law_thing"]) fun _ _ _ _ _ _ us hl => match us, hl with | [_], _ => rfl⟩
    d__law_pool := ⟨f__law_pool, _, fun_mk (st := S__law_pool) l__law_pool c__law_pool k__law_pool, PySem.W.mg_of X G a__law_pool, (fun_mk (st := S__law_pool) l__law_pool c__law_pool k__law_pool).binds (ps := ["_law_script", "_law_place"]) fun _ _ _ _ _ _ us hl => match us, hl with | [_, _], _ => rfl⟩
    d__law_draw := ⟨f__law_draw, _, fun_mk (st := S__law_draw) l__law_draw c__law_draw k__law_draw, PySem.W.mg_of X G a__law_draw, (fun_mk (st := S__law_draw) l__law_draw c__law_draw k__law_draw).binds (ps := ["_law_pool_here", "_law_many"]) fun _ _ _ _ _ _ us hl => match us, hl with | [_, _], _ => rfl⟩
    d__law_name := ⟨f__law_name, _, fun_mk (st := S__law_name) l__law_name c__law_name k__law_name, PySem.W.mg_of X G a__law_name, (fun_mk (st := S__law_name) l__law_name c__law_name k__law_name).binds (ps := ["_law_pool_here", "_law_taken"]) fun _ _ _ _ _ _ us hl => match us, hl with | [_, _], _ => rfl⟩
    d__law_is_name := ⟨f__law_is_name, _, fun_mk (st := S__law_is_name) l__law_is_name c__law_is_name k__law_is_name, PySem.W.mg_of X G a__law_is_name, (fun_mk (st := S__law_is_name) l__law_is_name c__law_is_name k__law_is_name).binds (ps := ["_law_thing"]) fun _ _ _ _ _ _ us hl => match us, hl with | [_], _ => rfl⟩
    d__law_fault := ⟨f__law_fault, _, fun_mk (st := S__law_fault) l__law_fault c__law_fault k__law_fault, PySem.W.mg_of X G a__law_fault, (fun_mk (st := S__law_fault) l__law_fault c__law_fault k__law_fault).binds (ps := ["_law_thing"]) fun _ _ _ _ _ _ us hl => match us, hl with | [_], _ => rfl⟩
    d__law_odd := ⟨f__law_odd, _, fun_mk (st := S__law_odd) l__law_odd c__law_odd k__law_odd, PySem.W.mg_of X G a__law_odd, (fun_mk (st := S__law_odd) l__law_odd c__law_odd k__law_odd).binds (ps := ["_law_pool_here", "_law_parts", "_law_at"]) fun _ _ _ _ _ _ us hl => match us, hl with | [_, _, _], _ => rfl⟩
    d__law_said := ⟨f__law_said, _, fun_mk (st := S__law_said) l__law_said c__law_said k__law_said, PySem.W.mg_of X G a__law_said, (fun_mk (st := S__law_said) l__law_said c__law_said k__law_said).binds (ps := ["_law_shape", "_law_thing"]) fun _ _ _ _ _ _ us hl => match us, hl with | [_, _], _ => rfl⟩
    d__law_right := ⟨f__law_right, _, fun_mk (st := S__law_right) l__law_right c__law_right k__law_right, PySem.W.mg_of X G a__law_right, (fun_mk (st := S__law_right) l__law_right c__law_right k__law_right).binds (ps := ["_law_said_here", "_law_fault_here", "_law_thing"]) fun _ _ _ _ _ _ us hl => match us, hl with | [_, _, _], _ => rfl⟩
    x_BadOrder := by rw [show cadr mg "BadOrder" = c_BadOrder from cadr_of (PySem.W.mg_of X G a_eBadOrder)]; exact ⟨feBadOrder, { gC := PySem.W.mg_of X G a_eBadOrder, cls := ⟨_, _, _, _, _, _, _, _, _, _, _, _, _, _, _, x_eBadOrder, o_eBadOrder⟩, sa := sa_eBadOrder, ga := ga_eBadOrder, gg := gg_eBadOrder, noF := nb_eBadOrder, ini := i_eBadOrder, tyI := t_eBadOrder, kC := k_eBadOrder, exC := eC_eBadOrder, tyC := tC_eBadOrder, hdC := hC_eBadOrder, te := exmSelf eC_eBadOrder te_eBadOrder tC_eBadOrder tf_eBadOrder, fn := ⟨_, _, _, _, _, _, _, _, _, _, _, _, _, _, _, l_eBadOrder, cc_eBadOrder, s1_eBadOrder, s2_eBadOrder, s3_eBadOrder, s4_eBadOrder⟩ }⟩
    e_Shape := by rw [hc_Shape]; exact PySem.W.mg_of X G a_Shape
    sf_Shape := by rw [hc_Shape]; exact sf_Shape
    nr_Shape_and := by rw [hc_Shape]; exact nr_Shape_and
    nr_Shape_or := by rw [hc_Shape]; exact nr_Shape_or
    is_Shape := by rw [hc_Shape]; exact ⟨ia_Shape, in_Shape, it_Shape, im_Shape, kitSelf, fun T h => kitNo io_Shape iy_Shape (by unfold kinds7 at h; simp only [List.mem_cons, List.not_mem_nil, or_false] at h; rcases h with rfl | rfl | rfl | rfl | rfl | rfl | rfl <;> assumption)⟩
    cl_Shape := by rw [hc_Shape]; exact ⟨pg_Shape, hd_Shape, po_Shape, sa_Shape⟩
    n_Shape_layout := by rw [hc_Shape]; exact n_Shape_layout
    n_Shape_spots := by rw [hc_Shape]; exact n_Shape_spots
    n_Shape_check_tests := by rw [hc_Shape]; exact n_Shape_check_tests
    n_Shape_key_rules := by rw [hc_Shape]; exact n_Shape_key_rules
    k_LONGEST_NAME := ⟨t_LONGEST_NAME, PySem.W.mg_of X G g_LONGEST_NAME⟩
    k_LETTERS := ⟨t_LETTERS, PySem.W.mg_of X G g_LETTERS⟩
    k_WORDS := ⟨ca_WORDS, PySem.W.mg_of X G g_WORDS, fun _ => Or.inr ⟨co_WORDS, ci_WORDS, cn_WORDS, gl_WORDS, gc_WORDS, gd_WORDS, gs_WORDS, gv_WORDS⟩⟩
    k_NAME_SIGNS := ⟨t_NAME_SIGNS, PySem.W.mg_of X G g_NAME_SIGNS⟩
    k_KINDS := ⟨ca_KINDS, PySem.W.mg_of X G g_KINDS, fun _ => Or.inr ⟨co_KINDS, ci_KINDS, cn_KINDS, gl_KINDS, gc_KINDS, gd_KINDS, gs_KINDS, gv_KINDS⟩⟩
    k_MOST_COLUMNS := ⟨t_MOST_COLUMNS, PySem.W.mg_of X G g_MOST_COLUMNS⟩
    k_MOST_RULES := ⟨t_MOST_RULES, PySem.W.mg_of X G g_MOST_RULES⟩
    k_DIRECTIONS := ⟨ca_DIRECTIONS, PySem.W.mg_of X G g_DIRECTIONS, fun _ => Or.inr ⟨co_DIRECTIONS, ci_DIRECTIONS, cn_DIRECTIONS, gl_DIRECTIONS, gc_DIRECTIONS, gd_DIRECTIONS, gs_DIRECTIONS, gv_DIRECTIONS⟩⟩
    k_MOST_PARTS := ⟨t_MOST_PARTS, PySem.W.mg_of X G g_MOST_PARTS⟩ }
  exact ⟨PySem.W.fnOf "law" "law" (defArgs S_law) (defBody S_law) (defScope S_law) .none kV_law dc_law pm_law an_law cd_law ct_law, fun s v => .of_eq rfl, fun base _ _ => ok_law T (fun_mk (st := S_law) l_law c_law k_law)⟩
theorem walk {l : PySem.W.OpenLaw} {q : Program} {loose : List Str} {XP : (Str → Option Value) → Heap → Prop} {YP : World → Heap → Prop} {d : DefRec} {K : Params → PySem.W.Frag} (hn : l.most = some 63) (hdf : d.params.defaults = [])
    (hY : ∀ (w : World) (h : Heap), YP w h → (K w.params).In h)
    (F : ∀ (w : World) (mg : Str → Option Value) (fa : Addr) (h : Heap), (K w.params).In h → h.Ns mainGlobals mg → mg d.name = some (.ref fa) →
      ∃ fd : FuncData, (∀ (s : Shared) (u : Value), BindsTo s fd ⟨[u], []⟩ [("_law_script", u)]) ∧ ∀ base : Heap, (K w.params).In base → base.Ns mainGlobals mg → FnOk l.prog w (K w.params) mg base CX0 7 fa fd ["_law_script"] (spLaw (K w.params))) :
    PySem.W.WalkO q loose XP YP l.row.toRowW d [] (fun f vs => PySem.call f vs) :=
  L2.walk_of (n := 63) (k := 7) (x := "_law_script") (CX := fun _ => CX0) (sp := fun w => spLaw (K w.params)) hn (by decide) hdf ⟨rfl, by decide, by decide⟩ hY F (fun _ _ a ns hl _ hS => ⟨a, ns, rfl, hS, hl, fun _ => rfl⟩) fun _ _ _ _ _ z => z
end L
open PySem PySem.W PyProof.Rows
set_option maxRecDepth 100000 in
set_option maxHeartbeats 0 in
theorem PySem.Challenge.cw_tworows_k43_orders_are_read_holds : PySem.Challenge.rw_tworows_k43_orders_are_read.Holds := by
  w_on; o_law; k_head; (case hw => w_witness2)
  k_fill
  refine L.walk (l := PySem.Challenge.rw_tworows_k43_orders_are_read) rfl rfl (fun w h Y => PySem.W.kIn_of Y) ?F
  case F =>
    intro w mg fa h KX G hmg
    refine' L.all_mk KX G hmg ?a_Shape ?pg_Shape ?hd_Shape ?po_Shape ?sa_Shape ?mk_Shape ?kc_Shape ?sf_Shape ?nr_Shape_and ?nr_Shape_or ?ia_Shape ?in_Shape ?it_Shape ?im_Shape ?io_Shape ?iy_Shape ?iz_Shape_NoneType ?iz_Shape_bool ?iz_Shape_int ?iz_Shape_str ?iz_Shape_list ?iz_Shape_tuple ?iz_Shape_dict ?n_Shape_layout ?n_Shape_spots ?n_Shape_check_tests ?n_Shape_key_rules ?a_eBadOrder ?x_eBadOrder ?o_eBadOrder ?sa_eBadOrder ?ga_eBadOrder ?gg_eBadOrder ?nb_eBadOrder ?i_eBadOrder ?t_eBadOrder ?l_eBadOrder ?cc_eBadOrder ?s1_eBadOrder ?s2_eBadOrder ?s3_eBadOrder ?s4_eBadOrder ?k_eBadOrder ?eC_eBadOrder ?tC_eBadOrder ?hC_eBadOrder ?te_eBadOrder ?tf_eBadOrder ?a_is_sequence ?l_is_sequence ?c_is_sequence ?k_is_sequence ?a_is_name ?l_is_name ?c_is_name ?k_is_name ?a_Shape_init ?i_Shape_init ?l_Shape_init ?c_Shape_init ?k_Shape_init ?kn1_Shape_init ?kl1_Shape_init ?gc_1_Shape_init ?gd_1_Shape_init ?kz1_Shape_init ?kn2_Shape_init ?kl2_Shape_init ?gc_2_Shape_init ?gd_2_Shape_init ?kz2_Shape_init ?a_is_short ?l_is_short ?c_is_short ?k_is_short ?a_is_column ?l_is_column ?c_is_column ?k_is_column ?a_need_columns ?l_need_columns ?c_need_columns ?k_need_columns ?a_need_checks ?l_need_checks ?c_need_checks ?k_need_checks ?a_need_keys ?l_need_keys ?c_need_keys ?k_need_keys ?a_is_part ?l_is_part ?c_is_part ?k_is_part ?a_need_order ?l_need_order ?c_need_order ?k_need_order ?a_order_in ?l_order_in ?c_order_in ?k_order_in ?a__law_int ?l__law_int ?c__law_int ?k__law_int ?a__law_pool ?l__law_pool ?c__law_pool ?k__law_pool ?a__law_draw ?l__law_draw ?c__law_draw ?k__law_draw ?a__law_name ?l__law_name ?c__law_name ?k__law_name ?a__law_is_name ?l__law_is_name ?c__law_is_name ?k__law_is_name ?a__law_fault ?l__law_fault ?c__law_fault ?k__law_fault ?a__law_odd ?l__law_odd ?c__law_odd ?k__law_odd ?a__law_said ?l__law_said ?c__law_said ?k__law_said ?a__law_right ?l__law_right ?c__law_right ?k__law_right ?a_law ?l_law ?c_law ?k_law ?z_isinstance ?z_list ?z_tuple ?z_all ?z_str ?z_len ?z_bool ?z_enumerate ?z_int ?z_range ?g_LONGEST_NAME ?g_LETTERS ?g_WORDS ?gl_WORDS ?gc_WORDS ?gd_WORDS ?gs_WORDS ?gv_WORDS ?g_NAME_SIGNS ?g_KINDS ?gl_KINDS ?gc_KINDS ?gd_KINDS ?gs_KINDS ?gv_KINDS ?g_MOST_COLUMNS ?g_MOST_RULES ?g_DIRECTIONS ?gl_DIRECTIONS ?gc_DIRECTIONS ?gd_DIRECTIONS ?gs_DIRECTIONS ?gv_DIRECTIONS ?g_MOST_PARTS
    (case a_Shape => k_is)
    (case pg_Shape => k_is)
    (case hd_Shape => k_is)
    (case po_Shape => k_is)
    (case sa_Shape => k_is)
    (case mk_Shape => k_is)
    (case kc_Shape => k_is)
    (case sf_Shape => k_is)
    (case nr_Shape_and => k_is)
    (case nr_Shape_or => k_is)
    (case ia_Shape => k_is)
    (case in_Shape => k_is)
    (case it_Shape => k_is)
    (case im_Shape => k_is)
    (case io_Shape => k_is)
    (case iy_Shape => k_is)
    (case iz_Shape_NoneType => k_is)
    (case iz_Shape_bool => k_is)
    (case iz_Shape_int => k_is)
    (case iz_Shape_str => k_is)
    (case iz_Shape_list => k_is)
    (case iz_Shape_tuple => k_is)
    (case iz_Shape_dict => k_is)
    (case n_Shape_layout => k_is)
    (case n_Shape_spots => k_is)
    (case n_Shape_check_tests => k_is)
    (case n_Shape_key_rules => k_is)
    (case a_eBadOrder => k_is)
    (case x_eBadOrder => k_is)
    (case o_eBadOrder => (repeat (first | exact PySem.TwX.OwnEx.tail | refine PySem.TwX.OwnEx.own _ ?_)))
    (case sa_eBadOrder => k_is)
    (case ga_eBadOrder => k_is)
    (case gg_eBadOrder => k_is)
    (case nb_eBadOrder => k_is)
    (case i_eBadOrder => k_is)
    (case t_eBadOrder => k_is)
    (case l_eBadOrder => k_is)
    (case cc_eBadOrder => k_is)
    (case s1_eBadOrder => rfl)
    (case s2_eBadOrder => rfl)
    (case s3_eBadOrder => rfl)
    (case s4_eBadOrder => rfl)
    (case k_eBadOrder => k_is)
    (case eC_eBadOrder => k_is)
    (case tC_eBadOrder => k_is)
    (case hC_eBadOrder => k_is)
    (case te_eBadOrder => k_is)
    (case tf_eBadOrder => k_is)
    (case a_is_sequence => k_is)
    (case l_is_sequence => k_is)
    (case c_is_sequence => k_is)
    (case k_is_sequence => k_is)
    (case a_is_name => k_is)
    (case l_is_name => k_is)
    (case c_is_name => k_is)
    (case k_is_name => k_is)
    (case a_Shape_init => k_is)
    (case i_Shape_init => k_is)
    (case l_Shape_init => k_is)
    (case c_Shape_init => k_is)
    (case k_Shape_init => k_is)
    (case kn1_Shape_init => k_is)
    (case kl1_Shape_init => k_is)
    (case gc_1_Shape_init => rfl)
    (case gd_1_Shape_init => rfl)
    (case kz1_Shape_init => rfl)
    (case kn2_Shape_init => k_is)
    (case kl2_Shape_init => k_is)
    (case gc_2_Shape_init => rfl)
    (case gd_2_Shape_init => rfl)
    (case kz2_Shape_init => rfl)
    (case a_is_short => k_is)
    (case l_is_short => k_is)
    (case c_is_short => k_is)
    (case k_is_short => k_is)
    (case a_is_column => k_is)
    (case l_is_column => k_is)
    (case c_is_column => k_is)
    (case k_is_column => k_is)
    (case a_need_columns => k_is)
    (case l_need_columns => k_is)
    (case c_need_columns => k_is)
    (case k_need_columns => k_is)
    (case a_need_checks => k_is)
    (case l_need_checks => k_is)
    (case c_need_checks => k_is)
    (case k_need_checks => k_is)
    (case a_need_keys => k_is)
    (case l_need_keys => k_is)
    (case c_need_keys => k_is)
    (case k_need_keys => k_is)
    (case a_is_part => k_is)
    (case l_is_part => k_is)
    (case c_is_part => k_is)
    (case k_is_part => k_is)
    (case a_need_order => k_is)
    (case l_need_order => k_is)
    (case c_need_order => k_is)
    (case k_need_order => k_is)
    (case a_order_in => k_is)
    (case l_order_in => k_is)
    (case c_order_in => k_is)
    (case k_order_in => k_is)
    (case a__law_int => k_is)
    (case l__law_int => k_is)
    (case c__law_int => k_is)
    (case k__law_int => k_is)
    (case a__law_pool => k_is)
    (case l__law_pool => k_is)
    (case c__law_pool => k_is)
    (case k__law_pool => k_is)
    (case a__law_draw => k_is)
    (case l__law_draw => k_is)
    (case c__law_draw => k_is)
    (case k__law_draw => k_is)
    (case a__law_name => k_is)
    (case l__law_name => k_is)
    (case c__law_name => k_is)
    (case k__law_name => k_is)
    (case a__law_is_name => k_is)
    (case l__law_is_name => k_is)
    (case c__law_is_name => k_is)
    (case k__law_is_name => k_is)
    (case a__law_fault => k_is)
    (case l__law_fault => k_is)
    (case c__law_fault => k_is)
    (case k__law_fault => k_is)
    (case a__law_odd => k_is)
    (case l__law_odd => k_is)
    (case c__law_odd => k_is)
    (case k__law_odd => k_is)
    (case a__law_said => k_is)
    (case l__law_said => k_is)
    (case c__law_said => k_is)
    (case k__law_said => k_is)
    (case a__law_right => k_is)
    (case l__law_right => k_is)
    (case c__law_right => k_is)
    (case k__law_right => k_is)
    (case a_law => k_is)
    (case l_law => k_is)
    (case c_law => k_is)
    (case k_law => k_is)
    (case z_isinstance => k_is)
    (case z_list => k_is)
    (case z_tuple => k_is)
    (case z_all => k_is)
    (case z_str => k_is)
    (case z_len => k_is)
    (case z_bool => k_is)
    (case z_enumerate => k_is)
    (case z_int => k_is)
    (case z_range => k_is)
    (case g_LONGEST_NAME => k_is)
    (case g_LETTERS => k_is)
    (case g_WORDS => k_is)
    (case gl_WORDS => k_is)
    (case gc_WORDS => rfl)
    (case gd_WORDS => rfl)
    (case gs_WORDS => decide)
    (case gv_WORDS => (repeat (first | exact .nil | refine .cons ⟨_, rfl⟩ ?_)))
    (case g_NAME_SIGNS => k_is)
    (case g_KINDS => k_is)
    (case gl_KINDS => k_is)
    (case gc_KINDS => rfl)
    (case gd_KINDS => rfl)
    (case gs_KINDS => decide)
    (case gv_KINDS => (repeat (first | exact .nil | refine .cons ⟨_, rfl⟩ ?_)))
    (case g_MOST_COLUMNS => k_is)
    (case g_MOST_RULES => k_is)
    (case g_DIRECTIONS => k_is)
    (case gl_DIRECTIONS => k_is)
    (case gc_DIRECTIONS => rfl)
    (case gd_DIRECTIONS => rfl)
    (case gs_DIRECTIONS => decide)
    (case gv_DIRECTIONS => (repeat (first | exact .nil | refine .cons ⟨_, rfl⟩ ?_)))
    (case g_MOST_PARTS => k_is)
#print axioms PySem.Challenge.cw_tworows_k43_orders_are_read_holds
