import PyProof.Rows.All
import Wide.All
import OpenK.AllK
import Wide.FinOn
import HandS.ForMost
import HandS.Wide
import HandS.IsInst
import HandS.Flow
import HandS.TupLe
import HandS.StrMore
import HandS.Evl
import HandS.Walk
import KE.KxText
import HandS.Set
import HandS.Strs
import HandS.SetFor
import PyProof.Rows.SortShellAny
import HandS.Replace
import KE.KOpsOwn
import HandS.ForExc
import HandS.TryMany
import HandS.TryOnly
import HandS.ExcSuper
import HandS.ExcOwn
import HandS.Defaults
import HandS.DictComp
import HandS.RaiseMore
import HandS.ListEq
import HandS.DeepEq
import HandS.Iter
import KE.GoesMore
import PySem.Challenge.RW_tworows_k13_fitting_tests
set_option Elab.async false
set_option linter.all false
set_option maxRecDepth 100000
set_option maxHeartbeats 4000000
namespace Tw
open PySem L2

/-! ### a def of the text with its promise -/
structure Def (P : Program) (w : World) (K : PySem.W.Frag) (mg : Str → Option Value) (base : Heap) (k : Nat) (x : Str) (ps : List Str) (sp : Sp) : Prop where
  ex : ∃ (f : Addr) (fd : FuncData), FnOk P w K mg base CX0 k f fd ps sp ∧ mg x = some (.ref f) ∧ PySem.W.keepIn K (.ref f) = true ∧ Binds K fd ps []
/-- where a def of the text stands -/
structure Here (K : PySem.W.Frag) (mg : Str → Option Value) (x : Str) (st : Stmt) (ps : List Str) (f : Addr) (fd : FuncData) : Prop where
  fn : Fun K x x st f fd
  mg : mg x = some (.ref f)
  bd : Binds K fd ps []
section
variable {X : Cx} {k j : Nat} {x : Str} {p pos : Pos} {e : Expr} {es : List Expr} {ps : List Str} {sp : Sp} {t : TA}
theorem Here.def {P : Program} {w : World} {K : PySem.W.Frag} {mg : Str → Option Value} {base : Heap} {st : Stmt} {f : Addr} {fd : FuncData} (h : Here K mg x st ps f fd) (F : FnOk P w K mg base CX0 k f fd ps sp) : Def P w K mg base k x ps sp :=
  ⟨f, fd, F, h.mg, h.fn.kp, h.bd⟩
def tDef (sp : Sp) (t : TA) : TE := fun σ H Q => t σ H fun vs H1 => sp vs H1 Q E0
theorem tDef_eq {sp : Sp} {t : TA} : tCall sp [] E0 t = tDef sp t := by
  funext σ H Q
  unfold tCall tDef
  simp only [List.append_nil]
theorem pe_def (D : Def X.prog X.w X.K X.mg X.base k x ps sp) (hr : Room j X.A) (hg : Gl X x) (ha : PA X (e :: es) t) (hk : k ≤ j := by decide) (hdb : (x == ("__debug__" : Str)) = false := by decide)
    (he : starEach (e :: es) X.env = (false, eval e X.env) :: starEach es X.env := by rfl) (hpl : (backTo pos (starEach es X.env)).any (·.1) = false := by rfl) : PE X (.Call (.Name x p) (e :: es) [] pos) (tDef sp t) := by
  obtain ⟨f, fd, F, hm, hkp, hb⟩ := D.ex
  rw [← tDef_eq]
  exact pe_call F (hr.mono hk) hg hm hkp hb .nil pass0 ha hdb he hpl
theorem pe_def0 (D : Def X.prog X.w X.K X.mg X.base k x ps sp) (hr : Room j X.A) (hg : Gl X x) (hk : k ≤ j := by decide) (hdb : (x == ("__debug__" : Str)) = false := by decide) : PE X (.Call (.Name x p) [] [] pos) (tDef sp tNil) := by
  obtain ⟨f, fd, F, hm, hkp, hb⟩ := D.ex
  rw [← tDef_eq]
  exact pe_call0 F (hr.mono hk) hg hm hkp hb .nil pass0 hdb
end

/-! ### operators for values of any kind -/
def rStr2 (C : Str → Str → Prop) (g : Str → Str → V) : R2 := fun x y H Q => ∃ i j, x = .str i ∧ y = .str j ∧ C i j ∧ Q (g i j) H
def rAddG : R2 := fun x y H Q => (∃ i j, x = .int i ∧ y = .int j ∧ Q (.int (i + j)) H) ∨ (∃ i j, x = .str i ∧ y = .str j ∧ i.length + j.length ≤ sizeLine ∧ Q (.str (i ++ j)) H) ∨ rCat x y H Q
def rLtG : R2 := fun x y H Q => (∃ i j, x = .int i ∧ y = .int j ∧ Q (.bl (decide (i < j))) H) ∨ ∃ i j, x = .str i ∧ y = .str j ∧ Q (.bl (decide (i.cps.toList < j.cps.toList))) H
def CPowG (i j : Int) : Prop := 0 ≤ j ∧ (Builtin.Int.intBits i : Int) * j ≤ 2 ^ 27
section
variable {X : Cx} {H : Hp} {Q : VK}
theorem op_addG : OpR X (binaryOp .Add) rAddG := op_add.or (op_add_str.or op_cat)
theorem op_ltG : OpR X (compareOp .Lt) rLtG := op_lt.or op_lt_str
theorem op_powG : OpR X (binaryOp .Pow) (rI CPowG fun i j => .int (i ^ j.toNat)) := opI fun _ _ _ _ _ _ _ hc q => PyProof.Rows.pow_int hc.1 hc.2 q
def rFdG : R2 := rI CDivW fun i j => .int (i / j)
theorem op_fdG : OpR X (binaryOp .FloorDiv) rFdG := op_fdivW
def rModG : R2 := rI (fun _ j => 0 < j) fun i j => .int (i % j)
theorem op_modG : OpR X (binaryOp .Mod) rModG := op_mod
def rSubG : R2 := rI0 fun i j => .int (i - j)
theorem op_subG : OpR X (binaryOp .Sub) rSubG := op_sub
def rMulG : R2 := rI CMul fun i j => .int (i * j)
theorem op_mulG : OpR X (binaryOp .Mult) rMulG := op_mul
def rPowG : R2 := rI CPowG fun i j => .int (i ^ j.toNat)
theorem op_powG' : OpR X (binaryOp .Pow) rPowG := op_powG
def rLeG : R2 := rI0 fun i j => .bl (decide (i ≤ j))
theorem op_leG : OpR X (compareOp .LtE) rLeG := op_le
def rGtG : R2 := rI0 fun i j => .bl (decide (j < i))
theorem op_gtG : OpR X (compareOp .Gt) rGtG := op_gt
def rGeG : R2 := fun x y H Q => (rI0 fun i j => .bl (decide (j ≤ i))) x y H Q ∨ ∃ i j, x = .str i ∧ y = .str j ∧ Q (.bl (!decide (i.cps.toList < j.cps.toList))) H
theorem op_geG : OpR X (compareOp .GtE) rGeG := op_ge.or op_ge_str
def rIsNG : R2 := fun x y H Q => y = .non ∧ Q (.bl (decide (x = .non))) H
theorem op_isNG : OpR X (compareOp .Is) rIsNG := op_isN
def rNotNG : R2 := fun x y H Q => y = .non ∧ Q (.bl (!decide (x = .non))) H
theorem op_notNG : OpR X (compareOp .IsNot) rNotNG := op_notN
def rNegG : V → Hp → VK → Prop := rU fun i => .int (-i)
theorem un_negG : UnR X (unaryOp .USub) rNegG := un_neg
/-! rules that hang on the written part, the part told by a letter (so that they stand in a comprehension's block, too) -/
def rLenG (K : PySem.W.Frag) : List V → Hp → VK → Prop := fun xs H Q => ∃ x n, xs = [x] ∧ LenV K x H n ∧ Q (.int n) H
theorem call_lenG {K : PySem.W.Frag} (h : X.K = K) : CallR X (.builtin "len") (rLenG K) := by subst h; exact call_len
theorem ix_seqG {K : PySem.W.Frag} (h : X.K = K) : IxR X (rIx K) := by subst h; exact ix_seq
theorem call_isiG {K : PySem.W.Frag} (h : X.K = K) : CallR X (.builtin "isinstance") (rIsi K) := by subst h; exact call_isi
theorem sl_listG {K : PySem.W.Frag} (h : X.K = K) : SlR X (rSlL K) := by subst h; exact sl_list
def rSlG (K : PySem.W.Frag) : V → Option Int → Option Int → Hp → VK → Prop := fun x lo hi H Q => rSlL K x lo hi H Q ∨ (L2.rSlS x lo hi H Q ∨ rSlT K x lo hi H Q)
theorem sl_G {K : PySem.W.Frag} (h : X.K = K) : SlR X (rSlG K) := by subst h; exact sl_list.or (sl_str.or sl_tup)
def rInSign : R2 := fun x y H Q => ∃ (c : Nat) (z : Str), x = .str ⟨#[c]⟩ ∧ y = .str z ∧ Q (.bl (decide (c ∈ z.cps.toList))) H
def rNotInSign : R2 := fun x y H Q => ∃ (c : Nat) (z : Str), x = .str ⟨#[c]⟩ ∧ y = .str z ∧ Q (.bl (!decide (c ∈ z.cps.toList))) H
def rInG (K : PySem.W.Frag) : R2 := fun x y H Q => rInSign x y H Q ∨ rIn K false x y H Q
def rNotInG (K : PySem.W.Frag) : R2 := fun x y H Q => rNotInSign x y H Q ∨ rIn K true x y H Q
theorem op_inG {K : PySem.W.Frag} (h : X.K = K) : OpR X (compareOp .In) (rInG K) := by subst h; exact (show OpR X (compareOp .In) rInSign from op_in_sign).or op_in_seq
theorem op_notInG {K : PySem.W.Frag} (h : X.K = K) : OpR X (compareOp .NotIn) (rNotInG K) := by subst h; exact (show OpR X (compareOp .NotIn) rNotInSign from op_notIn_sign).or op_notIn_seq
def rMax2 : List V → Hp → VK → Prop := fun xs H Q => ∃ i j, xs = [.int i, .int j] ∧ Q (.int (if j > i then j else i)) H
theorem call_max2G (h : X.calm = true) : CallR X (.builtin "max") rMax2 := call_max2 h
def rGeS : R2 := fun x y H Q => ∃ i j, x = .str i ∧ y = .str j ∧ Q (.bl (!decide (i.cps.toList < j.cps.toList))) H
def rIsBl : R2 := fun x y H Q => ∃ a b, x = .bl a ∧ y = .bl b ∧ Q (.bl (decide (a = b))) H
def rNotBl : R2 := fun x y H Q => ∃ a b, x = .bl a ∧ y = .bl b ∧ Q (.bl (!decide (a = b))) H
theorem op_isBl : OpR X (compareOp .Is) rIsBl := op_is_bl
theorem op_notBl : OpR X (compareOp .IsNot) rNotBl := op_isnot_bl
def rListG (K : PySem.W.Frag) : List V → Hp → VK → Prop := fun xs H Q => ∃ p ys, xs = [.ref p] ∧ (SqL K H p ys ∨ SqT K H p ys) ∧ ∀ l, H l = none → Q (.ref l) (upd H l (.lst ys))
theorem call_listG {K : PySem.W.Frag} (h : X.K = K) : CallR X (.type "list") (rListG K) := by subst h; exact call_list_of
def rIntG : List V → Hp → VK → Prop := fun xs H Q => (∃ i, xs = [.int i] ∧ Q (.int i) H) ∨ ∃ k, xs = [.bl k] ∧ Q (.int (if k then 1 else 0)) H
theorem call_intG : CallR X (.type "int") rIntG := call_int1
def rBoolG : List V → Hp → VK → Prop := fun xs H Q => (∃ i, xs = [.int i] ∧ Q (.bl (i != 0)) H) ∨ ∃ k, xs = [.bl k] ∧ Q (.bl k) H
theorem call_boolG : CallR X (.type "bool") rBoolG := call_bool1
def rJoinG (K : PySem.W.Frag) : V → List V → Hp → VK → Prop := fun x xs H Q => ∃ a p, ∃ ys : List Str, x = .str a ∧ xs = [.ref p] ∧ (SqL K H p (ys.map V.str) ∨ SqT K H p (ys.map V.str)) ∧
    (ys.map (·.length)).sum + ys.length * a.length ≤ 16777216 ∧ Q (.str (PySem.Txt.join a ys)) H
theorem mt_joinG {K : PySem.W.Frag} (h : X.K = K) : MtR X "str.join" (rJoinG K) := by subst h; exact mt_join
/-- is True, is False: of bools -/
def rIsB : R2 := fun x y H Q => ∃ i j, x = .bl i ∧ y = .bl j ∧ Q (.bl (decide (i = j))) H
end

/-- what is wanted behind a statement, in a word that is no constructor -/
def mkE (nx : L2.St → Hp → Prop) (rt : VK) (bk ct : L2.St → Hp → Prop) : Ends := ⟨nx, rt, bk, ct⟩
theorem Fun.okM {P : Program} {w : World} {K : PySem.W.Frag} {mg : Str → Option Value} {base : Heap} {x qual : Str} {st : Stmt} {f : Addr} {fd : FuncData} {N ps : List Str} {k : Nat} {sp : Sp} (F : Fun K x qual st f fd) (S : FnScope N ps (defScope st)) (len : ∀ vs H Q E, sp vs H Q E → vs.length = ps.length)
    (hbody : ∀ (cdv : Value) (A : Around) (outer : List Env) (s : Shared) (H : Hp) (vs : List V) (Q : VK) (E : XK), Room k (A.deeper (PyProof.Rows.envOfC qual (defScope st) s.heap.objs.size f cdv)) → sp vs H Q E →
      ∃ t, PSs (cxOf CX0 P w K mg base N qual (defScope st) f cdv A outer s H E).nox (defBody st) t ∧ t (mkE (fun _ H' => Q .non H') Q (fun _ _ => False) (fun _ _ => False)) (L2.start N vs) H) : FnOk P w K mg base CX0 (k + 1) f fd ps sp := F.ok S len hbody
/-! ### readings, step by step -/
section
variable {K : PySem.W.Frag} {σ : L2.St} {H : Hp} {Q : VK} {QT : Bool → Hp → Prop} {QA : List V → Hp → Prop} {D : Ends} {ta tb te : TE} {tr t : TA} {u c : TT} {ts tz : TS} {x y v : V} {a b : Bool} {i j : Int}
theorem g_var {n : Nat} (h : σ[n]? = some (some v)) (q : Q v H) : tVar n σ H Q := ⟨v, h, q⟩
theorem g_var0 {n : Nat} (q : ∃ v, σ[n]? = some (some v) ∧ Q v H) : tVar n σ H Q := q
theorem g_c (q : Q v H) : tC v σ H Q := q
theorem g_op {r : R2} (q : ta σ H fun x H1 => tb σ H1 fun y H2 => r x y H2 Q) : tOp r ta tb σ H Q := q
theorem g_un {r : V → Hp → VK → Prop} (q : ta σ H fun x H1 => r x H1 Q) : tUn r ta σ H Q := q
theorem g_nil (q : QA [] H) : tNil σ H QA := q
theorem g_cons (q : ta σ H fun x H1 => tr σ H1 fun xs H2 => QA (x :: xs) H2) : tCons ta tr σ H QA := q
theorem g_def {sp : Sp} (q : t σ H fun vs H1 => sp vs H1 Q E0) : tDef sp t σ H Q := q
theorem g_cb {r : List V → Hp → VK → Prop} (q : t σ H fun vs H1 => r vs H1 Q) : tCB r t σ H Q := q
theorem g_tup (q : t σ H fun xs H1 => xs.length ≤ sizeLine ∧ ∀ p, H1 p = none → Q (.ref p) (upd H1 p (.tup xs))) : tTup t σ H Q := q
theorem g_lst (q : t σ H fun xs H1 => xs.length ≤ sizeLine ∧ ∀ p, H1 p = none → Q (.ref p) (upd H1 p (.lst xs))) : tLst t σ H Q := q
theorem g_addI (q : Q (.int (i + j)) H) : rAddG (.int i) (.int j) H Q := .inl ⟨i, j, rfl, rfl, q⟩
theorem g_addS {z w : Str} (h : z.length + w.length ≤ sizeLine) (q : Q (.str (z ++ w)) H) : rAddG (.str z) (.str w) H Q := .inr (.inl ⟨z, w, rfl, rfl, h, q⟩)
theorem g_subI (q : Q (.int (i - j)) H) : rSubG (.int i) (.int j) H Q := ⟨i, j, rfl, rfl, q⟩
theorem g_mulI (h : CMul i j) (q : Q (.int (i * j)) H) : rMulG (.int i) (.int j) H Q := ⟨i, j, rfl, rfl, h, q⟩
theorem g_powI (h : CPowG i j) (q : Q (.int (i ^ j.toNat)) H) : rPowG (.int i) (.int j) H Q := ⟨i, j, rfl, rfl, h, q⟩
theorem g_modI (h : 0 < j) (q : Q (.int (i % j)) H) : rModG (.int i) (.int j) H Q := ⟨i, j, rfl, rfl, h, q⟩
theorem g_fdI (h : CDivW i j) (q : Q (.int (i / j)) H) : rFdG (.int i) (.int j) H Q := ⟨i, j, rfl, rfl, h, q⟩
theorem g_negI (q : Q (.int (-i)) H) : rNegG (.int i) H Q := ⟨i, rfl, q⟩
theorem g_ltI (q : Q (.bl (decide (i < j))) H) : rLtG (.int i) (.int j) H Q := .inl ⟨i, j, rfl, rfl, q⟩
theorem g_ltS {z w : Str} (q : Q (.bl (decide (z.cps.toList < w.cps.toList))) H) : rLtG (.str z) (.str w) H Q := .inr ⟨z, w, rfl, rfl, q⟩
theorem g_leI (q : Q (.bl (decide (i ≤ j))) H) : rLeG (.int i) (.int j) H Q := ⟨i, j, rfl, rfl, q⟩
theorem g_gtI (q : Q (.bl (decide (j < i))) H) : rGtG (.int i) (.int j) H Q := ⟨i, j, rfl, rfl, q⟩
theorem g_geI (q : Q (.bl (decide (j ≤ i))) H) : rGeG (.int i) (.int j) H Q := .inl ⟨i, j, rfl, rfl, q⟩
theorem g_geS {z w : Str} (q : Q (.bl (!decide (z.cps.toList < w.cps.toList))) H) : rGeG (.str z) (.str w) H Q := .inr ⟨z, w, rfl, rfl, q⟩
theorem g_slL {p : Addr} {xs : List V} {lo hi : Option Int} (h : SqL K H p xs) (q : ∀ l, H l = none → Q (.ref l) (upd H l (.lst (cutV xs lo hi)))) : rSlG K (.ref p) lo hi H Q := .inl ⟨p, xs, rfl, h, q⟩
theorem g_slS {z : Str} {lo hi : Option Int} (h : z.length ≤ sizeLine) (q : Q (.str (cutS z lo hi)) H) : rSlG K (.str z) lo hi H Q := .inr (.inl ⟨z, rfl, h, q⟩)
theorem g_inS {n : Nat} {z : Str} (q : Q (.bl (decide (n ∈ z.cps.toList))) H) : rInG K (.str ⟨#[n]⟩) (.str z) H Q := .inl ⟨n, z, rfl, rfl, q⟩
theorem g_notInS {n : Nat} {z : Str} (q : Q (.bl (!decide (n ∈ z.cps.toList))) H) : rNotInG K (.str ⟨#[n]⟩) (.str z) H Q := .inl ⟨n, z, rfl, rfl, q⟩
theorem g_max2 (q : Q (.int (if j > i then j else i)) H) : rMax2 [.int i, .int j] H Q := ⟨i, j, rfl, q⟩
theorem g_isBl_tt (q : Q (.bl true) H) : rIsBl (.bl true) (.bl true) H Q := ⟨true, true, rfl, rfl, q⟩
theorem g_notBl_tt (q : Q (.bl false) H) : rNotBl (.bl true) (.bl true) H Q := ⟨true, true, rfl, rfl, q⟩
theorem g_isBl_tf (q : Q (.bl false) H) : rIsBl (.bl true) (.bl false) H Q := ⟨true, false, rfl, rfl, q⟩
theorem g_notBl_tf (q : Q (.bl true) H) : rNotBl (.bl true) (.bl false) H Q := ⟨true, false, rfl, rfl, q⟩
theorem g_isBl_ft (q : Q (.bl false) H) : rIsBl (.bl false) (.bl true) H Q := ⟨false, true, rfl, rfl, q⟩
theorem g_notBl_ft (q : Q (.bl true) H) : rNotBl (.bl false) (.bl true) H Q := ⟨false, true, rfl, rfl, q⟩
theorem g_isBl_ff (q : Q (.bl true) H) : rIsBl (.bl false) (.bl false) H Q := ⟨false, false, rfl, rfl, q⟩
theorem g_notBl_ff (q : Q (.bl false) H) : rNotBl (.bl false) (.bl false) H Q := ⟨false, false, rfl, rfl, q⟩
theorem g_isBl (q : Q (.bl (decide (a = b))) H) : rIsBl (.bl a) (.bl b) H Q := ⟨a, b, rfl, rfl, q⟩
theorem g_notBl (q : Q (.bl (!decide (a = b))) H) : rNotBl (.bl a) (.bl b) H Q := ⟨a, b, rfl, rfl, q⟩
theorem g_istr {R : It → Hp → Prop} (q : ta σ H fun v H1 => ∃ x, v = .str x ∧ R (Its x) H1) : iStr ta σ H R := q
theorem g_str1 {p : Str → Prop} {z : Str} (q : p z) : ∃ x, V.str z = .str x ∧ p x := ⟨z, rfl, q⟩
theorem g_strE {z : Str} {R : Prop} (q : R) : (∃ a, V.str z = .str a) ∧ R := ⟨⟨z, rfl⟩, q⟩
theorem g_isN (q : Q (.bl (decide (x = .non))) H) : rIsNG x .non H Q := ⟨rfl, q⟩
theorem g_notN (q : Q (.bl (!decide (x = .non))) H) : rNotNG x .non H Q := ⟨rfl, q⟩
theorem g_isN_non (q : Q (.bl true) H) : rIsNG .non .non H Q := ⟨rfl, by rw [decide_eq_true rfl]; exact q⟩
theorem g_isN_int (q : Q (.bl false) H) : rIsNG (.int i) .non H Q := ⟨rfl, by rw [decide_eq_false (fun z => nomatch z)]; exact q⟩
theorem g_isN_str {z : Str} (q : Q (.bl false) H) : rIsNG (.str z) .non H Q := ⟨rfl, by rw [decide_eq_false (fun z => nomatch z)]; exact q⟩
theorem g_isN_bl (q : Q (.bl false) H) : rIsNG (.bl a) .non H Q := ⟨rfl, by rw [decide_eq_false (fun z => nomatch z)]; exact q⟩
theorem g_isN_ref {p : Addr} (q : Q (.bl false) H) : rIsNG (.ref p) .non H Q := ⟨rfl, by rw [decide_eq_false (fun z => nomatch z)]; exact q⟩
theorem g_notN_non (q : Q (.bl false) H) : rNotNG .non .non H Q := ⟨rfl, by rw [decide_eq_true rfl]; exact q⟩
theorem g_notN_int (q : Q (.bl true) H) : rNotNG (.int i) .non H Q := ⟨rfl, by rw [decide_eq_false (fun z => nomatch z)]; exact q⟩
theorem g_notN_str {z : Str} (q : Q (.bl true) H) : rNotNG (.str z) .non H Q := ⟨rfl, by rw [decide_eq_false (fun z => nomatch z)]; exact q⟩
theorem g_notN_bl (q : Q (.bl true) H) : rNotNG (.bl a) .non H Q := ⟨rfl, by rw [decide_eq_false (fun z => nomatch z)]; exact q⟩
theorem g_notN_ref {p : Addr} (q : Q (.bl true) H) : rNotNG (.ref p) .non H Q := ⟨rfl, by rw [decide_eq_false (fun z => nomatch z)]; exact q⟩
theorem g_Tn {A B : Prop} (h : B) : if (!true) = true then A else B := by rw [if_neg (by decide)]; exact h
theorem g_Fn {A B : Prop} (h : A) : if (!false) = true then A else B := by rw [if_pos (by decide)]; exact h
theorem dI (i j : Int) : decide (V.int i = V.int j) = decide (i = j) := by
  by_cases h : i = j
  · subst h; simp
  · rw [decide_eq_false h]; exact decide_eq_false fun z => h (V.int.inj z)
theorem dS (i j : Str) : decide (V.str i = V.str j) = decide (i = j) := by
  by_cases h : i = j
  · subst h; simp
  · rw [decide_eq_false h]; exact decide_eq_false fun z => h (V.str.inj z)
theorem dB (i j : Bool) : decide (V.bl i = V.bl j) = decide (i = j) := by
  by_cases h : i = j
  · subst h; simp
  · rw [decide_eq_false h]; exact decide_eq_false fun z => h (V.bl.inj z)
theorem g_eqI (q : Q (.bl (decide (i = j))) H) : rEq (.int i) (.int j) H Q := ⟨rfl, by rw [dI]; exact q⟩
theorem g_eqS {z w : Str} (q : Q (.bl (decide (z = w))) H) : rEq (.str z) (.str w) H Q := ⟨rfl, by rw [dS]; exact q⟩
theorem g_eqB (q : Q (.bl (decide (a = b))) H) : rEq (.bl a) (.bl b) H Q := ⟨rfl, by rw [dB]; exact q⟩
theorem g_neI (q : Q (.bl (!decide (i = j))) H) : rNe (.int i) (.int j) H Q := ⟨rfl, by rw [dI]; exact q⟩
theorem g_neS {z w : Str} (q : Q (.bl (!decide (z = w))) H) : rNe (.str z) (.str w) H Q := ⟨rfl, by rw [dS]; exact q⟩
theorem g_int1 (q : Q (.int i) H) : rIntG [V.int i] H Q := .inl ⟨i, rfl, q⟩
theorem g_int1B (q : Q (.int (if a then 1 else 0)) H) : rIntG [V.bl a] H Q := .inr ⟨a, rfl, q⟩
theorem g_bool1B (q : Q (.bl a) H) : rBoolG [V.bl a] H Q := .inr ⟨a, rfl, q⟩
theorem g_bool1I (q : Q (.bl (i != 0)) H) : rBoolG [V.int i] H Q := .inl ⟨i, rfl, q⟩
theorem g_ixL {p : Addr} {xs : List V} (h : SqL K H p xs) (e : atI xs i = some v) (q : Q v H) : rIx K (.ref p) (.int i) H Q := .inl ⟨p, xs, i, v, rfl, rfl, h, e, q⟩
theorem g_ixL0 {p : Addr} (q : ∃ xs v, H p = some (.lst xs) ∧ atI xs i = some v ∧ Q v H) : rIx K (.ref p) (.int i) H Q := by
  obtain ⟨xs, v, h, e, q⟩ := q
  exact g_ixL (SqL.of h) e q
theorem g_lenL0 {p : Addr} (q : ∃ xs, H p = some (.lst xs) ∧ Q (.int (xs.length : Int)) H) : rLenG K [.ref p] H Q := by
  obtain ⟨xs, h, q⟩ := q
  exact ⟨_, _, rfl, .inl ⟨xs, SqL.of h, rfl⟩, q⟩
theorem g_setL0 {p : Addr} {QH : Hp → Prop} (q : ∃ xs n, H p = some (.lst xs) ∧ ixN xs.length i = some n ∧ QH (upd H p (.lst (xs.set n v)))) : rSetL (.ref p) (.int i) v H QH := by
  obtain ⟨xs, n, h, e, q⟩ := q
  exact ⟨p, xs, i, n, rfl, rfl, h, e, q⟩
theorem g_ixT {p : Addr} {xs : List V} (h : SqT K H p xs) (e : atI xs i = some v) (q : Q v H) : rIx K (.ref p) (.int i) H Q := .inr (.inl ⟨p, xs, i, v, rfl, rfl, h, e, q⟩)
theorem g_ixS {z : Str} {n : Nat} (h : z.length ≤ sizeLine) (e : atI z.cps.toList i = some n) (q : Q (.str ⟨#[n]⟩) H) : rIx K (.str z) (.int i) H Q := .inr (.inr ⟨z, i, n, rfl, rfl, h, e, q⟩)
theorem g_lenL {p : Addr} {xs : List V} (h : SqL K H p xs) (q : Q (.int (xs.length : Int)) H) : rLenG K [.ref p] H Q := ⟨_, _, rfl, .inl ⟨xs, h, rfl⟩, q⟩
theorem g_lenT {p : Addr} {xs : List V} (h : SqT K H p xs) (q : Q (.int (xs.length : Int)) H) : rLenG K [.ref p] H Q := ⟨_, _, rfl, .inr ⟨xs, h, rfl⟩, q⟩
theorem g_lenS {z : Str} (h : z.length ≤ sizeLine) (q : Q (.int (z.length : Int)) H) : rLenG K [.str z] H Q := ⟨_, _, rfl, ⟨h, rfl⟩, q⟩
theorem g_list {p : Addr} {xs : List V} (h : SqL K H p xs) (q : ∀ l, H l = none → Q (.ref l) (upd H l (.lst xs))) : rListG K [.ref p] H Q := ⟨p, xs, rfl, .inl h, q⟩
theorem g_join {z : Str} {p : Addr} {ys : List Str} (h : SqL K H p (ys.map V.str)) (hz : (ys.map (·.length)).sum + ys.length * z.length ≤ 16777216) (q : Q (.str (PySem.Txt.join z ys)) H) : rJoinG K (.str z) [.ref p] H Q :=
  ⟨z, p, ys, rfl, rfl, .inl h, hz, q⟩
/-- the kind of a value, by its form -/
def kindS : V → String
  | .non => "NoneType" | .bl _ => "bool" | .int _ => "int" | .str _ => "str" | .flt _ => "float" | _ => ""
theorem g_isi {c : String} (ty : TyX K H x (.type n)) (h : kitB n c = some b) (q : Q (.bl b) H) : rIsi K [x, .ty c] H Q := ⟨x, .ty c, .type n, .type c, b, rfl, .ty c, ty, kit_ty h, q⟩
theorem g_isiI {c : String} (h : kitB "int" c = some b) (q : Q (.bl b) H) : rIsi K [.int i, .ty c] H Q := g_isi (.base (.int i)) h q
theorem g_isiS {c : String} {z : Str} (h : kitB "str" c = some b) (q : Q (.bl b) H) : rIsi K [.str z, .ty c] H Q := g_isi (.base (.str z)) h q
theorem g_isiB {c : String} (h : kitB "bool" c = some b) (q : Q (.bl b) H) : rIsi K [.bl a, .ty c] H Q := g_isi (.base (.bl a)) h q
theorem g_isiN {c : String} (h : kitB "NoneType" c = some b) (q : Q (.bl b) H) : rIsi K [.non, .ty c] H Q := g_isi (.base .non) h q
theorem kb_ii : kitB "int" "int" = some true := by decide +kernel
theorem kb_is : kitB "int" "str" = some false := by decide +kernel
theorem kb_ib : kitB "int" "bool" = some false := by decide +kernel
theorem kb_si : kitB "str" "int" = some false := by decide +kernel
theorem kb_ss : kitB "str" "str" = some true := by decide +kernel
theorem kb_sb : kitB "str" "bool" = some false := by decide +kernel
theorem kb_bi : kitB "bool" "int" = some true := by decide +kernel
theorem kb_bs : kitB "bool" "str" = some false := by decide +kernel
theorem kb_bb : kitB "bool" "bool" = some true := by decide +kernel
theorem kb_ni : kitB "NoneType" "int" = some false := by decide +kernel
theorem kb_ns : kitB "NoneType" "str" = some false := by decide +kernel
theorem kb_nb : kitB "NoneType" "bool" = some false := by decide +kernel
theorem g_sl {r : V → Option Int → Option Int → Hp → VK → Prop} {tl th : TO} (q : te σ H fun x H1 => tl σ H1 fun l H2 => th σ H2 fun u H3 => r x l u H3 Q) : tSl r te tl th σ H Q := q
theorem g_noPart {QO : Option Int → Hp → Prop} (q : QO none H) : tNoPart σ H QO := q
theorem g_part {QO : Option Int → Hp → Prop} (q : te σ H fun x H1 => ∃ i, x = .int i ∧ QO (some i) H1) : tPart te σ H QO := q
theorem g_int {p : Int → Prop} (q : p i) : ∃ k, V.int i = .int k ∧ p k := ⟨i, rfl, q⟩
theorem g_m1 {r : V → List V → Hp → VK → Prop} (q : ta σ H fun x H1 => (∃ a, x = .str a) ∧ tb σ H1 fun y H2 => r x [y] H2 Q) : tM1 r ta tb σ H Q := q
theorem g_m0 {r : V → List V → Hp → VK → Prop} (q : ta σ H fun x H1 => (∃ a, x = .str a) ∧ r x [] H1 Q) : tM0 r ta σ H Q := q
theorem g_lc {wi : TI} {g : TG} {tt : TT} {vs : List Nat} (q : wi σ H fun J H1 => ∀ D, H1 D = none → ∃ W : Nat → Nat → Hp → Prop, (∃ m, W 0 m (upd H1 D (.lst []))) ∧ ∀ i m H, W i m H →
  (J.stop i H ∧ Q (.ref D) H) ∨ (J.go i H ∧ ∃ Nx : Hp → Prop, (∀ H', Nx H' → ∃ m', m' < m ∧ W (i + 1) m' H') ∧ ∀ x H', J.yld i H x H' → g x (wipe σ vs) H' fun σ2 H2 => wipe σ2 vs = wipe σ vs ∧ tt σ2 H2 fun b H3 =>
    if b = true then te σ2 H3 fun y H4 => ∃ acc, H4 D = some (.lst acc) ∧ acc.length < sizeLine ∧ Nx (upd H4 D (.lst (acc ++ [y]))) else Nx H3)) : tLc wi g tt te vs σ H Q := q
theorem g_rng1 {R : It → Hp → Prop} (q : t σ H fun vs H1 => ∃ j : Int, vs = [.int j] ∧ -(2 ^ 62) ≤ j ∧ j < 2 ^ 62 ∧ R (Itr 0 j.toNat) H1) : iRng1 t σ H R := q
theorem g_ilist {R : It → Hp → Prop} (q : ta σ H fun x H1 => ∃ a, x = .ref a ∧ (∃ xs, SqL K H1 a xs) ∧ R (Itl K a) H1) : iList K ta σ H R := q
theorem g_for {wi : TI} {g : TG} (q : wi σ H fun J H1 => ∃ W : Nat → Nat → L2.St → Hp → Prop, (∃ m, W 0 m σ H1) ∧ ∀ i m σ H, W i m σ H →
  (J.stop i H ∧ D.nx σ H) ∨ (J.go i H ∧ ∃ N : L2.St → Hp → Prop, (∀ σ' H', N σ' H' → ∃ m', m' < m ∧ W (i + 1) m' σ' H') ∧ ∀ x H', J.yld i H x H' → g x σ H' fun σ2 H2 => ts { D with nx := N, ct := N, bk := D.nx } σ2 H2)) : tFor wi g ts D σ H := q
theorem g_cut {M : L2.St → Hp → Prop} (h : ts (mkE M D.rt D.bk D.ct) σ H) (k : ∀ σ' H', M σ' H' → tz D σ' H') : Evl.tCut ts tz D σ H := ⟨M, h, k⟩
theorem g_yes (q : QT true H) : tYes σ H QT := q
/-- a comprehension over a text whose turns leave the heap -/
theorem lc_text {z : Str} {g : TG} {tt : TT} {vs : List Nat} {H1 : Hp} {Dl : Addr} {Qd : Hp → Prop} (f : Nat → Bool) (v : Nat → V) (hz : z.length ≤ 1000000)
    (hs : ∀ (n : Nat) (Hh : Hp) (R : V → Hp → Prop) (S : Hp → Prop), n ∈ z.cps.toList → (∀ p o, p ≠ Dl → H1 p = some o → Hh p = some o) → (f n = true → R (v n) Hh) → (f n = false → S Hh) →
      g (.str ⟨#[n]⟩) (wipe σ vs) Hh fun σ2 H2 => wipe σ2 vs = wipe σ vs ∧ tt σ2 H2 fun b H3 => if b = true then te σ2 H3 R else S H3)
    (hd : ∀ H, (∀ p o, p ≠ Dl → H1 p = some o → H p = some o) → H Dl = some (.lst ((z.cps.toList.filter f).map v)) → Qd H) :
    ∃ W : Nat → Nat → Hp → Prop, (∃ m, W 0 m (upd H1 Dl (.lst []))) ∧ ∀ i m H, W i m H →
      ((Its z).stop i H ∧ Qd H) ∨ ((Its z).go i H ∧ ∃ Nx : Hp → Prop, (∀ H', Nx H' → ∃ m', m' < m ∧ W (i + 1) m' H') ∧ ∀ x H', (Its z).yld i H x H' → g x (wipe σ vs) H' fun σ2 H2 => wipe σ2 vs = wipe σ vs ∧ tt σ2 H2 fun b H3 =>
        if b = true then te σ2 H3 fun y H4 => ∃ acc, H4 Dl = some (.lst acc) ∧ acc.length < sizeLine ∧ Nx (upd H4 Dl (.lst (acc ++ [y]))) else Nx H3) := by
  have hsz : z.cps.size = z.cps.toList.length := Array.length_toList.symm
  refine ⟨fun i m H => m = z.cps.size - i ∧ i ≤ z.cps.size ∧ H Dl = some (.lst (((z.cps.toList.take i).filter f).map v)) ∧ ∀ p o, p ≠ Dl → H1 p = some o → H p = some o, ⟨z.cps.size, by simp, Nat.zero_le _, upd_same, fun p o n h => by rw [upd_ne n]; exact h⟩, ?_⟩
  rintro i m H ⟨rfl, hi, hD, hK⟩
  by_cases hlt : i < z.cps.size
  · refine .inr ⟨hlt, fun H' => H' Dl = some (.lst (((z.cps.toList.take (i + 1)).filter f).map v)) ∧ ∀ p o, p ≠ Dl → H1 p = some o → H' p = some o, fun H' w => ⟨z.cps.size - (i + 1), by omega, rfl, hlt, w⟩, ?_⟩
    rintro x H' ⟨rfl, n, hn, rfl⟩
    have hn' : z.cps.toList[i]? = some n := by rw [Array.getElem?_toList]; exact hn
    have e1 : z.cps.toList.take (i + 1) = z.cps.toList.take i ++ [n] := by rw [List.take_succ, hn']; rfl
    refine hs n H' _ _ (List.mem_of_getElem? hn') hK (fun hf => ?_) (fun hf => ?_)
    · refine ⟨_, hD, ?_, ?_, fun p o n h => by rw [upd_ne n]; exact hK p o n h⟩
      · rw [List.length_map, sizeLine_eq]
        have h1 := List.length_filter_le f (z.cps.toList.take i)
        have h2 : (z.cps.toList.take i).length ≤ z.cps.toList.length := by rw [List.length_take]; omega
        have h3 : z.cps.toList.length ≤ 1000000 := by rw [← hsz]; exact hz
        omega
      · rw [upd_same, e1, List.filter_append, List.filter_cons, if_pos hf, List.map_append]; rfl
    · refine ⟨?_, hK⟩
      rw [hD, e1, List.filter_append, List.filter_cons, if_neg (by rw [hf]; exact Bool.false_ne_true)]
      simp
  · have e : i = z.cps.size := by omega
    subst e
    refine .inl ⟨Nat.le_refl _, hd H hK ?_⟩
    rw [hD, hsz, List.take_length]
theorem join_cps (ys : List Str) : (PySem.Txt.join (Str.ofString "") ys).cps.toList = ys.flatMap fun y => y.cps.toList := by
  show (Builtin.Str.glued (Str.ofString "") ys).cps.toList = _
  rw [StrLaws.glued_eq_join]
  induction ys with
  | nil => rfl
  | cons y r ih =>
    cases r with
    | nil => show y.cps.toList = y.cps.toList ++ []; rw [List.append_nil]
    | cons z r =>
      show ((y ++ Str.ofString "") ++ Str.join (Str.ofString "") (z :: r)).cps.toList = _
      rw [PySem.W.KT.app_list, PySem.W.KT.app_list, ih, show (Str.ofString "").cps.toList = [] by decide +kernel, List.append_nil]
      rfl
theorem g_name {n : Nat} {QS : L2.St → Hp → Prop} (q : QS (σ.set n (some v)) H) : gName n v σ H QS := q
theorem g_inr {R : It → Hp → Prop} {p : Addr} {J : Addr → It} (q : (∃ xs, SqL K H p xs) ∧ R (J p) H) : ∃ a, V.ref p = .ref a ∧ (∃ xs, SqL K H a xs) ∧ R (J a) H := ⟨p, rfl, q⟩
theorem lex_trans {a b c : List Nat} (h : a < b) (k : b < c) : a < c := List.lt_trans h k
theorem lex_asymm {a b : List Nat} (h : a < b) : ¬ b < a := List.lt_asymm h
theorem lex_irrefl (a : List Nat) : ¬ a < a := List.lt_irrefl a
theorem lex_total {a b : List Nat} (h : ¬ a < b) (k : ¬ b < a) : a = b := List.le_antisymm (List.not_lt.mp k) (List.not_lt.mp h)
theorem str_ext {a b : Str} (h : a.cps.toList = b.cps.toList) : a = b := congrArg Str.mk (Array.toList_inj.mp h)
/-- a list, a tuple, a dict -/
def isRef (H : Hp) (p : Addr) : Prop := (∃ xs, H p = some (.lst xs)) ∨ (∃ xs, H p = some (.tup xs)) ∨ ∃ kvs, H p = some (.dK kvs)
theorem isRef.keep {H H' : Hp} {p : Addr} (h : isRef H p) (k : ∀ p o, H p = some o → H' p = some o) : isRef H' p := by
  rcases h with ⟨xs, h⟩ | ⟨xs, h⟩ | ⟨xs, h⟩
  · exact .inl ⟨xs, k _ _ h⟩
  · exact .inr (.inl ⟨xs, k _ _ h⟩)
  · exact .inr (.inr ⟨xs, k _ _ h⟩)
theorem g_isiR {p : Addr} {c : String} (h : isRef H p) (hc : c = "int" ∨ c = "str" ∨ c = "bool") (q : Q (.bl false) H) : rIsi K [.ref p, .ty c] H Q := by
  rcases h with ⟨xs, h⟩ | ⟨xs, h⟩ | ⟨xs, h⟩
  · exact g_isi (.base (.lst h)) (by rcases hc with rfl | rfl | rfl <;> decide +kernel) q
  · exact g_isi (.base (.tup h)) (by rcases hc with rfl | rfl | rfl <;> decide +kernel) q
  · exact g_isi (.base (.dK h)) (by rcases hc with rfl | rfl | rfl <;> decide +kernel) q
/-- a thing of any kind that a law draws -/
def thing (H : Hp) (v : V) : Prop := v = .non ∨ (∃ b, v = .bl b) ∨ (∃ i, v = .int i) ∨ (∃ z : Str, v = .str z ∧ z.length ≤ 100) ∨ ∃ p, v = .ref p ∧ isRef H p
theorem thing.keep {H H' : Hp} {v : V} (h : thing H v) (k : ∀ p o, H p = some o → H' p = some o) : thing H' v := by
  rcases h with h | h | h | h | ⟨p, e, h⟩
  · exact .inl h
  · exact .inr (.inl h)
  · exact .inr (.inr (.inl h))
  · exact .inr (.inr (.inr (.inl h)))
  · exact .inr (.inr (.inr (.inr ⟨p, e, h.keep k⟩)))
def isIntB : V → Bool
  | .int _ => true
  | _ => false
theorem inV_strs {z : Str} {ws : List Str} : inV (.str z) (ws.map V.str) = decide (z ∈ ws) := by
  unfold inV
  rw [List.any_map]
  rw [Bool.eq_iff_iff, decide_eq_true_eq, List.any_eq_true]
  constructor
  · rintro ⟨y, hy, h⟩
    have : y = z := by simpa [eqV] using h
    rw [← this]; exact hy
  · intro h
    exact ⟨z, h, by simp [eqV]⟩
theorem flat_strs (ws : List Str) : (ws.map V.str).all flatV = true := by
  rw [List.all_map, List.all_eq_true]
  intro x _
  rfl
theorem atI_strs {ws : List Str} {i : Int} (h0 : 0 ≤ i) (h1 : i < ws.length) : ∃ z, z ∈ ws ∧ atI (ws.map V.str) i = some (.str z) := by
  obtain ⟨k, rfl⟩ := Int.eq_ofNat_of_zero_le h0
  have hk : k < ws.length := by omega
  refine ⟨ws[k], List.getElem_mem hk, atI_nat ?_⟩
  rw [List.getElem?_map, List.getElem?_eq_getElem hk]; rfl
theorem g_tupE {p : Addr} {R : Prop} (q : R) : R := q
theorem g_test (q : ta σ H fun x H' => ∃ k, x = .bl k ∧ QT k H') : tTest ta σ H QT := q
theorem g_B (q : ta σ H fun x H' => ∃ k, x = .bl k ∧ QT k H') : tB ta σ H QT := q
theorem g_bl {p : Bool → Prop} (q : p a) : ∃ k, V.bl a = .bl k ∧ p k := ⟨a, rfl, q⟩
theorem g_tand (q : c σ H fun d H1 => if d = true then u σ H1 QT else QT false H1) : tAnd c u σ H QT := q
theorem g_tor (q : c σ H fun d H1 => if d = true then QT true H1 else u σ H1 QT) : tOr c u σ H QT := q
theorem g_tnot (q : c σ H fun d H1 => QT (!d) H1) : tNot c σ H QT := q
theorem g_vand (q : ta σ H fun x H1 => ∃ c, x = .bl c ∧ if c = true then tb σ H1 Q else Q (.bl false) H1) : tAndV ta tb σ H Q := q
theorem g_vor (q : ta σ H fun x H1 => ∃ c, x = .bl c ∧ if c = true then Q (.bl true) H1 else tb σ H1 Q) : tOrV ta tb σ H Q := q
theorem g_vnot (q : ta σ H fun x H1 => ∃ c, x = .bl c ∧ Q (.bl (!c)) H1) : tNotV ta σ H Q := q
theorem g_eif (q : c σ H fun d H1 => if d = true then ta σ H1 Q else tb σ H1 Q) : tIf c ta tb σ H Q := q
theorem g_seq (q : ts (mkE (tz D) D.rt D.bk D.ct) σ H) : tSeq ts tz D σ H := q
theorem g_asg {n : Nat} (q : te σ H fun x H1 => D.nx (σ.set n (some x)) H1) : tAsg te (gName n) D σ H := q
theorem g_asgSub {to ti : TE} {s : TSet} (q : te σ H fun x H1 => to σ H1 fun o H2 => ti σ H2 fun i H3 => s o i x H3 fun H4 => D.nx σ H4) : tAsg te (gSub to ti s) D σ H := q
theorem g_ret (q : te σ H D.rt) : tRet te D σ H := q
theorem g_drop (q : te σ H fun _ H1 => D.nx σ H1) : tDrop te D σ H := q
theorem g_if {t1 t2 : TS} (q : c σ H fun d H1 => if d = true then t1 D σ H1 else t2 D σ H1) : tIfS c t1 t2 D σ H := q
theorem g_next (q : D.nx σ H) : tNext D σ H := q
variable {nx : L2.St → Hp → Prop} {rt : VK} {bk ct : L2.St → Hp → Prop}
theorem g_nx (q : nx σ H) : (mkE nx rt bk ct).nx σ H := q
theorem g_rt (q : rt v H) : (mkE nx rt bk ct).rt v H := q
theorem g_bk (q : bk σ H) : (mkE nx rt bk ct).bk σ H := q
theorem g_ct (q : ct σ H) : (mkE nx rt bk ct).ct σ H := q
theorem g_ctS (q : D.ct σ H) : tCont D σ H := q
theorem g_bkS (q : D.bk σ H) : tBreak D σ H := q
/-! sizes, places -/
theorem cpow_small (h0 : 0 ≤ j) (h1 : j ≤ 1000000) (h2 : -(2 ^ 64) < i) (h3 : i < 2 ^ 64) : CPowG i j := by
  have h := PySem.intBits_le_64 h2 h3
  have h4 : ((Builtin.Int.intBits i : Nat) : Int) ≤ 64 := by omega
  refine ⟨h0, ?_⟩
  have h5 : ((Builtin.Int.intBits i : Nat) : Int) * j ≤ 64 * j := Int.mul_le_mul_of_nonneg_right h4 h0
  omega
theorem atI_map {ns : List Int} {n : Int} (h : 0 ≤ n ∧ n < ((ns.map V.int).length : Nat)) : atI (ns.map V.int) n = some (.int (ns.getD n.toNat 0)) := by
  rw [List.length_map] at h
  obtain ⟨h0, h⟩ := h
  obtain ⟨k, rfl⟩ := Int.eq_ofNat_of_zero_le h0
  refine atI_nat ?_
  rw [List.getElem?_map, List.getD_eq_getElem?_getD, Int.toNat_natCast, List.getElem?_eq_getElem (by omega)]
  rfl
theorem atI_get {α : Type} {xs : List α} {n : Nat} {v : α} (h : xs[n]? = some v) : atI xs (n : Int) = some v := atI_nat h
/-! tests -/
theorem g_T {A B : Prop} (h : A) : if true = true then A else B := by rw [if_pos rfl]; exact h
theorem g_F {A B : Prop} (h : B) : if false = true then A else B := by rw [if_neg Bool.false_ne_true]; exact h
theorem g_split {A B : Prop} {k : Bool} (h1 : k = true → A) (h2 : k = false → B) : if k = true then A else B := by
  cases k
  · exact g_F (h2 rfl)
  · exact g_T (h1 rfl)
theorem g_dec {A B p : Prop} [Decidable p] (h1 : p → A) (h2 : ¬ p → B) : if decide p = true then A else B :=
  g_split (fun h => h1 (of_decide_eq_true h)) (fun h => h2 (of_decide_eq_false h))
theorem g_ndec {A B p : Prop} [Decidable p] (h1 : ¬ p → A) (h2 : p → B) : if (!decide p) = true then A else B := by
  by_cases h : p
  · rw [decide_eq_true h]; exact g_F (h2 h)
  · rw [decide_eq_false h]; exact g_T (h1 h)
theorem g_nsplit {A B : Prop} {k : Bool} (h1 : k = false → A) (h2 : k = true → B) : if (!k) = true then A else B := by
  cases k
  · exact g_Fn (h1 rfl)
  · exact g_Tn (h2 rfl)
/-! loops whose turns don't see what follows -/
theorem for_rangeA {lo : Int} {n : Nat} {g : TG} {tb : TS} (Pv : Nat → L2.St → Hp → Prop) (h0 : Pv 0 σ H)
    (hs : ∀ i σ H (D' : Ends), i < n → Pv i σ H → (∀ σ H, Pv (i + 1) σ H → D'.nx σ H) → (∀ σ H, Pv (i + 1) σ H → D'.ct σ H) → (∀ σ H, D.nx σ H → D'.bk σ H) → D'.rt = D.rt → g (.int (lo + i)) σ H fun σ2 H2 => tb D' σ2 H2) (hd : ∀ σ H, Pv n σ H → D.nx σ H) :
    ∃ W : Nat → Nat → L2.St → Hp → Prop, (∃ m, W 0 m σ H) ∧ ∀ i m σ H, W i m σ H →
      ((Itr lo n).stop i H ∧ D.nx σ H) ∨ ((Itr lo n).go i H ∧ ∃ N : L2.St → Hp → Prop, (∀ σ' H', N σ' H' → ∃ m', m' < m ∧ W (i + 1) m' σ' H') ∧ ∀ x H', (Itr lo n).yld i H x H' → g x σ H' fun σ2 H2 => tb { D with nx := N, ct := N, bk := D.nx } σ2 H2) :=
  for_range Pv h0 (fun i σ H hi p => hs i σ H _ hi p (fun _ _ h => h) (fun _ _ h => h) (fun _ _ h => h) rfl) hd
theorem for_listA {p : Addr} {xs : List V} {g : TG} {tb : TS} (Pv : Nat → L2.St → Hp → Prop) (h0 : Pv 0 σ H) (hl : ∀ i σ H, i ≤ xs.length → Pv i σ H → SqL K H p xs)
    (hs : ∀ i x σ H (D' : Ends), xs[i]? = some x → Pv i σ H → (∀ σ H, Pv (i + 1) σ H → D'.nx σ H) → (∀ σ H, Pv (i + 1) σ H → D'.ct σ H) → (∀ σ H, D.nx σ H → D'.bk σ H) → D'.rt = D.rt → g x σ H fun σ2 H2 => tb D' σ2 H2) (hd : ∀ σ H, Pv xs.length σ H → D.nx σ H) :
    ∃ W : Nat → Nat → L2.St → Hp → Prop, (∃ m, W 0 m σ H) ∧ ∀ i m σ H, W i m σ H →
      ((Itl K p).stop i H ∧ D.nx σ H) ∨ ((Itl K p).go i H ∧ ∃ N : L2.St → Hp → Prop, (∀ σ' H', N σ' H' → ∃ m', m' < m ∧ W (i + 1) m' σ' H') ∧ ∀ x H', (Itl K p).yld i H x H' → g x σ H' fun σ2 H2 => tb { D with nx := N, ct := N, bk := D.nx } σ2 H2) :=
  for_list Pv h0 hl (fun i x σ H hi p => hs i x σ H _ hi p (fun _ _ h => h) (fun _ _ h => h) (fun _ _ h => h) rfl) hd
theorem g_cutA {M : L2.St → Hp → Prop} (h : ∀ D' : Ends, (∀ σ H, M σ H → D'.nx σ H) → D'.rt = D.rt → D'.bk = D.bk → D'.ct = D.ct → ts D' σ H) (k : ∀ σ' H', M σ' H' → tz D σ' H') : Evl.tCut ts tz D σ H :=
  ⟨M, h _ (fun _ _ h => h) rfl rfl rfl, k⟩
/-! stores -/
theorem g_setL {p : Addr} {xs : List V} {n : Nat} {QH : Hp → Prop} (h : H p = some (.lst xs)) (e : ixN xs.length i = some n) (q : QH (upd H p (.lst (xs.set n v)))) : rSetL (.ref p) (.int i) v H QH := ⟨p, xs, i, n, rfl, rfl, h, e, q⟩
theorem g_app {p : Addr} {xs : List V} (h : H p = some (.lst xs)) (hz : xs.length < 10000000) (q : Q .non (upd H p (.lst (xs ++ [v])))) : rAppend (.ref p) [v] H Q := ⟨p, xs, v, rfl, rfl, h, by rw [sizeLine_eq]; omega, q⟩
theorem g_bm {r : V → List V → Hp → VK → Prop} {T : String} (q : ta σ H fun x H1 => tyV K T x H1 ∧ t σ H1 fun xs H2 => r x xs H2 Q) : tBM K T r ta t σ H Q := q
theorem tyL {p : Addr} {xs : List V} (h : H p = some (.lst xs)) : tyV K "list" (.ref p) H := .inl ⟨rfl, xs, SqL.of h⟩
theorem g_tyL {p : Addr} {R : Prop} (q : (∃ xs, H p = some (.lst xs)) ∧ R) : tyV K "list" (.ref p) H ∧ R := ⟨let ⟨_, h⟩ := q.1; tyL h, q.2⟩
end
end Tw

set_option Elab.async false
set_option linter.all false
set_option maxRecDepth 100000
namespace Tw
open PySem L2 PySem.Spec
/-- an iterator that goes through xs -/
structure Fits (J : It) (xs : List V) (H : Hp) : Prop where
  go : ∀ i, i < xs.length → J.go i H
  stop : ∀ i, xs.length ≤ i → J.stop i H
  yld : ∀ i x H', J.yld i H x H' → H' = H ∧ xs[i]? = some x
theorem fits_l {K : PySem.W.Frag} {H : Hp} {a : Addr} {xs : List V} (h : SqL K H a xs) : Fits (Itl K a) xs H :=
  ⟨fun i hi => ⟨xs, xs[i], h, by simp [hi]⟩, fun i hi => ⟨xs, h, hi⟩, fun i x H' y => ⟨y.1, y.2 xs h⟩⟩
theorem fits_t {K : PySem.W.Frag} {H : Hp} {a : Addr} {xs : List V} (h : SqT K H a xs) : Fits (Itt K a) xs H :=
  ⟨fun i hi => ⟨xs, xs[i], h, by simp [hi]⟩, fun i hi => ⟨xs, h, hi⟩, fun i x H' y => ⟨y.1, y.2 xs h⟩⟩
theorem take_flat {F : V → List V} {xs : List V} {i : Nat} {x : V} (h : xs[i]? = some x) : (xs.take (i + 1)).flatMap F = (xs.take i).flatMap F ++ F x := by
  rw [List.take_succ, h, List.flatMap_append]
  simp
theorem flat_le {F : V → List V} {xs : List V} {i : Nat} {x : V} (h : xs[i]? = some x) : ((xs.take i).flatMap F ++ F x).length ≤ (xs.flatMap F).length := by
  rw [← take_flat h]
  conv => rhs; rw [← List.take_append_drop (i + 1) xs]
  rw [List.flatMap_append, List.length_append]
  omega
theorem rng_le {F : Nat → List V} {n : Nat} : ∀ {i : Nat}, i < n → ((List.range i).flatMap F ++ F i).length ≤ ((List.range n).flatMap F).length := by
  intro i h
  have e : (List.range (i + 1)).flatMap F = (List.range i).flatMap F ++ F i := by rw [List.range_succ, List.flatMap_append]; simp
  rw [← e]
  obtain ⟨m, rfl⟩ : ∃ m, n = (i + 1) + m := ⟨n - (i + 1), by omega⟩
  have e2 : List.range (i + 1 + m) = List.range (i + 1) ++ (List.range m).map (i + 1 + ·) := List.range_add
  rw [e2, List.flatMap_append, List.length_append]
  omega
section
variable {J : It} {g g1 : TG} {tt tt1 : TT} {wi1 : TI} {te : TE} {vs vs1 : List Nat} {σ : L2.St} {H1 : Hp} {D : Addr} {Qd : Hp → Prop}
/-- a comprehension with two fors and no ifs: what the inner ones hold, one behind the other -/
theorem lc2_flat (xs : List V) (F : V → List V) (hD : H1 D = none) (hJ : ∀ H, (∀ q o, H1 q = some o → H q = some o) → Fits J xs H) (hlen : (xs.flatMap F).length ≤ 1000000)
    (hs : ∀ x Hh (R : L2.St → It → Hp → Prop) (S : Hp → Prop), x ∈ xs → (∀ q o, H1 q = some o → Hh q = some o) →
      (∀ σ2 J1 H', (∀ q o, Hh q = some o → H' q = some o) → (∀ H'', (∀ q o, q ≠ D → H' q = some o → H'' q = some o) → Fits J1 (F x) H'') →
        (∀ y Hk (R1 : V → Hp → Prop) (S1 : Hp → Prop), y ∈ F x → R1 y Hk → g1 y (wipe σ2 vs1) Hk fun σ3 H5 => wipe σ3 vs1 = wipe σ2 vs1 ∧ tt1 σ3 H5 fun b H6 => if b = true then te σ3 H6 R1 else S1 H6) → R σ2 J1 H') →
      g x (wipe σ vs) Hh fun σ2 H2 => wipe σ2 vs = wipe σ vs ∧ tt σ2 H2 fun b H3 => if b = true then wi1 σ2 H3 (R σ2) else S H3)
    (hd : ∀ H, (∀ q o, H1 q = some o → H q = some o) → H D = some (.lst (xs.flatMap F)) → Qd H) :
    ∃ W : Nat → Nat → Hp → Prop, (∃ m, W 0 m (upd H1 D (.lst []))) ∧ ∀ i m H, W i m H →
      (J.stop i H ∧ Qd H) ∨ (J.go i H ∧ ∃ Nx : Hp → Prop, (∀ H', Nx H' → ∃ m', m' < m ∧ W (i + 1) m' H') ∧ ∀ x H', J.yld i H x H' → g x (wipe σ vs) H' fun σ2 H2 => wipe σ2 vs = wipe σ vs ∧ tt σ2 H2 fun b H3 =>
        if b = true then wi1 σ2 H3 fun J1 H4 => ∃ W1 : Nat → Nat → Hp → Prop, (∃ m, W1 0 m H4) ∧ ∀ j k H, W1 j k H →
          (J1.stop j H ∧ Nx H) ∨ (J1.go j H ∧ ∃ Nx1 : Hp → Prop, (∀ H', Nx1 H' → ∃ k', k' < k ∧ W1 (j + 1) k' H') ∧ ∀ x H', J1.yld j H x H' → g1 x (wipe σ2 vs1) H' fun σ3 H5 => wipe σ3 vs1 = wipe σ2 vs1 ∧ tt1 σ3 H5 fun b H6 =>
            if b = true then te σ3 H6 fun y H7 => ∃ acc, H7 D = some (.lst acc) ∧ acc.length < sizeLine ∧ Nx1 (upd H7 D (.lst (acc ++ [y]))) else Nx1 H6)
        else Nx H3) := by
  refine ⟨fun i m H => m = xs.length - i ∧ i ≤ xs.length ∧ H D = some (.lst ((xs.take i).flatMap F)) ∧ ∀ q o, H1 q = some o → H q = some o, ⟨xs.length, by simp, Nat.zero_le _, upd_same, fun q o h => by rw [upd_ne (ne_of_none h hD)]; exact h⟩, ?_⟩
  rintro i m H ⟨rfl, hi, hDl, hK⟩
  have fi := hJ H hK
  by_cases hlt : i < xs.length
  · refine .inr ⟨fi.go i hlt, fun H' => H' D = some (.lst ((xs.take (i + 1)).flatMap F)) ∧ ∀ q o, H1 q = some o → H' q = some o, fun H' w => ⟨xs.length - (i + 1), by omega, rfl, hlt, w⟩, ?_⟩
    intro x H' hy
    obtain ⟨rfl, hx⟩ := fi.yld i x H' hy
    refine hs x H' (fun σ2 J1 H4 => _) (fun H3 => _) (List.mem_of_getElem? hx) hK fun σ2 J1 H4 ext f1 turn => ?_
    have e1 := take_flat (F := F) hx
    have l1 := flat_le (F := F) hx
    refine ⟨fun j k H => k = (F x).length - j ∧ j ≤ (F x).length ∧ H D = some (.lst ((xs.take i).flatMap F ++ (F x).take j)) ∧ ∀ q o, q ≠ D → H4 q = some o → H q = some o, ⟨(F x).length, by simp, Nat.zero_le _, by rw [ext _ _ hDl, List.take_zero, List.append_nil], fun q o _ h => h⟩, ?_⟩
    rintro j k Hj ⟨rfl, hj, hDj, hKj⟩
    have fj := f1 Hj hKj
    by_cases hjl : j < (F x).length
    · refine .inr ⟨fj.go j hjl, fun H' => H' D = some (.lst ((xs.take i).flatMap F ++ (F x).take (j + 1))) ∧ ∀ q o, q ≠ D → H4 q = some o → H' q = some o, fun H' w => ⟨(F x).length - (j + 1), by omega, rfl, hjl, w⟩, ?_⟩
      intro y Hy hyy
      obtain ⟨rfl, hyx⟩ := fj.yld j y Hy hyy
      refine turn y Hy (fun y H7 => _) (fun H6 => _) (List.mem_of_getElem? hyx) ⟨_, hDj, ?_, ?_, fun q o n h => by rw [upd_ne n]; exact hKj q o n h⟩
      · rw [List.length_append] at l1 ⊢
        have : ((F x).take j).length ≤ (F x).length := by rw [List.length_take]; omega
        rw [sizeLine_eq]
        omega
      · rw [upd_same, List.take_succ, hyx, List.append_assoc]
        rfl
    · have e : j = (F x).length := by omega
      subst e
      refine .inl ⟨fj.stop _ (Nat.le_refl _), ?_, fun q o h => hKj q o (ne_of_none h hD) (ext q o (hK q o h))⟩
      rw [hDj, List.take_length, e1]
  · have e : i = xs.length := by omega
    subst e
    refine .inl ⟨fi.stop _ (Nat.le_refl _), hd H hK ?_⟩
    rw [hDl, List.take_length]
/-- the same, the inner ones told by their places: what the inner ones hold, one behind the other -/
theorem lc2_flatI (xs : List V) (F : Nat → List V) (hD : H1 D = none) (hJ : ∀ H, (∀ q o, H1 q = some o → H q = some o) → Fits J xs H) (hlen : ((List.range xs.length).flatMap F).length ≤ 1000000)
    (hs : ∀ i x Hh (R : L2.St → It → Hp → Prop) (S : Hp → Prop), xs[i]? = some x → Hh D ≠ none → (∀ q o, H1 q = some o → Hh q = some o) →
      (∀ σ2 J1 H', (∀ q o, Hh q = some o → H' q = some o) → (∀ H'', (∀ q o, q ≠ D → H' q = some o → H'' q = some o) → Fits J1 (F i) H'') →
        (∀ y Hk (R1 : V → Hp → Prop) (S1 : Hp → Prop), y ∈ F i → R1 y Hk → g1 y (wipe σ2 vs1) Hk fun σ3 H5 => wipe σ3 vs1 = wipe σ2 vs1 ∧ tt1 σ3 H5 fun b H6 => if b = true then te σ3 H6 R1 else S1 H6) → R σ2 J1 H') →
      g x (wipe σ vs) Hh fun σ2 H2 => wipe σ2 vs = wipe σ vs ∧ tt σ2 H2 fun b H3 => if b = true then wi1 σ2 H3 (R σ2) else S H3)
    (hd : ∀ H, (∀ q o, H1 q = some o → H q = some o) → H D = some (.lst ((List.range xs.length).flatMap F)) → Qd H) :
    ∃ W : Nat → Nat → Hp → Prop, (∃ m, W 0 m (upd H1 D (.lst []))) ∧ ∀ i m H, W i m H →
      (J.stop i H ∧ Qd H) ∨ (J.go i H ∧ ∃ Nx : Hp → Prop, (∀ H', Nx H' → ∃ m', m' < m ∧ W (i + 1) m' H') ∧ ∀ x H', J.yld i H x H' → g x (wipe σ vs) H' fun σ2 H2 => wipe σ2 vs = wipe σ vs ∧ tt σ2 H2 fun b H3 =>
        if b = true then wi1 σ2 H3 fun J1 H4 => ∃ W1 : Nat → Nat → Hp → Prop, (∃ m, W1 0 m H4) ∧ ∀ j k H, W1 j k H →
          (J1.stop j H ∧ Nx H) ∨ (J1.go j H ∧ ∃ Nx1 : Hp → Prop, (∀ H', Nx1 H' → ∃ k', k' < k ∧ W1 (j + 1) k' H') ∧ ∀ x H', J1.yld j H x H' → g1 x (wipe σ2 vs1) H' fun σ3 H5 => wipe σ3 vs1 = wipe σ2 vs1 ∧ tt1 σ3 H5 fun b H6 =>
            if b = true then te σ3 H6 fun y H7 => ∃ acc, H7 D = some (.lst acc) ∧ acc.length < sizeLine ∧ Nx1 (upd H7 D (.lst (acc ++ [y]))) else Nx1 H6)
        else Nx H3) := by
  refine ⟨fun i m H => m = xs.length - i ∧ i ≤ xs.length ∧ H D = some (.lst ((List.range i).flatMap F)) ∧ ∀ q o, H1 q = some o → H q = some o, ⟨xs.length, by simp, Nat.zero_le _, upd_same, fun q o h => by rw [upd_ne (ne_of_none h hD)]; exact h⟩, ?_⟩
  rintro i m H ⟨rfl, hi, hDl, hK⟩
  have fi := hJ H hK
  by_cases hlt : i < xs.length
  · refine .inr ⟨fi.go i hlt, fun H' => H' D = some (.lst ((List.range (i + 1)).flatMap F)) ∧ ∀ q o, H1 q = some o → H' q = some o, fun H' w => ⟨xs.length - (i + 1), by omega, rfl, hlt, w⟩, ?_⟩
    intro x H' hy
    obtain ⟨rfl, hx⟩ := fi.yld i x H' hy
    refine hs i x H' (fun σ2 J1 H4 => _) (fun H3 => _) hx (by rw [hDl]; exact nofun) hK fun σ2 J1 H4 ext f1 turn => ?_
    have e1 : (List.range (i + 1)).flatMap F = (List.range i).flatMap F ++ F i := by rw [List.range_succ, List.flatMap_append]; simp
    have l1 : ((List.range i).flatMap F ++ F i).length ≤ ((List.range xs.length).flatMap F).length := rng_le hlt
    refine ⟨fun j k H => k = (F i).length - j ∧ j ≤ (F i).length ∧ H D = some (.lst ((List.range i).flatMap F ++ (F i).take j)) ∧ ∀ q o, q ≠ D → H4 q = some o → H q = some o, ⟨(F i).length, by simp, Nat.zero_le _, by rw [ext _ _ hDl, List.take_zero, List.append_nil], fun q o _ h => h⟩, ?_⟩
    rintro j k Hj ⟨rfl, hj, hDj, hKj⟩
    have fj := f1 Hj hKj
    by_cases hjl : j < (F i).length
    · refine .inr ⟨fj.go j hjl, fun H' => H' D = some (.lst ((List.range i).flatMap F ++ (F i).take (j + 1))) ∧ ∀ q o, q ≠ D → H4 q = some o → H' q = some o, fun H' w => ⟨(F i).length - (j + 1), by omega, rfl, hjl, w⟩, ?_⟩
      intro y Hy hyy
      obtain ⟨rfl, hyx⟩ := fj.yld j y Hy hyy
      refine turn y Hy (fun y H7 => _) (fun H6 => _) (List.mem_of_getElem? hyx) ⟨_, hDj, ?_, ?_, fun q o n h => by rw [upd_ne n]; exact hKj q o n h⟩
      · rw [List.length_append] at l1 ⊢
        have : ((F i).take j).length ≤ (F i).length := by rw [List.length_take]; omega
        rw [sizeLine_eq]
        omega
      · rw [upd_same, List.take_succ, hyx, List.append_assoc]
        rfl
    · have e : j = (F i).length := by omega
      subst e
      refine .inl ⟨fj.stop _ (Nat.le_refl _), ?_, fun q o h => hKj q o (ne_of_none h hD) (ext q o (hK q o h))⟩
      rw [hDj, List.take_length, e1]
  · have e : i = xs.length := by omega
    subst e
    refine .inl ⟨fi.stop _ (Nat.le_refl _), hd H hK ?_⟩
    exact hDl
/-- a comprehension whose turns leave the heap -/
theorem lc_map (xs : List V) (v : V → V) (hD : H1 D = none) (hJ : ∀ H, (∀ q o, H1 q = some o → H q = some o) → Fits J xs H) (hlen : xs.length ≤ 1000000)
    (hs : ∀ x Hh (R : V → Hp → Prop) (S : Hp → Prop), x ∈ xs → (∀ q o, H1 q = some o → Hh q = some o) → R (v x) Hh →
      g x (wipe σ vs) Hh fun σ2 H2 => wipe σ2 vs = wipe σ vs ∧ tt σ2 H2 fun b H3 => if b = true then te σ2 H3 R else S H3)
    (hd : ∀ H, (∀ q o, H1 q = some o → H q = some o) → H D = some (.lst (xs.map v)) → Qd H) :
    ∃ W : Nat → Nat → Hp → Prop, (∃ m, W 0 m (upd H1 D (.lst []))) ∧ ∀ i m H, W i m H →
      (J.stop i H ∧ Qd H) ∨ (J.go i H ∧ ∃ Nx : Hp → Prop, (∀ H', Nx H' → ∃ m', m' < m ∧ W (i + 1) m' H') ∧ ∀ x H', J.yld i H x H' → g x (wipe σ vs) H' fun σ2 H2 => wipe σ2 vs = wipe σ vs ∧ tt σ2 H2 fun b H3 =>
        if b = true then te σ2 H3 fun y H4 => ∃ acc, H4 D = some (.lst acc) ∧ acc.length < sizeLine ∧ Nx (upd H4 D (.lst (acc ++ [y]))) else Nx H3) := by
  refine ⟨fun i m H => m = xs.length - i ∧ i ≤ xs.length ∧ H D = some (.lst ((xs.take i).map v)) ∧ ∀ q o, H1 q = some o → H q = some o, ⟨xs.length, by simp, Nat.zero_le _, upd_same, fun q o h => by rw [upd_ne (ne_of_none h hD)]; exact h⟩, ?_⟩
  rintro i m H ⟨rfl, hi, hDl, hK⟩
  have fi := hJ H hK
  by_cases hlt : i < xs.length
  · refine .inr ⟨fi.go i hlt, fun H' => H' D = some (.lst ((xs.take (i + 1)).map v)) ∧ ∀ q o, H1 q = some o → H' q = some o, fun H' w => ⟨xs.length - (i + 1), by omega, rfl, hlt, w⟩, ?_⟩
    intro x H' hy
    obtain ⟨rfl, hx⟩ := fi.yld i x H' hy
    refine hs x H' (fun y H4 => _) (fun H3 => _) (List.mem_of_getElem? hx) hK ⟨_, hDl, ?_, ?_, fun q o h => by rw [upd_ne (ne_of_none h hD)]; exact hK q o h⟩
    · rw [List.length_map, List.length_take, sizeLine_eq]
      omega
    · rw [upd_same, List.take_succ, hx, List.map_append]
      rfl
  · have e : i = xs.length := by omega
    subst e
    refine .inl ⟨fi.stop _ (Nat.le_refl _), hd H hK ?_⟩
    rw [hDl, List.take_length]
variable {K : PySem.W.Frag} {Q : VK}
theorem g_lc2 {wi : TI} (q : wi σ H1 fun J H1 => ∀ D, H1 D = none → ∃ W : Nat → Nat → Hp → Prop, (∃ m, W 0 m (upd H1 D (.lst []))) ∧ ∀ i m H, W i m H →
      (J.stop i H ∧ Q (.ref D) H) ∨ (J.go i H ∧ ∃ Nx : Hp → Prop, (∀ H', Nx H' → ∃ m', m' < m ∧ W (i + 1) m' H') ∧ ∀ x H', J.yld i H x H' → g x (wipe σ vs) H' fun σ2 H2 => wipe σ2 vs = wipe σ vs ∧ tt σ2 H2 fun b H3 =>
        if b = true then wi1 σ2 H3 fun J1 H4 => ∃ W1 : Nat → Nat → Hp → Prop, (∃ m, W1 0 m H4) ∧ ∀ j k H, W1 j k H →
          (J1.stop j H ∧ Nx H) ∨ (J1.go j H ∧ ∃ Nx1 : Hp → Prop, (∀ H', Nx1 H' → ∃ k', k' < k ∧ W1 (j + 1) k' H') ∧ ∀ x H', J1.yld j H x H' → g1 x (wipe σ2 vs1) H' fun σ3 H5 => wipe σ3 vs1 = wipe σ2 vs1 ∧ tt1 σ3 H5 fun b H6 =>
            if b = true then te σ3 H6 fun y H7 => ∃ acc, H7 D = some (.lst acc) ∧ acc.length < sizeLine ∧ Nx1 (upd H7 D (.lst (acc ++ [y]))) else Nx1 H6)
        else Nx H3)) : tLc2 wi g tt wi1 g1 tt1 te vs vs1 σ H1 Q := q
end
end Tw

set_option Elab.async false
set_option linter.all false
set_option maxRecDepth 100000
set_option maxHeartbeats 4000000
/-! sets of values of one kind, by the list of their members: made of a list, sorted -/
namespace Tw
open PySem L2 PySem.Spec PyProof.Rows
/-- a list that is an arrangement of mapped things is mapped of an arrangement -/
theorem perm_unmap {α β : Type} {f : α → β} {l : List β} {xs : List α} (p : l.Perm (xs.map f)) : ∃ ys : List α, l = ys.map f ∧ ys.Perm xs := by
  generalize hm : xs.map f = m at p
  induction p generalizing xs with
  | nil =>
    have : xs = [] := List.map_eq_nil_iff.mp hm
    exact ⟨[], rfl, by rw [this]⟩
  | cons b _ ih =>
    cases xs with
    | nil => cases hm
    | cons x xs =>
      injection hm with h1 h2
      obtain ⟨ys, e, p⟩ := ih h2
      exact ⟨x :: ys, by rw [List.map_cons, ← e, h1], p.cons x⟩
  | swap b c l =>
    match xs, hm with
    | x :: y :: r, hm =>
      injection hm with h1 h2
      injection h2 with h2 h3
      exact ⟨y :: x :: r, by rw [List.map_cons, List.map_cons, h1, h2, h3], List.Perm.swap x y r⟩
  | trans _ _ ih1 ih2 =>
    obtain ⟨ys, e, p⟩ := ih2 hm
    obtain ⟨zs, e2, p2⟩ := ih1 e.symm
    exact ⟨zs, e2, p2.trans p⟩
section
variable {P : Program} {w : World} {κ : Type} [DecidableEq κ] {knd : PySem.KeyKind P w κ}
/-- the set at a: its members by key and value, in the order in which its table keeps them -/
def SetL (knd : PySem.KeyKind P w κ) (h : Heap) (a : Addr) (L : List (κ × Value)) : Prop :=
  ∃ o es ep t, h.get? a = some o ∧ o.ExactSet ∧ o.data = .set es ep t ∧ es.toList = L.map (fun p => (knd.hash p.1, p.2)) ∧ (∀ p ∈ L, knd.is p.1 p.2 = true ∧ p.2.scannable = true) ∧ (L.map (·.1)).Nodup ∧
    es.size < scanBound ∧ t.fits es.size = true ∧ Ris t.place.toList ∧ (w.params.followText "set-order" = true ∨ t.led = true)
theorem SetL.at {h h' : Heap} {a : Addr} {L : List (κ × Value)} (S : SetL knd h a L) (k : ∀ o, h.get? a = some o → h'.get? a = some o) : SetL knd h' a L := by
  obtain ⟨o, es, ep, t, g, r⟩ := S
  exact ⟨o, es, ep, t, k o g, r⟩
theorem SetL.len {h : Heap} {a : Addr} {L : List (κ × Value)} (S : SetL knd h a L) : L.length < scanBound := by
  obtain ⟨o, es, ep, t, g, gx, gd, ge, gi, gn, gb, _⟩ := S
  have : es.toList.length = L.length := by rw [ge, List.length_map]
  rw [Array.length_toList] at this
  omega
theorem elems_of {L : List (κ × Value)} (gi : ∀ p ∈ L, knd.is p.1 p.2 = true ∧ p.2.scannable = true) : ElemsOf knd (L.map fun p => (knd.hash p.1, p.2)) := fun e he => by
  obtain ⟨p, hp, rfl⟩ := List.mem_map.mp he
  exact ⟨⟨p.1, (gi p hp).1, rfl⟩, (gi p hp).2⟩
variable {A : Around} {E : Value → Shared → Prop} {s : Shared} {a : Addr}
/-- the table laid anew and kept -/
theorem keep_laid {o : Obj} {es : Array (Int × Value)} {ep : Nat} {t : SetTable} (g : s.heap.get? a = some o) (gx : o.ExactSet) (gd : o.data = .set es ep t) {es2 : Array (Int × Value)} {t2 : SetTable} {L2' : List (κ × Value)}
    (ge : es2.toList = L2'.map (fun p => (knd.hash p.1, p.2))) (gi : ∀ p ∈ L2', knd.is p.1 p.2 = true ∧ p.2.scannable = true) (gn : (L2'.map (·.1)).Nodup) (gb : es2.size < scanBound) (gf : t2.fits es2.size = true) (gr : Ris t2.place.toList)
    (gl : w.params.followText "set-order" = true ∨ t2.led = true) {Q : Unit → Shared → Prop} (hQ : ∀ h', Heap.SameBut a s.heap h' → (∃ o', h'.get? a = some o' ∧ o'.ExactSet ∧ o'.data = .set es2 (ep + 1) t2) → SetL knd h' a L2' → Q () { s with heap := h' }) :
    wpAny (model P w) A (storeSet a es2 t2) Q E s := by
  refine wpAny_storeSet_of g gd ?_ (fits_of_scanBound gb)
  have g2 := store_at (es' := es2) (t' := t2) g gd
  exact hQ _ (Heap.SameBut.update s.heap a (Obj.putSet es2 t2)) ⟨_, g2, gx, rfl⟩ ⟨_, es2, _, t2, g2, gx, rfl, ge, gi, gn, gb, gf, gr, gl⟩
/-- a table that has been laid is kept, and laid out wider where it is too full -/
theorem keep_wide {o : Obj} {es : Array (Int × Value)} {ep : Nat} {t : SetTable} (g : s.heap.get? a = some o) (gx : o.ExactSet) (gd : o.data = .set es ep t) {es2 : Array (Int × Value)} {t2 : SetTable} {M : List (κ × Value)}
    (ge : es2.toList = M.map (fun p => (knd.hash p.1, p.2))) (gi : ∀ p ∈ M, knd.is p.1 p.2 = true ∧ p.2.scannable = true) (gn : (M.map (·.1)).Nodup) (gb : es2.size < scanBound) (gf : t2.fits es2.size = true) (gr : Ris t2.place.toList)
    (gl : w.params.followText "set-order" = true ∨ t2.led = true) {was : Bool} {told : Bool → Sem Unit} (ht : ∀ (b : Bool) (s1 : Shared) (Q1 : Unit → Shared → Prop), Q1 () s1 → wpAny (model P w) A (told b) Q1 E s1) {Q : Option Bool → Shared → Prop}
    (hQ : ∀ h' M', Heap.SameBut a s.heap h' → SetL knd h' a M' → M'.Perm M → Q (some true) { s with heap := h' }) :
    wpAny (model P w) A (storeSet a es2 t2 >>= fun _ => if (!was && t2.tooFull) = true then told (relayAll t2 es2 (SetTable.grown es2.size)).2.2 >>= fun _ => storeSet a (relayAll t2 es2 (SetTable.grown es2.size)).1 (relayAll t2 es2 (SetTable.grown es2.size)).2.1 >>= fun _ => pure (some true) else pure (some true)) Q E s := by
  refine wpAny_bind (keep_laid g gx gd ge gi gn gb gf gr gl fun h1 sb1 ⟨o1, g1, gx1, gd1⟩ S1 => ?_)
  by_cases full : (!was && t2.tooFull) = true
  · rw [if_pos full]
    have p1 := relayAll_perm t2 es2 (SetTable.grown es2.size)
    have p2 := relayAll_fits t2 es2 (SetTable.grown es2.size)
    have p3 := relayAll_ris t2 es2 (SetTable.grown es2.size)
    have p4 := relayAll_led t2 es2 (SetTable.grown es2.size)
    rw [ge] at p1
    obtain ⟨M', e', pm⟩ := perm_unmap p1
    have sz : (relayAll t2 es2 (SetTable.grown es2.size)).1.size < scanBound := by
      have q := congrArg List.length e'
      rw [Array.length_toList, List.length_map, pm.length_eq] at q
      have q2 := congrArg List.length ge
      rw [Array.length_toList, List.length_map] at q2
      omega
    refine wpAny_bind (ht _ _ _ ?_)
    refine wpAny_bind (keep_laid (s := { s with heap := h1 }) g1 gx1 gd1 e' (fun p hp => gi p (pm.mem_iff.mp hp)) ((pm.map _).nodup_iff.mpr gn) sz p2 p3 (gl.imp id fun z => by rw [p4]; exact z) fun h2 sb2 _ S2 => ?_)
    exact wpAny_pure (hQ h2 M' (sb1.trans sb2) S2 pm)
  · rw [if_neg full]
    exact wpAny_pure (hQ h1 M sb1 S1 (List.Perm.refl M))
/-- one more member -/
theorem set_one_more {L : List (κ × Value)} (S : SetL knd s.heap a L) {k : κ} {v : Value} (hk : knd.is k v = true) (hv : v.scannable = true) (room : L.length + 1 < scanBound) {Q : Bool → Shared → Prop}
    (hQ : ∀ h' L' b, Heap.SameBut a s.heap h' → SetL knd h' a L' → (∀ j, j ∈ L'.map (·.1) ↔ j ∈ L.map (·.1) ∨ j = k) → L'.length ≤ L.length + 1 → Q b { s with heap := h' }) :
    wpAny (model P w) A (setAddHashed a v (knd.hash k)) Q E s := by
  obtain ⟨o, es, ep, t, g, gx, gd, ge, gi, gn, gb, gf, gr, gl⟩ := id S
  have el : ElemsOf knd es.toList := by rw [ge]; exact elems_of gi
  unfold setAddHashed setAddHashedIn
  refine wpAny_holding ?_
  refine wpAny_bind (wpAny_setState_of g gd gf ?_)
  dsimp only
  rw [byScan_of hv gb el, if_pos rfl]
  refine wpAny_bind ?_
  unfold setAddByScan
  refine wpAny_bind (wpAny_rule ?_)
  refine wpAny_bind (wpAny_setScan_of hk g gd gf el ?_)
  cases hf : es.toList.findIdx? (fun e => knd.is k e.2) with
  | some j =>
    dsimp only
    have hin : k ∈ L.map (·.1) := by
      obtain ⟨hj, pj, _⟩ := List.findIdx?_eq_some_iff_getElem.mp hf
      have hm : es.toList[j] ∈ L.map (fun p => (knd.hash p.1, p.2)) := by rw [← ge]; exact List.getElem_mem hj
      obtain ⟨p, hp, e⟩ := List.mem_map.mp hm
      have pj' : knd.is k p.2 = true := by rw [← e] at pj; exact pj
      exact List.mem_map.mpr ⟨p, hp, knd.inj p.2 _ _ (gi p hp).1 pj'⟩
    exact wpAny_pure (wpAny_pure (hQ s.heap L false (Heap.SameBut.refl a s.heap) S (fun i => ⟨.inl, fun z => z.elim id fun e => by rw [e]; exact hin⟩) (Nat.le_succ _)))
  | none =>
    dsimp only
    have out : k ∉ L.map (·.1) := fun z => by
      obtain ⟨p, hp, e⟩ := List.mem_map.mp z
      have c := List.findIdx?_eq_none_iff.mp hf (knd.hash p.1, p.2) (by rw [ge]; exact List.mem_map.mpr ⟨p, hp, rfl⟩)
      have c' : knd.is k p.2 = false := c
      rw [← e, (gi p hp).1] at c'
      cases c'
    have gave : ∀ (b : Bool) (s1 : Shared) (Q1 : Unit → Shared → Prop), Q1 () s1 → wpAny (model P w) A (match b with | true => rule "set.scan.the-table-gave-way" | false => pure ()) Q1 E s1 := by
      intro b s1 Q1 q
      cases b
      · exact wpAny_pure q
      · exact wpAny_rule q
    have l1 := layNew_perm t es (knd.hash k) v
    have l2 := layNew_fits t es (knd.hash k) v
    have l3 := layNew_ris t es (knd.hash k) v gr
    have l4 := layNew_led t es (knd.hash k) v
    generalize layNew t es (knd.hash k) v = Z at l1 l2 l3 l4 ⊢
    obtain ⟨es1, t1, was, gv⟩ := Z
    dsimp only at l1 l2 l3 l4 ⊢
    have l1' : es1.toList.Perm (((k, v) :: L).map fun p => (knd.hash p.1, p.2)) := by
      rw [Array.toList_push, ge] at l1
      exact l1.trans (List.perm_append_singleton _ _)
    obtain ⟨M, em, pm⟩ := perm_unmap l1'
    have gi1 : ∀ p ∈ M, knd.is p.1 p.2 = true ∧ p.2.scannable = true := fun p hp => by
      rcases List.mem_cons.mp (pm.mem_iff.mp hp) with z | z
      · rw [z]; exact ⟨hk, hv⟩
      · exact gi p z
    have gn1 : (M.map (·.1)).Nodup := (pm.map _).nodup_iff.mpr (List.nodup_cons.mpr ⟨out, gn⟩)
    have sz : es1.size = L.length + 1 := by
      have q := congrArg List.length em
      rw [Array.length_toList, List.length_map, pm.length_eq] at q
      exact q
    have ld : w.params.followText "set-order" = true ∨ t1.led = true := gl.imp id fun z => by rw [l4]; exact z
    have fin : ∀ h' M', Heap.SameBut a s.heap h' → SetL knd h' a M' → M'.Perm M → Q true { s with heap := h' } := fun h' M' sb S' pm' => by
      refine hQ h' M' true sb S' (fun j => ?_) ?_
      · rw [((pm'.trans pm).map (·.1)).mem_iff, List.map_cons, List.mem_cons]
        exact Or.comm
      · rw [(pm'.trans pm).length_eq]; exact Nat.le_refl _
    refine wpAny_bind (gave _ _ _ ?_)
    have told : ∀ (b : Bool) (s1 : Shared) (Q1 : Unit → Shared → Prop), Q1 () s1 → wpAny (model P w) A (match b with | true => rule "set.scan.the-table-gave-way" | false => pure ()) Q1 E s1 := gave
    by_cases pl : t1.plain = true
    · rw [if_pos pl]
      refine wpAny_bind ?_
      rw [hashByValue_scannable 8 hv]
      refine wpAny_pure ?_
      cases plainKind v with
      | true => exact keep_wide g gx gd em gi1 gn1 (by rw [sz]; exact room) l2 l3 ld told fun h' M' sb S' pm' => wpAny_pure (fin h' M' sb S' pm')
      | false => exact keep_wide g gx gd em gi1 gn1 (by rw [sz]; exact room) (SetTable.fits_plain_off l2) l3 ld told fun h' M' sb S' pm' => wpAny_pure (fin h' M' sb S' pm')
    · rw [if_neg pl]
      refine wpAny_bind (wpAny_pure ?_)
      exact keep_wide g gx gd em gi1 gn1 (by rw [sz]; exact room) l2 l3 ld told fun h' M' sb S' pm' => wpAny_pure (fin h' M' sb S' pm')
end
end Tw

set_option Elab.async false
set_option linter.all false
set_option maxRecDepth 100000
set_option maxHeartbeats 4000000
namespace Tw
open PySem L2 PySem.Spec PyProof.Rows
section
variable {prog : Program} {w : World} {A : Around} {R : Result → Shared → Prop} {I : Addr} {fp wr : List Addr} {G : Array GenState → Array GenState → Prop} {n : Nat} {Pw : Nat → Value → Prop} {St : Nat → Shared → Prop}
/-- the set at a holds just these texts -/
def Holds (prog : Program) (w : World) (h : Heap) (a : Addr) (xs : List Str) : Prop := ∃ L, SetL (PySem.strKind prog w) h a L ∧ (∀ j, j ∈ L.map (·.1) ↔ j ∈ xs) ∧ L.length ≤ xs.length
/-- the texts that are walked all come in -/
theorem all_come_in (W : WalksS prog w A.in1 I fp wr G n Pw St) (S : Addr) (off : S ∉ fp) (xs : List Str) (hn : xs.length = n) (few : n + 1 < scanBound) (gives : ∀ i v, Pw i v → ∃ t, v = .str (xs.getD i Str.empty) t) :
    ∀ (m i : Nat) (s : Shared), i + m = n → St i s → Holds prog w s.heap S (xs.take i) → (∀ s', Moved (S :: wr) G s s' → Holds prog w s'.heap S xs → R (.ok (.ret .none)) s') →
      codeAny (model prog w) A (.builtin "set.update.loop" ⟨[.ref S, .ref I], []⟩) R s := by
  have offw : S ∉ wr := fun z => off (W.sub _ z)
  have more : ∀ b ∈ wr, b ∈ S :: wr := fun b z => List.mem_cons_of_mem _ z
  intro m
  induction m with
  | zero =>
    intro i s him st hS fin
    have e : i = n := by omega
    subst e
    refine codeAny_builtin PyProof.Rows.F.entry_set_update_loop ?_
    rw [Around.under_plainId PyProof.Rows.F.plain_set_update_loop _]
    show wpAny _ A.in1 (pyNext (.ref I) >>= _) _ _ s
    refine wpAny_bind (W.done s _ _ st fun s1 mv => ?_)
    show wpAny _ A.in1 (ret Value.none) _ _ s1
    obtain ⟨L, hL, mem, len⟩ := hS
    rw [← hn, List.take_length] at mem len
    exact wpAny_pure (fin s1 (mv.mono more) ⟨L, hL.at fun o g => mv.heap S o offw g, mem, len⟩)
  | succ m ih =>
    intro i s him st hS fin
    refine codeAny_builtin PyProof.Rows.F.entry_set_update_loop ?_
    rw [Around.under_plainId PyProof.Rows.F.plain_set_update_loop _]
    show wpAny _ A.in1 (pyNext (.ref I) >>= _) _ _ s
    refine wpAny_bind (W.item i s _ _ (by omega) st fun v s1 hv st1 mv => ?_)
    obtain ⟨t, rfl⟩ := gives i v hv
    obtain ⟨L, hL, mem, len⟩ := hS
    have hL1 : SetL (PySem.strKind prog w) s1.heap S L := hL.at fun o g => mv.heap S o offw g
    have hx : xs[i]? = some (xs.getD i Str.empty) := by rw [List.getD_eq_getElem?_getD, List.getElem?_eq_getElem (show i < xs.length by omega)]; rfl
    generalize hz : xs.getD i Str.empty = z at hx ⊢
    have tk : xs.take (i + 1) = xs.take i ++ [z] := by rw [List.take_succ, hx]; rfl
    have lt : (xs.take i).length = i := by rw [List.length_take]; omega
    show wpAny _ A.in1 (holding [Value.str z t] (setAdd S (.str z t)) >>= _) _ _ s1
    refine wpAny_bind (wpAny_holding ?_)
    unfold setAdd
    refine wpAny_holding (wpAny_bind ((PySem.strKind prog w).pyHash (k := z) (strKind_is _ _ _ _) ?_))
    refine set_one_more (s := { s1 with toks := s1.toks + 1 }) hL1 (k := z) (strKind_is _ _ _ _) rfl (by omega) fun h2 L2' b sb hL2 mem2 len2 => ?_
    have go : ∀ s2 : Shared, s2 = { s1 with toks := s1.toks + 1, heap := h2 } → codeAny (model prog w) A (.builtin "set.update.loop" ⟨[.ref S, .ref I], []⟩) R s2 := fun s2 e => by
      subst e
      refine ih (i + 1) _ (by omega) (W.frame _ s1 _ _ st1 (Nat.le_succ _) fun b hb o g => ?_) ⟨L2', hL2, fun j => ?_, ?_⟩ fun s3 mv3 hS3 => ?_
      · exact (sb.2 b (fun z => off (by rw [← z]; exact hb))).trans g
      · rw [mem2, mem, tk, List.mem_append, List.mem_singleton]
      · rw [tk, List.length_append, List.length_singleton, lt]; rw [lt] at len; omega
      · refine fin s3 (Moved.trans W.gtrans ((mv.mono more).then_heap (Nat.le_succ _) fun b o hb g => ?_) mv3) hS3
        exact (sb.2 b (fun z => hb (by rw [z]; exact List.mem_cons_self))).trans g
    exact wpAny_pure ⟨plainId_quiet PyProof.Rows.F.plain_set_update_loop _, go _ rfl⟩
end
section
variable {prog : Program} {w : World} {A : Around} {E : Value → Shared → Prop} {s : Shared}
/-- an empty set just laid -/
abbrev bareSet (w : World) : Obj := { cls := .type "set", dict := none, data := .set #[] 0 (.fresh 0 0 (!w.params.followText "set-order")) }
theorem bare_holds {h : Heap} {a : Addr} (g : h.get? a = some (bareSet w)) : Holds prog w h a [] := by
  refine ⟨[], ⟨_, #[], 0, _, g, ⟨rfl, rfl, rfl⟩, rfl, rfl, (fun p hp => nomatch hp), List.nodup_nil, by decide, by rfl, List.Pairwise.nil, ?_⟩, fun j => Iff.rfl, Nat.le_refl _⟩
  show _ ∨ (!w.params.followText "set-order") = true
  cases w.params.followText "set-order"
  · exact .inr rfl
  · exact .inl rfl
/-- set.__init__(S, xs) on a bare set -/
theorem init_from_list {S l : Addr} {items : Array Value} {xs : List Str} (hh : A.handled = none) (hS : s.heap.get? S = some (bareSet w)) (hl : s.heap.IsList l items) (ne : S ≠ l) (hi : PyProof.Rows.StrsAre items.toList xs) (few : xs.length + 1 < scanBound) {Q : Value → Shared → Prop}
    (h : ∀ (h' : Heap) (tk : Nat), Holds prog w h' S xs → (∀ b o, b ≠ S → s.heap.get? b = some o → h'.get? b = some o) → Q .none { s with heap := h', toks := tk }) :
    codeAny (model prog w) A (.call (.builtin "set.__init__") ⟨[.ref S, .ref l], []⟩) (wants Q E) s := by
  have tS : s.TypeIs (.ref S) "set" := ⟨_, hS, rfl⟩
  refine codeAny_call_builtin PySem.F.called_set.init.plain PySem.F.entry_set_init (check_set_init_1 tS ?_)
  obtain ⟨ol, hol, hcl, nl, hdl⟩ := id hl
  obtain ⟨ocls, odict, odata, oslots⟩ := ol
  simp only at hcl hdl
  subst hcl; subst hdl
  have f1 := PySem.F.sub_list_set
  have f2 := PySem.F.sub_list_frozenset
  have f3 : (Value.type "list" == Value.type "dict") = false := by decide
  unfold Builtin.«set.__init__» noKeywords Builtin.Frozenset.updateFrom
  generalize hPI : pyIter = PI
  wp_walk
  subst hPI
  refine wpAny_pyIter_list hl ?_
  refine wpAny_bind (wpAny_runValue ?_)
  have lS : l < s.heap.objs.size := Heap.lt_size hol
  have sS : S < s.heap.objs.size := Heap.lt_size hS
  have quiet : A.in1.in1.handled = none := by simp [hh]
  have sz : xs.length = items.size := by rw [← StrsAre.len_eq hi, Array.length_toList]
  have gv : ∀ (i : Nat) (v : Value), items[i]? = some v → ∃ t, v = .str (xs.getD i Str.empty) t := fun i v hv => SS.strs_at hi i v (by rw [Array.getElem?_toList]; exact hv)
  refine all_come_in ((Walks.list quiet s.heap.objs.size l (Nat.ne_of_lt lS) items).toS) S ?_ xs sz (by omega) gv items.size 0 _ (by omega) ?_ ?_ fun s1 mv hH => ?_
  · intro z
    rcases List.mem_cons.mp z with z | z
    · exact absurd z (Nat.ne_of_lt sS)
    · exact ne (List.mem_singleton.mp z)
  · exact ⟨⟨_, Heap.get?_push_size _ rfl, rfl, rfl⟩, hl.push _⟩
  · exact bare_holds (Heap.get?_push_of_some _ hS)
  · obtain ⟨h1, g1, d1, k1, o1⟩ := s1
    have e1 : g1 = s.gens := mv.gens
    have e2 : d1 = s.drawn := mv.drawn
    have e3 : o1 = s.os := mv.os
    subst e1; subst e2; subst e3
    refine wpAny_pure ?_
    show wpAny _ _ (ret Value.none) _ _ _
    refine wpAny_pure (h h1 k1 hH fun b o nb g => mv.heap b o ?_ (Heap.get?_push_of_some _ g))
    intro z
    rcases List.mem_cons.mp z with z | z
    · exact nb z
    · exact absurd (List.mem_singleton.mp z) (Nat.ne_of_lt (Heap.lt_size g))
/-- set(xs), xs a list of texts -/
theorem set_of_texts {l : Addr} {items : Array Value} {xs : List Str} {Q : Value → Shared → Prop} (hh : A.handled = none) (hl : s.heap.IsList l items) (hi : PyProof.Rows.StrsAre items.toList xs) (few : xs.length + 1 < scanBound)
    (h : ∀ (h' : Heap) (tk : Nat), Holds prog w h' s.heap.objs.size xs → (∀ b o, s.heap.get? b = some o → h'.get? b = some o) → Q (.ref s.heap.objs.size) { s with heap := h', toks := tk }) :
    wpAny (model prog w) A (call (.type "set") [.ref l]) Q E s := by
  obtain ⟨c, tl, hmro⟩ := PySem.F.called_set.mro
  have made := PySem.F.called_set.made
  have subs := PySem.F.called_set.sub
  have noTy := PySem.F.called_set.notType
  have canC := PySem.F.called_set.canCreate
  have tcal := PySem.F.typeCall_set_1 (.ref l)
  refine wpAny_call (codeAny_of_tree ?_)
  show wpAny _ _ (callAny (.type "set") _) _ _ _
  refine wpAny_pure ⟨Code.quiet_builtin _ (by decide +kernel), codeAny_builtin PySem.F.entry_type_call ?_⟩
  rw [Around.under_plain (weight_type_call_type "set" [.ref l] []) rfl]
  repeat (any_goals (first | assumption | wp_step))
  refine codeAny_mono (code_set_led1 (.ref l) (E := E) (Q₁ := fun ob s1 => ob = .ref s.heap.objs.size ∧ s1 = { s with heap := s.heap.push (bareSet w) }) ⟨rfl, rfl⟩) fun r s1 hr => ?_
  cases r with
  | error e => exact hr
  | ok fl =>
    cases fl with
    | ret ob =>
      obtain ⟨rfl, rfl⟩ := hr
      have gS : (s.heap.push (bareSet w)).get? s.heap.objs.size = some (bareSet w) := Heap.get?_push_size _ rfl
      have tS : Shared.TypeIs { s with heap := s.heap.push (bareSet w) } (.ref s.heap.objs.size) "set" := ⟨_, gS, rfl⟩
      have il := PySem.F.called_set.init.lookup
      have ib := PySem.F.called_set.init.bind (.ref s.heap.objs.size)
      repeat (any_goals (first | assumption | wp_step))
      obtain ⟨ol, hol, _⟩ := id hl
      have lS : l < s.heap.objs.size := Heap.lt_size hol
      refine codeAny_mono (init_from_list (prog := prog) (w := w) (E := E) (s := { s with heap := s.heap.push (bareSet w) }) (xs := xs) (Q := fun r s2 => r = .none ∧ ∃ h' tk, s2 = { s with heap := h', toks := tk } ∧ Holds prog w h' s.heap.objs.size xs ∧ ∀ b o, s.heap.get? b = some o → h'.get? b = some o) ?_ gS (hl.push _) (Nat.ne_of_gt lS) hi few fun h' tk hH k => ⟨rfl, h', tk, rfl, hH, fun b o g => k b o (Nat.ne_of_lt (Heap.lt_size g)) (Heap.get?_push_of_some _ g)⟩) fun r2 s2 hr2 => ?_
      · simp [hh]
      · cases r2 with
        | error e => exact hr2
        | ok fl2 =>
          cases fl2 with
          | ret r =>
            obtain ⟨rfl, h', tk, rfl, hH, k⟩ := hr2
            repeat (any_goals (first | assumption | wp_step))
            exact h _ _ hH k
          | _ => exact hr2.elim
    | _ => exact hr.elim
end
end Tw

set_option Elab.async false
set_option linter.all false
set_option maxRecDepth 100000
set_option maxHeartbeats 4000000
namespace Tw
open PySem L2 PySem.Spec PyProof.Rows
section
variable {prog : Program} {w : World} {A : Around} {E : Value → Shared → Prop} {s : Shared}
theorem list_sort_texts {a : Addr} {vs : List Value} {ss : List Str} {n : Nat} {P : Fin → Shared → Prop} (ho : s.heap.get? a = some (seqObj "list" vs.toArray n)) (hS : StrsAre vs ss) (hL : vs.length ≤ sizeLine)
    (h : ∀ (out : Array Value) (ss' : List Str), StrsAre out.toList ss' → ss'.Perm ss → sortedS ss' = true → P (.done (.ret .none)) { s with heap := sortedHeap s.heap a vs out }) :
    wpAny (model prog w) A (Builtin.«list.sort» ⟨[.ref a], []⟩) P E s := by
  refine list_sort_treeKAny strKind_oneLt ho hS.keysOf (fun v₁ v₂ rest e => keyKind_strs (by rw [← e]; exact hS)) hL fun st' hp hs => ?_
  obtain ⟨ss', h1, h2, h3⟩ := sorted_out_str hS hp hs
  exact h _ ss' h1 h2 h3
theorem strs_of_keys : ∀ {M : List (Str × Value)}, (∀ p ∈ M, (PySem.strKind prog w).is p.1 p.2 = true) → StrsAre (M.map (·.2)) (M.map (·.1))
  | [], _ => .nil
  | p :: M, h => by
    have hp := h p List.mem_cons_self
    obtain ⟨x, v⟩ := p
    have : ∃ t, v = .str x t := Value.isStrOf_shape hp
    obtain ⟨t, rfl⟩ := this
    exact .cons x t (strs_of_keys fun q hq => h q (List.mem_cons_of_mem _ hq))
/-- sorted(a), a a set of texts -/
theorem sorted_of_texts {a : Addr} {xs : List Str} {Q : Value → Shared → Prop} (hH : Holds prog w s.heap a xs) (hh : A.handled = none)
    (hQ : ∀ s' p (out : Array Value) (c : Nat) (zs : List Str), (∀ b o, s.heap.get? b = some o → s'.heap.get? b = some o) → s'.gens = s.gens → s'.os = s.os → s.heap.objs.size ≤ p →
      s'.heap.get? p = some (seqObj "list" out c) → StrsAre out.toList zs → sortedS zs = true → zs.Nodup → (∀ k, k ∈ zs ↔ k ∈ xs) → zs.length ≤ sizeLine → Q (.ref p) s') :
    wpAny (model prog w) A (call (.builtin "sorted") [.ref a]) Q E s := by
  obtain ⟨L, ⟨o, es, ep, t, ho, hex, hd, ge, gi, nd, hb, hf, hr, hl⟩, hm, hn⟩ := hH
  refine Calls.call_function_entry kind_sorted plain_sorted entry_sorted (args_sorted1 _) ?_
  unfold Builtin.«sorted»
  refine wpAny_bind (m := checkCount "sorted" 1 1 _) (wpAny_pure ?_)
  refine wpAny_bind (collect_set (A := A.in1) hh ⟨o, ho, hex.1, hd⟩ hf hb hr hl fun s1 vs k1 hz g1 o1 pm => ?_)
  have ge2 : es.toList.map (·.2) = L.map (·.2) := by rw [ge, List.map_map]; rfl
  rw [ge2] at pm
  obtain ⟨M, rfl, pM⟩ := perm_unmap pm
  have kM : ∀ p ∈ M, (PySem.strKind prog w).is p.1 p.2 = true := fun p hp => (gi p (pM.mem_iff.mp hp)).1
  have hS := strs_of_keys kM
  have hlen : M.length = es.size := by rw [pM.length_eq, ← Array.length_toList, ge, List.length_map]
  have hsl : (M.map (·.2)).length ≤ sizeLine := by
    rw [List.length_map, hlen]
    exact Nat.le_of_lt (Nat.lt_of_lt_of_le hb (by decide))
  refine wpAny_bind (wpAny_newList ?_ hsl)
  have hoL : (s1.heap.push (seqObj "list" (M.map (·.2)).toArray 0)).get? s1.heap.objs.size = some (seqObj "list" (M.map (·.2)).toArray 0) := Heap.get?_push_size _ rfl
  refine wpAny_bind (wpAny_holding (wpAny_call_entry slot_list_sort ⟨_, hoL, rfl⟩ entry_list_sort (list_sort_texts hoL hS hsl fun out zs a1 a2 a3 => ⟨_, rfl, ?_⟩) (args_list_sort _)))
  obtain ⟨c, hc⟩ := sortedHeap_at (vs := M.map (·.2)) (out := out) hoL
  have pn : zs.Perm (L.map (·.1)) := a2.trans (pM.map _)
  refine wpAny_pure ⟨_, rfl, hQ _ s1.heap.objs.size out c zs (fun b u e => ?_) g1 o1 hz hc a1 a3 (pn.nodup_iff.mpr nd) (fun k => by rw [pn.mem_iff, hm k]) ?_⟩
  · have q := k1 b u e
    have hlt := Heap.lt_size q
    show (sortedHeap (s1.heap.push (seqObj "list" (M.map (·.2)).toArray 0)) s1.heap.objs.size (M.map (·.2)) out).get? b = some u
    rw [sortedHeap_old (Nat.ne_of_lt hlt) (by rw [size_push']; exact Nat.lt_succ_of_lt hlt)]
    exact Heap.get?_push_of_some _ q
  · rw [pn.length_eq, List.length_map]
    rw [List.length_map, pM.length_eq] at hsl
    exact hsl
end
section
variable {X : Cx}
/-- sorted(set(xs)), xs a list of texts: a new list, each text once, in order -/
def tSortedSet (K : PySem.W.Frag) (ta : TE) : TE := fun σ H Q => ta σ H fun x H1 => ∃ (l : Addr) (xs : List Str), x = .ref l ∧ SqL K H1 l (xs.map V.str) ∧ xs.length + 1 < scanBound ∧
  ∀ (zs : List Str) (p : Addr), sortedS zs = true → zs.Nodup → (∀ k, k ∈ zs ↔ k ∈ xs) → H1 p = none → Q (.ref p) (upd H1 p (.lst (zs.map V.str)))
theorem pe_sortedSet {K : PySem.W.Frag} {a : Expr} {ta : TE} {p p2 q pos : Pos} (hK : X.K = K) (hc : X.calm = true) (hg : Gl X "sorted") (hm : X.mg "sorted" = none) (hg2 : Gl X "set") (hm2 : X.mg "set" = none) (ha : PE X a ta)
    (na : starEach [a] X.env = (false, eval a X.env) :: starEach [] X.env := by rfl) : PE X (.Call (.Name "sorted" p) [.Call (.Name "set" p2) [a] [] q] [] pos) (tSortedSet K ta) := by
  subst hK
  refine ⟨fun pins s σ H Q I h => ?_⟩
  refine Call_ (ld_blt I hg hm boot_sorted ?_)
  refine PyProof.Rows.callWith_builtin1 (PyProof.Rows.args_cons ?_ rfl) rfl rfl
  refine Call_ (ld_blt I hg2 hm2 boot_set ?_)
  refine PyProof.Rows.callWith_type1 (PyProof.Rows.args_cons (thn (ha.run pins s σ H _ I h) fun v s1 ⟨x, H1, I1, r1, q1⟩ => PyProof.Rows.args_nil ?_) na) na rfl
  obtain ⟨l, xs, rfl, hq, h1, q1⟩ := q1
  cases r1
  obtain ⟨its, r, pl, hz⟩ := I1.list hq
  refine set_of_texts (I1.ok.hd hc) pl.isList (by simpa using strsAre_of r) h1 fun h' tk hS hk => ?_
  refine PyProof.Rows.args_nil ?_
  have I2 : Inv X pins σ H1 { s1 with heap := h', toks := tk } := I1.kept fun b o e => hk b o e
  refine sorted_of_texts hS (I2.ok.hd hc) fun s' p out c zs k g o hp hg so ord nd hm hl => ?_
  have hlen : (zs.map V.str).length ≤ sizeLine := by rw [List.length_map]; exact hl
  have hn : H1 p = none := I2.hok.fresh hp
  have J : Inv X pins σ (upd H1 p (.lst (zs.map V.str))) { ({ s1 with heap := h', toks := tk } : Shared) with heap := s'.heap, gens := s'.gens, drawn := s'.drawn, toks := s'.toks } :=
    I2.call (ch := []) (Un.laid k hp hn) (I2.hok.laid k hp ⟨hlen, out.toList, c, vals_of_strs so, hg⟩) (by rw [g]; exact I2.bare) (fun _ z => nomatch z)
  have e : s' = { ({ s1 with heap := h', toks := tk } : Shared) with heap := s'.heap, gens := s'.gens, drawn := s'.drawn, toks := s'.toks } := by
    cases s'
    cases s1
    cases o
    rfl
  rw [e]
  exact ⟨.ref p, _, J, rfl, q1 zs p ord nd hm hn⟩
end
end Tw

set_option Elab.async false
set_option linter.all false
set_option maxRecDepth 100000
namespace Tw
open PySem L2 PySem.Spec
/-- the address that a name of the text stands for -/
def cadr (mg : Str → Option Value) (x : Str) : Addr := match mg x with
  | some (.ref a) => a
  | _ => 0
theorem cadr_of {mg : Str → Option Value} {x : Str} {a : Addr} (h : mg x = some (.ref a)) : cadr mg x = a := by
  unfold cadr
  rw [h]
/-- a method of a class of the text with its promise -/
structure DefM (P : Program) (w : World) (K : PySem.W.Frag) (mg : Str → Option Value) (base : Heap) (k : Nat) (C : Addr) (m : Str) (ps : List Str) (sp : Sp) : Prop where
  ex : ∃ (f : Addr) (fd : FuncData), FnOk P w K mg base CX0 k f fd ps sp ∧ Meth K C m f ∧ Binds K fd ps []
/-- where a method of the text stands -/
structure HereM (K : PySem.W.Frag) (C : Addr) (m qual : Str) (st : Stmt) (ps : List Str) (f : Addr) (fd : FuncData) : Prop where
  fn : Fun K m qual st f fd
  me : Meth K C m f
  bd : Binds K fd ps []
/-- a maker of a class of the text with its promise -/
structure DefC (P : Program) (w : World) (K : PySem.W.Frag) (mg : Str → Option Value) (base : Heap) (k : Nat) (C : Addr) (ps : List Str) (sp : Sp) : Prop where
  ex : ∃ (f : Addr) (fd : FuncData), FnOk P w K mg base CX0 k f fd ps sp ∧ Mk K C f ∧ Binds K fd ps []
structure HereC (K : PySem.W.Frag) (C : Addr) (qual : Str) (st : Stmt) (ps : List Str) (f : Addr) (fd : FuncData) : Prop where
  fn : Fun K "__init__" qual st f fd
  mkr : Mk K C f
  bd : Binds K fd ps []
theorem HereM.def {P : Program} {w : World} {K : PySem.W.Frag} {mg : Str → Option Value} {base : Heap} {k : Nat} {C : Addr} {m qual : Str} {st : Stmt} {ps : List Str} {sp : Sp} {f : Addr} {fd : FuncData} (h : HereM K C m qual st ps f fd) (F : FnOk P w K mg base CX0 k f fd ps sp) : DefM P w K mg base k C m ps sp :=
  ⟨f, fd, F, h.me, h.bd⟩
theorem HereC.def {P : Program} {w : World} {K : PySem.W.Frag} {mg : Str → Option Value} {base : Heap} {k : Nat} {C : Addr} {qual : Str} {st : Stmt} {ps : List Str} {sp : Sp} {f : Addr} {fd : FuncData} (h : HereC K C qual st ps f fd) (F : FnOk P w K mg base CX0 k f fd ps sp) : DefC P w K mg base k C ps sp :=
  ⟨f, fd, F, h.mkr, h.bd⟩
section
variable {X : Cx} {k j : Nat} {C : Addr} {x m : Str} {p pos apos : Pos} {o e : Expr} {es : List Expr} {ps : List Str} {sp : Sp} {ta : TE} {t : TA}
def tMe (C : Addr) (m : Str) (sp : Sp) (ta : TE) (t : TA) : TE := fun σ H Q => ta σ H fun x H1 => ∃ a dx fs, x = .ref a ∧ H1 a = some (.ins C dx fs) ∧ fs.lookup m = none ∧ t σ H1 fun vs H2 => sp (x :: vs) H2 Q E0
theorem tMe_eq : tMeth C m sp [] E0 ta t = tMe C m sp ta t := by
  funext σ H Q
  unfold tMeth tMe
  simp only [List.append_nil]
def tNew (C : Addr) (sp : Sp) (t : TA) : TE := fun σ H Q => t σ H fun vs H1 => ∀ x dx, H1 x = none → H1 dx = none → dx ≠ x → sp (.ref x :: vs) (upd (upd H1 dx (.own x)) x (.ins C dx [])) (fun v H2 => v = .non ∧ Q (.ref x) H2) E0
theorem tNew_eq : tMake C sp [] E0 t = tNew C sp t := by
  funext σ H Q
  unfold tMake tNew
  simp only [List.append_nil]
theorem pe_never : PE X e (fun _ _ _ => False) := ⟨fun _ _ _ _ _ _ h => h.elim⟩
theorem pe_fldG {K : PySem.W.Frag} {f : Str} (hK : X.K = K) (he : PE X e ta) (hb : attributeBase e f X.env (eval e X.env) = eval e X.env) : PE X (.Attribute e f pos) (tFld K ta f) := by
  subst hK
  exact pe_fld he hb
theorem pi_tupG {K : PySem.W.Frag} {tg : Expr} (hK : X.K = K) (he : PE X e ta) : PI X tg e (iTup K ta) := by
  subst hK
  exact pi_tup he
theorem pi_listG {K : PySem.W.Frag} {tg : Expr} (hK : X.K = K) (he : PE X e ta) : PI X tg e (iList K ta) := by
  subst hK
  exact pi_list he
theorem pe_me {pl : Sem Bool} (he : PE X o ta) (c : Cls X.K C) (D : DefM X.prog X.w X.K X.mg X.base k C m ps sp) (hr : Room j X.A) (ha : PA X (e :: es) t) (hk : k ≤ j := by decide)
    (hst : starEach (e :: es) X.env = (false, eval e X.env) :: starEach es X.env := by rfl) (hpl : (backTo pos (starEach es X.env)).any (·.1) = false := by rfl)
    (ht : eval (.Call (.Attribute o m apos) (e :: es) [] pos) X.env = (do
      let ov ← eval o X.env
      standAt apos.atName
      let (f, first) ← holding [ov] (getMethod ov m pl)
      callWith pos f first (backTo pos (starEach (e :: es) X.env)) (backToKw pos (keywordEach [] X.env))) := by rfl) : PE X (.Call (.Attribute o m apos) (e :: es) [] pos) (tMe C m sp ta t) := by
  obtain ⟨f, fd, F, hm, hb⟩ := D.ex
  rw [← tMe_eq]
  exact pe_meth he c hm F (hr.mono hk) hb .nil pass0 ha hst hpl ht
theorem pe_me0 {pl : Sem Bool} (he : PE X o ta) (c : Cls X.K C) (D : DefM X.prog X.w X.K X.mg X.base k C m ps sp) (hr : Room j X.A) (hk : k ≤ j := by decide)
    (ht : eval (.Call (.Attribute o m apos) [] [] pos) X.env = (do
      let ov ← eval o X.env
      standAt apos.atName
      let (f, first) ← holding [ov] (getMethod ov m pl)
      callWith pos f first (backTo pos (starEach [] X.env)) (backToKw pos (keywordEach [] X.env))) := by rfl) : PE X (.Call (.Attribute o m apos) [] [] pos) (tMe C m sp ta tNil) := by
  obtain ⟨f, fd, F, hm, hb⟩ := D.ex
  rw [← tMe_eq]
  exact pe_meth0 he c hm F (hr.mono hk) hb .nil pass0 ht
theorem pe_new (D : DefC X.prog X.w X.K X.mg X.base k C ps sp) (hr : Room j X.A) (hg : Gl X x) (hm : X.mg x = some (.ref C)) (ha : PA X (e :: es) t) (hk : k + 1 ≤ j := by decide) (hdb : (x == ("__debug__" : Str)) = false := by decide)
    (he : starEach (e :: es) X.env = (false, eval e X.env) :: starEach es X.env := by rfl) (hpl : (backTo pos (starEach es X.env)).any (·.1) = false := by rfl) : PE X (.Call (.Name x p) (e :: es) [] pos) (tNew C sp t) := by
  obtain ⟨f, fd, F, mk, hb⟩ := D.ex
  rw [← tNew_eq]
  exact pe_make mk F (hr.mono hk) hg hm hb .nil pass0 ha hdb he hpl
end
section
variable {K : PySem.W.Frag} {σ : L2.St} {H : Hp} {Q : VK} {QT : Bool → Hp → Prop} {QA : List V → Hp → Prop} {D : Ends} {ta tv te : TE} {t : TA} {sp : Sp} {C : Addr} {f m : Str}
theorem g_sortedSet (q : ta σ H fun x H1 => ∃ (l : Addr) (xs : List Str), x = .ref l ∧ SqL K H1 l (xs.map V.str) ∧ xs.length + 1 < scanBound ∧
  ∀ (zs : List Str) (p : Addr), PyProof.Rows.sortedS zs = true → zs.Nodup → (∀ k, k ∈ zs ↔ k ∈ xs) → H1 p = none → Q (.ref p) (upd H1 p (.lst (zs.map V.str)))) : tSortedSet K ta σ H Q := q
theorem g_dget {td ty : TE} (q : td σ H fun x H1 => ty σ H1 fun y H2 => ∃ a v, x = .ref a ∧ DGet H2 a y (some v) ∧ Q v H2) : tDGet td ty σ H Q := q
theorem g_din {td ty : TE} (q : ty σ H fun y H1 => td σ H1 fun x H2 => ∃ a o, x = .ref a ∧ DGet H2 a y o ∧ Q (.bl o.isSome) H2) : tDIn ty td σ H Q := q
theorem g_dnotin {td ty : TE} (q : ty σ H fun y H1 => td σ H1 fun x H2 => ∃ a o, x = .ref a ∧ DGet H2 a y o ∧ Q (.bl (!o.isSome)) H2) : tDNotIn ty td σ H Q := q
theorem g_neB {a b : Bool} (q : Q (.bl (!decide (a = b))) H) : rNe (.bl a) (.bl b) H Q := ⟨rfl, by rw [dB]; exact q⟩
theorem g_itup {R : It → Hp → Prop} (q : ta σ H fun x H1 => ∃ a, x = .ref a ∧ (∃ xs, SqT K H1 a xs) ∧ R (Itt K a) H1) : iTup K ta σ H R := q
theorem for_tupA {p : Addr} {xs : List V} {g : TG} {tb : TS} (Pv : Nat → L2.St → Hp → Prop) (h0 : Pv 0 σ H) (hl : ∀ i σ H, i ≤ xs.length → Pv i σ H → SqT K H p xs)
    (hs : ∀ i x σ H (D' : Ends), xs[i]? = some x → Pv i σ H → (∀ σ H, Pv (i + 1) σ H → D'.nx σ H) → (∀ σ H, Pv (i + 1) σ H → D'.ct σ H) → (∀ σ H, D.nx σ H → D'.bk σ H) → D'.rt = D.rt → g x σ H fun σ2 H2 => tb D' σ2 H2) (hd : ∀ σ H, Pv xs.length σ H → D.nx σ H) :
    ∃ W : Nat → Nat → L2.St → Hp → Prop, (∃ m, W 0 m σ H) ∧ ∀ i m σ H, W i m σ H →
      ((Itt K p).stop i H ∧ D.nx σ H) ∨ ((Itt K p).go i H ∧ ∃ N : L2.St → Hp → Prop, (∀ σ' H', N σ' H' → ∃ m', m' < m ∧ W (i + 1) m' σ' H') ∧ ∀ x H', (Itt K p).yld i H x H' → g x σ H' fun σ2 H2 => tb { D with nx := N, ct := N, bk := D.nx } σ2 H2) :=
  for_tup Pv h0 hl (fun i x σ H hi p => hs i x σ H _ hi p (fun _ _ h => h) (fun _ _ h => h) (fun _ _ h => h) rfl) hd
theorem g_me (q : ta σ H fun x H1 => ∃ a dx fs, x = .ref a ∧ H1 a = some (.ins C dx fs) ∧ fs.lookup m = none ∧ t σ H1 fun vs H2 => sp (x :: vs) H2 Q E0) : tMe C m sp ta t σ H Q := q
theorem g_new (q : t σ H fun vs H1 => ∀ x dx, H1 x = none → H1 dx = none → dx ≠ x → sp (.ref x :: vs) (upd (upd H1 dx (.own x)) x (.ins C dx [])) (fun v H2 => v = .non ∧ Q (.ref x) H2) E0) : tNew C sp t σ H Q := q
theorem g_fld (q : ta σ H fun x H1 => ∃ a C dx fs v, x = .ref a ∧ H1 a = some (.ins C dx fs) ∧ Cls K C ∧ NoAttr K C f ∧ fs.lookup f = some v ∧ Q v H1) : tFld K ta f σ H Q := q
theorem g_sfld (q : tv σ H fun y H1 => ta σ H1 fun x H2 => ∃ a C dx fs, x = .ref a ∧ H2 a = some (.ins C dx fs) ∧ Cls K C ∧ NoAttr K C f ∧ fs.length < 1000 ∧ D.nx σ (upd H2 a (.ins C dx (putF f y fs)))) : sFld K ta tv f D σ H := q
end
end Tw

set_option Elab.async false
set_option linter.all false
set_option maxRecDepth 100000
namespace Tw
open PySem L2 PySem.Spec
section
variable {X : Cx} {k j : Nat} {C : Addr} {ps : List Str} {sp : Sp}
/-- two instances of a class of the text, by its own operator -/
def rOwn2 (C : Addr) (sp : Sp) : R2 := fun x y H Q => ∃ (a b dx dy : Addr) (fs gs : List (Str × V)), x = .ref a ∧ y = .ref b ∧ H a = some (.ins C dx fs) ∧ H b = some (.ins C dy gs) ∧ sp [x, y] H Q E0
/-- an instance, by its class's own operator -/
def rOwn1 (C : Addr) (sp : Sp) : V → Hp → VK → Prop := fun x H Q => ∃ (a dx : Addr) (fs : List (Str × V)), x = .ref a ∧ H a = some (.ins C dx fs) ∧ sp [x] H Q E0
theorem back_of {pins : List (Addr × Obj)} {σ : L2.St} {Q : VK} {v : Value} {s : Shared} (h : EP X pins σ Q v s) : PySem.W.CmpBack (EP X pins σ Q) v s := by
  obtain ⟨x, H', I, r, q⟩ := h
  cases v with
  | notImplemented => cases x <;> first | (rcases r with ⟨t, h⟩; cases h; done) | (cases r; done)
  | _ => exact ⟨x, H', I, r, q⟩
theorem op_own2 {op : Operator} (D : DefM X.prog X.w X.K X.mg X.base k C (PySem.dunder op.info.2) ps sp) (hr : Room j X.A) (hf : PySem.W.selfFirst X.K C = true) (hk : k ≤ j := by decide) : OpR X (binaryOp op) (rOwn2 C sp) := by
  intro pins s σ H x y u v Q I rx ry h
  obtain ⟨a, b, dx, dy, fs, gs, rfl, rfl, ea, eb, q⟩ := h
  obtain rfl : u = Value.ref a := rx
  obtain rfl : v = Value.ref b := ry
  obtain ⟨f, fd, F, hm, hb⟩ := D.ex
  obtain ⟨_, OA, _⟩ := ins_get I.hok ea
  obtain ⟨_, OB, _⟩ := ins_get I.hok eb
  obtain ⟨_, ia, _⟩ := OA.look
  obtain ⟨_, ib, _⟩ := OB.look
  obtain ⟨m, fr⟩ := I.fr
  refine PySem.W.binop_K fr I.mod.kin ia ib.type hf hm.at_ hm.fn ?_
  refine wpAny_mono (run_fn F (hr.mono hk) hb .nil pass0 I (vs := [.ref a, .ref b]) (.cons (show RelV (.ref a) (.ref a) from rfl) (.cons (show RelV (.ref b) (.ref b) from rfl) .nil)) q) (fun _ _ z => back_of z) fun _ _ z => z
theorem un_inv {P : Program} {w : World} (D : DefM X.prog X.w X.K X.mg X.base k C "__invert__" ps sp) (hr : Room j X.A) (hk : k ≤ j := by decide) : UnR X (unaryOp .Invert) (rOwn1 C sp) := by
  intro pins s σ H x u Q I rx h
  obtain ⟨a, dx, fs, rfl, ea, q⟩ := h
  obtain rfl : u = Value.ref a := rx
  obtain ⟨f, fd, F, hm, hb⟩ := D.ex
  obtain ⟨_, OA, _⟩ := ins_get I.hok ea
  obtain ⟨_, ia, _⟩ := OA.look
  obtain ⟨m, fr⟩ := I.fr
  refine PySem.W.ksp_inv fr I.mod.kin ia hm.at_ hm.fn ?_
  exact run_fn F (hr.mono hk) hb .nil pass0 I (vs := [.ref a]) (.cons (show RelV (.ref a) (.ref a) from rfl) .nil) q
end
end Tw

set_option Elab.async false
set_option linter.all false
set_option maxRecDepth 100000
namespace Tw
open PySem L2 PySem.Spec
section
variable {prog : Program} {w : World} {A : Around} {E : Value → Shared → Prop} {s : Shared} {K : PySem.W.Frag} {x C f : Addr} {o : Obj} {od : Option Obj} {T : String}
/-- an own operator whose right side is of a built-in kind -/
theorem bin_kind {op : Operator} {b : Value} {lo ro rc : Option Value} {Q : Value → Shared → Prop} (kin : K.In s.heap) (inst : PySem.W.InstAt s.heap x o C od) (kind : PySem.W.Looks (model prog w) s.heap (typeOf b) (.type T)) (own : PySem.W.selfFirst K C = true)
    (at1 : PySem.W.findIn K (.ref C) (PySem.dunder op.info.2) = some (some (.ref f))) (isf : PySem.W.isFn K (.ref f) = true) (at2 : PySem.W.findIn K (.ref C) (dunderR op.info.2) = some rc) (at3 : rc = none ∨ ∃ g : Addr, rc = some (.ref g))
    (tl : PySem.W.findIn K (.type T) (PySem.dunder op.info.2) = some lo) (tr : PySem.W.findIn K (.type T) (dunderR op.info.2) = some ro) (ns : PySem.W.subIn K (.type T) (.ref C) = some false)
    (h : wpAny (model prog w) A (call (.ref f) [.ref x, b]) (PySem.W.CmpBack Q) E s) : wpAny (model prog w) A (binaryOp op (.ref x) b) Q E s := by
  obtain ⟨cd, more, ecd, emr⟩ := PySem.W.ksp_first own
  have asked := PySem.W.ksp_try kin inst at1 isf h
  cases nme : op.info with
  | mk sg nm =>
  rw [nme] at at1 at2 tl tr asked
  have q4 := PySem.W.ksp_fillsT (M := model prog w) kin tl tr
  have q3 : PySem.W.Looks (model prog w) s.heap (fillsNumberSlot (.ref C) nm) true := PySem.W.fills_K kin ecd emr at1
  have q5 : PySem.W.Looks (model prog w) s.heap (isSubtype (.type T) (.ref C)) false := PySem.W.looks_subIn kin ns
  have q6 : PySem.W.Looks (model prog w) s.heap (numberSlotInPython (.ref C) nm) true := PySem.W.ksp_inPy kin at1 at2 at3
  have q7 : PySem.W.Looks (model prog w) s.heap (numberSlotInPython (.type T) nm) false := PySem.W.Looks.of_pure rfl
  have q8 : PySem.W.Looks (model prog w) s.heap (typeLookup (.type T) (dunderR nm)) ro := PySem.W.looks_findIn kin tr
  have q1 : PySem.W.Looks (model prog w) s.heap (typeOf (.ref x)) (.ref C) := inst.type
  obtain ⟨hp, gg, dd, kk, oo⟩ := s
  have diff : (Value.ref C == Value.type T) = false := by
    cases e : (Value.ref C == Value.type T) with
    | false => rfl
    | true => cases (beq_iff_eq.mp e)
  generalize ((lo.isSome && !isSeqSlot lo) || (ro.isSome && !isSeqSlot ro)) = slot at q4
  simp only [binaryOp, nme]
  refine wpAny_holding (wpAny_bind ?_)
  unfold binaryOp1
  refine wpAny_bind (q1.at ?_)
  refine wpAny_bind (kind.at ?_)
  refine wpAny_bind (q3.at ?_)
  simp only [diff, Bool.false_eq_true, if_false]
  cases slot
  all_goals
    ksp_lk
    refine wpAny_mono asked (fun r t ht => ?_) fun _ _ e => e
    obtain ⟨v, rfl, hv⟩ := ht
    ksp_lk
    exact hv
end
end Tw
namespace Tw
open PySem L2 PySem.Spec
/-- the built-in kinds that a law's things are of -/
def kinds7 : List String := ["NoneType", "bool", "int", "str", "list", "tuple", "dict"]
theorem kin_and {K : PySem.W.Frag} {C : Addr} : ∀ T ∈ kinds7, (∃ lo, PySem.W.findIn K (.type T) (PySem.dunder Operator.BitAnd.info.2) = some lo) ∧ (∃ ro, PySem.W.findIn K (.type T) (dunderR Operator.BitAnd.info.2) = some ro) ∧ PySem.W.subIn K (.type T) (.ref C) = some false := by
  intro T h
  unfold kinds7 at h
  simp only [List.mem_cons, List.not_mem_nil, or_false] at h
  rcases h with rfl | rfl | rfl | rfl | rfl | rfl | rfl <;> exact ⟨Option.isSome_iff_exists.mp (by kernel_rfl), Option.isSome_iff_exists.mp (by kernel_rfl), by kernel_rfl⟩
end Tw
namespace Tw
open PySem L2 PySem.Spec
theorem kin_or {K : PySem.W.Frag} {C : Addr} : ∀ T ∈ kinds7, (∃ lo, PySem.W.findIn K (.type T) (PySem.dunder Operator.BitOr.info.2) = some lo) ∧ (∃ ro, PySem.W.findIn K (.type T) (dunderR Operator.BitOr.info.2) = some ro) ∧ PySem.W.subIn K (.type T) (.ref C) = some false := by
  intro T h
  unfold kinds7 at h
  simp only [List.mem_cons, List.not_mem_nil, or_false] at h
  rcases h with rfl | rfl | rfl | rfl | rfl | rfl | rfl <;> exact ⟨Option.isSome_iff_exists.mp (by kernel_rfl), Option.isSome_iff_exists.mp (by kernel_rfl), by kernel_rfl⟩
/-- an instance and a thing of a built-in kind, by the class's own operator -/
def rOwnT (K : PySem.W.Frag) (C : Addr) (sp : Sp) : R2 := fun x y H Q => ∃ (a dx : Addr) (fs : List (Str × V)) (T : String), x = .ref a ∧ H a = some (.ins C dx fs) ∧ TyX K H y (.type T) ∧ T ∈ kinds7 ∧ sp [x, y] H Q E0
section
variable {X : Cx} {k j : Nat} {C : Addr} {ps : List Str} {sp : Sp}
theorem op_ownT {op : Operator} (D : DefM X.prog X.w X.K X.mg X.base k C (PySem.dunder op.info.2) ps sp) (hr : Room j X.A) (own : PySem.W.selfFirst X.K C = true) (nr : PySem.W.findIn X.K (.ref C) (dunderR op.info.2) = some none)
    (facts : ∀ T ∈ kinds7, (∃ lo, PySem.W.findIn X.K (.type T) (PySem.dunder op.info.2) = some lo) ∧ (∃ ro, PySem.W.findIn X.K (.type T) (dunderR op.info.2) = some ro) ∧ PySem.W.subIn X.K (.type T) (.ref C) = some false) (hk : k ≤ j := by decide) : OpR X (binaryOp op) (rOwnT X.K C sp) := by
  intro pins s σ H x y u v Q I rx ry h
  obtain ⟨a, dx, fs, T, rfl, ea, ty, hT, q⟩ := h
  obtain rfl : u = Value.ref a := rx
  obtain ⟨f, fd, F, hm, hb⟩ := D.ex
  obtain ⟨_, OA, _⟩ := ins_get I.hok ea
  obtain ⟨_, ia, _⟩ := OA.look
  obtain ⟨Pk, kx, pk, _⟩ := kit_of I ry ty
  obtain ⟨⟨lo, f1⟩, ⟨ro, f2⟩, f3⟩ := facts T hT
  refine bin_kind I.kIn ia (kx.ty _ _ I.kIn pk) own hm.at_ hm.fn nr (.inl rfl) f1 f2 f3 ?_
  exact wpAny_mono (run_fn F (hr.mono hk) hb .nil pass0 I (vs := [.ref a, y]) (.cons (show RelV (.ref a) (.ref a) from rfl) (.cons ry .nil)) q) (fun _ _ z => back_of z) fun _ _ z => z
theorem op_andG {K : PySem.W.Frag} (hK : X.K = K) (D : DefM X.prog X.w X.K X.mg X.base k C (PySem.dunder Operator.BitAnd.info.2) ps sp) (hr : Room j X.A) (own : PySem.W.selfFirst X.K C = true) (nr : PySem.W.findIn X.K (.ref C) (dunderR Operator.BitAnd.info.2) = some none) (hk : k ≤ j := by decide) :
    OpR X (binaryOp .BitAnd) (fun x y H Q => rOwn2 C sp x y H Q ∨ rOwnT K C sp x y H Q) := by
  subst hK
  exact (op_own2 D hr own hk).or (op_ownT D hr own nr kin_and hk)
theorem op_orG {K : PySem.W.Frag} (hK : X.K = K) (D : DefM X.prog X.w X.K X.mg X.base k C (PySem.dunder Operator.BitOr.info.2) ps sp) (hr : Room j X.A) (own : PySem.W.selfFirst X.K C = true) (nr : PySem.W.findIn X.K (.ref C) (dunderR Operator.BitOr.info.2) = some none) (hk : k ≤ j := by decide) :
    OpR X (binaryOp .BitOr) (fun x y H Q => rOwn2 C sp x y H Q ∨ rOwnT K C sp x y H Q) := by
  subst hK
  exact (op_own2 D hr own hk).or (op_ownT D hr own nr kin_or hk)
end
end Tw

set_option Elab.async false
set_option linter.all false
set_option maxRecDepth 100000
set_option maxHeartbeats 4000000
/-! own errors over Exception, of a class below one's own base, with an __init__ that stores its one parameter -/
namespace PySem
namespace TwX
open PySem.W PySem.Calls PyProof.Rows PySem.HandSPX
/-- the classes of an error's order: own ones, then Exception's -/
abbrev exT : List Value := [.type "Exception", .type "BaseException", .type "object"]
inductive OwnEx : List Value → Prop where
  | tail : OwnEx exT
  | own (c : Addr) {r : List Value} (h : OwnEx r) : OwnEx (.ref c :: r)
theorem OwnEx.pass {l : List Value} (h : OwnEx l) (self : Value) : refuseLoop self "__setattr__" l = pure () := by
  induction h with
  | tail => exact F.store_Exception.passes self
  | own c _ ih => rw [refuseLoop_ref, ih]
theorem OwnEx.has {l : List Value} (h : OwnEx l) (n : String) : l.contains (.type n) = exT.contains (.type n) := by
  induction h with
  | tail => rfl
  | own c _ ih => rw [List.contains_cons, ih]; rfl
theorem OwnEx.some {l : List Value} (h : OwnEx l) : l.isEmpty = false := by cases h <;> rfl
section
open Builtin Builtin.ObjectAttr
variable {prog : Program} {w : World} {A : Around} {R : Result → Shared → Prop} {hp : Heap} {gs : Array GenState} {dr : Drawn} {tc : Nat} {os : OsState}
theorem setattr_to {K : Frag} {nm : Str} {tk : Tok} {v : Value} {x C : Addr} {ox : Obj} {od : Option Obj} {cd : ClassData} (XK : K.In hp) (J : InstAt hp x ox C od) (hc : clsIn K C = some cd) (hm : OwnEx cd.mro) (hn : findIn K (.ref C) nm = some none)
    (hq : wpAny (model prog w) A.in1 (storeInOwnDict (.ref x) (.ref C) (.str nm tk) nm v false) (fun fin s' => match fin with | .done f => R (.ok f) s' | .again c' => c'.quiet = true ∧ codeAny (model prog w) A c' R s') (fun e s' => R (.error e) s') ⟨hp, gs, dr, tc, os⟩) :
    codeAny (model prog w) A (.call (.builtin "object.__setattr__") ⟨[.ref x, .str nm tk, v], []⟩) R ⟨hp, gs, dr, tc, os⟩ := by
  have ST := F.store_object
  have hmo : mroIn K C (.type "object") = some true := by
    unfold mroIn
    rw [hc, Option.bind_some, if_neg (by rw [hm.some]; decide), hm.has "object"]
    exact congrArg _ (by decide +kernel)
  have isO : Looks (model prog w) hp (isInstance (.ref x) (.type "object")) true := J.type.andThen (looks_mroIn XK hmo)
  refine codeAny_call_builtin ST.slot.plain ST.entry ?_
  refine @check_slot (model prog w) _ _ ⟨hp, gs, dr, tc, os⟩ "object.__setattr__" "object" "__setattr__" (.ref x) [.str nm tk, v] [] _ ST.kind ST.split isO (ST.args (.ref x) (.str nm tk) v) ?_
  have lm : Looks (model prog w) hp (mroOf (.ref C)) cd.mro := (looks_clsIn XK hc).andThen .now
  have lt : Looks (model prog w) hp (storeTaker? none) none := .now
  rw [osa_eq, refuse_eq]
  refine wpAny_bind (wpAny_bind ?_)
  refine J.type.at (wpAny_bind (lm.at ?_))
  rw [hm.pass]
  refine wpAny_pure (wpAny_bind ?_)
  exact J.type.at (wpAny_bind ((looks_findIn XK hn).at (wpAny_bind (lt.at hq))))
/-- the first field of a fresh error -/
theorem setattr_first {K : Frag} {nm : Str} {tk : Tok} {v : Value} {x C : Addr} {fv : Array Value} {cd : ClassData} (XK : K.In hp) (hx : hp.get? x = some { cls := .ref C, data := .fields fv }) (hc : clsIn K C = some cd) (hm : OwnEx cd.mro) (hh : cd.hasDict = true) (hn : findIn K (.ref C) nm = some none)
    (hq : ∀ h2 tk2 dx, (∀ b o, b ≠ x → hp.get? b = some o → h2.get? b = some o) → hp.objs.size ≤ dx → dx ≠ x → h2.get? x = some { cls := .ref C, dict := some dx, data := .fields fv } → h2.Ns1 dx (fun y => if y = nm then some v else none) → R (.ok (.ret .none)) ⟨h2, gs, dr, tk2, os⟩) :
    codeAny (model prog w) A (.call (.builtin "object.__setattr__") ⟨[.ref x, .str nm tk, v], []⟩) R ⟨hp, gs, dr, tc, os⟩ := by
  have J : InstAt hp x { cls := .ref C, data := .fields fv } C none := ⟨hx, rfl, rfl, trivial⟩
  have nx : x ≠ hp.objs.size := Nat.ne_of_lt (Heap.lt_size hx)
  have lc : Looks (model prog w) hp (classData C) cd := looks_clsIn XK hc
  refine setattr_to XK J hc hm hn ?_
  obtain ⟨a1, a2, a3, a4, a5, a6, a7, a8, a9, a10, a11⟩ := cd
  dsimp only at hh
  subst hh
  unfold storeInOwnDict ownDictForStores
  repeat (first | with_reducible refine HandSPX.store_in_new ?_ ?_ | with_reducible refine wpAny_loadPart_at hx ?_ | with_reducible refine lc.at ?_ | wp_step)
  · refine ⟨_, #[], _, (Heap.get?_update_ne _ _ _ _ nx.symm).trans (Heap.get?_push_at rfl rfl), rfl, ?_, fun _ => rfl⟩
    intro e he
    exact absurd he (by simp)
  · intro h2 tk2 hn2 sb
    have px : (hp.push { cls := .type "dict", data := .dict #[] }).get? x = some { cls := .ref C, data := .fields fv } := Heap.get?_push_of_some _ hx
    refine hq h2 tk2 hp.objs.size ?_ (Nat.le_refl _) nx.symm ((sb.2 x nx).trans (Heap.get?_update_self _ px rfl)) hn2
    intro b o hb ho
    exact (sb.2 b (Nat.ne_of_lt (Heap.lt_size ho))).trans ((Heap.get?_update_ne _ _ _ _ hb).trans (Heap.get?_push_of_some _ ho))
/-- a further one -/
theorem setattr_next {K : Frag} {nm : Str} {tk : Tok} {v : Value} {x C dx : Addr} {fv : Array Value} {cd : ClassData} {m0 : Str → Option Value} {nl : List Str} (XK : K.In hp) (hx : hp.get? x = some { cls := .ref C, dict := some dx, data := .fields fv }) (hns : hp.Ns1 dx m0) (hw : Within m0 nl) (hz : nl.length ≤ 1000)
    (hc : clsIn K C = some cd) (hm : OwnEx cd.mro) (hh : cd.hasDict = true) (hn : findIn K (.ref C) nm = some none)
    (hq : ∀ h2 tk2, (∀ b o, b ≠ dx → hp.get? b = some o → h2.get? b = some o) → h2.Ns1 dx (fun y => if y = nm then some v else m0 y) → R (.ok (.ret .none)) ⟨h2, gs, dr, tk2, os⟩) :
    codeAny (model prog w) A (.call (.builtin "object.__setattr__") ⟨[.ref x, .str nm tk, v], []⟩) R ⟨hp, gs, dr, tc, os⟩ := by
  obtain ⟨oD, eD, pD, gD, dD, _⟩ := hns.count hw
  have J : InstAt hp x { cls := .ref C, dict := some dx, data := .fields fv } C (some oD) := ⟨hx, rfl, rfl, gD⟩
  have lc : Looks (model prog w) hp (classData C) cd := looks_clsIn XK hc
  refine setattr_to XK J hc hm hn ?_
  obtain ⟨a1, a2, a3, a4, a5, a6, a7, a8, a9, a10, a11⟩ := cd
  dsimp only at hh
  subst hh
  unfold storeInOwnDict ownDictForStores
  repeat (first | with_reducible refine ESX.store_in_old hns hw hz ?_ | with_reducible refine wpAny_loadPart_at hx ?_ | with_reducible refine lc.at ?_ | wp_step)
  exact fun h2 tk2 hn2 sb => hq h2 tk2 (fun b o hb ho => (sb.2 b hb).trans ho) hn2
end
end TwX
end PySem

set_option Elab.async false
set_option linter.all false
set_option maxRecDepth 100000
namespace Tw
open PySem L2 PySem.Spec
/-- a def of the text that may let an error out -/
structure DefX (P : Program) (w : World) (K : PySem.W.Frag) (mg : Str → Option Value) (base : Heap) (k : Nat) (x : Str) (ps : List Str) (sp : Sp) : Prop where
  ex : ∃ (f : Addr) (fd : FuncData), FnOk P w K mg base (L2.CX P w) k f fd ps sp ∧ mg x = some (.ref f) ∧ PySem.W.keepIn K (.ref f) = true ∧ Binds K fd ps []
/-- a method that may let an error out -/
structure DefMX (P : Program) (w : World) (K : PySem.W.Frag) (mg : Str → Option Value) (base : Heap) (k : Nat) (C : Addr) (m : Str) (ps : List Str) (sp : Sp) : Prop where
  ex : ∃ (f : Addr) (fd : FuncData), FnOk P w K mg base (L2.CX P w) k f fd ps sp ∧ Meth K C m f ∧ Binds K fd ps []
theorem Here.defX {P : Program} {w : World} {K : PySem.W.Frag} {mg : Str → Option Value} {base : Heap} {k : Nat} {x : Str} {st : Stmt} {ps : List Str} {sp : Sp} {f : Addr} {fd : FuncData} (h : Here K mg x st ps f fd) (F : FnOk P w K mg base (L2.CX P w) k f fd ps sp) : DefX P w K mg base k x ps sp :=
  ⟨f, fd, F, h.mg, h.fn.kp, h.bd⟩
theorem HereM.defX {P : Program} {w : World} {K : PySem.W.Frag} {mg : Str → Option Value} {base : Heap} {k : Nat} {C : Addr} {m qual : Str} {st : Stmt} {ps : List Str} {sp : Sp} {f : Addr} {fd : FuncData} (h : HereM K C m qual st ps f fd) (F : FnOk P w K mg base (L2.CX P w) k f fd ps sp) : DefMX P w K mg base k C m ps sp :=
  ⟨f, fd, F, h.me, h.bd⟩
/-- what is wanted of a body that may raise -/
theorem Fun.okMX {P : Program} {w : World} {K : PySem.W.Frag} {mg : Str → Option Value} {base : Heap} {x qual : Str} {st : Stmt} {f : Addr} {fd : FuncData} {N ps : List Str} {k : Nat} {sp : Sp} (F : Fun K x qual st f fd) (S : FnScope N ps (defScope st)) (len : ∀ vs H Q E, sp vs H Q E → vs.length = ps.length)
    (hbody : ∀ (cdv : Value) (A : Around) (outer : List Env) (s : Shared) (H : Hp) (vs : List V) (Q : VK) (E : XK), Room k (A.deeper (PyProof.Rows.envOfC qual (defScope st) s.heap.objs.size f cdv)) → sp vs H Q E →
      ∃ t, PSs (cxOf (L2.CX P w) P w K mg base N qual (defScope st) f cdv A outer s H E) (defBody st) t ∧ t (mkE (fun _ H' => Q .non H') Q (fun _ _ => False) (fun _ _ => False)) (L2.start N vs) H) : FnOk P w K mg base (L2.CX P w) (k + 1) f fd ps sp := F.okX S len hbody
section
variable {X : Cx} {k j : Nat} {C : Addr} {x m : Str} {p pos apos : Pos} {o e a b : Expr} {es : List Expr} {ps : List Str} {sp : Sp} {ta tb : TE} {t : TA} {W : WX}
theorem pe_defX (tk : Takes X W) (D : DefX X.prog X.w X.K X.mg X.base k x ps sp) (hr : Room j X.A) (hg : Gl X x) (ha : PA X (e :: es) t) (hk : k ≤ j := by decide) (hdb : (x == ("__debug__" : Str)) = false := by decide)
    (he : starEach (e :: es) X.env = (false, eval e X.env) :: starEach es X.env := by rfl) (hpl : (backTo pos (starEach es X.env)).any (·.1) = false := by rfl) : PE X (.Call (.Name x p) (e :: es) [] pos) (tCallS sp (WE W) t) := by
  obtain ⟨f, fd, F, hm, hkp, hb⟩ := D.ex
  exact pe_callS F (hr.mono hk) hg hm hkp hb (fun σ => passAt tk σ) ha hdb he hpl
/-- an operator that may raise -/
def OpW (X : Cx) (f : Value → Value → Sem Value) (r : L2.St → R2) : Prop := ∀ (pins : List (Addr × Obj)) (s : Shared) (σ : L2.St) (H : Hp) (x y : V) (v u : Value) (Q : VK), Inv X pins σ H s → RelV x v → RelV y u → r σ x y H Q → wpAny (model X.prog X.w) X.A (f v u) (EP X pins σ Q) X.xe s
def tOpW (r : L2.St → R2) (ta tb : TE) : TE := fun σ H Q => ta σ H fun x H1 => tb σ H1 fun y H2 => r σ x y H2 Q
theorem pe_opW {op : Operator} {r : L2.St → R2} (ho : OpW X (binaryOp op) r) (ha : PE X a ta) (hb : PE X b tb) : PE X (.BinOp a op b pos) (tOpW r ta tb) :=
  ⟨fun pins s σ _ Q I h => wpAny_BinOp (binT ha hb I h fun v u s2 x y H2 I2 rx ry q => ho pins s2 σ H2 x y v u Q I2 rx ry q)⟩
theorem op_own2W {op : Operator} (tk : Takes X W) (D : DefMX X.prog X.w X.K X.mg X.base k C (PySem.dunder op.info.2) ps sp) (hr : Room j X.A) (hf : PySem.W.selfFirst X.K C = true) (hk : k ≤ j := by decide) :
    OpW X (binaryOp op) (fun σ x y H Q => ∃ (a b dx dy : Addr) (fs gs : List (Str × V)), x = .ref a ∧ y = .ref b ∧ H a = some (.ins C dx fs) ∧ H b = some (.ins C dy gs) ∧ sp [x, y] H Q (WE W σ)) := by
  intro pins s σ H x y u v Q I rx ry h
  obtain ⟨a, b, dx, dy, fs, gs, rfl, rfl, ea, eb, q⟩ := h
  obtain rfl : u = Value.ref a := rx
  obtain rfl : v = Value.ref b := ry
  obtain ⟨f, fd, F, hm, hb⟩ := D.ex
  obtain ⟨_, OA, _⟩ := ins_get I.hok ea
  obtain ⟨_, OB, _⟩ := ins_get I.hok eb
  obtain ⟨_, ia, _⟩ := OA.look
  obtain ⟨_, ib, _⟩ := OB.look
  obtain ⟨m, fr⟩ := I.fr
  refine PySem.W.binop_K fr I.mod.kin ia ib.type hf hm.at_ hm.fn ?_
  exact wpAny_mono (run_fnS F (hr.mono hk) hb (passAt tk σ) I (vs := [.ref a, .ref b]) (.cons (show RelV (.ref a) (.ref a) from rfl) (.cons (show RelV (.ref b) (.ref b) from rfl) .nil)) q) (fun _ _ z => back_of z) fun _ _ z => z
theorem op_ownTW {op : Operator} (tk : Takes X W) (D : DefMX X.prog X.w X.K X.mg X.base k C (PySem.dunder op.info.2) ps sp) (hr : Room j X.A) (own : PySem.W.selfFirst X.K C = true) (nr : PySem.W.findIn X.K (.ref C) (dunderR op.info.2) = some none)
    (facts : ∀ T ∈ kinds7, (∃ lo, PySem.W.findIn X.K (.type T) (PySem.dunder op.info.2) = some lo) ∧ (∃ ro, PySem.W.findIn X.K (.type T) (dunderR op.info.2) = some ro) ∧ PySem.W.subIn X.K (.type T) (.ref C) = some false) (hk : k ≤ j := by decide) :
    OpW X (binaryOp op) (fun σ x y H Q => ∃ (a dx : Addr) (fs : List (Str × V)) (T : String), x = .ref a ∧ H a = some (.ins C dx fs) ∧ TyX X.K H y (.type T) ∧ T ∈ kinds7 ∧ sp [x, y] H Q (WE W σ)) := by
  intro pins s σ H x y u v Q I rx ry h
  obtain ⟨a, dx, fs, T, rfl, ea, ty, hT, q⟩ := h
  obtain rfl : u = Value.ref a := rx
  obtain ⟨f, fd, F, hm, hb⟩ := D.ex
  obtain ⟨_, OA, _⟩ := ins_get I.hok ea
  obtain ⟨_, ia, _⟩ := OA.look
  obtain ⟨Pk, kx, pk, _⟩ := kit_of I ry ty
  obtain ⟨⟨lo, f1⟩, ⟨ro, f2⟩, f3⟩ := facts T hT
  refine bin_kind I.kIn ia (kx.ty _ _ I.kIn pk) own hm.at_ hm.fn nr (.inl rfl) f1 f2 f3 ?_
  exact wpAny_mono (run_fnS F (hr.mono hk) hb (passAt tk σ) I (vs := [.ref a, y]) (.cons (show RelV (.ref a) (.ref a) from rfl) (.cons ry .nil)) q) (fun _ _ z => back_of z) fun _ _ z => z
end
end Tw
namespace Tw
open PySem L2 PySem.Spec
section
variable {X : Cx} {k j : Nat} {C : Addr} {x m : Str} {p pos apos : Pos} {o e a b : Expr} {es : List Expr} {ps : List Str} {sp : Sp} {ta tb : TE} {t : TA} {W : WX}
/-- o.m(..) that may raise -/
def tMeX (C : Addr) (m : Str) (sp : Sp) (W : WX) (ta : TE) (t : TA) : TE := fun σ H Q => ta σ H fun x H1 => ∃ a dx fs, x = .ref a ∧ H1 a = some (.ins C dx fs) ∧ fs.lookup m = none ∧ t σ H1 fun vs H2 => sp (x :: vs) H2 Q (WE W σ)
theorem pe_meX {pl : Sem Bool} (tk : Takes X W) (he : PE X o ta) (c : Cls X.K C) (D : DefMX X.prog X.w X.K X.mg X.base k C m ps sp) (hr : Room j X.A) (ha : PA X (e :: es) t) (hk : k ≤ j := by decide)
    (st : starEach (e :: es) X.env = (false, eval e X.env) :: starEach es X.env := by rfl) (nst : (backTo pos (starEach es X.env)).any (·.1) = false := by rfl)
    (form : eval (.Call (.Attribute o m apos) (e :: es) [] pos) X.env = (do
      let recv ← eval o X.env
      standAt apos.atName
      let (g, front) ← holding [recv] (getMethod recv m pl)
      callWith pos g front (backTo pos (starEach (e :: es) X.env)) (backToKw pos (keywordEach [] X.env))) := by rfl) : PE X (.Call (.Attribute o m apos) (e :: es) [] pos) (tMeX C m sp W ta t) := by
  obtain ⟨f, fd, F, hm, hb⟩ := D.ex
  constructor
  intro pins s σ H Q I h
  refine PySem.W.methodCall_KW (pl := pl) (thn (he.run pins s σ H _ I h) ?_) form
  rintro u s1 ⟨y, H1, I1, ry, q, dq, fs, rfl, eq, lk, rest⟩
  obtain rfl : u = Value.ref q := ry
  refine getmeth_ok I1 eq c hm lk ?_
  refine PySem.W.callWith_K (first := [.ref q]) (h₀ := X.base) I.ok.mod.kin hm.kp (thn (ha.run pos pins s1 σ H1 _ I1 rest) ?_) st nst
  rintro us s2 ⟨vs, H2, I2, rv, fin⟩
  exact ⟨I2.kIn, run_fnS (us := .ref q :: us) (vs := .ref q :: vs) F (hr.mono hk) hb (passAt tk σ) I2 (.cons (show RelV (.ref q) (.ref q) from rfl) rv) fin⟩
theorem g_callS {σ : L2.St} {H : Hp} {Q : VK} {E : L2.St → XK} (q : t σ H fun vs H1 => sp vs H1 Q (E σ)) : tCallS sp E t σ H Q := q
theorem g_meX {σ : L2.St} {H : Hp} {Q : VK} (q : ta σ H fun x H1 => ∃ a dx fs, x = .ref a ∧ H1 a = some (.ins C dx fs) ∧ fs.lookup m = none ∧ t σ H1 fun vs H2 => sp (x :: vs) H2 Q (WE W σ)) : tMeX C m sp W ta t σ H Q := q
end
end Tw
namespace Tw
open PySem L2 PySem.Spec
/-- what isinstance asks of a class of the text -/
structure OwnIs (K : PySem.W.Frag) (C : Addr) : Prop where
  ha : PySem.W.findIn K (.ref C) "__class__" = some (some (.builtin "object.__class__"))
  hn : PySem.W.specialIn K (.builtin "object.__class__") "__get__" = some (some (.builtin "getset_descriptor.__get__"))
  ht : PySem.W.takesIn K (.builtin "object.__class__") = some true
  hm : PySem.W.mroIn K C (.type "object") = some true
  me : PySem.W.kitOne K (.ref C) (.ref C) = some true
  no : ∀ T ∈ kinds7, PySem.W.kitOne K (.type T) (.ref C) = some false
theorem g_isOwn {K : PySem.W.Frag} {C a dx : Addr} {fs : List (Str × V)} {H : Hp} {Q : VK} (O : OwnIs K C) (c : Cls K C) (e : H a = some (.ins C dx fs)) (q : Q (.bl true) H) : rIsi K [.ref a, .ref C] H Q :=
  ⟨_, _, _, _, true, rfl, .own C, .base (.ins e c O.ha O.hn O.ht O.hm), O.me, q⟩
theorem g_isNot {K : PySem.W.Frag} {C : Addr} {x : V} {T : String} {H : Hp} {Q : VK} (O : OwnIs K C) (ty : TyX K H x (.type T)) (h : T ∈ kinds7) (q : Q (.bl false) H) : rIsi K [x, .ref C] H Q :=
  ⟨_, _, _, _, false, rfl, .own C, ty, O.no T h, q⟩
section
variable {X : Cx} {k j : Nat} {C : Addr} {x m : Str} {p pos apos : Pos} {o e a b : Expr} {es : List Expr} {ps : List Str} {sp : Sp} {ta tb : TE} {t : TA} {W : WX}
theorem OpW.or {f : Value → Value → Sem Value} {r r' : L2.St → R2} (h : OpW X f r) (h' : OpW X f r') : OpW X f (fun σ x y H Q => r σ x y H Q ∨ r' σ x y H Q) :=
  fun pins s σ H x y v u Q I rx ry q => q.elim (h pins s σ H x y v u Q I rx ry) (h' pins s σ H x y v u Q I rx ry)
/-- an own operator that may raise: with another instance, with a thing of a built-in kind -/
def rOwnW (K : PySem.W.Frag) (C : Addr) (sp : Sp) (W : WX) : L2.St → R2 := fun σ x y H Q => (∃ (a b dx dy : Addr) (fs gs : List (Str × V)), x = .ref a ∧ y = .ref b ∧ H a = some (.ins C dx fs) ∧ H b = some (.ins C dy gs) ∧ sp [x, y] H Q (WE W σ)) ∨
  ∃ (a dx : Addr) (fs : List (Str × V)) (T : String), x = .ref a ∧ H a = some (.ins C dx fs) ∧ TyX K H y (.type T) ∧ T ∈ kinds7 ∧ sp [x, y] H Q (WE W σ)
theorem op_andW {K : PySem.W.Frag} (hK : X.K = K) (tk : Takes X W) (D : DefMX X.prog X.w X.K X.mg X.base k C (PySem.dunder Operator.BitAnd.info.2) ps sp) (hr : Room j X.A) (own : PySem.W.selfFirst X.K C = true) (nr : PySem.W.findIn X.K (.ref C) (dunderR Operator.BitAnd.info.2) = some none) (hk : k ≤ j := by decide) :
    OpW X (binaryOp .BitAnd) (rOwnW K C sp W) := by
  subst hK
  exact (op_own2W tk D hr own hk).or (op_ownTW tk D hr own nr kin_and hk)
theorem op_orW {K : PySem.W.Frag} (hK : X.K = K) (tk : Takes X W) (D : DefMX X.prog X.w X.K X.mg X.base k C (PySem.dunder Operator.BitOr.info.2) ps sp) (hr : Room j X.A) (own : PySem.W.selfFirst X.K C = true) (nr : PySem.W.findIn X.K (.ref C) (dunderR Operator.BitOr.info.2) = some none) (hk : k ≤ j := by decide) :
    OpW X (binaryOp .BitOr) (rOwnW K C sp W) := by
  subst hK
  exact (op_own2W tk D hr own hk).or (op_ownTW tk D hr own nr kin_or hk)
def tUnW (C : Addr) (sp : Sp) (W : WX) (ta : TE) : TE := fun σ H Q => ta σ H fun x H1 => ∃ (a dx : Addr) (fs : List (Str × V)), x = .ref a ∧ H1 a = some (.ins C dx fs) ∧ sp [x] H1 Q (WE W σ)
theorem pe_invW (tk : Takes X W) (D : DefMX X.prog X.w X.K X.mg X.base k C "__invert__" ps sp) (hr : Room j X.A) (ha : PE X a ta) (hk : k ≤ j := by decide) : PE X (.UnaryOp .Invert a pos) (tUnW C sp W ta) := by
  constructor
  intro pins s σ H Q I h
  refine PyProof.Rows.UnaryOp_ (thn (ha.run pins s σ H _ I h) ?_)
  rintro u s1 ⟨y, H1, I1, ry, q, dq, fs, rfl, eq, rest⟩
  obtain rfl : u = Value.ref q := ry
  obtain ⟨f, fd, F, hm, hb⟩ := D.ex
  obtain ⟨_, OA, _⟩ := ins_get I1.hok eq
  obtain ⟨_, ia, _⟩ := OA.look
  obtain ⟨_, fr⟩ := I1.fr
  refine PySem.W.ksp_inv fr I1.mod.kin ia hm.at_ hm.fn ?_
  exact run_fnS F (hr.mono hk) hb (passAt tk σ) I1 (vs := [.ref q]) (.cons (show RelV (.ref q) (.ref q) from rfl) .nil) rest
/-- a class of the text as a value -/
theorem pe_cls (hg : Gl X x) (hm : X.mg x = some (.ref C)) (hdb : (x == ("__debug__" : Str)) = false := by decide) : PE X (.Name x p) (tC (.ref C)) := pe_glob (v := .ref C) hg hm rfl hdb
end
end Tw
namespace Tw
open PySem L2 PySem.Spec
section
variable {σ : L2.St} {H : Hp} {Q : VK} {ta tb : TE} {t : TA} {sp : Sp} {W : WX} {C : Addr} {r : L2.St → R2} {D : Ends}
theorem g_opW (q : ta σ H fun x H1 => tb σ H1 fun y H2 => r σ x y H2 Q) : tOpW r ta tb σ H Q := q
theorem g_unW (q : ta σ H fun x H1 => ∃ (a dx : Addr) (fs : List (Str × V)), x = .ref a ∧ H1 a = some (.ins C dx fs) ∧ sp [x] H1 Q (WE W σ)) : tUnW C sp W ta σ H Q := q
end
end Tw

set_option Elab.async false
set_option linter.all false
set_option maxRecDepth 100000
/-! truths, orders of values, defs with one keyword-only parameter, dicts -/
namespace Tw
open PySem L2 PySem.Spec PyProof.Rows
def isTv (x : V) : Prop := x = .non ∨ ∃ b, x = .bl b
def rIsTv : R2 := fun x y H Q => isTv x ∧ (∃ b, y = .bl b) ∧ Q (.bl (decide (x = y))) H
def rNotTv : R2 := fun x y H Q => isTv x ∧ (∃ b, y = .bl b) ∧ Q (.bl (!decide (x = y))) H
def ltV : V → V → Bool
  | .int i, .int j => decide (i < j)
  | .str a, .str b => decide (a.cps.toList < b.cps.toList)
  | _, _ => false
/-- two numbers, two texts -/
def sameK (x y : V) : Prop := (∃ i j, x = .int i ∧ y = .int j) ∨ ∃ a b : Str, x = .str a ∧ y = .str b
def rLtV : R2 := fun x y H Q => sameK x y ∧ Q (.bl (ltV x y)) H
def rLeV : R2 := fun x y H Q => sameK x y ∧ Q (.bl (!ltV y x)) H
def rGtV : R2 := fun x y H Q => sameK x y ∧ Q (.bl (ltV y x)) H
def rGeV : R2 := fun x y H Q => sameK x y ∧ Q (.bl (!ltV x y)) H
theorem not_lt_le {i j : Int} : (!decide (j < i)) = decide (i ≤ j) := by
  by_cases h : j < i
  · rw [decide_eq_true h, decide_eq_false (by omega)]; rfl
  · rw [decide_eq_false h, decide_eq_true (by omega)]; rfl
section
variable {X : Cx}
theorem op_isTv : OpR X (compareOp .Is) rIsTv := by
  intro pins s σ H x y v u Q I rx ry h
  obtain ⟨hx, ⟨b, rfl⟩, q⟩ := h
  cases (show u = Value.bool b from ry)
  rcases hx with rfl | ⟨a, rfl⟩
  · cases (show v = Value.none from rx)
    exact wpAny_is_other rfl (fun z => nomatch z) ⟨.bl false, H, I, rfl, by simpa using q⟩
  · cases (show v = Value.bool a from rx)
    by_cases e : a = b
    · subst e
      exact wpAny_is_self rfl ⟨.bl true, H, I, rfl, by simpa using q⟩
    · exact wpAny_is_other rfl (fun z => e (Value.bool.inj z)) ⟨.bl false, H, I, rfl, by simpa [e] using q⟩
theorem op_notTv : OpR X (compareOp .IsNot) rNotTv := by
  intro pins s σ H x y v u Q I rx ry h
  obtain ⟨hx, ⟨b, rfl⟩, q⟩ := h
  cases (show u = Value.bool b from ry)
  rcases hx with rfl | ⟨a, rfl⟩
  · cases (show v = Value.none from rx)
    exact wpAny_isNot_other rfl (fun z => nomatch z) ⟨.bl true, H, I, rfl, by simpa using q⟩
  · cases (show v = Value.bool a from rx)
    by_cases e : a = b
    · subst e
      exact wpAny_isNot_self rfl ⟨.bl false, H, I, rfl, by simpa using q⟩
    · exact wpAny_isNot_other rfl (fun z => e (Value.bool.inj z)) ⟨.bl true, H, I, rfl, by simpa [e] using q⟩
theorem op_ltV : OpR X (compareOp .Lt) rLtV := by
  intro pins s σ H x y v u Q I rx ry ⟨h, q⟩
  rcases h with ⟨i, j, rfl, rfl⟩ | ⟨a, b, rfl, rfl⟩
  · exact op_lt pins s σ H _ _ v u Q I rx ry ⟨i, j, rfl, rfl, q⟩
  · exact op_lt_str pins s σ H _ _ v u Q I rx ry ⟨a, b, rfl, rfl, q⟩
theorem op_leV : OpR X (compareOp .LtE) rLeV := by
  intro pins s σ H x y v u Q I rx ry ⟨h, q⟩
  rcases h with ⟨i, j, rfl, rfl⟩ | ⟨a, b, rfl, rfl⟩
  · exact op_le pins s σ H _ _ v u Q I rx ry ⟨i, j, rfl, rfl, by show Q (.bl (decide (i ≤ j))) H; rw [← not_lt_le]; exact q⟩
  · exact op_le_str pins s σ H _ _ v u Q I rx ry ⟨a, b, rfl, rfl, q⟩
theorem op_gtV : OpR X (compareOp .Gt) rGtV := by
  intro pins s σ H x y v u Q I rx ry ⟨h, q⟩
  rcases h with ⟨i, j, rfl, rfl⟩ | ⟨a, b, rfl, rfl⟩
  · exact op_gt pins s σ H _ _ v u Q I rx ry ⟨i, j, rfl, rfl, q⟩
  · exact op_gt_str pins s σ H _ _ v u Q I rx ry ⟨a, b, rfl, rfl, q⟩
theorem op_geV : OpR X (compareOp .GtE) rGeV := by
  intro pins s σ H x y v u Q I rx ry ⟨h, q⟩
  rcases h with ⟨i, j, rfl, rfl⟩ | ⟨a, b, rfl, rfl⟩
  · exact op_ge pins s σ H _ _ v u Q I rx ry ⟨i, j, rfl, rfl, by show Q (.bl (decide (j ≤ i))) H; rw [← not_lt_le]; exact q⟩
  · exact op_ge_str pins s σ H _ _ v u Q I rx ry ⟨a, b, rfl, rfl, q⟩
end
/-! defs with one keyword-only parameter that has a default -/
structure HereKw (K : PySem.W.Frag) (mg : Str → Option Value) (x : Str) (st : Stmt) (ps : List Str) (n : Nat) (kn : Str) (dv : V) (f : Addr) (fd : FuncData) : Prop where
  fn : Fun K x x st f fd
  mg : mg x = some (.ref f)
  bd : ∃ ds, Vals [dv] ds ∧ Binds K fd ps ds
  kb : KBn K fd ps n [kn] (fun us ws => us ++ ws) (fun vs zs => vs ++ zs)
structure DefKw (P : Program) (w : World) (K : PySem.W.Frag) (mg : Str → Option Value) (base : Heap) (k : Nat) (x : Str) (ps : List Str) (n : Nat) (kn : Str) (dv : V) (sp : Sp) : Prop where
  ex : ∃ (f : Addr) (fd : FuncData), FnOk P w K mg base CX0 k f fd ps sp ∧ mg x = some (.ref f) ∧ PySem.W.keepIn K (.ref f) = true ∧ (∃ ds, Vals [dv] ds ∧ Binds K fd ps ds) ∧ KBn K fd ps n [kn] (fun us ws => us ++ ws) (fun vs zs => vs ++ zs)
theorem HereKw.def {P : Program} {w : World} {K : PySem.W.Frag} {mg : Str → Option Value} {base : Heap} {k n : Nat} {x kn : Str} {dv : V} {st : Stmt} {ps : List Str} {sp : Sp} {f : Addr} {fd : FuncData} (h : HereKw K mg x st ps n kn dv f fd) (F : FnOk P w K mg base CX0 k f fd ps sp) : DefKw P w K mg base k x ps n kn dv sp :=
  ⟨f, fd, F, h.mg, h.fn.kp, h.bd, h.kb⟩
section
variable {X : Cx} {k j n : Nat} {x kn : Str} {dv : V} {p pos kpos : Pos} {e ke : Expr} {es : List Expr} {ps : List Str} {sp : Sp} {t : TA} {te : TE}
def tDefK (sp : Sp) (dv : V) (t : TA) : TE := fun σ H Q => t σ H fun vs H1 => sp (vs ++ [dv]) H1 Q E0
theorem tDefK_eq : tCall sp [dv] E0 t = tDefK sp dv t := by
  funext σ H Q
  unfold tCall tDefK
  rfl
theorem pe_defK (D : DefKw X.prog X.w X.K X.mg X.base k x ps n kn dv sp) (hr : Room j X.A) (hg : Gl X x) (ha : PA X (e :: es) t) (hk : k ≤ j := by decide) (hdb : (x == ("__debug__" : Str)) = false := by decide)
    (he : starEach (e :: es) X.env = (false, eval e X.env) :: starEach es X.env := by rfl) (hpl : (backTo pos (starEach es X.env)).any (·.1) = false := by rfl) : PE X (.Call (.Name x p) (e :: es) [] pos) (tDefK sp dv t) := by
  obtain ⟨f, fd, F, hm, hkp, ⟨ds, hv, hb⟩, _⟩ := D.ex
  rw [← tDefK_eq]
  exact pe_call F (hr.mono hk) hg hm hkp hb hv pass0 ha hdb he hpl
def tDefKw (n : Nat) (sp : Sp) (t : TA) (te : TE) : TE := tCallN n 1 sp (fun vs zs => vs ++ zs) E0 t (tCons te tNil)
theorem pe_defKw (D : DefKw X.prog X.w X.K X.mg X.base k x ps n kn dv sp) (hr : Room j X.A) (hg : Gl X x) (ha : PA X (e :: es) t) (hke : PE X ke te) (hk : k ≤ j := by decide)
    (hall : (backToKw pos (keywordEach [⟨some kn, ke, kpos⟩] X.env)).all (·.1.isSome) = true := by rfl) (hks : (backToKw pos (keywordEach [⟨some kn, ke, kpos⟩] X.env)).filterMap (·.1) = [kn] := by rfl)
    (hdb : (x == ("__debug__" : Str)) = false := by decide) (he : starEach (e :: es) X.env = (false, eval e X.env) :: starEach es X.env := by rfl)
    (hpl : ((backTo pos (starEach (e :: es) X.env)).any (·.1) || (backToKw pos (keywordEach [⟨some kn, ke, kpos⟩] X.env)).any (·.1.isNone)) = false := by rfl) : PE X (.Call (.Name x p) (e :: es) [⟨some kn, ke, kpos⟩] pos) (tDefKw n sp t te) := by
  obtain ⟨f, fd, F, hm, hkp, _, kb⟩ := D.ex
  exact pe_callN F (hr.mono hk) hg hm hkp kb pass0 ha (pk_cons hke pk_nil) hall hks hdb he hpl
theorem g_defK {σ : L2.St} {H : Hp} {Q : VK} (q : t σ H fun vs H1 => sp (vs ++ [dv]) H1 Q E0) : tDefK sp dv t σ H Q := q
theorem g_defKw {σ : L2.St} {H : Hp} {Q : VK} (q : t σ H fun vs H1 => te σ H1 fun z H2 => vs.length = n ∧ 1 = 1 ∧ sp (vs ++ [z]) H2 Q E0) : tDefKw n sp t te σ H Q := q
end
theorem kw_bd {K : PySem.W.Frag} {fd : FuncData} {D : Addr} {kn : Str} {ps : List Str} {n : Nat} {i : Int} {t : Tok} (hps : ps.length = n + 1) (hn : PySem.W.nsIn K D kn = some (some (.int i t)))
    (h : ∀ us : List Value, us.length = n → ∀ u : Value, KwChain D [(kn, u)] (bindArgs fd ⟨us, []⟩) (ps.zip (us ++ [u]))) : ∃ ds, Vals [.int i] ds ∧ Binds K fd ps ds := by
  refine ⟨[.int i t], .cons ⟨t, rfl⟩ .nil, fun s us X hlen => BindsTo.of_looks fun M => KwChain.looks X (fun q hq => ?_) (h us ?_ (.int i t))⟩
  · obtain rfl : q = (kn, .int i t) := List.mem_singleton.mp hq
    exact hn
  · simp at hlen
    omega
theorem kw_kb {K : PySem.W.Frag} {fd : FuncData} {kn : Str} {ps : List Str} {n : Nat} (h : ∀ us : List Value, us.length = n → ∀ u : Value, bindArgs fd ⟨us, [(kn, u)]⟩ = pure (ps.zip (us ++ [u]))) : KBn K fd ps n [kn] (fun us ws => us ++ ws) (fun vs zs => vs ++ zs) := by
  refine ⟨fun s us ws X l1 l2 => ?_, fun r1 r2 => r1.append r2⟩
  match ws, l2 with
  | [u], _ => exact .of_eq (h us l1 u)
end Tw

set_option Elab.async false
set_option linter.all false
set_option maxRecDepth 100000
namespace Tw
open PySem L2 PySem.Spec
section
variable {J : It} {g : TG} {tt : TT} {te : TE} {vs : List Nat} {σ : L2.St} {H1 : Hp} {D : Addr} {Qd : Hp → Prop}
/-- a comprehension whose turns leave the heap: what is kept has a property -/
theorem lc_any (xs : List V) (P : V → Prop) (hD : H1 D = none) (hJ : ∀ H, (∀ q o, H1 q = some o → H q = some o) → Fits J xs H) (hlen : xs.length ≤ 1000000)
    (hs : ∀ x Hh (R : V → Hp → Prop) (S : Hp → Prop), x ∈ xs → (∀ q o, H1 q = some o → Hh q = some o) → (∀ y, P y → R y Hh) → S Hh →
      g x (wipe σ vs) Hh fun σ2 H2 => wipe σ2 vs = wipe σ vs ∧ tt σ2 H2 fun b H3 => if b = true then te σ2 H3 R else S H3)
    (hd : ∀ H ys, (∀ q o, H1 q = some o → H q = some o) → H D = some (.lst ys) → (∀ y ∈ ys, P y) → ys.length ≤ xs.length → Qd H) :
    ∃ W : Nat → Nat → Hp → Prop, (∃ m, W 0 m (upd H1 D (.lst []))) ∧ ∀ i m H, W i m H →
      (J.stop i H ∧ Qd H) ∨ (J.go i H ∧ ∃ Nx : Hp → Prop, (∀ H', Nx H' → ∃ m', m' < m ∧ W (i + 1) m' H') ∧ ∀ x H', J.yld i H x H' → g x (wipe σ vs) H' fun σ2 H2 => wipe σ2 vs = wipe σ vs ∧ tt σ2 H2 fun b H3 =>
        if b = true then te σ2 H3 fun y H4 => ∃ acc, H4 D = some (.lst acc) ∧ acc.length < sizeLine ∧ Nx (upd H4 D (.lst (acc ++ [y]))) else Nx H3) := by
  refine ⟨fun i m H => m = xs.length - i ∧ i ≤ xs.length ∧ (∃ ys, H D = some (.lst ys) ∧ (∀ y ∈ ys, P y) ∧ ys.length ≤ i) ∧ ∀ q o, H1 q = some o → H q = some o, ⟨xs.length, by simp, Nat.zero_le _, ⟨[], upd_same, (fun y hy => nomatch hy), Nat.zero_le _⟩, fun q o h => by rw [upd_ne (ne_of_none h hD)]; exact h⟩, ?_⟩
  rintro i m H ⟨rfl, hi, ⟨ys, hDl, hP, hl⟩, hK⟩
  have fi := hJ H hK
  by_cases hlt : i < xs.length
  · refine .inr ⟨fi.go i hlt, fun H' => (∃ ys, H' D = some (.lst ys) ∧ (∀ y ∈ ys, P y) ∧ ys.length ≤ i + 1) ∧ ∀ q o, H1 q = some o → H' q = some o, fun H' w => ⟨xs.length - (i + 1), by omega, rfl, hlt, w⟩, ?_⟩
    intro x H' hy
    obtain ⟨rfl, hx⟩ := fi.yld i x H' hy
    refine hs x H' (fun y H4 => _) (fun H3 => _) (List.mem_of_getElem? hx) hK (fun y hy => ⟨_, hDl, ?_, ⟨_, upd_same, fun z hz => ?_, ?_⟩, fun q o h => by rw [upd_ne (ne_of_none h hD)]; exact hK q o h⟩) ⟨⟨ys, hDl, hP, by omega⟩, hK⟩
    · rw [sizeLine_eq]
      omega
    · rcases List.mem_append.mp hz with hz | hz
      · exact hP z hz
      · rw [List.mem_singleton.mp hz]; exact hy
    · rw [List.length_append]
      show ys.length + 1 ≤ _
      omega
  · have e : i = xs.length := by omega
    subst e
    exact .inl ⟨fi.stop _ (Nat.le_refl _), hd H ys hK hDl hP hl⟩
/-- a comprehension whose turns leave the heap, with an if -/
theorem lc_filt (xs : List V) (f : V → Bool) (v : V → V) (hD : H1 D = none) (hJ : ∀ H, (∀ q o, H1 q = some o → H q = some o) → Fits J xs H) (hlen : xs.length ≤ 1000000)
    (hs : ∀ x Hh (R : V → Hp → Prop) (S : Hp → Prop), x ∈ xs → (∀ q o, H1 q = some o → Hh q = some o) → (f x = true → R (v x) Hh) → (f x = false → S Hh) →
      g x (wipe σ vs) Hh fun σ2 H2 => wipe σ2 vs = wipe σ vs ∧ tt σ2 H2 fun b H3 => if b = true then te σ2 H3 R else S H3)
    (hd : ∀ H, (∀ q o, H1 q = some o → H q = some o) → H D = some (.lst ((xs.filter f).map v)) → Qd H) :
    ∃ W : Nat → Nat → Hp → Prop, (∃ m, W 0 m (upd H1 D (.lst []))) ∧ ∀ i m H, W i m H →
      (J.stop i H ∧ Qd H) ∨ (J.go i H ∧ ∃ Nx : Hp → Prop, (∀ H', Nx H' → ∃ m', m' < m ∧ W (i + 1) m' H') ∧ ∀ x H', J.yld i H x H' → g x (wipe σ vs) H' fun σ2 H2 => wipe σ2 vs = wipe σ vs ∧ tt σ2 H2 fun b H3 =>
        if b = true then te σ2 H3 fun y H4 => ∃ acc, H4 D = some (.lst acc) ∧ acc.length < sizeLine ∧ Nx (upd H4 D (.lst (acc ++ [y]))) else Nx H3) := by
  refine ⟨fun i m H => m = xs.length - i ∧ i ≤ xs.length ∧ H D = some (.lst (((xs.take i).filter f).map v)) ∧ ∀ q o, H1 q = some o → H q = some o, ⟨xs.length, by simp, Nat.zero_le _, upd_same, fun q o h => by rw [upd_ne (ne_of_none h hD)]; exact h⟩, ?_⟩
  rintro i m H ⟨rfl, hi, hDl, hK⟩
  have fi := hJ H hK
  by_cases hlt : i < xs.length
  · refine .inr ⟨fi.go i hlt, fun H' => H' D = some (.lst (((xs.take (i + 1)).filter f).map v)) ∧ ∀ q o, H1 q = some o → H' q = some o, fun H' w => ⟨xs.length - (i + 1), by omega, rfl, hlt, w⟩, ?_⟩
    intro x H' hy
    obtain ⟨rfl, hx⟩ := fi.yld i x H' hy
    have e1 : xs.take (i + 1) = xs.take i ++ [x] := by rw [List.take_succ, hx]; rfl
    refine hs x H' (fun y H4 => _) (fun H3 => _) (List.mem_of_getElem? hx) hK (fun hf => ⟨_, hDl, ?_, ?_, fun q o h => by rw [upd_ne (ne_of_none h hD)]; exact hK q o h⟩) (fun hf => ⟨?_, hK⟩)
    · have h1 := List.length_filter_le f (xs.take i)
      rw [List.length_take] at h1
      rw [List.length_map, sizeLine_eq]
      omega
    · rw [upd_same, e1, List.filter_append, List.filter_cons, if_pos hf, List.map_append]; rfl
    · rw [hDl, e1, List.filter_append, List.filter_cons, if_neg (by rw [hf]; exact Bool.false_ne_true)]
      simp
  · have e : i = xs.length := by omega
    subst e
    refine .inl ⟨fi.stop _ (Nat.le_refl _), hd H hK ?_⟩
    rw [hDl, List.take_length]
end
end Tw

set_option Elab.async false
set_option linter.all false
set_option maxRecDepth 100000
set_option maxHeartbeats 4000000
/-! != of lists that are equal item by item -/
namespace PySem.SeqAt
open AutoSeq1 (wpAny_loadPart')
open MeetsSeq MeetsSeq2 MeetsSeq3 SeqRoads2
section
variable {prog : Program} {w : World}
theorem tw_ne_loop (l b : Addr) (items items2 : Array Value) (n n2 : Nat) (dd dd2 : Option Addr) (sl sl2 : Array (Option Value)) (hsz : items.size = items2.size) (k : Nat) :
    ∀ i : Nat, items.size - i = k → MeetsIn prog w (Builtin.«list.__eq__.loop» ⟨[.ref l, .ref b, rawInt i, rawInt 3], []⟩)
      (fun A R s => s.heap.get? l = some { cls := .type "list", dict := dd, data := .seq items n, slots := sl } ∧ s.heap.get? b = some { cls := .type "list", dict := dd2, data := .seq items2 n2, slots := sl2 } ∧
        (∀ j (h1 : j < items.size) (h2 : j < items2.size), EqP prog w A.in1 s items[j] items2[j] true) ∧
        R (.ok (.ret (.bool false))) s) := by
  induction k with
  | zero =>
    intro i hk A R s h
    obtain ⟨hp, g, d, tk, os⟩ := s; obtain ⟨hl, hb, he, h⟩ := h
    wp_walk using wpAny_loadPart' hl, wpAny_loadPart' hb
    have hi1 : items[((i : Nat) : Int).toNat]? = none := by simp; omega
    have hi2 : items2[((i : Nat) : Int).toNat]? = none := by simp; omega
    rw [hi1, hi2]
    wp_walk using wpAny_loadPart' hl, wpAny_loadPart' hb
    show R (.ok (.ret (.bool (items.size != items2.size)))) _
    rw [hsz]
    simpa using h
  | succ k ih =>
    intro i hk A R s h
    obtain ⟨hp, g, d, tk, os⟩ := s; obtain ⟨hl, hb, he, h⟩ := h
    wp_walk using wpAny_loadPart' hl, wpAny_loadPart' hb
    have hlt : i < items.size := by omega
    have hlt2 : i < items2.size := by omega
    have hi1 : items[((i : Nat) : Int).toNat]? = some items[i] := by simp [hlt]
    have hi2 : items2[((i : Nat) : Int).toNat]? = some items2[i] := by simp [hlt2]
    have hc : ((i : Int) + 1) = ((i + 1 : Nat) : Int) := by push_cast; rfl
    rw [hi1, hi2]
    refine wpAny_bind (he i hlt hlt2 _ _ ?_)
    wp_walk
    rw [hc]
    exact ⟨plainId_quiet plain_eq_loop _, codeAny_builtin entry_eq_loop (by
      rw [Around.under_plainId plain_eq_loop _]
      exact ih (i + 1) (by omega) A R _ ⟨hl, hb, he, h⟩)⟩
theorem tw_list_ne (l b : Addr) (items items2 : Array Value) (n n2 : Nat) (dd dd2 : Option Addr) (sl sl2 : Array (Option Value)) (hsz : items.size = items2.size) :
    MeetsIn prog w (Builtin.«list.__ne__» ⟨[.ref l, .ref b], []⟩)
      (fun A R s => s.heap.get? l = some { cls := .type "list", dict := dd, data := .seq items n, slots := sl } ∧ s.heap.get? b = some { cls := .type "list", dict := dd2, data := .seq items2 n2, slots := sl2 } ∧
        (∀ j (h1 : j < items.size) (h2 : j < items2.size), EqP prog w A.in1 s items[j] items2[j] true) ∧
        R (.ok (.ret (.bool false))) s) := by
  intro A R s h
  obtain ⟨hp, g, d, tk, os⟩ := s; obtain ⟨hl, hb, he, h⟩ := h
  have f3 := AutoSeq1.sub_list_list
  have hne : ¬ (items.size != items2.size) = true := by simp [hsz]
  wp_walk using wpAny_loadPart' hl, wpAny_loadPart' hb
  exact ⟨plainId_quiet plain_eq_loop _, codeAny_builtin entry_eq_loop (by
    rw [Around.under_plainId plain_eq_loop _]
    exact tw_ne_loop l b items items2 n n2 dd dd2 sl sl2 hsz _ 0 rfl A R _ ⟨hl, hb, he, h⟩)⟩
theorem tw_ne_lists {A : Around} {s : Shared} {l b : Addr} {items items2 : Array Value} (hl : s.heap.IsList l items) (hb : s.heap.IsList b items2) (hsz : items.size = items2.size) (hu : A.units < cLine)
    (he : ∀ j (h1 : j < items.size) (h2 : j < items2.size), EqP prog w A.in1 s items[j] items2[j] true) (E Q : Value → Shared → Prop) (h : Q (.bool false) s) : wpAny (model prog w) A (richCompare .NotEq (.ref l) (.ref b)) Q E s := by
  obtain ⟨⟨cls, dd, data, sl⟩, ho, hc, n, hd⟩ := id hl
  obtain ⟨⟨cls2, dd2, data2, sl2⟩, ho2, hc2, n2, hd2⟩ := id hb
  simp only at hc hd hc2 hd2
  subst hc hd hc2 hd2
  have ta : s.TypeIs (.ref l) "list" := ⟨_, ho, rfl⟩
  have tb : s.TypeIs (.ref b) "list" := ⟨_, ho2, rfl⟩
  exact wpAny_richCompare_same_room (op := .NotEq) ta tb F.slot_list_ne (call_meetsIn F.slot_list_ne ta F.entry_list_ne (F.args_list_ne_2 _ _) (tw_list_ne l b items items2 n n2 dd dd2 sl sl2 hsz)
    ⟨ho, ho2, he, show Value.bool false ≠ Value.notImplemented ∧ Q (.bool false) s from ⟨(fun x => nomatch x), h⟩⟩) hu
end
end PySem.SeqAt
namespace L2
open PySem PySem.Spec PyProof.Rows
section
variable {X : Cx}
/-- a != b, two lists whose items are equal -/
def rNeV (K : PySem.W.Frag) : R2 := fun x y H Q => ∃ n a b xs ys, n ≤ 60 ∧ x = .ref a ∧ y = .ref b ∧ SqL K H a xs ∧ SqL K H b ys ∧ Paired (EqV K H n) xs ys ∧ Q (.bl false) H
theorem op_neV (hu : X.A.units + 64 < cLine) : OpR X (compareOp .NotEq) (rNeV X.K) := by
  intro pins s σ H x y v u Q I rx ry h
  obtain ⟨n, a, b, xs, ys, hn, rfl, rfl, ha, hb, hp, q⟩ := h
  cases (show v = Value.ref a from rx)
  cases (show u = Value.ref b from ry)
  obtain ⟨us, r1, p1, _⟩ := I.list ha
  obtain ⟨ws, r2, p2, _⟩ := I.list hb
  have hsz : us.toArray.size = ws.toArray.size := by
    rw [List.size_toArray, List.size_toArray, ← r1.length, ← r2.length]
    exact Paired.length hp
  refine SeqAt.tw_ne_lists p1.isList p2.isList hsz (by omega) (fun j h1 h2 => ?_) _ _ ⟨.bl false, H, I, rfl, q⟩
  have k := items_run (eqV_run I n X.A.in1 (by show X.A.units + 1 + n < cLine; omega)) hp r1 r2 j (by simpa using h1) (by simpa using h2)
  simpa using k
theorem op_neVu {K : PySem.W.Frag} (h : X.K = K) (hu : X.A.units + 64 < cLine) : OpR X (compareOp .NotEq) (rNeV K) := by subst h; exact op_neV hu
theorem op_eqVu {K : PySem.W.Frag} (h : X.K = K) (hu : X.A.units + 64 < cLine) : OpR X (compareOp .Eq) (rEqV K) := by subst h; exact op_eqV hu
end
end L2
namespace Tw
open PySem L2
def rMin2 : List V → Hp → VK → Prop := fun xs H Q => ∃ i j, xs = [.int i, .int j] ∧ Q (.int (if j < i then j else i)) H
def rInsert : V → List V → Hp → VK → Prop := fun x vs H Q => ∃ (l : Addr) (xs : List V) (i : Int) (y : V), x = .ref l ∧ vs = [.int i, y] ∧ H l = some (.lst xs) ∧ xs.length < sizeLine ∧ 0 ≤ i ∧ i < 2 ^ 63 ∧ Q .non (upd H l (.lst (xs.take i.toNat ++ [y] ++ xs.drop i.toNat)))
section
variable {X : Cx}
theorem call_min2G (h : X.calm = true) : CallR X (.builtin "min") rMin2 := call_min2 h
theorem pg_tupG {K : PySem.W.Frag} {es : List Expr} {k : Nat} {t : TGs} {n : Nat} {pos : Pos} (hK : X.K = K) (hc : X.calm = true) (h : PGs X es t)
    (hn : (assignEach es X.env).length = n := by rfl) (hst : (assignEach es X.env).findIdx? (·.1) = none := by rfl) : PG X (.Tuple es k pos) (gTup K n t) := by subst hK; exact pg_tup hc h hn hst
theorem mt_insertG : MtR X "list.insert" rInsert := mt_insert
end
section
variable {K : PySem.W.Frag} {σ : L2.St} {H : Hp} {Q : VK} {D : Ends} {t : TA} {c : TT} {tb : TS} {i j : Int}
theorem g_min2 (q : Q (.int (if j < i then j else i)) H) : rMin2 [.int i, .int j] H Q := ⟨i, j, rfl, q⟩
theorem g_rng2 {R : It → Hp → Prop} (q : t σ H fun vs H1 => ∃ i j : Int, vs = [.int i, .int j] ∧ (-(2 ^ 62) ≤ i ∧ i < 2 ^ 62 ∧ -(2 ^ 62) ≤ j ∧ j < 2 ^ 62) ∧ R (Itr i (j - i).toNat) H1) : iRng2 t σ H R := q
theorem g_gtup {n : Nat} {u : TGs} {p : Addr} {xs : List V} {QS : L2.St → Hp → Prop} (h : H p = some (.tup xs)) (hl : xs.length = n) (q : u xs σ H QS) : gTup K n u (.ref p) σ H QS := ⟨p, xs, rfl, SqT.of h, hl, q⟩
theorem g_gcons {g : TG} {u : TGs} {v : V} {r : List V} {QS : L2.St → Hp → Prop} (q : g v σ H fun σ' H' => u r σ' H' QS) : gCons g u (v :: r) σ H QS := ⟨v, r, rfl, q⟩
theorem g_gnil {QS : L2.St → Hp → Prop} (q : QS σ H) : gNil [] σ H QS := ⟨rfl, q⟩
theorem g_while (q : ∃ W : Nat → L2.St → Hp → Prop, (∃ m, W m σ H) ∧ ∀ m σ H, W m σ H →
  c σ H fun b H1 => if b = true then ∃ N : L2.St → Hp → Prop, (∀ σ' H', N σ' H' → ∃ m', m' < m ∧ W m' σ' H') ∧ tb { D with nx := N, ct := N, bk := D.nx } σ H1 else D.nx σ H1) : tWhile c tb D σ H := q
theorem g_ins {p : Addr} {xs : List V} {v : V} (h : H p = some (.lst xs)) (hz : xs.length < 10000000) (h0 : 0 ≤ i) (h1 : i < 10000000) (q : Q .non (upd H p (.lst (xs.take i.toNat ++ [v] ++ xs.drop i.toNat)))) : rInsert (.ref p) [.int i, v] H Q := ⟨p, xs, i, v, rfl, rfl, h, by rw [sizeLine_eq]; omega, h0, by omega, q⟩
end
end Tw
namespace Tw
open PySem L2
section
variable {σ : L2.St} {g : TG} {tt : TT} {te : TE} {vs : List Nat} {J : It} {H1 : Hp} {D : Addr} {Qd : Hp → Prop}
/-- a comprehension whose turns make new things -/
theorem lc_new (xs : List V) (Rel : Nat → V → Hp → Prop) (hD : H1 D = none) (hJ : ∀ H, (∀ q o, H1 q = some o → H q = some o) → Fits J xs H) (hlen : xs.length ≤ 1000000)
    (hmono : ∀ i y H H', (∃ ys, H D = some (.lst ys)) → Rel i y H → (∀ q o, q ≠ D → H q = some o → H' q = some o) → Rel i y H')
    (hs : ∀ i x Hh (R : V → Hp → Prop) (S : Hp → Prop), xs[i]? = some x → (∀ q o, H1 q = some o → Hh q = some o) → (∃ ys, Hh D = some (.lst ys)) → (∀ y H4, (∀ q o, Hh q = some o → H4 q = some o) → Rel i y H4 → R y H4) →
      g x (wipe σ vs) Hh fun σ2 H2 => wipe σ2 vs = wipe σ vs ∧ tt σ2 H2 fun b H3 => if b = true then te σ2 H3 R else S H3)
    (hd : ∀ H ys, (∀ q o, H1 q = some o → H q = some o) → H D = some (.lst ys) → ys.length = xs.length → (∀ i y, ys[i]? = some y → Rel i y H) → Qd H) :
    ∃ W : Nat → Nat → Hp → Prop, (∃ m, W 0 m (upd H1 D (.lst []))) ∧ ∀ i m H, W i m H →
      (J.stop i H ∧ Qd H) ∨ (J.go i H ∧ ∃ Nx : Hp → Prop, (∀ H', Nx H' → ∃ m', m' < m ∧ W (i + 1) m' H') ∧ ∀ x H', J.yld i H x H' → g x (wipe σ vs) H' fun σ2 H2 => wipe σ2 vs = wipe σ vs ∧ tt σ2 H2 fun b H3 =>
        if b = true then te σ2 H3 fun y H4 => ∃ acc, H4 D = some (.lst acc) ∧ acc.length < sizeLine ∧ Nx (upd H4 D (.lst (acc ++ [y]))) else Nx H3) := by
  refine ⟨fun i m H => m = xs.length - i ∧ i ≤ xs.length ∧ (∀ q o, H1 q = some o → H q = some o) ∧ ∃ ys, H D = some (.lst ys) ∧ ys.length = i ∧ ∀ j y, ys[j]? = some y → Rel j y H, ⟨xs.length, by simp, Nat.zero_le _, fun q o h => by rw [upd_ne (ne_of_none h hD)]; exact h, [], upd_same, rfl, fun j y h => by simp at h⟩, ?_⟩
  rintro i m H ⟨rfl, hi, hK, ys, hDl, hyl, hR⟩
  have fi := hJ H hK
  by_cases hlt : i < xs.length
  · refine .inr ⟨fi.go i hlt, fun H' => (∀ q o, H1 q = some o → H' q = some o) ∧ ∃ ys, H' D = some (.lst ys) ∧ ys.length = i + 1 ∧ ∀ j y, ys[j]? = some y → Rel j y H', fun H' w => ⟨xs.length - (i + 1), by omega, rfl, hlt, w⟩, ?_⟩
    intro x H' hy
    obtain ⟨rfl, hx⟩ := fi.yld i x H' hy
    refine hs i x H' (fun y H4 => _) (fun H3 => _) hx hK ⟨_, hDl⟩ fun y H4 k4 r4 => ⟨ys, k4 _ _ hDl, by rw [sizeLine_eq]; omega, fun q o h => by rw [upd_ne (ne_of_none h hD)]; exact k4 _ _ (hK q o h), ys ++ [y], upd_same, by rw [List.length_append, hyl]; rfl, fun j z hz => ?_⟩
    have ku : ∀ q o, q ≠ D → H4 q = some o → (upd H4 D (.lst (ys ++ [y]))) q = some o := fun q o n h => by rw [upd_ne n]; exact h
    by_cases hj : j < ys.length
    · rw [List.getElem?_append_left hj] at hz
      exact hmono j z _ _ ⟨ys, k4 _ _ hDl⟩ (hmono j z _ _ ⟨ys, hDl⟩ (hR j z hz) fun q o _ h => k4 q o h) ku
    · rw [List.getElem?_append_right (by omega)] at hz
      obtain ⟨h0, _⟩ := List.getElem?_eq_some_iff.mp hz
      have e : j - ys.length = 0 := by simpa using h0
      rw [e] at hz
      obtain rfl : y = z := by simpa using hz
      obtain rfl : j = i := by omega
      exact hmono _ _ _ _ ⟨ys, k4 _ _ hDl⟩ r4 ku
  · have e : i = xs.length := by omega
    subst e
    exact .inl ⟨fi.stop _ (Nat.le_refl _), hd H ys hK hDl hyl hR⟩
end
end Tw

set_option Elab.async false
set_option linter.all false
set_option maxRecDepth 100000
set_option maxHeartbeats 4000000
namespace PySem
namespace ErBadTest
open PySem.W PySem.Calls PyProof.Rows PySem.HandSPX PySem.TwX
def inA (p1 p2 : Pos) : Arguments := { posonlyargs := [], args := [{ arg := "self", annotation := none, pos := p1 }, { arg := "why", annotation := none, pos := p2 }], vararg := none, kwonlyargs := [], kw_defaults := [], kwarg := none, defaults := [] }
def inB (q1 q2 q3 q4 : Pos) : List Stmt := [.Assign [.Attribute (.Name "self" q1) "why" q2] (.Name "why" q3) q4]
/-- what the written part says of the class at C, and of its __init__ at fI -/
structure Err (K : Frag) (mg : Str → Option Value) (C fI : Addr) : Prop where
  gC : mg "BadTest" = some (.ref C)
  cls : ∃ nm q N bs bm sn sub ab col dd k0 k1 k2 k3 k5, K.lookup C = some (excClassObj nm q C N bs bm true sn sub ab col dd k0 k1 k2 k3 k5 "Exception.__new__") ∧ OwnEx bm
  sa : findIn K (.ref C) "__setattr__" = some (some (.builtin "object.__setattr__"))
  ga : findIn K (.ref C) "__getattribute__" = some (some (.builtin "BaseException.__getattribute__"))
  gg : findIn K (.ref C) "__getattr__" = some none
  noF : findIn K (.ref C) "why" = some none
  ini : findIn K (.ref C) "__init__" = some (some (.ref fI))
  tyI : typeIn K (.ref fI) = some (.type "function")
  kC : keepIn K (.ref C) = true
  exC : subIn K (.ref C) (.type "BaseException") = some true
  tyC : typeIn K (.ref C) = some (.type "type")
  hdC : hasDictIn K C = true
  te : exmOne K (.ref C) (.ref C) = some true
  fn : ∃ (oc : Value) (od : Option Addr) (doc pm : Value) (an : Option Addr) (cdv ct : Value) (osl : Array (Option Value)) (p1 p2 q1 q2 q3 q4 : Pos) (sc : Scope),
    K.lookup fI = some ⟨oc, od, .func (fnOf "__init__" "BadTest.__init__" (inA p1 p2) (inB q1 q2 q3 q4) sc .none .none doc pm an cdv ct), osl⟩ ∧ codeIn K cdv "BadTest.__init__" = true ∧ sc.kind = .function ∧ sc.names = [(PySem.Str.ofString "self", .local), (PySem.Str.ofString "why", .local)] ∧ sc.isGenerator = false ∧ sc.isCoroutine = false
theorem one_ok (v : Value) : [v].length ≤ sizeLine := by rw [sizeLine_eq]; exact (by decide : 1 ≤ 16777216)
theorem read_local {M : Model} {s : Shared} {name : Str} {scope : Scope} {L a : Addr} {cd : Value} {m : Str → Option Value} {x : Str} {pos : Pos} {v : Value} {Q : Value → Shared → Prop} {A : Around} {E : Value → Shared → Prop} (hn : s.heap.Ns L m) (hv : m x = some v) (h : Q v s) (hk : scope.kind = .function)
    (hl : scope.names.lookup x = some .local) (hd : (x == ("__debug__" : Str)) = false := by decide) : wpAny M A (eval (.Name x pos) (envOfC name scope L a cd)) Q E s := wpAny_Name (wpAny_loadName_local hk hl hn hv h) hd
structure InitLeft (h h2 : Heap) (x C dx t1 : Addr) (v : Value) : Prop where
  keep : ∀ b o, b ≠ x → h.get? b = some o → h2.get? b = some o
  obj : h2.get? x = some { cls := .ref C, dict := some dx, data := .fields #[.ref t1, .none, .none, .none, .bool false, .none] }
  dbig : h.objs.size ≤ dx
  dne : dx ≠ x
  ns : h2.Ns1 dx (fun y => if y = "why" then some v else none)
structure ErrMade (h h2 : Heap) (e C d : Addr) (v : Value) : Prop where
  keep : ∀ b o, h.get? b = some o → h2.get? b = some o
  new : h.objs.size ≤ e
  obj : ∃ oe vs, h2.get? e = some oe ∧ oe.cls = .ref C ∧ oe.dict = some d ∧ oe.data = .fields vs ∧ vs[1]? = some .none
  dbig : h.objs.size ≤ d
  dne : d ≠ e
  ns : h2.Ns1 d (fun y => if y = "why" then some v else none)
section
variable {prog : Program} {w : World} {A : Around} {E : Value → Shared → Prop} {R : Result → Shared → Prop} {s : Shared} {K : Frag} {mg : Str → Option Value} {C fI : Addr}
theorem err_init (T : Err K mg C fI) {x t0 : Addr} {v : Value} (X : K.In s.heap) (hlim : s.heap.NoLimit) (hx : s.heap.get? x = some (excO C t0)) (hroom : A.depth < recursionLimit)
    (hq : ∀ h2 tk dx, InitLeft s.heap h2 x C dx t0 v → R (.ok (.ret .none)) { s with heap := h2, toks := tk }) :
    codeAny (model prog w) A (.call (.ref fI) ⟨[.ref x, v], []⟩) R s := by
  obtain ⟨oc, od, doc, pm, an, cdv, ct, osl, p1, p2, q1, q2, q3, q4, sc, ho, hcd, hk, hnames, hge, hco⟩ := T.fn
  obtain ⟨nm', q, N, bs, bm, sn, sub, ab, col, dd, k0, k1, k2, k3, k5, hC, hbm⟩ := T.cls
  have hcl : clsIn K C = some { name := nm', bases := bs, mro := .ref C :: bm, ns := N, qualname := q, hasDict := true, slotNames := sn, subclasses := sub, abstract := ab, collection := col, hasDel := false } := by unfold clsIn; rw [hC] <;> rfl
  have l1 : sc.names.lookup ("self" : Str) = some .local := by rw [hnames]; decide +kernel
  have l2 : sc.names.lookup ("why" : Str) = some .local := by rw [hnames]; decide +kernel
  refine Att.call_fn (binds := [("self", .ref x), ("why", v)]) X hlim ho hcd hroom (BindsTo.of_eq (by first | rfl | with_unfolding_all rfl)) (by rw [List.all_cons, List.all_cons, l1, l2]; rfl) (fun s₁ IC => ?_) hco hge hk
  obtain ⟨h₁, tk₁, rfl⟩ := IC.toInCall.same
  have k : ∀ b o, s.heap.get? b = some o → h₁.get? b = some o := IC.toInCall.keep
  have hn := IC.toInCall.ns
  have X₁ : K.In h₁ := X.keeps k
  have hx₁ := k _ _ hx
  have b1 : (bindL (envOfC "BadTest.__init__" sc s.heap.objs.size fI cdv).kindOf [("self", .ref x), ("why", v)] fun _ => none) ("self" : Str) = some (.ref x) :=
    L2.bindL_get (P := ["self", "why"]) (vs := [.ref x, v]) (i := 0) (by decide +kernel) rfl rfl l1
  have b2 : (bindL (envOfC "BadTest.__init__" sc s.heap.objs.size fI cdv).kindOf [("self", .ref x), ("why", v)] fun _ => none) ("why" : Str) = some v :=
    L2.bindL_get (P := ["self", "why"]) (vs := [.ref x, v]) (i := 1) (by decide +kernel) rfl rfl l2
  show wpAny _ _ (execs _ _) _ _ _
  refine wpAny_execs_cons (plainObj_wpAny_Assign_Attribute ?_)
  refine read_local (v := v) hn b2 (read_local (v := .ref x) hn b1 ?_ hk l1) hk l2
  refine set_plain X₁ (ox := excO C t0) (od := none) ⟨hx₁, rfl, rfl, trivial⟩ T.sa ?_
  refine setattr_first X₁ hx₁ hcl (.own C hbm) rfl T.noF (fun h₃ tk₃ dx k₃ dn dne hx₃ hn₃ => ?_)
  show wpAny _ _ (execs _ _) _ _ _
  have z : s.heap.objs.size < h₁.objs.size := hn.lt
  exact wpAny_execs_nil (hq h₃ tk₃ dx ⟨fun b o hb e => k₃ b o hb (k b o e), hx₃, Nat.le_of_lt (Nat.lt_of_lt_of_le z dn), dne, hn₃⟩)
theorem err_made (T : Err K mg C fI) {v : Value} (X : K.In s.heap) (hlim : s.heap.NoLimit) (hroom : A.depth + 1 < recursionLimit)
    (hq : ∀ h2 tk e d, ErrMade s.heap h2 e C d v → R (.ok (.ret (.ref e))) { s with heap := h2, toks := tk }) :
    codeAny (model prog w) A (.call (.ref C) ⟨[v], []⟩) R s := by
  obtain ⟨nm', q, N, bs, bm, sn, sub, ab, col, dd, k0, k1, k2, k3, k5, hC, hbm⟩ := T.cls
  obtain ⟨hp, g, dr, tk, os⟩ := s
  have k : ∀ b o, hp.get? b = some o → ((hp.push (kdv_tup [v])).push (excO C hp.objs.size)).get? b = some o := fun b o e => Heap.get?_push_of_some _ (Heap.get?_push_of_some _ e)
  have hget : ((hp.push (kdv_tup [v])).push (excO C hp.objs.size)).get? (hp.objs.size + 1) = some (excO C hp.objs.size) := by heap_get
  refine call_own F.excBase_Exception (fun X => hbm.has X) (X _ _ hC) (looks_findIn X T.ini) (fun self => bind_fn X self T.tyI) (one_ok v) ?_
  refine err_init (s := ⟨(hp.push (kdv_tup [v])).push (excO C hp.objs.size), g, dr, tk, os⟩) T (X.keeps k) (hlim.keeps k) hget ?_ fun h2 tk2 dx ⟨k', hx, dn, dne, hns⟩ => ?_
  · show A.depth + 1 < recursionLimit
    exact hroom
  · have old : ∀ b o, hp.get? b = some o → h2.get? b = some o := fun b o e => k' b o (Nat.ne_of_lt (Nat.lt_succ_of_lt (Heap.lt_size e))) (k b o e)
    have z : hp.objs.size + 1 + 1 ≤ dx := by
      first
        | (simpa only [Heap.size_push] using dn)
        | exact dn
        | (have q := dn; rw [Heap.size_push, Heap.size_push] at q; exact q)
    exact ⟨rfl, hq h2 tk2 (hp.objs.size + 1) dx ⟨old, Nat.le_succ _, ⟨_, _, hx, rfl, rfl, rfl, rfl⟩, Nat.le_trans (Nat.le_trans (Nat.le_succ _) (Nat.le_succ _)) z, dne, hns⟩⟩
end
end ErBadTest
end PySem
namespace Tw
open PySem L2
theorem relO_BadTest {v : V} {v' : Value} (r : RelV v v') (f : Str) : RelO (List.lookup f [(("why" : Str), v)]) (if f = "why" then some v' else none) := by
  by_cases hw : f = "why"
  · subst hw
    rw [if_pos rfl]
    have q : List.lookup ("why" : Str) [(("why" : Str), v)] = some v := by simp [List.lookup]
    rw [q]
    exact r
  · rw [if_neg hw]
    have qw : (f == ("why" : Str)) = false := by simpa using hw
    have q2 : List.lookup f [(("why" : Str), v)] = none := by simp [List.lookup, qw]
    rw [q2]
    trivial
section
variable {X : Cx} {C fI : Addr}
def tMkBadTest (C : Addr) (ta : TA) : L2.St → Hp → XK → Prop := fun σ H Q => ta σ H fun vs H1 => ∃ v, vs = [v] ∧ ∀ d, H1 d = none → Q (.ref C) (some d) (upd H1 d (.xd [(("why" : Str), v)]))
theorem pmk_BadTest {a : Expr} {ta : TA} {p pos : Pos} {k : Nat} (T : PySem.ErBadTest.Err X.K X.mg C fI) (hr : Room k X.A) (ha : PA X [a] ta) (hg : Gl X "BadTest" := by rfl)
    (he : starEach (a :: []) X.env = (false, eval a X.env) :: starEach [] X.env := by rfl) (hpl : (backTo pos (starEach [] X.env)).any (·.1) = false := by rfl) :
    PMk X (.Call (.Name "BadTest" p) [a] [] pos) (tMkBadTest C ta) := by
  intro pins s σ H Q I h
  refine wpAny_Call_Name_kw (ld_glob I hg T.gC ?_)
  refine PySem.W.callWith_K (h₀ := X.base) I.ok.mod.kin T.kC (thn (ha.run pos pins s σ H _ I h) fun us s1 hh => ?_) he hpl
  obtain ⟨vs, H1, I1, r1, v, ev, q1⟩ := hh
  subst ev
  refine ⟨I1.kIn, ?_⟩
  cases r1 with
  | cons rv rn =>
    rename_i v' us'
    cases rn
    show wpAny _ _ (call (.ref C) [v']) _ _ _
    have hlim := I1.nolimit
    obtain ⟨hp, g, dr, tk, os⟩ := s1
    refine wpAny_call (PySem.ErBadTest.err_made T I1.kIn hlim (by have := hr.dp; omega) fun h' tk' e d M => ?_)
    show MkP X pins σ Q (.ref e) ⟨h', g, dr, tk', os⟩
    obtain ⟨oe, fv, hoe, hc, hd, hdat, h1⟩ := M.obj
    have hns := M.ns
    obtain ⟨G', g1, g2⟩ := restrict h' fun b => decide (b ≠ e)
    have gk : ∀ b, b ≠ e → G'.get? b = h'.get? b := fun b hb => g1 b (decide_eq_true hb)
    have ge : G'.get? e = none := g2 e (by simp)
    have old : ∀ b o, hp.get? b = some o → G'.get? b = some o := fun b o q => (gk b (Nat.ne_of_lt (Nat.lt_of_lt_of_le (Heap.lt_size q) M.new))).trans (M.keep b o q)
    have ob : ObjOk X.prog X.w (upd H1 d (.xd [(("why" : Str), v)])) G' d (.xd [(("why" : Str), v)]) :=
      ⟨_, hns.at (fun o q => (gk d M.dne).trans q), fun f => relO_BadTest rv f⟩
    have J : Inv X pins σ (upd H1 d (.xd [(("why" : Str), v)])) ⟨G', g, dr, tk', os⟩ := I1.laid (t' := tk') old M.dbig ob
    refine ⟨e, oe, fv, ⟨G', g, dr, tk', os⟩, _, .ref C, some d, rfl, J, fun b o q => ?_, ge, hoe, ⟨hc, hd⟩, hdat, h1, ?_, rfl, I1.bare, raises_own T.exC T.tyC, q1 d (I1.hok.fresh M.dbig)⟩
    · by_cases hb : b = e
      · have q' : G'.get? b = some o := q
        rw [hb, ge] at q'; cases q'
      · exact (gk b hb).symm.trans q
    · rw [upd_ne (Ne.symm M.dne)]
      exact I1.hok.fresh M.new
def tRaiseBadTest (C : Addr) (W : WX) (ta : TA) : TS := fun _ σ H => tMkBadTest C ta σ H fun cls d H' => W cls d σ H'
theorem ps_raiseBadTest {a : Expr} {ta : TA} {W : WX} {p pos pos2 : Pos} {k : Nat} (hc : X.calm = true) (T : PySem.ErBadTest.Err X.K X.mg C fI) (hr : Room k X.A) (tk : Takes X W) (ha : PA X [a] ta) (hg : Gl X "BadTest" := by rfl)
    (he : starEach (a :: []) X.env = (false, eval a X.env) :: starEach [] X.env := by rfl) (hpl : (backTo pos (starEach [] X.env)).any (·.1) = false := by rfl) :
    PS X (.Raise (some (.Call (.Name "BadTest" p) [a] [] pos)) none pos2) (tRaiseBadTest C W ta) := ps_raise hc tk (pmk_BadTest T hr ha hg he hpl)
def tByBadTest (C : Addr) (a : Addr) (cls : Value) (d : Option Addr) (te : TE) : TE := fun σ H Q => te σ H fun x H1 => x = .ref a ∧ cls = .ref C ∧ ∃ (dd : Addr) (v : V), d = some dd ∧ H1 dd = some (.xd [(("why" : Str), v)]) ∧ Q v H1
theorem pe_byBadTest {a : Addr} {oe : Obj} {cls : Value} {d : Option Addr} {pn : List (Addr × Obj)} {e : Expr} {te : TE} {pos : Pos} (T : PySem.ErBadTest.Err X.K X.mg C fI) (hz : Zc cls d oe) (hf : ∃ vs, oe.data = .fields vs) (he : PE (X.suite a ((a, oe) :: pn)) e te)
    (hb : attributeBase e "why" X.env (eval e X.env) = eval e X.env := by rfl) :
    PE (X.suite a ((a, oe) :: pn)) (.Attribute e "why" pos) (tByBadTest C a cls d te) := by
  refine ⟨fun pins s σ H Q I h => ?_⟩
  refine attr_of hb (thn (he.run pins s σ H _ I h) fun u s1 hh => ?_)
  obtain ⟨x, H1, I1, rx, ex, ec, dd, v, ed, ea, q⟩ := hh
  subst ex
  obtain rfl : u = Value.ref a := rx
  subst ec
  subst ed
  obtain ⟨ha, _⟩ := I1.pin (a, oe) (List.mem_append_left _ List.mem_cons_self)
  obtain ⟨vs, hd⟩ := hf
  have hx : ObjOk X.prog X.w H1 s1.heap dd (.xd [(("why" : Str), v)]) := I1.hok dd _ ea
  obtain ⟨mA, hns, hr⟩ := hx
  obtain ⟨od, ho, hl⟩ := lookIn_ns hns
  have l : List.lookup ("why" : Str) [(("why" : Str), v)] = some v := by simp [List.lookup]
  obtain ⟨u, hu, ru⟩ := RelO.some_of (v := v) (o := mA "why") (by rw [← l]; exact hr "why")
  have J : PySem.W.InstAt s1.heap a oe C (some od) := ⟨ha, hz.1, by unfold PySem.W.notCls; rw [hd] <;> rfl, by rw [hz.2]; exact ho⟩
  exact HandSPX.exc_get I1.kIn J T.ga T.gg T.exC (PySem.W.findObj_own T.hdC T.noF rfl (by rw [hl, hu])) (handed_of ru) ⟨v, H1, I1.tok _, ru, q⟩
end
end Tw

set_option Elab.async false
set_option linter.all false
set_option maxRecDepth 100000
set_option maxHeartbeats 4000000
/-! enumerate over a list or a tuple; a walk over either; a maker with two keyword-only parameters whose defaults are empty tuples -/
namespace PySem
namespace TwE
open Sem (wp)
theorem fresh_enum {v : Value} {o : Obj} {Hc : Heap → Prop} (B : Begins v o Hc) :
    Meets (Builtin.«enumerate.__new__» ⟨[.type "enumerate", v], []⟩) (fun _ R s => Hc s.heap ∧ R (.ok (.ret (.ref (s.heap.push o).objs.size)))
      { s with heap := (s.heap.push o).push { cls := .type "enumerate", data := .fields #[.none, .bool false, .ref s.heap.objs.size, rawInt 0, .none, .none] } }) :=
  .of_wp fun pr wd Ar Rr st hyp => by
    obtain ⟨hp, gg, dr, tc, os⟩ := st
    obtain ⟨hb, hr⟩ := hyp
    have sub0 := sub_enumerate
    have start : ∀ {A2 : Around} {E2 Q2 : Value → Shared → Prop}, Q2 (.ref hp.objs.size) ⟨hp.push o, gg, dr, tc, os⟩ → wpAny (model pr wd) A2 (pyIter v) Q2 E2 ⟨hp, gg, dr, tc, os⟩ := fun q => B.iter pr wd _ _ ⟨hp, gg, dr, tc, os⟩ _ hb q
    wp_walk using start
    refine wpAny_stack_any fun stk => wpAny_pure ?_
    split
    · rename_i cc _ _ _ _ _
      rcases (cc == Value.type "enumerate") with _ | _
      all_goals wp_walk using start
      all_goals exact ⟨_, rfl, hr⟩
    · wp_walk using start
      exact ⟨_, rfl, hr⟩
section
variable {prog : Program} {w : World} {A : Around} {E : Value → Shared → Prop} {s : Shared}
theorem enum_call {v : Value} {o : Obj} {Hc : Heap → Prop} {Q : Value → Shared → Prop} (B : Begins v o Hc) (h1 : Hc s.heap)
    (hq : ∀ h2, IsEnum h2 (s.heap.objs.size + 1) s.heap.objs.size 0 .none → h2.get? s.heap.objs.size = some o → h2.objs.size = s.heap.objs.size + 2 → (∀ b u, s.heap.get? b = some u → h2.get? b = some u) → Q (.ref (s.heap.objs.size + 1)) { s with heap := h2 }) :
    wpAny (model prog w) A (call (.type "enumerate") [v]) Q E s := by
  refine callType_new F.called_enumerate (by decide) (F.typeCall_enumerate_1 _) (F.newCall_enumerate_1 _) (fun x => F.args_object_init_2 x _) F.entry_enumerate_new (fresh_enum B) ⟨h1, ?_⟩
  have sz : (s.heap.push o).objs.size = s.heap.objs.size + 1 := Heap.size_push ..
  have en := Heap.get?_push_size (s.heap.push o) (o := { cls := .type "enumerate", data := .fields #[.none, .bool false, .ref s.heap.objs.size, rawInt 0, .none, .none] }) rfl
  rw [sz] at en
  show _ ∧ _
  rw [sz]
  exact ⟨⟨_, en, rfl⟩, hq _ en (Heap.get?_push_of_some _ (Heap.get?_push_size _ B.free)) (by rw [Heap.size_push, sz]) fun b u e => Heap.get?_push_of_some _ (Heap.get?_push_of_some _ e)⟩
end
end TwE
end PySem
namespace L2
open PySem PySem.Spec PyProof.Rows
/-- the tuple at a, each item in a new pair -/
def Itet (K : PySem.W.Frag) (a : Addr) : It :=
  ⟨fun i H => ∃ (xs : List V) (x : V), SqT K H a xs ∧ xs[i]? = some x, fun i H v H2 => ∃ T x, v = .ref T ∧ H T = none ∧ H2 = upd H T (.tup [.int (i : Nat), x]) ∧ ∀ xs, SqT K H a xs → xs[i]? = some x, fun i H => ∃ xs : List V, SqT K H a xs ∧ xs.length = i⟩
theorem tw_apart {h : Heap} {a it : Addr} {i : Nat} {its : Array Value} (p : h.IsTuple a its) (q : h.IsTupleIter it a i) : a ≠ it := by
  intro e
  obtain ⟨o, ho, hc, n, hd⟩ := p
  obtain ⟨o2, ho2, hc2, hd2⟩ := q
  rw [e, ho2] at ho
  cases ho
  rw [hd] at hd2
  cases hd2
theorem tw_apart2 {h : Heap} {a e it : Addr} {c : Int} {old : Value} {its : Array Value} (p : h.IsTuple a its) (q : IsEnum h e it c old) : e ≠ a := by
  intro z
  obtain ⟨o, ho, hc, n, hd⟩ := p
  have ho2 := q
  unfold IsEnum at ho2
  rw [z, ho] at ho2
  cases ho2
  cases hd
theorem turn_enumT {P : Program} {w : World} {K : PySem.W.Frag} {elts : List Expr} {kk : Nat} {tpos : Pos} (a e it : Addr) :
    Turn P w K (.Tuple elts kk tpos) (Itet K a) [e, it] e (fun i h => (∃ old, IsEnum h e it ((i : Nat) : Int) old) ∧ h.IsTupleIter it a i ∧ e ≠ it) where
  mem := by simp
  obj := fun i h st b hb => by
    obtain ⟨⟨old, he⟩, ⟨o, ho, hc, hd⟩, _⟩ := st
    rcases (show b = e ∨ b = it by simpa using hb) with rfl | rfl
    · exact ⟨_, he, fun v q => nomatch q⟩
    · exact ⟨o, ho, fun v q => by rw [hd] at q; cases q⟩
  keep := fun i h h2 st k => ⟨st.1.elim fun old he => ⟨old, k e (by simp) _ he⟩, st.2.1.at fun o q => k it (by simp) o q, st.2.2⟩
  item := by
    intro X hP hw hK hc i pins s σ H E I hf st hg
    subst hP hw hK
    obtain ⟨⟨old, he⟩, hit, hne⟩ := st
    obtain ⟨xs, x, hq, hx⟩ := hg
    obtain ⟨its, rv, p, hz⟩ := I.tuple hq
    have pt : s.heap.IsTuple a its.toArray := p
    obtain ⟨u, hu, ru⟩ := rv.get hx
    have hel : e < s.heap.objs.size := Heap.lt_size he
    have hil : it < s.heap.objs.size := by
      obtain ⟨_, q, _⟩ := hit
      exact Heap.lt_size q
    have hai := tw_apart pt hit
    have hea := tw_apart2 pt he
    have D := Draws.tuple (prog := X.prog) (w := X.w) (A := X.A.in1) (I.ok.hd hc) it a hai its.toArray
    have hlt : i < its.toArray.size := by
      have := (List.getElem?_eq_some_iff.mp hu).1
      simpa using this
    refine wpAny_pyNext_enum_itemD D he ⟨hit, pt⟩ hlt hne (by simp [hne, hea]) fun y h2 tk py ho st2 hT hsz hk => ?_
    obtain rfl : u = y := by
      rw [List.getElem?_toArray, hu] at py
      injection py
    refine ⟨_, rfl, wpAny_letOwnedTupleGo_enum (s := { s with heap := h2, toks := tk + 1 }) ho fun h3 he3 sb => ?_⟩
    have hT3 : h3.get? s.heap.objs.size = some { cls := .type "tuple", data := .seq #[.int i tk, u] } := (sb.2 _ (Nat.ne_of_gt hel)).trans hT
    have new : ObjOk X.prog X.w (upd H s.heap.objs.size (.tup [.int (i : Nat), x])) h3 s.heap.objs.size (.tup [.int (i : Nat), x]) :=
      ⟨by show 2 ≤ sizeLine; decide, [.int i tk, u], .cons ⟨_, rfl⟩ (.cons ru .nil), ⟨_, hT3, rfl, _, rfl⟩⟩
    have I3 : Inv X pins σ (upd H s.heap.objs.size (.tup [.int (i : Nat), x])) { s with heap := h3, toks := tk + 1 } :=
      I.turnedNew (ch := [e, it]) (fun b ob hb q => by
        have n1 : b ≠ e := fun z => hb (by simp [z])
        have n2 : b ≠ it := fun z => hb (by simp [z])
        exact (sb.2 b n1).trans (hk b ob n1 n2 q)) hf (Nat.le_refl _) new
    have e1 : ((i + 1 : Nat) : Int) = (i : Int) + 1 := by omega
    refine ⟨.ref s.heap.objs.size, _, I3, rfl, ⟨_, x, rfl, I.hok.fresh (Nat.le_refl _), rfl, fun ys hy => by rw [I.tuple_inj hy hq]; exact hx⟩, ⟨⟨u, by rw [e1]; exact he3⟩, st2.1.at fun o q => (sb.2 it (Ne.symm hne)).trans q, hne⟩, fun b hb => ?_⟩
    have hb2 : b < s.heap.objs.size := by
      rcases (show b = e ∨ b = it by simpa using hb) with rfl | rfl
      · exact hel
      · exact hil
    rw [upd_ne (Nat.ne_of_lt hb2)]
    exact (hf b hb).1
  done := by
    intro X hP hw hK hc i pins s σ H E I hf st hg
    subst hP hw hK
    obtain ⟨⟨old, he⟩, hit, hne⟩ := st
    obtain ⟨xs, hq, hx⟩ := hg
    obtain ⟨its, rv, p, hz⟩ := I.tuple hq
    have pt : s.heap.IsTuple a its.toArray := p
    obtain ⟨f0, f1, f2, f3, f4, f5⟩ := hf it (by simp)
    have D := Draws.tuple (prog := X.prog) (w := X.w) (A := X.A.in1) (I.ok.hd hc) it a (tw_apart pt hit) its.toArray
    have hl : its.toArray.size = i := by
      rw [List.size_toArray, ← rv.length, hx]
    exact wpAny_pyNext_enum_endD D he (by rw [hl]; exact ⟨hit, pt⟩) fun h2 eb => ⟨rfl, I.turned (t' := s.toks) (fun b o hb q => eb b o hb q) f0 f1 f3 f4 f5⟩
  self := fun A i s Q E st h => st.1.elim fun _ he => wpAny_pyIter_enum he h
/-- what enumerate gives of the items xs -/
structure EFits (J : It) (xs : List V) (H : Hp) : Prop where
  go : ∀ i, i < xs.length → J.go i H
  stop : J.stop xs.length H
  yld : ∀ i x H', J.yld i H x H' → ∃ T v, x = .ref T ∧ H T = none ∧ H' = upd H T (.tup [.int (i : Nat), v]) ∧ xs[i]? = some v
/-- a list or a tuple -/
def SqA (K : PySem.W.Frag) (H : Hp) (a : Addr) (xs : List V) : Prop := SqL K H a xs ∨ SqT K H a xs
theorem same_l {K : PySem.W.Frag} {H H' : Hp} {a : Addr} {xs : List V} (h : SqL K H a xs) (e : H' a = H a) : SqL K H' a xs := by
  rcases h with h | h
  · exact .inl (by unfold Rd at h ⊢; rw [e]; exact h)
  · exact .inr h
theorem same_t {K : PySem.W.Frag} {H H' : Hp} {a : Addr} {xs : List V} (h : SqT K H a xs) (e : H' a = H a) : SqT K H' a xs := by
  rcases h with h | h
  · exact .inl (by unfold Rd at h ⊢; rw [e]; exact h)
  · exact .inr h
theorem efits_l {K : PySem.W.Frag} {H : Hp} {a : Addr} {xs : List V} (h : SqL K H a xs) : EFits (Ite K a) xs H :=
  ⟨fun i hi => ⟨xs, xs[i], h, List.getElem?_eq_getElem hi⟩, ⟨xs, h, Nat.le_refl _⟩, fun i x H' ⟨T, v, e1, e2, e3, e4⟩ => ⟨T, v, e1, e2, e3, e4 xs h⟩⟩
theorem efits_t {K : PySem.W.Frag} {H : Hp} {a : Addr} {xs : List V} (h : SqT K H a xs) : EFits (Itet K a) xs H :=
  ⟨fun i hi => ⟨xs, xs[i], h, List.getElem?_eq_getElem hi⟩, ⟨xs, h, rfl⟩, fun i x H' ⟨T, v, e1, e2, e3, e4⟩ => ⟨T, v, e1, e2, e3, e4 xs h⟩⟩
def iEnumG (K : PySem.W.Frag) (ta : TA) : TI := fun σ H R => ta σ H fun vs H1 => ∃ a xs, vs = [.ref a] ∧ SqA K H1 a xs ∧ ∀ J, (∀ H', H' a = H1 a → EFits J xs H') → R J H1
theorem pi_enumG {X : Cx} {K : PySem.W.Frag} {e : Expr} {ta : TA} {p pos tpos : Pos} {elts : List Expr} {kk : Nat} (hK : X.K = K) (hg : Gl X "enumerate") (hm : X.mg "enumerate" = none) (ha : PA X [e] ta) (hs : starEach [e] X.env = [(false, eval e X.env)] := by rfl) :
    PI X (.Tuple elts kk tpos) (.Call (.Name "enumerate" p) [e] [] pos) (iEnumG K ta) := by
  subst hK
  refine ⟨fun pins s σ H R I h => ?_⟩
  refine Call_ (ld_blt I hg hm boot_enumerate (PyProof.Rows.callWith_type1 (thn (ha.run pos pins s σ H _ I h) fun us s1 ⟨vs, H1, I1, r1, q1⟩ => ?_) hs rfl))
  obtain ⟨a, xs, rfl, hs2, q⟩ := q1
  cases r1 with
  | cons r rr =>
    cases rr
    cases r
    have fp : ∀ b ∈ [s1.heap.objs.size + 1, s1.heap.objs.size], FpOk X pins H1 b := fun b hb => by
      have hle : s1.heap.objs.size ≤ b := by
        rcases (show b = s1.heap.objs.size + 1 ∨ b = s1.heap.objs.size by simpa using hb) with rfl | rfl
        · exact Nat.le_add_right _ _
        · exact Nat.le_refl _
      exact I1.fpOk hle (I1.hok.fresh hle)
    rcases hs2 with hq | hq
    · replace q := q (Ite X.K a) fun H' e => efits_l (same_l hq e)
      obtain ⟨its, rv, p2, hz⟩ := I1.list hq
      refine call_enumerate_list p2.isList fun h2 he hit hsz hk => wpAny_pyIter_enum he ?_
      exact ⟨s1.heap.objs.size + 1, [s1.heap.objs.size + 1, s1.heap.objs.size], _, _, H1, rfl, I1.kept (t' := s1.toks) hk, turn_enum a (s1.heap.objs.size + 1) s1.heap.objs.size, ⟨⟨.none, he⟩, hit, Nat.succ_ne_self _⟩, fp, q⟩
    · replace q := q (Itet X.K a) fun H' e => efits_t (same_t hq e)
      obtain ⟨its, rv, p2, hz⟩ := I1.tuple hq
      have pt : s1.heap.IsTuple a its.toArray := p2
      refine TwE.enum_call (begins_tuple a its.toArray) pt fun h2 he hit hsz hk => wpAny_pyIter_enum he ?_
      exact ⟨s1.heap.objs.size + 1, [s1.heap.objs.size + 1, s1.heap.objs.size], _, _, H1, rfl, I1.kept (t' := s1.toks) hk, turn_enumT a (s1.heap.objs.size + 1) s1.heap.objs.size, ⟨⟨.none, he⟩, ⟨_, hit, rfl, rfl⟩, Nat.succ_ne_self _⟩, fp, q⟩
def iSeq (K : PySem.W.Frag) (tl : TE) : TI := fun σ H R => tl σ H fun x H1 => ∃ a xs, x = .ref a ∧ SqA K H1 a xs ∧ ∀ J, (∀ H', H' a = H1 a → Tw.Fits J xs H') → R J H1
theorem pi_seqG {X : Cx} {K : PySem.W.Frag} {tg : Expr} {l : Expr} {tl : TE} (hK : X.K = K) (hl : PE X l tl) : PI X tg l (iSeq K tl) := by
  subst hK
  refine ⟨fun pins s σ H R I h => ?_⟩
  refine thn (hl.run pins s σ H _ I h) fun v s1 ⟨x, H1, I1, r1, q1⟩ => ?_
  obtain ⟨a, xs, rfl, hs2, q⟩ := q1
  cases r1
  have fp : ∀ b ∈ [s1.heap.objs.size], FpOk X pins H1 b := fun b hb => by
    obtain rfl : b = s1.heap.objs.size := by simpa using hb
    exact I1.fpOk (Nat.le_refl _) (I1.hok.fresh (Nat.le_refl _))
  rcases hs2 with hq | hq
  · replace q := q (Itl X.K a) fun H' e => Tw.fits_l (same_l hq e)
    obtain ⟨its, rv, p, hz⟩ := I1.list hq
    refine wpAny_pyIter_list p.isList ?_
    exact ⟨s1.heap.objs.size, [s1.heap.objs.size], _, _, H1, rfl, I1.kept (t' := s1.toks) fun b o e => Heap.get?_push_of_some _ e, turn_list a _, ⟨_, Heap.get?_push_size _ rfl, rfl, rfl⟩, fp, q⟩
  · replace q := q (Itt X.K a) fun H' e => Tw.fits_t (same_t hq e)
    obtain ⟨its, rv, p, hz⟩ := I1.tuple hq
    refine wpAny_pyIter_tuple (show s1.heap.IsTuple a its.toArray from p) ?_
    exact ⟨s1.heap.objs.size, [s1.heap.objs.size], _, _, H1, rfl, I1.kept (t' := s1.toks) fun b o e => Heap.get?_push_of_some _ e, turn_tuple a _, ⟨_, Heap.get?_push_size _ rfl, rfl, rfl⟩, fp, q⟩
end L2
namespace Tw
open PySem L2
section
variable {K : PySem.W.Frag} {σ : L2.St} {H : Hp} {D : Ends} {ta : TA} {te : TE} {a : Addr} {xs : List V}
theorem g_enumG {R : It → Hp → Prop} (q : ta σ H fun vs H1 => ∃ a xs, vs = [.ref a] ∧ SqA K H1 a xs ∧ ∀ J, (∀ H', H' a = H1 a → EFits J xs H') → R J H1) : iEnumG K ta σ H R := q
theorem g_seqG {R : It → Hp → Prop} (q : te σ H fun x H1 => ∃ a xs, x = .ref a ∧ SqA K H1 a xs ∧ ∀ J, (∀ H', H' a = H1 a → Fits J xs H') → R J H1) : iSeq K te σ H R := q
theorem for_enumA {J : It} {g : TG} {tb : TS} (Pv : Nat → L2.St → Hp → Prop) (h0 : Pv 0 σ H) (hl : ∀ i σ H, i ≤ xs.length → Pv i σ H → EFits J xs H)
    (hs : ∀ i v T σ H (D' : Ends), xs[i]? = some v → Pv i σ H → H T = none → (∀ σ H, Pv (i + 1) σ H → D'.nx σ H) → (∀ σ H, Pv (i + 1) σ H → D'.ct σ H) → (∀ σ H, D.nx σ H → D'.bk σ H) → D'.rt = D.rt → g (.ref T) σ (upd H T (.tup [.int (i : Nat), v])) fun σ2 H2 => tb D' σ2 H2)
    (hd : ∀ σ H, Pv xs.length σ H → D.nx σ H) :
    ∃ W : Nat → Nat → L2.St → Hp → Prop, (∃ m, W 0 m σ H) ∧ ∀ i m σ H, W i m σ H →
      (J.stop i H ∧ D.nx σ H) ∨ (J.go i H ∧ ∃ N : L2.St → Hp → Prop, (∀ σ' H', N σ' H' → ∃ m', m' < m ∧ W (i + 1) m' σ' H') ∧ ∀ x H', J.yld i H x H' → g x σ H' fun σ2 H2 => tb { D with nx := N, ct := N, bk := D.nx } σ2 H2) := by
  refine ⟨fun i m σ H => m = xs.length - i ∧ i ≤ xs.length ∧ Pv i σ H, ⟨xs.length, by simp, Nat.zero_le _, h0⟩, ?_⟩
  rintro i m σ H ⟨rfl, hi, p⟩
  have fi := hl i σ H hi p
  by_cases hlt : i < xs.length
  · refine .inr ⟨fi.go i hlt, Pv (i + 1), fun σ' H' q => ⟨xs.length - (i + 1), by omega, rfl, hlt, q⟩, fun x H' y => ?_⟩
    obtain ⟨T, v, rfl, hT, rfl, hv⟩ := fi.yld i x H' y
    exact hs i v T σ H { D with nx := Pv (i + 1), ct := Pv (i + 1), bk := D.nx } hv p hT (fun _ _ h => h) (fun _ _ h => h) (fun _ _ h => h) rfl
  · obtain rfl : i = xs.length := by omega
    exact .inl ⟨fi.stop, hd σ H p⟩
end
/-- a maker with two keyword-only parameters whose defaults are empty tuples -/
structure HereCD (K : PySem.W.Frag) (C : Addr) (qual : Str) (st : Stmt) (ps : List Str) (f : Addr) (fd : FuncData) : Prop where
  fn : Fun K "__init__" qual st f fd
  mkr : Mk K C f
  bd : ∃ d1 d2 : Addr, (∀ H, SqT K H d1 []) ∧ (∀ H, SqT K H d2 []) ∧ ∃ ds, Vals [.ref d1, .ref d2] ds ∧ Binds K fd ps ds
structure DefCD (P : Program) (w : World) (K : PySem.W.Frag) (mg : Str → Option Value) (base : Heap) (k : Nat) (C : Addr) (ps : List Str) (sp : Sp) : Prop where
  ex : ∃ (f : Addr) (fd : FuncData), FnOk P w K mg base CX0 k f fd ps sp ∧ Mk K C f ∧ ∃ d1 d2 : Addr, (∀ H, SqT K H d1 []) ∧ (∀ H, SqT K H d2 []) ∧ ∃ ds, Vals [.ref d1, .ref d2] ds ∧ Binds K fd ps ds
theorem HereCD.def {P : Program} {w : World} {K : PySem.W.Frag} {mg : Str → Option Value} {base : Heap} {k : Nat} {C : Addr} {qual : Str} {st : Stmt} {ps : List Str} {sp : Sp} {f : Addr} {fd : FuncData} (h : HereCD K C qual st ps f fd) (F : FnOk P w K mg base CX0 k f fd ps sp) : DefCD P w K mg base k C ps sp :=
  ⟨f, fd, F, h.mkr, h.bd⟩
def tNewD (K : PySem.W.Frag) (C : Addr) (sp : Sp) (t : TA) : TE := fun σ H Q => ∀ d1 d2 : Addr, (∀ H, SqT K H d1 []) → (∀ H, SqT K H d2 []) → t σ H fun vs H1 => ∀ x dx, H1 x = none → H1 dx = none → dx ≠ x →
  sp (.ref x :: (vs ++ [.ref d1, .ref d2])) (upd (upd H1 dx (.own x)) x (.ins C dx [])) (fun v H2 => v = .non ∧ Q (.ref x) H2) E0
theorem g_newD {K : PySem.W.Frag} {C : Addr} {sp : Sp} {t : TA} {σ : L2.St} {H : Hp} {Q : VK} (q : ∀ d1 d2 : Addr, (∀ H, SqT K H d1 []) → (∀ H, SqT K H d2 []) → t σ H fun vs H1 => ∀ x dx, H1 x = none → H1 dx = none → dx ≠ x →
  sp (.ref x :: (vs ++ [.ref d1, .ref d2])) (upd (upd H1 dx (.own x)) x (.ins C dx [])) (fun v H2 => v = .non ∧ Q (.ref x) H2) E0) : tNewD K C sp t σ H Q := q
theorem pe_newD {X : Cx} {K : PySem.W.Frag} {k j : Nat} {C : Addr} {x : Str} {p pos : Pos} {e : Expr} {es : List Expr} {ps : List Str} {sp : Sp} {t : TA} (hK : X.K = K)
    (D : DefCD X.prog X.w K X.mg X.base k C ps sp) (hr : Room j X.A) (hg : Gl X x) (hm : X.mg x = some (.ref C)) (ha : PA X (e :: es) t) (hk : k + 1 ≤ j := by decide) (hdb : (x == ("__debug__" : Str)) = false := by decide)
    (he : starEach (e :: es) X.env = (false, eval e X.env) :: starEach es X.env := by rfl) (hpl : (backTo pos (starEach es X.env)).any (·.1) = false := by rfl) : PE X (.Call (.Name x p) (e :: es) [] pos) (tNewD K C sp t) := by
  subst hK
  obtain ⟨f, fd, F, mk, d1, d2, e1, e2, ds, hv, hb⟩ := D.ex
  exact ⟨fun pins s σ H Q I h => (pe_make mk F (hr.mono hk) hg hm hb hv pass0 ha hdb he hpl).run pins s σ H Q I (h d1 d2 e1 e2)⟩
theorem kw_bd2 {K : PySem.W.Frag} {fd : FuncData} {D : Addr} {k1 k2 : Str} {ps : List Str} {n : Nat} {a1 a2 : Addr} {o1 o2 : Obj} {i1 i2 : Array Value} {n1 n2 : Nat} (hps : ps.length = n + 2) (h1 : PySem.W.nsIn K D k1 = some (some (.ref a1))) (h2 : PySem.W.nsIn K D k2 = some (some (.ref a2)))
    (l1 : K.lookup a1 = some o1) (c1 : o1.cls = .type "tuple") (g1 : o1.data = .seq i1 n1) (z1 : i1.size = 0) (l2 : K.lookup a2 = some o2) (c2 : o2.cls = .type "tuple") (g2 : o2.data = .seq i2 n2) (z2 : i2.size = 0)
    (h : ∀ us : List Value, us.length = n → ∀ u v : Value, KwChain D [(k1, u), (k2, v)] (bindArgs fd ⟨us, []⟩) (ps.zip (us ++ [u, v]))) :
    ∃ d1 d2 : Addr, (∀ H, SqT K H d1 []) ∧ (∀ H, SqT K H d2 []) ∧ ∃ ds, Vals [.ref d1, .ref d2] ds ∧ Binds K fd ps ds := by
  have nil : ∀ {i : Array Value}, i.size = 0 → Vals [] i.toList := fun {i} z => by
    have : i.toList = [] := List.length_eq_zero_iff.mp (by simpa using z)
    rw [this]
    exact .nil
  refine ⟨a1, a2, fun H => .inr ⟨o1, i1, n1, l1, c1, g1, by rw [z1]; exact Nat.zero_le _, nil z1⟩, fun H => .inr ⟨o2, i2, n2, l2, c2, g2, by rw [z2]; exact Nat.zero_le _, nil z2⟩, [.ref a1, .ref a2], .cons rfl (.cons rfl .nil), fun s us X hlen => BindsTo.of_looks fun M => KwChain.looks X (fun q hq => ?_) (h us ?_ (.ref a1) (.ref a2))⟩
  · rcases List.mem_cons.mp hq with rfl | hq
    · exact h1
    · obtain rfl := List.mem_singleton.mp hq
      exact h2
  · simp at hlen
    omega

def rTupG (K : PySem.W.Frag) : List V → Hp → VK → Prop := fun xs H Q => ∃ p ys, xs = [.ref p] ∧ ((SqL K H p ys ∧ ∀ l, H l = none → Q (.ref l) (upd H l (.tup ys))) ∨ (SqT K H p ys ∧ Q (.ref p) H))
theorem call_tupleG {X : Cx} {K : PySem.W.Frag} (h : X.K = K) : CallR X (.type "tuple") (rTupG K) := by subst h; exact call_tuple_of
section
variable {K : PySem.W.Frag} {σ : L2.St} {H : Hp} {Q : VK} {a : Addr} {xs : List V}
theorem g_tupL (h : SqL K H a xs) (q : ∀ l, H l = none → Q (.ref l) (upd H l (.tup xs))) : rTupG K [.ref a] H Q := ⟨a, xs, rfl, .inl ⟨h, q⟩⟩
theorem g_tupT (h : SqT K H a xs) (q : Q (.ref a) H) : rTupG K [.ref a] H Q := ⟨a, xs, rfl, .inr ⟨h, q⟩⟩
theorem g_dc {wi : TI} {g : TG} {tt : TT} {tk tv : TE} {vs : List Nat} (q : wi σ H fun J H1 => ∀ D, H1 D = none → ∃ W : Nat → Nat → Hp → Prop, (∃ m, W 0 m (upd H1 D (.dK []))) ∧ ∀ i m H, W i m H →
  (J.stop i H ∧ Q (.ref D) H) ∨ (J.go i H ∧ ∃ Nx : Hp → Prop, (∀ H', Nx H' → ∃ m', m' < m ∧ W (i + 1) m' H') ∧ ∀ x H', J.yld i H x H' → g x (wipe σ vs) H' fun σ2 H2 => wipe σ2 vs = wipe σ vs ∧ tt σ2 H2 fun b H3 =>
    if b = true then tk σ2 H3 fun y H4 => tv σ2 H4 fun z H5 => ∃ kvs k, y = kV k ∧ H5 D = some (.dK kvs) ∧ kvs.length < sizeLine ∧ Nx (upd H5 D (.dK (putK kvs k z))) else Nx H3)) : tDc wi g tt tk tv vs σ H Q := q
/-- a tuple, a list in the heap, a tuple of the written part: what isinstance sees -/
theorem tyx_t (h : SqT K H a xs) : TyX K H (.ref a) (.type "tuple") := by
  rcases h with h | ⟨o, its, n, h1, h2, _⟩
  · rcases h with h | ⟨o, h⟩
    · exact .base (.tup h)
    · exact .fTuple h
  · exact .kTuple h1 h2
end
end Tw


set_option Elab.async false
set_option linter.all false
set_option maxRecDepth 100000
set_option maxHeartbeats 4000000
namespace L
open PySem L2 Tw
local macro_rules | `(tactic| walk_at "hp") => `(tactic| first
  | assumption
  | exact upd_same
  | (refine Eq.trans (upd_ne ?hn) ?hr; (case hn => first | assumption | exact Ne.symm (by assumption)); (case hr => walk_at "hp")))
local macro_rules | `(tactic| walk_at "g1") => `(tactic| first
  | with_reducible refine g_nx ?_
  | with_reducible refine g_rt ?_
  | with_reducible refine g_seq ?_
  | with_reducible refine g_ret ?_
  | with_reducible refine g_if ?_
  | with_reducible refine g_asg ?_
  | with_reducible refine g_drop ?_
  | with_reducible refine g_asgSub ?_
  | with_reducible refine g_next ?_
  | with_reducible refine g_op ?_
  | ((with_reducible refine g_var0 ?_); refine ⟨_, rfl, ?_⟩)
  | with_reducible refine g_c ?_
  | with_reducible refine g_cons ?_
  | with_reducible refine g_nil ?_
  | with_reducible refine g_def ?_
  | with_reducible refine g_cb ?_
  | with_reducible refine g_test ?_
  | with_reducible refine g_B ?_
  | with_reducible refine g_bl ?_
  | with_reducible refine g_sl ?_
  | with_reducible refine g_name ?_
  | with_reducible refine g_lc ?_
  | with_reducible refine g_rng1 ?_
  | with_reducible refine g_for ?_
  | with_reducible refine g_yes ?_
  | with_reducible refine g_ilist ?_
  | ((with_reducible refine g_m1 ?_))
  | with_reducible refine g_m0 ?_
  | with_reducible refine g_noPart ?_
  | with_reducible refine g_part ?_
  | with_reducible refine g_int ?_
  | with_reducible refine g_tand ?_
  | with_reducible refine g_tor ?_
  | with_reducible refine g_tnot ?_
  | with_reducible refine g_vand ?_
  | with_reducible refine g_vor ?_
  | with_reducible refine g_vnot ?_
  | with_reducible refine g_eif ?_
  | with_reducible refine g_un ?_
  | with_reducible refine g_addI ?_
  | with_reducible refine g_subI ?_
  | with_reducible refine g_negI ?_
  | with_reducible refine g_ltI ?_
  | with_reducible refine g_ltS ?_
  | with_reducible refine g_leI ?_
  | with_reducible refine g_geS ?_
  | with_reducible refine g_inS ?_
  | with_reducible refine g_notInS ?_
  | with_reducible refine g_max2 ?_
  | with_reducible refine g_isiR (by assumption) (by decide) ?_
  | with_reducible refine g_isBl_tt ?_
  | with_reducible refine g_notBl_tt ?_
  | with_reducible refine g_isBl_tf ?_
  | with_reducible refine g_notBl_tf ?_
  | with_reducible refine g_isBl_ft ?_
  | with_reducible refine g_notBl_ft ?_
  | with_reducible refine g_isBl_ff ?_
  | with_reducible refine g_notBl_ff ?_
  | with_reducible refine g_isBl ?_
  | with_reducible refine g_notBl ?_
  | with_reducible refine g_istr ?_
  | with_reducible refine g_str1 ?_
  | with_reducible refine g_strE ?_
  | with_reducible refine g_gtI ?_
  | with_reducible refine g_geI ?_
  | with_reducible refine g_isN_non ?_
  | with_reducible refine g_isN_int ?_
  | with_reducible refine g_isN_str ?_
  | with_reducible refine g_isN_bl ?_
  | with_reducible refine g_isN_ref ?_
  | with_reducible refine g_notN_non ?_
  | with_reducible refine g_notN_int ?_
  | with_reducible refine g_notN_str ?_
  | with_reducible refine g_notN_bl ?_
  | with_reducible refine g_notN_ref ?_
  | with_reducible refine g_isN ?_
  | with_reducible refine g_notN ?_
  | with_reducible refine g_isiI kb_ii ?_
  | with_reducible refine g_isiI kb_is ?_
  | with_reducible refine g_isiI kb_ib ?_
  | with_reducible refine g_isiS kb_si ?_
  | with_reducible refine g_isiS kb_ss ?_
  | with_reducible refine g_isiS kb_sb ?_
  | with_reducible refine g_isiB kb_bi ?_
  | with_reducible refine g_isiB kb_bs ?_
  | with_reducible refine g_isiB kb_bb ?_
  | with_reducible refine g_isiN kb_ni ?_
  | with_reducible refine g_isiN kb_ns ?_
  | with_reducible refine g_isiN kb_nb ?_
  | with_reducible refine g_eqI ?_
  | with_reducible refine g_eqS ?_
  | with_reducible refine g_eqB ?_
  | with_reducible refine g_neI ?_
  | with_reducible refine g_neS ?_
  | with_reducible refine g_int1 ?_
  | with_reducible refine g_int1B ?_
  | with_reducible refine g_bool1B ?_
  | with_reducible refine g_bool1I ?_
  | ((with_reducible refine g_modI ?gm ?_); (case gm => first | assumption | decide | omega))
  | ((with_reducible refine g_mulI ?gm ?_); (case gm => first | exact Or.inl ⟨by decide, by decide⟩ | exact Or.inr ⟨by decide, by decide⟩ | (unfold CMul; omega)))
  | with_reducible refine g_tup ?_
  | with_reducible refine g_lst ?_
  | with_reducible refine g_bm ?_
  | ((with_reducible refine g_tyL ?_); refine ⟨⟨_, by walk_at "hp"⟩, ?_⟩)
  | (with_reducible refine g_app (by walk_at "hp") (by first | assumption | (simp only [List.length_map, List.length_append, List.length_cons, List.length_nil]; omega) | omega) ?_)
  | ((with_reducible refine g_ixL0 ?_); (refine' ⟨_, _, ?ga, ?gb, ?_⟩; (case ga => walk_at "hp"); (case gb => exact rfl)))
  | ((with_reducible refine g_ixL0 ?_); (refine' ⟨_, _, ?ga, atI_map ?gb, ?_⟩; (case ga => walk_at "hp"); (case gb => omega)))
  | ((with_reducible refine g_powI ?gm ?_); (case gm => first | exact ⟨by decide, by decide +kernel⟩ | exact cpow_small (by decide) (by decide) (by omega) (by omega)))
  | ((with_reducible refine g_fdI ?gm ?_); (case gm => first | exact ⟨by assumption, by assumption⟩ | exact ⟨by decide, by decide +kernel⟩))
  | ((with_reducible refine g_lenL0 ?_); (refine' ⟨_, ?ga, ?_⟩; (case ga => walk_at "hp")))
  | ((with_reducible refine g_setL0 ?_); (refine' ⟨_, _, ?ga, ?gb, ?_⟩; (case ga => walk_at "hp"); (case gb => exact rfl)))
  | with_reducible refine g_itup ?_
  | with_reducible refine g_lc2 ?_
  | with_reducible refine g_sortedSet ?_
  | with_reducible refine g_dget ?_
  | with_reducible refine g_din ?_
  | with_reducible refine g_dnotin ?_
  | with_reducible refine g_neB ?_
  | with_reducible refine g_opW ?_
  | with_reducible refine g_unW ?_
  | with_reducible refine g_callS ?_
  | with_reducible refine g_meX ?_
  | with_reducible refine g_me ?_
  | with_reducible refine g_new ?_
  | with_reducible refine g_sfld ?_
  | with_reducible refine g_fld ?_
  | with_reducible refine g_T ?_
  | with_reducible refine g_F ?_
  | with_reducible refine g_Tn ?_
  | with_reducible refine g_Fn ?_
  | with_reducible refine g_bk ?_
  | with_reducible refine g_ct ?_
  | with_reducible refine g_ctS ?_
  | with_reducible refine g_bkS ?_)
local macro_rules | `(tactic| walk_at "g") => `(tactic| repeat walk_at "g1")
local macro_rules | `(tactic| walk_at "G") => `(tactic| (walk_at "g"; try ((first | with_reducible refine g_dec (fun _ => ?_) (fun _ => ?_) | with_reducible refine g_ndec (fun _ => ?_) (fun _ => ?_)) <;> walk_at "G")))
def C_SIGNS : Str := Str.ofString " !\"#$&'()*+,-./0123456789:;<=>?@ABCDEFGHIJKLMNOPQRSTUVWXYZ[\\]^_`abcdefghijklmnopqrstuvwxyz{|}~"
def C_LETTERS : Str := Str.ofString "abcdefghijklmnopqrstuvwxyz"
def C_WORDS : List V := [.str "and", .str "or", .str "not", .str "sure", .str "in", .str "is", .str "empty", .str "begins", .str "always", .str "never"]
def C_NAME_SIGNS : Str := Str.ofString "abcdefghijklmnopqrstuvwxyz0123456789"
def C_OPS : List V := [.str "<", .str "<=", .str "==", .str "!=", .str ">", .str ">="]
def C_KINDS : List V := [.str "number", .str "text"]
def top (i : Nat) : Stmt := PySem.Challenge.pw_tworows_k13_fitting_tests.main.body.getD i (.Pass ⟨0, 0, 0, 0⟩)
abbrev S_is_integer : Stmt := top 12
abbrev N_is_integer : List Str := ["thing"]
theorem sc_is_integer : FnScope N_is_integer ["thing"] (defScope S_is_integer) := ⟨rfl, rfl, rfl, by decide +kernel, rfl, by decide +kernel, by decide +kernel⟩
abbrev S_is_sequence : Stmt := top 13
abbrev N_is_sequence : List Str := ["thing"]
theorem sc_is_sequence : FnScope N_is_sequence ["thing"] (defScope S_is_sequence) := ⟨rfl, rfl, rfl, by decide +kernel, rfl, by decide +kernel, by decide +kernel⟩
abbrev S_is_text : Stmt := top 14
abbrev N_is_text : List Str := ["thing", "sign"]
theorem sc_is_text : FnScope N_is_text ["thing"] (defScope S_is_text) := ⟨rfl, rfl, rfl, by decide +kernel, rfl, by decide +kernel, by decide +kernel⟩
abbrev S_is_name : Stmt := top 15
abbrev N_is_name : List Str := ["thing", "sign"]
theorem sc_is_name : FnScope N_is_name ["thing"] (defScope S_is_name) := ⟨rfl, rfl, rfl, by decide +kernel, rfl, by decide +kernel, by decide +kernel⟩
abbrev S_kind_of : Stmt := top 16
abbrev N_kind_of : List Str := ["value"]
theorem sc_kind_of : FnScope N_kind_of ["value"] (defScope S_kind_of) := ⟨rfl, rfl, rfl, by decide +kernel, rfl, by decide +kernel, by decide +kernel⟩
abbrev S_is_value : Stmt := top 17
abbrev N_is_value : List Str := ["kind", "thing"]
theorem sc_is_value : FnScope N_is_value ["kind", "thing"] (defScope S_is_value) := ⟨rfl, rfl, rfl, by decide +kernel, rfl, by decide +kernel, by decide +kernel⟩
abbrev S_Test_init : Stmt := inClass (top 23) 0
abbrev N_Test_init : List Str := ["self", "word", "inner", "fields", "terms"]
theorem sc_Test_init : FnScope N_Test_init ["self", "word", "inner", "fields", "terms"] (defScope S_Test_init) := ⟨rfl, rfl, rfl, by decide +kernel, rfl, by decide +kernel, by decide +kernel⟩
abbrev S_Test_atoms : Stmt := inClass (top 23) 3
abbrev N_Test_atoms : List Str := ["self", "part", "atom"]
theorem sc_Test_atoms : FnScope N_Test_atoms ["self"] (defScope S_Test_atoms) := ⟨rfl, rfl, rfl, by decide +kernel, rfl, by decide +kernel, by decide +kernel⟩
abbrev S_Test_and : Stmt := inClass (top 23) 8
abbrev N_Test_and : List Str := ["self", "other"]
theorem sc_Test_and : FnScope N_Test_and ["self", "other"] (defScope S_Test_and) := ⟨rfl, rfl, rfl, by decide +kernel, rfl, by decide +kernel, by decide +kernel⟩
abbrev S_Test_or : Stmt := inClass (top 23) 9
abbrev N_Test_or : List Str := ["self", "other"]
theorem sc_Test_or : FnScope N_Test_or ["self", "other"] (defScope S_Test_or) := ⟨rfl, rfl, rfl, by decide +kernel, rfl, by decide +kernel, by decide +kernel⟩
abbrev S_Test_invert : Stmt := inClass (top 23) 10
abbrev N_Test_invert : List Str := ["self"]
theorem sc_Test_invert : FnScope N_Test_invert ["self"] (defScope S_Test_invert) := ⟨rfl, rfl, rfl, by decide +kernel, rfl, by decide +kernel, by decide +kernel⟩
abbrev S_size_of : Stmt := top 24
abbrev N_size_of : List Str := ["inner", "part"]
theorem sc_size_of : FnScope N_size_of ["inner"] (defScope S_size_of) := ⟨rfl, rfl, rfl, by decide +kernel, rfl, by decide +kernel, by decide +kernel⟩
abbrev S_depth_of : Stmt := top 25
abbrev N_depth_of : List Str := ["inner", "depth", "part"]
theorem sc_depth_of : FnScope N_depth_of ["inner"] (defScope S_depth_of) := ⟨rfl, rfl, rfl, by decide +kernel, rfl, by decide +kernel, by decide +kernel⟩
abbrev S_combined : Stmt := top 26
abbrev N_combined : List Str := ["word", "inner", "test"]
theorem sc_combined : FnScope N_combined ["word", "inner"] (defScope S_combined) := ⟨rfl, rfl, rfl, by decide +kernel, rfl, by decide +kernel, by decide +kernel⟩
abbrev S_need_column : Stmt := top 27
abbrev N_need_column : List Str := ["thing"]
theorem sc_need_column : FnScope N_need_column ["thing"] (defScope S_need_column) := ⟨rfl, rfl, rfl, by decide +kernel, rfl, by decide +kernel, by decide +kernel⟩
abbrev S_need_op : Stmt := top 28
abbrev N_need_op : List Str := ["thing"]
theorem sc_need_op : FnScope N_need_op ["thing"] (defScope S_need_op) := ⟨rfl, rfl, rfl, by decide +kernel, rfl, by decide +kernel, by decide +kernel⟩
abbrev S_need_values : Stmt := top 29
abbrev N_need_values : List Str := ["thing", "value"]
theorem sc_need_values : FnScope N_need_values ["thing"] (defScope S_need_values) := ⟨rfl, rfl, rfl, by decide +kernel, rfl, by decide +kernel, by decide +kernel⟩
abbrev S_compare : Stmt := top 30
abbrev N_compare : List Str := ["column", "op", "value"]
theorem sc_compare : FnScope N_compare ["column", "op", "value"] (defScope S_compare) := ⟨rfl, rfl, rfl, by decide +kernel, rfl, by decide +kernel, by decide +kernel⟩
abbrev S_against : Stmt := top 31
abbrev N_against : List Str := ["column", "op", "other", "more"]
theorem sc_against : FnScope N_against ["column", "op", "other", "more"] (defScope S_against) := ⟨rfl, rfl, rfl, by decide +kernel, rfl, by decide +kernel, by decide +kernel⟩
abbrev S_among : Stmt := top 32
abbrev N_among : List Str := ["column", "values"]
theorem sc_among : FnScope N_among ["column", "values"] (defScope S_among) := ⟨rfl, rfl, rfl, by decide +kernel, rfl, by decide +kernel, by decide +kernel⟩
abbrev S_begins : Stmt := top 33
abbrev N_begins : List Str := ["column", "prefix"]
theorem sc_begins : FnScope N_begins ["column", "prefix"] (defScope S_begins) := ⟨rfl, rfl, rfl, by decide +kernel, rfl, by decide +kernel, by decide +kernel⟩
abbrev S_empty : Stmt := top 34
abbrev N_empty : List Str := ["column"]
theorem sc_empty : FnScope N_empty ["column"] (defScope S_empty) := ⟨rfl, rfl, rfl, by decide +kernel, rfl, by decide +kernel, by decide +kernel⟩
abbrev S_always : Stmt := top 35
abbrev N_always : List Str := []
theorem sc_always : FnScope N_always [] (defScope S_always) := ⟨rfl, rfl, rfl, by decide +kernel, rfl, by decide +kernel, by decide +kernel⟩
abbrev S_never : Stmt := top 36
abbrev N_never : List Str := []
theorem sc_never : FnScope N_never [] (defScope S_never) := ⟨rfl, rfl, rfl, by decide +kernel, rfl, by decide +kernel, by decide +kernel⟩
abbrev S_sure : Stmt := top 37
abbrev N_sure : List Str := ["test"]
theorem sc_sure : FnScope N_sure ["test"] (defScope S_sure) := ⟨rfl, rfl, rfl, by decide +kernel, rfl, by decide +kernel, by decide +kernel⟩
abbrev S_Shape_init : Stmt := inClass (top 49) 0
abbrev N_Shape_init : List Str := ["self", "columns", "checks", "keys", "column", "names", "test"]
theorem sc_Shape_init : FnScope N_Shape_init ["self", "columns", "checks", "keys"] (defScope S_Shape_init) := ⟨rfl, rfl, rfl, by decide +kernel, rfl, by decide +kernel, by decide +kernel⟩
abbrev S_is_short : Stmt := top 50
abbrev N_is_short : List Str := ["thing", "least", "most"]
theorem sc_is_short : FnScope N_is_short ["thing", "least", "most"] (defScope S_is_short) := ⟨rfl, rfl, rfl, by decide +kernel, rfl, by decide +kernel, by decide +kernel⟩
abbrev S_is_column : Stmt := top 51
abbrev N_is_column : List Str := ["thing", "right_kind"]
theorem sc_is_column : FnScope N_is_column ["thing"] (defScope S_is_column) := ⟨rfl, rfl, rfl, by decide +kernel, rfl, by decide +kernel, by decide +kernel⟩
abbrev S_need_columns : Stmt := top 52
abbrev N_need_columns : List Str := ["columns", "names", "at", "column"]
theorem sc_need_columns : FnScope N_need_columns ["columns"] (defScope S_need_columns) := ⟨rfl, rfl, rfl, by decide +kernel, rfl, by decide +kernel, by decide +kernel⟩
abbrev S_need_checks : Stmt := top 53
abbrev N_need_checks : List Str := ["spots", "checks", "at", "test"]
theorem sc_need_checks : FnScope N_need_checks ["spots", "checks"] (defScope S_need_checks) := ⟨rfl, rfl, rfl, by decide +kernel, rfl, by decide +kernel, by decide +kernel⟩
abbrev S_need_keys : Stmt := top 54
abbrev N_need_keys : List Str := ["spots", "keys", "at", "key"]
theorem sc_need_keys : FnScope N_need_keys ["spots", "keys"] (defScope S_need_keys) := ⟨rfl, rfl, rfl, by decide +kernel, rfl, by decide +kernel, by decide +kernel⟩
abbrev S_is_fitting : Stmt := top 57
abbrev N_is_fitting : List Str := ["spots", "thing", "atom"]
theorem sc_is_fitting : FnScope N_is_fitting ["spots", "thing"] (defScope S_is_fitting) := ⟨rfl, rfl, rfl, by decide +kernel, rfl, by decide +kernel, by decide +kernel⟩
abbrev S_atom_fits : Stmt := top 58
abbrev N_atom_fits : List Str := ["spots", "atom", "kinds", "name", "value"]
theorem sc_atom_fits : FnScope N_atom_fits ["spots", "atom"] (defScope S_atom_fits) := ⟨rfl, rfl, rfl, by decide +kernel, rfl, by decide +kernel, by decide +kernel⟩
abbrev S_fits : Stmt := top 60
abbrev N_fits : List Str := ["shape", "test"]
theorem sc_fits : FnScope N_fits ["shape", "test"] (defScope S_fits) := ⟨rfl, rfl, rfl, by decide +kernel, rfl, by decide +kernel, by decide +kernel⟩
abbrev S_need_test : Stmt := top 61
abbrev N_need_test : List Str := ["shape", "thing"]
theorem sc_need_test : FnScope N_need_test ["shape", "thing"] (defScope S_need_test) := ⟨rfl, rfl, rfl, by decide +kernel, rfl, by decide +kernel, by decide +kernel⟩
abbrev S__law_begin : Stmt := top 63
abbrev N__law_begin : List Str := ["_law_script"]
theorem sc__law_begin : FnScope N__law_begin ["_law_script"] (defScope S__law_begin) := ⟨rfl, rfl, rfl, by decide +kernel, rfl, by decide +kernel, by decide +kernel⟩
abbrev S__law_take : Stmt := top 64
abbrev N__law_take : List Str := ["_law_draw", "_law_many", "_law_cell", "_law_digit", "_law_mixed"]
theorem sc__law_take : FnScope N__law_take ["_law_draw", "_law_many"] (defScope S__law_take) := ⟨rfl, rfl, rfl, by decide +kernel, rfl, by decide +kernel, by decide +kernel⟩
abbrev S__law_is_integer : Stmt := top 65
abbrev N__law_is_integer : List Str := ["_law_thing_here"]
theorem sc__law_is_integer : FnScope N__law_is_integer ["_law_thing_here"] (defScope S__law_is_integer) := ⟨rfl, rfl, rfl, by decide +kernel, rfl, by decide +kernel, by decide +kernel⟩
abbrev S__law_chars : Stmt := top 66
abbrev N__law_chars : List Str := ["_law_chars_here"]
theorem sc__law_chars : FnScope N__law_chars [] (defScope S__law_chars) := ⟨rfl, rfl, rfl, by decide +kernel, rfl, by decide +kernel, by decide +kernel⟩
abbrev S__law_is_text : Stmt := top 67
abbrev N__law_is_text : List Str := ["_law_thing_here", "_law_char"]
theorem sc__law_is_text : FnScope N__law_is_text ["_law_thing_here"] (defScope S__law_is_text) := ⟨rfl, rfl, rfl, by decide +kernel, rfl, by decide +kernel, by decide +kernel⟩
abbrev S__law_is_value : Stmt := top 68
abbrev N__law_is_value : List Str := ["_law_kind_here", "_law_thing_here"]
theorem sc__law_is_value : FnScope N__law_is_value ["_law_kind_here", "_law_thing_here"] (defScope S__law_is_value) := ⟨rfl, rfl, rfl, by decide +kernel, rfl, by decide +kernel, by decide +kernel⟩
abbrev S__law_number : Stmt := top 69
abbrev N__law_number : List Str := ["_law_draw", "_law_choice"]
theorem sc__law_number : FnScope N__law_number ["_law_draw"] (defScope S__law_number) := ⟨rfl, rfl, rfl, by decide +kernel, rfl, by decide +kernel, by decide +kernel⟩
abbrev S__law_text : Stmt := top 70
abbrev N__law_text : List Str := ["_law_draw", "_law_chars_here", "_law_size", "_law_k"]
theorem sc__law_text : FnScope N__law_text ["_law_draw"] (defScope S__law_text) := ⟨rfl, rfl, rfl, by decide +kernel, rfl, by decide +kernel, by decide +kernel⟩
abbrev S__law_value : Stmt := top 71
abbrev N__law_value : List Str := ["_law_draw", "_law_kind_here"]
theorem sc__law_value : FnScope N__law_value ["_law_draw", "_law_kind_here"] (defScope S__law_value) := ⟨rfl, rfl, rfl, by decide +kernel, rfl, by decide +kernel, by decide +kernel⟩
abbrev S__law_name : Stmt := top 72
abbrev N__law_name : List Str := ["_law_draw", "_law_taken", "_law_letters", "_law_signs", "_law_name_here", "_law_k", "_law_kept"]
theorem sc__law_name : FnScope N__law_name ["_law_draw", "_law_taken"] (defScope S__law_name) := ⟨rfl, rfl, rfl, by decide +kernel, rfl, by decide +kernel, by decide +kernel⟩
abbrev S__law_columns : Stmt := top 73
abbrev N__law_columns : List Str := ["_law_draw", "_law_most", "_law_names", "_law_columns_here", "_law_k", "_law_name_here", "_law_kind_here"]
theorem sc__law_columns : FnScope N__law_columns ["_law_draw", "_law_most"] (defScope S__law_columns) := ⟨rfl, rfl, rfl, by decide +kernel, rfl, by decide +kernel, by decide +kernel⟩
abbrev S__law_atom : Stmt := top 74
abbrev N__law_atom : List Str := ["_law_draw", "_law_columns_here", "_law_column", "_law_name_here", "_law_kind_here", "_law_op_here", "_law_choice", "_law_others", "_law_added", "_law_one", "_law_k"]
theorem sc__law_atom : FnScope N__law_atom ["_law_draw", "_law_columns_here"] (defScope S__law_atom) := ⟨rfl, rfl, rfl, by decide +kernel, rfl, by decide +kernel, by decide +kernel⟩
abbrev S__law_wrapped : Stmt := top 75
abbrev N__law_wrapped : List Str := ["_law_form_here", "_law_choice"]
theorem sc__law_wrapped : FnScope N__law_wrapped ["_law_form_here", "_law_choice"] (defScope S__law_wrapped) := ⟨rfl, rfl, rfl, by decide +kernel, rfl, by decide +kernel, by decide +kernel⟩
abbrev S__law_form : Stmt := top 76
abbrev N__law_form : List Str := ["_law_draw", "_law_columns_here", "_law_most", "_law_pool", "_law_k", "_law_at", "_law_word", "_law_linked"]
theorem sc__law_form : FnScope N__law_form ["_law_draw", "_law_columns_here", "_law_most"] (defScope S__law_form) := ⟨rfl, rfl, rfl, by decide +kernel, rfl, by decide +kernel, by decide +kernel⟩
abbrev S__law_make : Stmt := top 77
abbrev N__law_make : List Str := ["_law_form_here", "_law_word"]
theorem sc__law_make : FnScope N__law_make ["_law_form_here"] (defScope S__law_make) := ⟨rfl, rfl, rfl, by decide +kernel, rfl, by decide +kernel, by decide +kernel⟩
abbrev S__law_atoms : Stmt := top 78
abbrev N__law_atoms : List Str := ["_law_form_here"]
theorem sc__law_atoms : FnScope N__law_atoms ["_law_form_here"] (defScope S__law_atoms) := ⟨rfl, rfl, rfl, by decide +kernel, rfl, by decide +kernel, by decide +kernel⟩
abbrev S__law_atom_names : Stmt := top 79
abbrev N__law_atom_names : List Str := ["_law_atom_here"]
theorem sc__law_atom_names : FnScope N__law_atom_names ["_law_atom_here"] (defScope S__law_atom_names) := ⟨rfl, rfl, rfl, by decide +kernel, rfl, by decide +kernel, by decide +kernel⟩
abbrev S__law_kind : Stmt := top 80
abbrev N__law_kind : List Str := ["_law_columns_here", "_law_name_here", "_law_column"]
theorem sc__law_kind : FnScope N__law_kind ["_law_columns_here", "_law_name_here"] (defScope S__law_kind) := ⟨rfl, rfl, rfl, by decide +kernel, rfl, by decide +kernel, by decide +kernel⟩
abbrev S__law_thing : Stmt := top 81
abbrev N__law_thing : List Str := ["_law_draw", "_law_choice"]
theorem sc__law_thing : FnScope N__law_thing ["_law_draw"] (defScope S__law_thing) := ⟨rfl, rfl, rfl, by decide +kernel, rfl, by decide +kernel, by decide +kernel⟩
abbrev S__law_op : Stmt := top 82
abbrev N__law_op : List Str := ["_law_draw"]
theorem sc__law_op : FnScope N__law_op ["_law_draw"] (defScope S__law_op) := ⟨rfl, rfl, rfl, by decide +kernel, rfl, by decide +kernel, by decide +kernel⟩
abbrev S__law_flag : Stmt := top 83
abbrev N__law_flag : List Str := ["_law_thing_here", "_law_due"]
theorem sc__law_flag : FnScope N__law_flag ["_law_thing_here", "_law_due"] (defScope S__law_flag) := ⟨rfl, rfl, rfl, by decide +kernel, rfl, by decide +kernel, by decide +kernel⟩
abbrev S__law_fits : Stmt := top 84
abbrev N__law_fits : List Str := ["_law_columns_here", "_law_form_here", "_law_atom_here", "_law_kinds", "_law_name_here", "_law_value_here"]
theorem sc__law_fits : FnScope N__law_fits ["_law_columns_here", "_law_form_here"] (defScope S__law_fits) := ⟨rfl, rfl, rfl, by decide +kernel, rfl, by decide +kernel, by decide +kernel⟩
abbrev S__law_odd_atom : Stmt := top 85
abbrev N__law_odd_atom : List Str := ["_law_draw", "_law_columns_here", "_law_name_here", "_law_other", "_law_foreign", "_law_choice", "_law_kind_here", "_law_column"]
theorem sc__law_odd_atom : FnScope N__law_odd_atom ["_law_draw", "_law_columns_here"] (defScope S__law_odd_atom) := ⟨rfl, rfl, rfl, by decide +kernel, rfl, by decide +kernel, by decide +kernel⟩
abbrev S__law_maybe_odd : Stmt := top 86
abbrev N__law_maybe_odd : List Str := ["_law_draw", "_law_columns_here", "_law_most", "_law_form_here", "_law_odd"]
theorem sc__law_maybe_odd : FnScope N__law_maybe_odd ["_law_draw", "_law_columns_here", "_law_most"] (defScope S__law_maybe_odd) := ⟨rfl, rfl, rfl, by decide +kernel, rfl, by decide +kernel, by decide +kernel⟩
abbrev S__law_needed : Stmt := top 87
abbrev N__law_needed : List Str := ["_law_shape", "_law_thing_here", "_law_told", "e"]
theorem sc__law_needed : FnScope N__law_needed ["_law_shape", "_law_thing_here"] (defScope S__law_needed) := ⟨rfl, rfl, rfl, by decide +kernel, rfl, by decide +kernel, by decide +kernel⟩
abbrev S_law : Stmt := top 88
abbrev N_law : List Str := ["_law_script", "_law_draw", "_law_columns_here", "_law_shape", "_law_k", "_law_form_here", "_law_test", "_law_due", "_law_why"]
theorem sc_law : FnScope N_law ["_law_script"] (defScope S_law) := ⟨rfl, rfl, rfl, by decide +kernel, rfl, by decide +kernel, by decide +kernel⟩
structure Txt (K : PySem.W.Frag) (mg : Str → Option Value) : Prop where
  h_isinstance : mg "isinstance" = none
  h_int : mg "int" = none
  h_bool : mg "bool" = none
  h_list : mg "list" = none
  h_tuple : mg "tuple" = none
  h_all : mg "all" = none
  h_str : mg "str" = none
  h_len : mg "len" = none
  h_sum : mg "sum" = none
  h_enumerate : mg "enumerate" = none
  h_range : mg "range" = none
  d_is_integer : ∃ f fd, Here K mg "is_integer" S_is_integer ["thing"] f fd
  d_is_sequence : ∃ f fd, Here K mg "is_sequence" S_is_sequence ["thing"] f fd
  d_is_text : ∃ f fd, Here K mg "is_text" S_is_text ["thing"] f fd
  d_is_name : ∃ f fd, Here K mg "is_name" S_is_name ["thing"] f fd
  d_kind_of : ∃ f fd, Here K mg "kind_of" S_kind_of ["value"] f fd
  d_is_value : ∃ f fd, Here K mg "is_value" S_is_value ["kind", "thing"] f fd
  d_Test_init : ∃ f fd, HereC K (cadr mg "Test") "Test.__init__" S_Test_init ["self", "word", "inner", "fields", "terms"] f fd
  d_Test_atoms : ∃ f fd, HereM K (cadr mg "Test") "atoms" "Test.atoms" S_Test_atoms ["self"] f fd
  d_Test_and : ∃ f fd, HereM K (cadr mg "Test") "__and__" "Test.__and__" S_Test_and ["self", "other"] f fd
  d_Test_or : ∃ f fd, HereM K (cadr mg "Test") "__or__" "Test.__or__" S_Test_or ["self", "other"] f fd
  d_Test_invert : ∃ f fd, HereM K (cadr mg "Test") "__invert__" "Test.__invert__" S_Test_invert ["self"] f fd
  d_size_of : ∃ f fd, Here K mg "size_of" S_size_of ["inner"] f fd
  d_depth_of : ∃ f fd, Here K mg "depth_of" S_depth_of ["inner"] f fd
  d_combined : ∃ f fd, Here K mg "combined" S_combined ["word", "inner"] f fd
  d_need_column : ∃ f fd, Here K mg "need_column" S_need_column ["thing"] f fd
  d_need_op : ∃ f fd, Here K mg "need_op" S_need_op ["thing"] f fd
  d_need_values : ∃ f fd, Here K mg "need_values" S_need_values ["thing"] f fd
  d_compare : ∃ f fd, Here K mg "compare" S_compare ["column", "op", "value"] f fd
  d_against : ∃ f fd, HereKw K mg "against" S_against ["column", "op", "other", "more"] 3 "more" (.int 0) f fd
  d_among : ∃ f fd, Here K mg "among" S_among ["column", "values"] f fd
  d_begins : ∃ f fd, Here K mg "begins" S_begins ["column", "prefix"] f fd
  d_empty : ∃ f fd, Here K mg "empty" S_empty ["column"] f fd
  d_always : ∃ f fd, Here K mg "always" S_always [] f fd
  d_never : ∃ f fd, Here K mg "never" S_never [] f fd
  d_sure : ∃ f fd, Here K mg "sure" S_sure ["test"] f fd
  d_Shape_init : ∃ f fd, HereCD K (cadr mg "Shape") "Shape.__init__" S_Shape_init ["self", "columns", "checks", "keys"] f fd
  d_is_short : ∃ f fd, Here K mg "is_short" S_is_short ["thing", "least", "most"] f fd
  d_is_column : ∃ f fd, Here K mg "is_column" S_is_column ["thing"] f fd
  d_need_columns : ∃ f fd, Here K mg "need_columns" S_need_columns ["columns"] f fd
  d_need_checks : ∃ f fd, Here K mg "need_checks" S_need_checks ["spots", "checks"] f fd
  d_need_keys : ∃ f fd, Here K mg "need_keys" S_need_keys ["spots", "keys"] f fd
  d_is_fitting : ∃ f fd, Here K mg "is_fitting" S_is_fitting ["spots", "thing"] f fd
  d_atom_fits : ∃ f fd, Here K mg "atom_fits" S_atom_fits ["spots", "atom"] f fd
  d_fits : ∃ f fd, Here K mg "fits" S_fits ["shape", "test"] f fd
  d_need_test : ∃ f fd, Here K mg "need_test" S_need_test ["shape", "thing"] f fd
  d__law_begin : ∃ f fd, Here K mg "_law_begin" S__law_begin ["_law_script"] f fd
  d__law_take : ∃ f fd, Here K mg "_law_take" S__law_take ["_law_draw", "_law_many"] f fd
  d__law_is_integer : ∃ f fd, Here K mg "_law_is_integer" S__law_is_integer ["_law_thing_here"] f fd
  d__law_chars : ∃ f fd, Here K mg "_law_chars" S__law_chars [] f fd
  d__law_is_text : ∃ f fd, Here K mg "_law_is_text" S__law_is_text ["_law_thing_here"] f fd
  d__law_is_value : ∃ f fd, Here K mg "_law_is_value" S__law_is_value ["_law_kind_here", "_law_thing_here"] f fd
  d__law_number : ∃ f fd, Here K mg "_law_number" S__law_number ["_law_draw"] f fd
  d__law_text : ∃ f fd, Here K mg "_law_text" S__law_text ["_law_draw"] f fd
  d__law_value : ∃ f fd, Here K mg "_law_value" S__law_value ["_law_draw", "_law_kind_here"] f fd
  d__law_name : ∃ f fd, Here K mg "_law_name" S__law_name ["_law_draw", "_law_taken"] f fd
  d__law_columns : ∃ f fd, Here K mg "_law_columns" S__law_columns ["_law_draw", "_law_most"] f fd
  d__law_atom : ∃ f fd, Here K mg "_law_atom" S__law_atom ["_law_draw", "_law_columns_here"] f fd
  d__law_wrapped : ∃ f fd, Here K mg "_law_wrapped" S__law_wrapped ["_law_form_here", "_law_choice"] f fd
  d__law_form : ∃ f fd, Here K mg "_law_form" S__law_form ["_law_draw", "_law_columns_here", "_law_most"] f fd
  d__law_make : ∃ f fd, Here K mg "_law_make" S__law_make ["_law_form_here"] f fd
  d__law_atoms : ∃ f fd, Here K mg "_law_atoms" S__law_atoms ["_law_form_here"] f fd
  d__law_atom_names : ∃ f fd, Here K mg "_law_atom_names" S__law_atom_names ["_law_atom_here"] f fd
  d__law_kind : ∃ f fd, Here K mg "_law_kind" S__law_kind ["_law_columns_here", "_law_name_here"] f fd
  d__law_thing : ∃ f fd, Here K mg "_law_thing" S__law_thing ["_law_draw"] f fd
  d__law_op : ∃ f fd, Here K mg "_law_op" S__law_op ["_law_draw"] f fd
  d__law_flag : ∃ f fd, Here K mg "_law_flag" S__law_flag ["_law_thing_here", "_law_due"] f fd
  d__law_fits : ∃ f fd, Here K mg "_law_fits" S__law_fits ["_law_columns_here", "_law_form_here"] f fd
  d__law_odd_atom : ∃ f fd, Here K mg "_law_odd_atom" S__law_odd_atom ["_law_draw", "_law_columns_here"] f fd
  d__law_maybe_odd : ∃ f fd, Here K mg "_law_maybe_odd" S__law_maybe_odd ["_law_draw", "_law_columns_here", "_law_most"] f fd
  d__law_needed : ∃ f fd, Here K mg "_law_needed" S__law_needed ["_law_shape", "_law_thing_here"] f fd
  x_BadTest : ∃ fI, PySem.ErBadTest.Err K mg (cadr mg "BadTest") fI
  is_Test : OwnIs K (cadr mg "Test")
  sf_Test : PySem.W.selfFirst K (cadr mg "Test") = true
  nr_Test_and : PySem.W.findIn K (.ref (cadr mg "Test")) (dunderR "and") = some none
  nr_Test_or : PySem.W.findIn K (.ref (cadr mg "Test")) (dunderR "or") = some none
  e_Test : mg "Test" = some (.ref (cadr mg "Test"))
  cl_Test : Cls K (cadr mg "Test")
  n_Test_word : NoAttr K (cadr mg "Test") "word"
  n_Test_inner : NoAttr K (cadr mg "Test") "inner"
  n_Test_fields : NoAttr K (cadr mg "Test") "fields"
  n_Test_terms : NoAttr K (cadr mg "Test") "terms"
  n_Test_size : NoAttr K (cadr mg "Test") "size"
  n_Test_depth : NoAttr K (cadr mg "Test") "depth"
  is_Shape : OwnIs K (cadr mg "Shape")
  sf_Shape : PySem.W.selfFirst K (cadr mg "Shape") = true
  nr_Shape_and : PySem.W.findIn K (.ref (cadr mg "Shape")) (dunderR "and") = some none
  nr_Shape_or : PySem.W.findIn K (.ref (cadr mg "Shape")) (dunderR "or") = some none
  e_Shape : mg "Shape" = some (.ref (cadr mg "Shape"))
  cl_Shape : Cls K (cadr mg "Shape")
  n_Shape_layout : NoAttr K (cadr mg "Shape") "layout"
  n_Shape_spots : NoAttr K (cadr mg "Shape") "spots"
  n_Shape_check_tests : NoAttr K (cadr mg "Shape") "check_tests"
  n_Shape_key_rules : NoAttr K (cadr mg "Shape") "key_rules"
  k_SIGNS : ∃ t, mg "SIGNS" = some (.str C_SIGNS t)
  k_LONGEST_NAME : ∃ t, mg "LONGEST_NAME" = some (.int 8 t)
  k_LETTERS : ∃ t, mg "LETTERS" = some (.str C_LETTERS t)
  k_WORDS : ∃ a, mg "WORDS" = some (.ref a) ∧ ∀ H : Hp, SqT K H a C_WORDS
  k_NAME_SIGNS : ∃ t, mg "NAME_SIGNS" = some (.str C_NAME_SIGNS t)
  k_MOST_ATOMS : ∃ t, mg "MOST_ATOMS" = some (.int 24 t)
  k_MOST_LEVELS : ∃ t, mg "MOST_LEVELS" = some (.int 12 t)
  k_OPS : ∃ a, mg "OPS" = some (.ref a) ∧ ∀ H : Hp, SqT K H a C_OPS
  k_MOST_VALUES : ∃ t, mg "MOST_VALUES" = some (.int 8 t)
  k_KINDS : ∃ a, mg "KINDS" = some (.ref a) ∧ ∀ H : Hp, SqT K H a C_KINDS
  k_MOST_COLUMNS : ∃ t, mg "MOST_COLUMNS" = some (.int 12 t)
  k_MOST_RULES : ∃ t, mg "MOST_RULES" = some (.int 9 t)
def signs : Str := Str.ofString " !\"#$&'()*+,-./0123456789:;<=>?@ABCDEFGHIJKLMNOPQRSTUVWXYZ[\\]^_`abcdefghijklmnopqrstuvwxyz{|}~"
/-! an atomic test -/
/-- what stands in a test, in the order in which it was put there -/
def tf (w : Str) (i f t : Addr) (n d : Int) : List (Str × V) := [("word", .str w), ("inner", .ref i), ("fields", .ref f), ("terms", .ref t), ("size", .int n), ("depth", .int d)]
theorem putF_new : ∀ {l : List (Str × V)} {k : Str} {v : V} (ks : List Str), l.map (·.1) = ks → k ∉ ks → putF k v l = l ++ [(k, v)]
  | [], k, v, _, _, _ => rfl
  | (a, b) :: r, k, v, _, rfl, hk => by
    have h1 : ¬ a = k := fun e => hk (by rw [e]; exact List.mem_cons_self)
    have h2 := putF_new (l := r) (k := k) (v := v) _ rfl (fun e => hk (List.mem_cons_of_mem _ e))
    show (if a = k then (a, v) :: r else (a, b) :: putF k v r) = _
    rw [if_neg h1, h2]
    rfl
theorem lt_put : ∀ {l : List (Str × V)} {k : Str} {v : V} {n : Nat}, l.length < n → (putF k v l).length < n + 1
  | [], k, v, n, h => Nat.succ_lt_succ h
  | (a, b) :: r, k, v, n, h => by
    show (if a = k then (a, v) :: r else (a, b) :: putF k v r).length < n + 1
    split
    · exact Nat.lt_succ_of_lt h
    · cases n with
      | zero => exact absurd h (Nat.not_lt_zero _)
      | succ n => exact Nat.succ_lt_succ (lt_put (Nat.lt_of_succ_lt_succ h))
structure AtomAt (C : Addr) (H : Hp) (p : Addr) (w : Str) (fs : List Str) (ts : List V) : Prop where
  ex : ∃ dx i f t, H p = some (.ins C dx (tf w i f t 1 0)) ∧ H i = some (.tup []) ∧ H f = some (.tup (fs.map V.str)) ∧ H t = some (.tup ts)
theorem AtomAt.keep {C : Addr} {H H' : Hp} {p : Addr} {w : Str} {fs : List Str} {ts : List V} (A : AtomAt C H p w fs ts) (k : ∀ q o, H q = some o → H' q = some o) : AtomAt C H' p w fs ts := by
  obtain ⟨dx, i, f, t, a, b, c, d⟩ := A.ex
  exact ⟨dx, i, f, t, k _ _ a, k _ _ b, k _ _ c, k _ _ d⟩
theorem tf_word {w : Str} {i f t : Addr} {n d : Int} : (tf w i f t n d).lookup ("word" : Str) = some (.str w) := by rfl
theorem tf_inner {w : Str} {i f t : Addr} {n d : Int} : (tf w i f t n d).lookup ("inner" : Str) = some (.ref i) := by rfl
theorem tf_fields {w : Str} {i f t : Addr} {n d : Int} : (tf w i f t n d).lookup ("fields" : Str) = some (.ref f) := by rfl
theorem tf_terms {w : Str} {i f t : Addr} {n d : Int} : (tf w i f t n d).lookup ("terms" : Str) = some (.ref t) := by rfl
theorem tf_size {w : Str} {i f t : Addr} {n d : Int} : (tf w i f t n d).lookup ("size" : Str) = some (.int n) := by rfl
theorem tf_depth {w : Str} {i f t : Addr} {n d : Int} : (tf w i f t n d).lookup ("depth" : Str) = some (.int d) := by rfl
theorem tf_atoms {w : Str} {i f t : Addr} {n d : Int} : (tf w i f t n d).lookup ("atoms" : Str) = none := by rfl
theorem tf_names {w : Str} {i f t : Addr} {n d : Int} : (tf w i f t n d).lookup ("names" : Str) = none := by rfl
theorem tf_truth {w : Str} {i f t : Addr} {n d : Int} : (tf w i f t n d).lookup ("truth" : Str) = none := by rfl
theorem upd2 {H : Hp} {p : Addr} {a b : HO} : upd (upd H p a) p b = upd H p b := by
  funext q
  by_cases h : q = p
  · subst h; rw [upd_same, upd_same]
  · rw [upd_ne h, upd_ne h, upd_ne h]
/-! tests as trees -/
inductive Ts where
  | at (w : Str) (fs : List Str) (ts : List V)
  | un (w : Str) (a : Ts)
  | bi (w : Str) (a b : Ts)
namespace Ts
def word : Ts → Str
  | .at w _ _ => w
  | .un w _ => w
  | .bi w _ _ => w
def kids : Ts → List Ts
  | .at _ _ _ => []
  | .un _ a => [a]
  | .bi _ a b => [a, b]
def flds : Ts → List Str
  | .at _ fs _ => fs
  | _ => []
def trms : Ts → List V
  | .at _ _ ts => ts
  | _ => []
def size : Ts → Nat
  | .at _ _ _ => 1
  | .un _ a => a.size
  | .bi _ a b => a.size + b.size
def depth : Ts → Nat
  | .at _ _ _ => 0
  | .un _ a => a.depth + 1
  | .bi _ a b => max a.depth b.depth + 1
def atoms : Ts → List Ts
  | .at w fs ts => [.at w fs ts]
  | .un _ a => a.atoms
  | .bi _ a b => a.atoms ++ b.atoms
theorem size_pos : ∀ t : Ts, 0 < t.size
  | .at _ _ _ => Nat.one_pos
  | .un _ a => a.size_pos
  | .bi _ a b => Nat.add_pos_left a.size_pos _
theorem atoms_len : ∀ t : Ts, t.atoms.length = t.size
  | .at _ _ _ => rfl
  | .un _ a => a.atoms_len
  | .bi _ a b => by
    show (a.atoms ++ b.atoms).length = a.size + b.size
    rw [List.length_append, a.atoms_len, b.atoms_len]
theorem kids_depth {t k : Ts} (h : k ∈ t.kids) : k.depth < t.depth := by
  cases t with
  | «at» w fs ts => exact nomatch h
  | un w a =>
    obtain rfl : k = a := by simpa [kids] using h
    exact Nat.lt_succ_self _
  | bi w a b =>
    have h : k = a ∨ k = b := by simpa [kids] using h
    show k.depth < max a.depth b.depth + 1
    rcases h with rfl | rfl <;> omega
theorem atoms_kids {t : Ts} (h : t.kids ≠ []) : t.atoms = t.kids.flatMap atoms := by
  cases t with
  | «at» w fs ts => exact absurd rfl h
  | un w a => simp [kids, atoms]
  | bi w a b => simp [kids, atoms]
theorem size_kids {t : Ts} (h : t.kids ≠ []) : t.size = (t.kids.map size).sum := by
  cases t with
  | «at» w fs ts => exact absurd rfl h
  | un w a => simp [kids, size]
  | bi w a b => simp [kids, size]
theorem kids_len (t : Ts) : t.kids.length ≤ 2 := by cases t <;> simp [kids]
end Ts
/-- the tests ts stand at the places qs, one by one -/
inductive Row (R : Ts → Addr → Prop) : List Ts → List Addr → Prop
  | nil : Row R [] []
  | cons {t : Ts} {q : Addr} {ts : List Ts} {qs : List Addr} (h : R t q) (r : Row R ts qs) : Row R (t :: ts) (q :: qs)
theorem Row.mono {R S : Ts → Addr → Prop} (h : ∀ t q, R t q → S t q) : ∀ {ts : List Ts} {qs : List Addr}, Row R ts qs → Row S ts qs
  | _, _, .nil => .nil
  | _, _, .cons a r => .cons (h _ _ a) (r.mono h)
theorem Row.len {R : Ts → Addr → Prop} : ∀ {ts : List Ts} {qs : List Addr}, Row R ts qs → qs.length = ts.length
  | _, _, .nil => rfl
  | _, _, .cons _ r => congrArg (· + 1) r.len
theorem Row.app {R : Ts → Addr → Prop} : ∀ {ts us : List Ts} {qs ps : List Addr}, Row R ts qs → Row R us ps → Row R (ts ++ us) (qs ++ ps)
  | _, _, _, _, .nil, s => s
  | _, _, _, _, .cons a r, s => .cons a (r.app s)
theorem Row.get {R : Ts → Addr → Prop} : ∀ {ts : List Ts} {qs : List Addr} {i : Nat} {q : Addr}, Row R ts qs → qs[i]? = some q → ∃ t, ts[i]? = some t ∧ R t q
  | _, _, i, _, .nil, h => by simp at h
  | _, _, 0, _, .cons a r, h => by
    simp at h
    subst h
    exact ⟨_, rfl, a⟩
  | _, _, i + 1, _, .cons a r, h => by
    simp at h
    obtain ⟨t, e, x⟩ := r.get h
    exact ⟨t, by simpa using e, x⟩
/-- a test stands at p -/
def TestAt (C : Addr) (H : Hp) : Ts → Addr → Prop
  | .at w fs ts, p => AtomAt C H p w fs ts
  | .un w a, p => ∃ dx i f t q, H p = some (.ins C dx (tf w i f t a.size (a.depth + 1 : Nat))) ∧ H i = some (.tup [.ref q]) ∧ H f = some (.tup []) ∧ H t = some (.tup []) ∧ TestAt C H a q
  | .bi w a b, p => ∃ dx i f t q r, H p = some (.ins C dx (tf w i f t (a.size + b.size : Nat) (max a.depth b.depth + 1 : Nat))) ∧ H i = some (.tup [.ref q, .ref r]) ∧ H f = some (.tup []) ∧ H t = some (.tup []) ∧ TestAt C H a q ∧ TestAt C H b r
theorem TestAt.keep {C : Addr} {H H' : Hp} (k : ∀ q o, H q = some o → H' q = some o) : ∀ {t : Ts} {p : Addr}, TestAt C H t p → TestAt C H' t p
  | .at _ _ _, _, h => AtomAt.keep h k
  | .un _ a, _, ⟨dx, i, f, t, q, h1, h2, h3, h4, h5⟩ => ⟨dx, i, f, t, q, k _ _ h1, k _ _ h2, k _ _ h3, k _ _ h4, TestAt.keep k h5⟩
  | .bi _ a b, _, ⟨dx, i, f, t, q, r, h1, h2, h3, h4, h5, h6⟩ => ⟨dx, i, f, t, q, r, k _ _ h1, k _ _ h2, k _ _ h3, k _ _ h4, TestAt.keep k h5, TestAt.keep k h6⟩
theorem tf_ne {w : Str} {i f t : Addr} {n d : Int} : tf w i f t n d ≠ [] := by unfold tf; exact List.cons_ne_nil _ _
theorem AtomAt.keepN {C : Addr} {H H' : Hp} {p q : Addr} {w : Str} {fs : List Str} {ts : List V} (k : ∀ b o, b ≠ p → H b = some o → H' b = some o) (n : ∀ o, H p = some o → (∀ dx l, o = .ins C dx l → l = []) ∧ ∀ l, o ≠ .tup l) (A : AtomAt C H q w fs ts) : AtomAt C H' q w fs ts := by
  obtain ⟨dx, i, f, t, a, b, c, d⟩ := A.ex
  have nt : ∀ {b : Addr} {l : List V}, H b = some (.tup l) → b ≠ p := fun h z => (n _ (by rw [← z]; exact h)).2 _ rfl
  exact ⟨dx, i, f, t, k _ _ (fun z => tf_ne ((n _ (by rw [← z]; exact a)).1 _ _ rfl)) a, k _ _ (nt b) b, k _ _ (nt c) c, k _ _ (nt d) d⟩
/-- a change at a place at which no test and no tuple stands -/
theorem TestAt.keepN {C : Addr} {H H' : Hp} {p : Addr} (k : ∀ b o, b ≠ p → H b = some o → H' b = some o) (n : ∀ o, H p = some o → (∀ dx l, o = .ins C dx l → l = []) ∧ ∀ l, o ≠ .tup l) : ∀ {t : Ts} {q : Addr}, TestAt C H t q → TestAt C H' t q
  | .at _ _ _, _, h => AtomAt.keepN k n h
  | .un _ a, _, ⟨dx, i, f, t, q, h1, h2, h3, h4, h5⟩ =>
    have nt : ∀ {b : Addr} {l : List V}, H b = some (.tup l) → b ≠ p := fun h z => (n _ (by rw [← z]; exact h)).2 _ rfl
    ⟨dx, i, f, t, q, k _ _ (fun z => tf_ne ((n _ (by rw [← z]; exact h1)).1 _ _ rfl)) h1, k _ _ (nt h2) h2, k _ _ (nt h3) h3, k _ _ (nt h4) h4, TestAt.keepN k n h5⟩
  | .bi _ a b, _, ⟨dx, i, f, t, q, r, h1, h2, h3, h4, h5, h6⟩ =>
    have nt : ∀ {b : Addr} {l : List V}, H b = some (.tup l) → b ≠ p := fun h z => (n _ (by rw [← z]; exact h)).2 _ rfl
    ⟨dx, i, f, t, q, r, k _ _ (fun z => tf_ne ((n _ (by rw [← z]; exact h1)).1 _ _ rfl)) h1, k _ _ (nt h2) h2, k _ _ (nt h3) h3, k _ _ (nt h4) h4, TestAt.keepN k n h5, TestAt.keepN k n h6⟩
/-- what stands at a test, of whatever form it is -/
theorem TestAt.node {C : Addr} {H : Hp} : ∀ {t : Ts} {p : Addr}, TestAt C H t p → ∃ dx i f u qs, H p = some (.ins C dx (tf t.word i f u t.size t.depth)) ∧ H i = some (.tup (qs.map V.ref)) ∧ H f = some (.tup (t.flds.map V.str)) ∧ H u = some (.tup t.trms) ∧ Row (TestAt C H) t.kids qs
  | .at _ _ _, _, h => by
    obtain ⟨dx, i, f, u, h1, h2, h3, h4⟩ := AtomAt.ex h
    exact ⟨dx, i, f, u, [], h1, h2, h3, h4, .nil⟩
  | .un _ a, _, ⟨dx, i, f, u, q, h1, h2, h3, h4, h5⟩ => ⟨dx, i, f, u, [q], h1, h2, h3, h4, .cons h5 .nil⟩
  | .bi _ a b, _, ⟨dx, i, f, u, q, r, h1, h2, h3, h4, h5, h6⟩ => ⟨dx, i, f, u, [q, r], h1, h2, h3, h4, .cons h5 (.cons h6 .nil)⟩
/-- the test of a word and its parts -/
def mkT (w : Str) (fs : List Str) (ts : List V) : List Ts → Ts
  | [] => .at w fs ts
  | [a] => .un w a
  | a :: b :: _ => .bi w a b
def sizeK (ks : List Ts) : Nat := if ks = [] then 1 else (ks.map Ts.size).sum
def depthK (ks : List Ts) : Nat := ks.foldl (fun d k => if d ≤ k.depth then k.depth + 1 else d) 0
def spSizeK (C : Addr) : Sp := fun vs H Q _ => ∃ (i : Addr) (ks : List Ts) (qs : List Addr), vs = [.ref i] ∧ H i = some (.tup (qs.map V.ref)) ∧ Row (TestAt C H) ks qs ∧ ks.length ≤ 1000 ∧ ∀ H', (∀ q o, H q = some o → H' q = some o) → Q (.int (sizeK ks : Nat)) H'
def spDepthK (C : Addr) : Sp := fun vs H Q _ => ∃ (i : Addr) (ks : List Ts) (qs : List Addr), vs = [.ref i] ∧ H i = some (.tup (qs.map V.ref)) ∧ Row (TestAt C H) ks qs ∧ Q (.int (depthK ks : Nat)) H
section
variable {P : Program} {w : World} {K : PySem.W.Frag} {mg : Str → Option Value} {base : Heap}
theorem ok_size_of (T : Txt K mg) : Def P w K mg base 1 "size_of" ["inner"] (spSizeK (cadr mg "Test")) := by
  obtain ⟨f, fd, h⟩ := T.d_size_of
  refine h.def (Fun.okM h.fn sc_size_of (fun vs H Q E h => ?_) (fun cdv A outer s H vs Q E hr h => ?_))
  · obtain ⟨i, ks, qs, rfl, _⟩ := h
    rfl
  · obtain ⟨i, ks, qs, rfl, hi, hR, hl, k⟩ := h
    refine ⟨_, (pss_cons (ps_if (pt_cmpR op_eq (pe_callB (call_lenG (K := K) rfl) (by rfl) T.h_len (by decide +kernel) (pa_cons (pv 0) pa_nil)) pe_int (nomark _))
  (pss_one (ps_ret pe_int))
  pss_nil)
  (pss_one (ps_ret (pe_callB (cr_sum rfl) (by rfl) T.h_sum (by decide +kernel) (pa_cons (pe_lc (own := [("part", 1)]) rfl sc_size_of.nd (pi_tupG (K := K) rfl (pv 0)) (blkOk_by (N := N_size_of) (sc := defScope S_size_of) (by decide +kernel)) (fun _ _ _ _ _ => pg_name (i := 1) sc_size_of.nd rfl (Or.inl rfl)) (fun _ _ _ _ _ => pts_nil) (fun _ _ _ _ _ => (pe_fldG (K := K) rfl (pv 1) rfl))) pa_nil))))), ?_⟩
    have hlen := hR.len
    walk_at "g"
    refine g_lenT (SqT.of hi) ?_
    walk_at "g"
    refine g_dec (fun h0 => ?_) (fun h0 => ?_)
    · walk_at "g"
      have e : ks = [] := List.length_eq_zero_iff.mp (by rw [List.length_map] at h0; omega)
      have := k H fun _ _ h => h
      rw [show (sizeK ks : Nat) = 1 by unfold sizeK; rw [if_pos e]] at this
      exact this
    · walk_at "g"
      have ne : ks ≠ [] := fun e => h0 (by rw [e] at hlen; rw [List.length_map, hlen]; rfl)
      refine ⟨i, rfl, ⟨_, SqT.of hi⟩, fun D hD => ?_⟩
      refine lc_tup (K := K) (a := i) (xs := qs.map V.ref) (fun j H' => H' D = some (.lst ((((ks.take j).map Ts.size).map fun n : Nat => (n : Int)).map V.int)) ∧ ∀ q o, H q = some o → H' q = some o) ⟨upd_same, fun q o h => by rw [upd_ne (ne_of_none h hD)]; exact h⟩ (fun j H' _ p => SqT.of (p.2 _ _ hi)) ?_ ?_
      · rintro j x H2 hj ⟨hD2, k2⟩
        have hj2 : j < ks.length := by
          have := (List.getElem?_eq_some_iff.mp hj).1
          rw [List.length_map] at this; omega
        rw [List.getElem?_map] at hj
        obtain ⟨q, hq, rfl⟩ := Option.map_eq_some_iff.mp hj
        obtain ⟨t, ht, A⟩ := hR.get hq
        obtain ⟨dx, i1, f1, u1, qs1, hp, _⟩ := A.node
        walk_at "g"
        refine ⟨rfl, ?_⟩
        walk_at "g"
        refine ⟨q, _, dx, _, _, rfl, k2 _ _ hp, T.cl_Test, T.n_Test_size, tf_size, ?_⟩
        refine ⟨_, hD2, ?_, ?_, fun q o h => by rw [upd_ne (ne_of_none h hD)]; exact k2 q o h⟩
        · rw [List.length_map, List.length_map, List.length_map, List.length_take, sizeLine_eq]; omega
        · rw [upd_same, List.take_succ, ht, List.map_append, List.map_append, List.map_append]; rfl
      · rintro H2 ⟨hD2, k2⟩
        walk_at "g"
        rw [List.length_map, hlen, List.take_length] at hD2
        refine ⟨D, _, rfl, SqL.of hD2, ?_⟩
        have hsum : (((ks.map Ts.size).map fun n : Nat => (n : Int))).sum = ((sizeK ks : Nat) : Int) := by
          unfold sizeK
          rw [if_neg ne]
          generalize ks.map Ts.size = l
          induction l with
          | nil => rfl
          | cons a l ih => rw [List.map_cons, List.sum_cons, List.sum_cons, ih]; omega
        rw [hsum]
        walk_at "g"
        exact k _ k2
theorem ok_depth_of (T : Txt K mg) : Def P w K mg base 1 "depth_of" ["inner"] (spDepthK (cadr mg "Test")) := by
  obtain ⟨f, fd, h⟩ := T.d_depth_of
  refine h.def (Fun.okM h.fn sc_depth_of (fun vs H Q E h => ?_) (fun cdv A outer s H vs Q E hr h => ?_))
  · obtain ⟨i, ks, qs, rfl, _⟩ := h
    rfl
  · obtain ⟨i, ks, qs, rfl, hi, hR, k⟩ := h
    refine ⟨_, (pss_cons (ps_set (i := 1) sc_depth_of.nd rfl (Or.inl rfl) pe_int)
  (pss_cons (ps_for PassesOwn.never rfl (pi_tupG (K := K) rfl (pv 0)) (pg_name (i := 2) sc_depth_of.nd rfl (Or.inl rfl))
  (pss_one (ps_if (pt_cmpR op_geG (pe_fldG (K := K) rfl (pv 2) rfl) (pv 1) (nomark _))
  (pss_one (ps_set (i := 1) sc_depth_of.nd rfl (Or.inl rfl) (pe_op op_addG (pe_fldG (K := K) rfl (pv 2) rfl) pe_int)))
  pss_nil)))
  (pss_one (ps_ret (pv 1))))), ?_⟩
    have hlen := hR.len
    walk_at "g"
    refine ⟨i, rfl, ⟨_, SqT.of hi⟩, for_tupA (xs := qs.map V.ref) (fun j σ' H' => H' = H ∧ ∃ v, σ' = [some (.ref i), some (.int (depthK (ks.take j) : Nat)), v]) ⟨rfl, none, rfl⟩ (fun _ _ _ _ e => by rw [e.1]; exact SqT.of hi) ?_ ?_⟩
    · rintro j x σ' H2 D' hj ⟨rfl, v, rfl⟩ hnx hct hbk hrt
      rw [List.getElem?_map] at hj
      obtain ⟨q, hq, rfl⟩ := Option.map_eq_some_iff.mp hj
      obtain ⟨t, ht, A⟩ := hR.get hq
      obtain ⟨dx, i1, f1, u1, qs1, hp, _⟩ := A.node
      have e1 : depthK (ks.take (j + 1)) = if depthK (ks.take j) ≤ t.depth then t.depth + 1 else depthK (ks.take j) := by
        unfold depthK
        rw [List.take_succ, ht, List.foldl_append]
        rfl
      walk_at "g"
      refine ⟨q, _, dx, _, _, rfl, hp, T.cl_Test, T.n_Test_depth, tf_depth, ?_⟩
      walk_at "g"
      refine g_dec (fun hle => ?_) (fun hle => ?_)
      · walk_at "g"
        refine ⟨q, _, dx, _, _, rfl, hp, T.cl_Test, T.n_Test_depth, tf_depth, ?_⟩
        walk_at "g"
        refine hnx _ _ ⟨rfl, some (.ref q), ?_⟩
        rw [e1, if_pos (by omega)]
        rfl
      · walk_at "g"
        refine hnx _ _ ⟨rfl, some (.ref q), ?_⟩
        rw [e1, if_neg (by omega)]
        rfl
    · rintro σ' H2 ⟨rfl, v, rfl⟩
      walk_at "g"
      rw [List.length_map, hlen, List.take_length]
      exact k
/-- the maker of a test: word, parts, columns, terms -/
theorem ok_Test_init (T : Txt K mg) : DefC P w K mg base 2 (cadr mg "Test") ["self", "word", "inner", "fields", "terms"] (fun vs H Q _ => ∃ (p dx i f t : Addr) (w : Str) (ks : List Ts) (qs : List Addr), vs = [.ref p, .str w, .ref i, .ref f, .ref t] ∧ H p = some (.ins (cadr mg "Test") dx []) ∧
    H i = some (.tup (qs.map V.ref)) ∧ Row (TestAt (cadr mg "Test") H) ks qs ∧ ks.length ≤ 1000 ∧
    ∀ H', (∀ q o, q ≠ p → H q = some o → H' q = some o) → H' p = some (.ins (cadr mg "Test") dx (tf w i f t (sizeK ks : Nat) (depthK ks : Nat))) → Q .non H') := by
  obtain ⟨f, fd, h⟩ := T.d_Test_init
  refine h.def (Fun.okM h.fn sc_Test_init (fun vs H Q E h => ?_) (fun cdv A outer s H vs Q E hr h => ?_))
  · obtain ⟨p, dx, i, f, t, w, ks, qs, rfl, _⟩ := h
    rfl
  · obtain ⟨p, dx, i, f, t, w, ks, qs, rfl, hp, hi, hR, hl, k⟩ := h
    refine ⟨_, (pss_cons (ps_fld (pv 0) (pv 1) rfl)
  (pss_cons (ps_fld (pv 0) (pv 2) rfl)
  (pss_cons (ps_fld (pv 0) (pv 3) rfl)
  (pss_cons (ps_fld (pv 0) (pv 4) rfl)
  (pss_cons (ps_fld (pv 0) (pe_def (ok_size_of T) hr rfl (pa_cons (pv 2) pa_nil)) rfl)
  (pss_one (ps_fld (pv 0) (pe_def (ok_depth_of T) hr rfl (pa_cons (pv 2) pa_nil)) rfl))))))), ?_⟩
    have hip : i ≠ p := ne_of hi hp (by intro z; cases z)
    -- none of the tests that stand is the one that is made
    have other : ∀ {l : List (Str × V)} {u : Ts} {q : Addr}, TestAt (cadr mg "Test") H u q → TestAt (cadr mg "Test") (upd H p (.ins (cadr mg "Test") dx l)) u q := fun {l u q} h => by
      refine TestAt.keepN (p := p) (fun b o hb e => by rw [upd_ne hb]; exact e) (fun o e => ?_) h
      rw [hp] at e
      injection e with e
      subst e
      exact ⟨fun _ l z => by injection z with _ _ z; exact z.symm, fun l z => nomatch z⟩
    walk_at "g"
    refine ⟨p, _, dx, _, rfl, hp, T.cl_Test, T.n_Test_word, (by repeat (first | (with_reducible refine lt_put ?_) | decide)), ?_⟩
    walk_at "g"
    refine ⟨p, _, dx, _, rfl, upd_same, T.cl_Test, T.n_Test_inner, (by repeat (first | (with_reducible refine lt_put ?_) | decide)), ?_⟩
    rw [upd2]
    walk_at "g"
    refine ⟨p, _, dx, _, rfl, upd_same, T.cl_Test, T.n_Test_fields, (by repeat (first | (with_reducible refine lt_put ?_) | decide)), ?_⟩
    rw [upd2]
    walk_at "g"
    refine ⟨p, _, dx, _, rfl, upd_same, T.cl_Test, T.n_Test_terms, (by repeat (first | (with_reducible refine lt_put ?_) | decide)), ?_⟩
    rw [upd2]
    walk_at "g"
    refine ⟨i, ks, qs, rfl, by rw [upd_ne hip]; exact hi, hR.mono fun _ _ h => other h, hl, fun H2 k2 => ?_⟩
    have hp2 := k2 _ _ upd_same
    walk_at "g"
    refine ⟨p, _, dx, _, rfl, hp2, T.cl_Test, T.n_Test_size, (by repeat (first | (with_reducible refine lt_put ?_) | decide)), ?_⟩
    walk_at "g"
    have keepP : ∀ {l : List (Str × V)} {u : Ts} {q : Addr}, TestAt (cadr mg "Test") H u q → TestAt (cadr mg "Test") (upd H2 p (.ins (cadr mg "Test") dx l)) u q := fun {l u q} h => by
      refine TestAt.keepN (p := p) (fun b o hb e => by rw [upd_ne hb]; exact k2 _ _ (by rw [upd_ne hb]; exact e)) (fun o e => ?_) h
      rw [hp] at e
      injection e with e
      subst e
      exact ⟨fun _ l z => by injection z with _ _ z; exact z.symm, fun l z => nomatch z⟩
    refine ⟨i, ks, qs, rfl, ?_, hR.mono fun _ _ h => keepP h, ?_⟩
    · rw [upd_ne hip]
      exact k2 _ _ (by rw [upd_ne hip]; exact hi)
    walk_at "g"
    refine ⟨p, _, dx, _, rfl, upd_same, T.cl_Test, T.n_Test_depth, (by repeat (first | (with_reducible refine lt_put ?_) | decide)), ?_⟩
    rw [upd2]
    walk_at "g"
    refine k _ (fun q o hq e => ?_) upd_same
    rw [upd_ne hq]
    exact k2 _ _ (by rw [upd_ne hq]; exact e)
end
/-- the places of the atomic tests of a test, from the left -/
def TestAs (C : Addr) (H : Hp) : Ts → Addr → List Addr → Prop
  | .at w fs ts, p, as => AtomAt C H p w fs ts ∧ as = [p]
  | .un w a, p, as => ∃ dx i f t q, H p = some (.ins C dx (tf w i f t a.size (a.depth + 1 : Nat))) ∧ H i = some (.tup [.ref q]) ∧ H f = some (.tup []) ∧ H t = some (.tup []) ∧ TestAs C H a q as
  | .bi w a b, p, as => ∃ dx i f t q r xs ys, H p = some (.ins C dx (tf w i f t (a.size + b.size : Nat) (max a.depth b.depth + 1 : Nat))) ∧ H i = some (.tup [.ref q, .ref r]) ∧ H f = some (.tup []) ∧ H t = some (.tup []) ∧ TestAs C H a q xs ∧ TestAs C H b r ys ∧ as = xs ++ ys
theorem TestAs.keep {C : Addr} {H H' : Hp} (k : ∀ q o, H q = some o → H' q = some o) : ∀ {t : Ts} {p : Addr} {as : List Addr}, TestAs C H t p as → TestAs C H' t p as
  | .at _ _ _, _, _, h => ⟨AtomAt.keep h.1 k, h.2⟩
  | .un _ a, _, _, ⟨dx, i, f, t, q, h1, h2, h3, h4, h5⟩ => ⟨dx, i, f, t, q, k _ _ h1, k _ _ h2, k _ _ h3, k _ _ h4, TestAs.keep k h5⟩
  | .bi _ a b, _, _, ⟨dx, i, f, t, q, r, xs, ys, h1, h2, h3, h4, h5, h6, e⟩ => ⟨dx, i, f, t, q, r, xs, ys, k _ _ h1, k _ _ h2, k _ _ h3, k _ _ h4, TestAs.keep k h5, TestAs.keep k h6, e⟩
theorem TestAt.as {C : Addr} {H : Hp} : ∀ {t : Ts} {p : Addr}, TestAt C H t p → ∃ as, TestAs C H t p as
  | .at _ _ _, p, h => ⟨[p], h, rfl⟩
  | .un _ a, _, ⟨dx, i, f, t, q, h1, h2, h3, h4, h5⟩ =>
    let ⟨as, h⟩ := TestAt.as h5
    ⟨as, dx, i, f, t, q, h1, h2, h3, h4, h⟩
  | .bi _ a b, _, ⟨dx, i, f, t, q, r, h1, h2, h3, h4, h5, h6⟩ =>
    let ⟨xs, x⟩ := TestAt.as h5
    let ⟨ys, y⟩ := TestAt.as h6
    ⟨xs ++ ys, dx, i, f, t, q, r, xs, ys, h1, h2, h3, h4, x, y, rfl⟩
theorem TestAs.row {C : Addr} {H : Hp} : ∀ {t : Ts} {p : Addr} {as : List Addr}, TestAs C H t p as → Row (TestAt C H) t.atoms as
  | .at _ _ _, _, _, ⟨h, e⟩ => by subst e; exact .cons h .nil
  | .un _ a, _, _, h => by
    obtain ⟨_, _, _, _, _, _, _, _, _, h5⟩ := h
    exact TestAs.row (t := a) h5
  | .bi _ a b, _, _, h => by
    obtain ⟨_, _, _, _, _, _, _, _, _, _, _, _, h5, h6, e⟩ := h
    subst e
    exact (TestAs.row (t := a) h5).app (TestAs.row (t := b) h6)
/-- parts, their places, the places of their atomic tests -/
inductive Row3 (R : Ts → Addr → List Addr → Prop) : List Ts → List Addr → List (List Addr) → Prop
  | nil : Row3 R [] [] []
  | cons {t : Ts} {q : Addr} {as : List Addr} {ts : List Ts} {qs : List Addr} {ass : List (List Addr)} (h : R t q as) (r : Row3 R ts qs ass) : Row3 R (t :: ts) (q :: qs) (as :: ass)
theorem Row3.len {R : Ts → Addr → List Addr → Prop} : ∀ {ts : List Ts} {qs : List Addr} {ass : List (List Addr)}, Row3 R ts qs ass → qs.length = ts.length ∧ ass.length = ts.length
  | _, _, _, .nil => ⟨rfl, rfl⟩
  | _, _, _, .cons _ r => ⟨congrArg (· + 1) r.len.1, congrArg (· + 1) r.len.2⟩
theorem Row3.get {R : Ts → Addr → List Addr → Prop} : ∀ {ts : List Ts} {qs : List Addr} {ass : List (List Addr)} {i : Nat} {q : Addr}, Row3 R ts qs ass → qs[i]? = some q → ∃ t as, ts[i]? = some t ∧ ass[i]? = some as ∧ R t q as
  | _, _, _, i, _, .nil, h => by simp at h
  | _, _, _, 0, _, .cons a r, h => by
    simp at h
    subst h
    exact ⟨_, _, rfl, rfl, a⟩
  | _, _, _, i + 1, _, .cons a r, h => by
    simp at h
    obtain ⟨t, as, e1, e2, x⟩ := r.get h
    exact ⟨t, as, by simpa using e1, by simpa using e2, x⟩
theorem TestAs.node {C : Addr} {H : Hp} : ∀ {t : Ts} {p : Addr} {as : List Addr}, TestAs C H t p as → ∃ dx i f u qs ass, H p = some (.ins C dx (tf t.word i f u t.size t.depth)) ∧ H i = some (.tup (qs.map V.ref)) ∧ H f = some (.tup (t.flds.map V.str)) ∧ H u = some (.tup t.trms) ∧
    Row3 (TestAs C H) t.kids qs ass ∧ (t.kids = [] → as = [p]) ∧ (t.kids ≠ [] → as = ass.flatten)
  | .at _ _ _, _, _, ⟨h, e⟩ => by
    obtain ⟨dx, i, f, u, h1, h2, h3, h4⟩ := h.ex
    exact ⟨dx, i, f, u, [], [], h1, h2, h3, h4, .nil, fun _ => e, fun n => absurd rfl n⟩
  | .un _ a, _, as, ⟨dx, i, f, u, q, h1, h2, h3, h4, h5⟩ => ⟨dx, i, f, u, [q], [as], h1, h2, h3, h4, .cons h5 .nil, (fun e => nomatch e), fun _ => by simp⟩
  | .bi _ a b, _, as, ⟨dx, i, f, u, q, r, xs, ys, h1, h2, h3, h4, h5, h6, e⟩ => ⟨dx, i, f, u, [q, r], [xs, ys], h1, h2, h3, h4, .cons h5 (.cons h6 .nil), (fun e => nomatch e), fun _ => by simp [e]⟩
def spAtoms (C : Addr) (n : Nat) : Sp := fun vs H Q _ => ∃ (p : Addr) (t : Ts) (as : List Addr), vs = [.ref p] ∧ TestAs C H t p as ∧ t.depth ≤ n ∧ t.size ≤ 1000 ∧ ∀ l H', H l = none → (∀ q o, H q = some o → H' q = some o) → H' l = some (.lst (as.map V.ref)) → Q (.ref l) H'
theorem kid_size {t k : Ts} (h : k ∈ t.kids) : k.size ≤ t.size := by
  cases t with
  | «at» w fs ts => exact nomatch h
  | un w a =>
    obtain rfl : k = a := by simpa [Ts.kids] using h
    exact Nat.le_refl _
  | bi w a b =>
    have h : k = a ∨ k = b := by simpa [Ts.kids] using h
    show k.size ≤ a.size + b.size
    rcases h with rfl | rfl <;> omega
section
variable {P : Program} {w : World} {K : PySem.W.Frag} {mg : Str → Option Value} {base : Heap}
theorem ok_atomsN (T : Txt K mg) : ∀ n, DefM P w K mg base (n + 1) (cadr mg "Test") "atoms" ["self"] (spAtoms (cadr mg "Test") n) := by
  intro n
  induction n with
  | zero =>
    obtain ⟨f, fd, h⟩ := T.d_Test_atoms
    refine h.def (Fun.okM h.fn sc_Test_atoms (fun vs H Q E h => ?_) (fun cdv A outer s H vs Q E hr h => ?_))
    · obtain ⟨p, t, as, rfl, _⟩ := h
      rfl
    · obtain ⟨p, t, as, rfl, A1, hd, hz, k⟩ := h
      obtain ⟨dx, i, f, u, qs, ass, hp, hi, hf, hu, hR, e0, e1⟩ := A1.node
      refine ⟨_, (pss_cons (ps_if (pt_cmpR op_eq (pe_callB (call_lenG (K := K) rfl) (by rfl) T.h_len (by decide +kernel) (pa_cons (pe_fldG (K := K) rfl (pv 0) rfl) pa_nil)) pe_int (nomark _))
  (pss_one (ps_ret (pe_lst (pa_cons (pv 0) pa_nil))))
  pss_nil)
  (pss_one ps_never)), ?_⟩
      have hk : t.kids = [] := by
        cases t with
        | «at» => rfl
        | un w a => exact absurd hd (by show ¬ a.depth + 1 ≤ 0; omega)
        | bi w a b => exact absurd hd (by show ¬ max a.depth b.depth + 1 ≤ 0; omega)
      have hq : qs = [] := List.length_eq_zero_iff.mp (by rw [hR.len.1, hk]; rfl)
      subst hq
      walk_at "g"
      refine ⟨p, _, dx, _, _, rfl, hp, T.cl_Test, T.n_Test_inner, tf_inner, ?_⟩
      walk_at "g"
      refine g_lenT (SqT.of hi) ?_
      walk_at "g"
      refine g_T ?_
      walk_at "g"
      refine ⟨by show 1 ≤ sizeLine; decide, fun l hl => ?_⟩
      walk_at "g"
      refine k l _ hl (fun q o h => by rw [upd_ne (ne_of_none h hl)]; exact h) ?_
      rw [e0 hk]
      exact upd_same
  | succ n ih =>
    have ok_Test_atoms : Txt K mg → DefM P w K mg base (n + 1) (cadr mg "Test") "atoms" ["self"] (spAtoms (cadr mg "Test") n) := fun _ => ih
    obtain ⟨f, fd, h⟩ := T.d_Test_atoms
    refine h.def (Fun.okM h.fn sc_Test_atoms (fun vs H Q E h => ?_) (fun cdv A outer s H vs Q E hr h => ?_))
    · obtain ⟨p, t, as, rfl, _⟩ := h
      rfl
    · obtain ⟨p, t, as, rfl, A1, hd, hz, k⟩ := h
      obtain ⟨dx, i, f, u, qs, ass, hp, hi, hf, hu, hR, e0, e1⟩ := A1.node
      refine ⟨_, (pss_cons (ps_if (pt_cmpR op_eq (pe_callB (call_lenG (K := K) rfl) (by rfl) T.h_len (by decide +kernel) (pa_cons (pe_fldG (K := K) rfl (pv 0) rfl) pa_nil)) pe_int (nomark _))
  (pss_one (ps_ret (pe_lst (pa_cons (pv 0) pa_nil))))
  pss_nil)
  (pss_one (ps_ret (pe_lc2 (own := [("part", 1), ("atom", 2)]) (vs1 := [2]) rfl sc_Test_atoms.nd (pi_tupG (K := K) rfl (pe_fldG (K := K) rfl (pv 0) rfl)) (blkOk_by (N := N_Test_atoms) (sc := defScope S_Test_atoms) (by decide +kernel)) (by decide) (fun _ _ _ _ _ => pg_name (i := 1) sc_Test_atoms.nd rfl (Or.inl rfl)) (fun _ _ _ _ _ => pts_nil) (fun _ _ _ _ _ => (pi_listG (K := K) rfl (pe_me0 (pv 1) T.cl_Test (ok_Test_atoms T) hr (hk := by omega)))) (fun _ _ _ _ _ => pg_name (i := 2) sc_Test_atoms.nd rfl (Or.inl rfl)) (fun _ _ _ _ _ => pts_nil) (fun _ _ _ _ _ => (pv 2)))))), ?_⟩
      obtain ⟨hl1, hl2⟩ := hR.len
      walk_at "g"
      refine ⟨p, _, dx, _, _, rfl, hp, T.cl_Test, T.n_Test_inner, tf_inner, ?_⟩
      walk_at "g"
      refine g_lenT (SqT.of hi) ?_
      walk_at "g"
      refine g_dec (fun h0 => ?_) (fun h0 => ?_)
      · have hk : t.kids = [] := List.length_eq_zero_iff.mp (by rw [List.length_map] at h0; omega)
        walk_at "g"
        refine ⟨by show 1 ≤ sizeLine; decide, fun l hl => ?_⟩
        walk_at "g"
        refine k l _ hl (fun q o h => by rw [upd_ne (ne_of_none h hl)]; exact h) ?_
        rw [e0 hk]
        exact upd_same
      · have hk : t.kids ≠ [] := fun e => h0 (by rw [List.length_map, hl1, e]; rfl)
        walk_at "g"
        refine ⟨p, _, dx, _, _, rfl, hp, T.cl_Test, T.n_Test_inner, tf_inner, ?_⟩
        refine ⟨i, rfl, ⟨_, SqT.of hi⟩, fun D hD => ?_⟩
        have hfl : (List.range (qs.map V.ref).length).flatMap (fun j => (ass.getD j []).map V.ref) = as.map V.ref := by
          rw [e1 hk, List.length_map, hl1, ← hl2]
          clear e1 e0 hR hl2 A1 k
          induction ass with
          | nil => rfl
          | cons a r ih => rw [List.length_cons, List.range_succ_eq_map, List.flatMap_cons, List.flatMap_map, List.flatten_cons, List.map_append, ← ih]; rfl
        refine lc2_flatI (qs.map V.ref) (fun j => (ass.getD j []).map V.ref) hD (fun H2 k2 => fits_t (SqT.of (k2 _ _ hi))) ?_ (fun j x Hh R S hx hDn kh turn => ?_) (fun H2 k2 h2 => ?_)
        · rw [hfl, List.length_map, A1.row.len, Ts.atoms_len]; omega
        · rw [List.getElem?_map] at hx
          obtain ⟨q, hq, rfl⟩ := Option.map_eq_some_iff.mp hx
          obtain ⟨s1, a1, hs1, ha1, B⟩ := hR.get hq
          have hm := List.mem_of_getElem? hs1
          obtain ⟨dx2, i2, f2, u2, qs2, ass2, hp2, _⟩ := B.node
          walk_at "g"
          refine ⟨rfl, ?_⟩
          walk_at "g"
          refine ⟨q, dx2, _, rfl, kh _ _ hp2, tf_atoms, ?_⟩
          walk_at "g"
          have hsd := Ts.kids_depth hm
          have hsz := kid_size hm
          refine ⟨q, s1, a1, rfl, B.keep kh, by omega, by omega, fun l H3 hl3 k3 h3 => ?_⟩
          refine ⟨l, rfl, ⟨_, SqL.of h3⟩, turn _ _ _ k3 (fun H4 k4 => ?_) fun y Hk R1 S1 hy r => ?_⟩
          · have hlD : l ≠ D := fun z => hDn (by rw [← z]; exact hl3)
            have e : ass.getD j [] = a1 := by rw [List.getD_eq_getElem?_getD, ha1]; rfl
            rw [e]
            exact fits_l (SqL.of (k4 _ _ hlD h3))
          · walk_at "g"
            refine ⟨rfl, ?_⟩
            walk_at "g"
            exact r
        · walk_at "g"
          exact k D H2 hD k2 (by rw [h2, hfl])
end
theorem mkT_size {w : Str} {ks : List Ts} (h : ks.length ≤ 2) : (mkT w [] [] ks).size = sizeK ks := by
  match ks, h with
  | [], _ => rfl
  | [a], _ => simp [mkT, sizeK, Ts.size]
  | [a, b], _ => simp [mkT, sizeK, Ts.size]
theorem mkT_depth {w : Str} {ks : List Ts} (h : ks.length ≤ 2) : (mkT w [] [] ks).depth = depthK ks := by
  match ks, h with
  | [], _ => rfl
  | [a], _ => simp [mkT, depthK, Ts.depth]
  | [a, b], _ =>
    show max a.depth b.depth + 1 = _
    simp only [depthK, List.foldl_cons, List.foldl_nil, Nat.zero_le, if_true]
    split <;> omega
/-- a test stands where its word, its parts and their places do -/
theorem TestAt.made {C : Addr} {H : Hp} {p dx i f u : Addr} {w : Str} {ks : List Ts} {qs : List Addr} (hl : ks.length ≤ 2) (hp : H p = some (.ins C dx (tf w i f u (sizeK ks : Nat) (depthK ks : Nat)))) (hi : H i = some (.tup (qs.map V.ref))) (hf : H f = some (.tup [])) (hu : H u = some (.tup [])) (hR : Row (TestAt C H) ks qs) : TestAt C H (mkT w [] [] ks) p := by
  match ks, qs, hl, hR with
  | [], [], _, _ => exact ⟨dx, i, f, u, hp, hi, hf, hu⟩
  | [a], [q], _, .cons ha .nil => exact ⟨dx, i, f, u, q, by rw [hp]; simp [sizeK, depthK], hi, hf, hu, ha⟩
  | [a, b], [q, r], hl, .cons ha (.cons hb .nil) =>
    have e1 := mkT_size (w := w) hl
    have e2 := mkT_depth (w := w) hl
    refine ⟨dx, i, f, u, q, r, ?_, hi, hf, hu, ha, hb⟩
    rw [hp, ← e1, ← e2]
    rfl
/-- a thing's kind -/
inductive TyOf7 (H : Hp) : V → String → Prop
  | non : TyOf7 H .non "NoneType"
  | bl (b : Bool) : TyOf7 H (.bl b) "bool"
  | int (i : Int) : TyOf7 H (.int i) "int"
  | str (z : Str) : TyOf7 H (.str z) "str"
  | lst {p : Addr} {xs : List V} (h : H p = some (.lst xs)) : TyOf7 H (.ref p) "list"
  | tup {p : Addr} {xs : List V} (h : H p = some (.tup xs)) : TyOf7 H (.ref p) "tuple"
  | dct {p : Addr} {kvs : List (Key × V)} (h : H p = some (.dK kvs)) : TyOf7 H (.ref p) "dict"
theorem TyOf7.x {H : Hp} {v : V} {T : String} (h : TyOf7 H v T) (K : PySem.W.Frag) : TyX K H v (.type T) := by
  cases h with
  | non => exact .base .non
  | bl b => exact .base (.bl b)
  | int i => exact .base (.int i)
  | str z => exact .base (.str z)
  | lst h => exact .base (.lst h)
  | tup h => exact .base (.tup h)
  | dct h => exact .base (.dK h)
def xwhy (s : Str) : HO := .xd [(("why" : Str), .str s)]
/-- what combined, and what leads to it, does: a test, or one of two errors -/
def Outc (C CB : Addr) (t : Ts) (H : Hp) (Q : VK) (E : XK) : Prop :=
  (24 < t.size → ∀ d H', (∀ q o, H q = some o → H' q = some o) → H' d = some (xwhy "large") → E (.ref CB) (some d) H') ∧
  (t.size ≤ 24 → 12 < t.depth → ∀ d H', (∀ q o, H q = some o → H' q = some o) → H' d = some (xwhy "deep") → E (.ref CB) (some d) H') ∧
  (t.size ≤ 24 → t.depth ≤ 12 → ∀ p H', (∀ q o, H q = some o → H' q = some o) → TestAt C H' t p → Q (.ref p) H')
def spComb (C CB : Addr) : Sp := fun vs H Q E => ∃ (w : Str) (i : Addr) (ks : List Ts) (qs : List Addr), vs = [.str w, .ref i] ∧ H i = some (.tup (qs.map V.ref)) ∧ Row (TestAt C H) ks qs ∧ ks.length ≤ 2 ∧ Outc C CB (mkT w [] [] ks) H Q E
section
variable {P : Program} {w : World} {K : PySem.W.Frag} {mg : Str → Option Value} {base : Heap}
theorem ok_combined (T : Txt K mg) : DefX P w K mg base 4 "combined" ["word", "inner"] (spComb (cadr mg "Test") (cadr mg "BadTest")) := by
  obtain ⟨f, fd, h⟩ := T.d_combined
  obtain ⟨t_MOST_ATOMS, G_MOST_ATOMS⟩ := T.k_MOST_ATOMS
  obtain ⟨t_MOST_LEVELS, G_MOST_LEVELS⟩ := T.k_MOST_LEVELS
  obtain ⟨fE_BadTest, EB_BadTest⟩ := T.x_BadTest
  refine h.defX (Fun.okMX h.fn sc_combined (fun vs H Q E h => ?_) (fun cdv A outer s H vs Q E hr h => ?_))
  · obtain ⟨w, i, ks, qs, rfl, _⟩ := h
    rfl
  · obtain ⟨w, i, ks, qs, rfl, hi, hR, hl, kL, kD, kO⟩ := h
    refine ⟨_, (pss_cons (ps_set (i := 2) sc_combined.nd rfl (Or.inl rfl) (pe_new (ok_Test_init T) hr rfl T.e_Test (pa_cons (pv 0) (pa_cons (pv 1) (pa_cons (pe_tup pa_nil) (pa_cons (pe_tup pa_nil) pa_nil))))))
  (pss_cons (ps_if (pt_cmpR op_gtG (pe_fldG (K := K) rfl (pv 2) rfl) (pe_glob (v := .int 24) rfl G_MOST_ATOMS ⟨_, rfl⟩) (nomark _))
  (pss_one (ps_raiseBadTest rfl EB_BadTest hr (takes_of rfl rfl rfl rfl) (pa_cons pe_str pa_nil)))
  pss_nil)
  (pss_cons (ps_if (pt_cmpR op_gtG (pe_fldG (K := K) rfl (pv 2) rfl) (pe_glob (v := .int 12) rfl G_MOST_LEVELS ⟨_, rfl⟩) (nomark _))
  (pss_one (ps_raiseBadTest rfl EB_BadTest hr (takes_of rfl rfl rfl rfl) (pa_cons pe_str pa_nil)))
  pss_nil)
  (pss_one (ps_ret (pv 2)))))), ?_⟩
    walk_at "g"
    refine ⟨Nat.zero_le _, fun f hf => ?_⟩
    walk_at "g"
    refine ⟨Nat.zero_le _, fun u hu => ?_⟩
    walk_at "g"
    intro x dx hx hdx hne
    have kf : ∀ q o, H q = some o → (upd H f (.tup [])) q = some o := fun q o h => by rw [upd_ne (ne_of_none h hf)]; exact h
    have ku : ∀ q o, (upd H f (.tup [])) q = some o → (upd (upd H f (.tup [])) u (.tup [])) q = some o := fun q o h => by rw [upd_ne (ne_of_none h hu)]; exact h
    have kx : ∀ q o, (upd (upd H f (.tup [])) u (.tup [])) q = some o → (upd (upd (upd (upd H f (.tup [])) u (.tup [])) dx (.own x)) x (.ins (cadr mg "Test") dx [])) q = some o := fun q o h => by
      rw [upd_ne (ne_of_none h hx), upd_ne (ne_of_none h hdx)]; exact h
    have k0 : ∀ q o, H q = some o → (upd (upd (upd (upd H f (.tup [])) u (.tup [])) dx (.own x)) x (.ins (cadr mg "Test") dx [])) q = some o := fun q o h => kx _ _ (ku _ _ (kf _ _ h))
    refine ⟨x, dx, i, f, u, w, ks, qs, rfl, upd_same, k0 _ _ hi, hR.mono fun _ _ h => h.keep k0, by omega, fun H2 k2 h2 => ⟨rfl, ?_⟩⟩
    have hHx : H x = none := by
      cases e : H x with
      | none => rfl
      | some o => rw [ku _ _ (kf _ _ e)] at hx; cases hx
    have kk : ∀ q o, H q = some o → H2 q = some o := fun q o h => k2 _ _ (ne_of_none h hHx) (k0 _ _ h)
    have hf2 : H2 f = some (.tup []) := k2 _ _ (fun z => by rw [← z, ku _ _ upd_same] at hx; cases hx) (kx _ _ (ku _ _ upd_same))
    have hu2 : H2 u = some (.tup []) := k2 _ _ (fun z => by rw [← z, upd_same] at hx; cases hx) (kx _ _ upd_same)
    have A2 : TestAt (cadr mg "Test") H2 (mkT w [] [] ks) x := TestAt.made hl h2 (kk _ _ hi) hf2 hu2 (hR.mono fun _ _ h => h.keep kk)
    have es := mkT_size (w := w) hl
    have ed := mkT_depth (w := w) hl
    walk_at "g"
    refine ⟨x, _, dx, _, _, rfl, h2, T.cl_Test, T.n_Test_size, tf_size, ?_⟩
    walk_at "g"
    refine g_dec (fun h24 => ?_) (fun h24 => ?_)
    · walk_at "g"
      exact ⟨_, rfl, fun d hd => kL (by omega) d _ (fun q o h => by rw [upd_ne (ne_of_none (kk q o h) hd)]; exact kk q o h) upd_same⟩
    · walk_at "g"
      refine ⟨x, _, dx, _, _, rfl, h2, T.cl_Test, T.n_Test_depth, tf_depth, ?_⟩
      walk_at "g"
      refine g_dec (fun h12 => ?_) (fun h12 => ?_)
      · walk_at "g"
        exact ⟨_, rfl, fun d hd => kD (by omega) (by omega) d _ (fun q o h => by rw [upd_ne (ne_of_none (kk q o h) hd)]; exact kk q o h) upd_same⟩
      · walk_at "g"
        exact kO (by omega) (by omega) x H2 kk A2
/-- a & b, a | b: a thing that is no test is refused -/
def spOp (C CB : Addr) (w : Str) : Sp := fun vs H Q E => ∃ (p : Addr) (a : Ts) (y : V), vs = [.ref p, y] ∧ TestAt C H a p ∧
  ((∃ (q : Addr) (b : Ts), y = .ref q ∧ TestAt C H b q ∧ Outc C CB (.bi w a b) H Q E) ∨ ((∃ T, T ∈ kinds7 ∧ TyOf7 H y T) ∧ ∀ d H', (∀ q o, H q = some o → H' q = some o) → H' d = some (xwhy "part") → E (.ref CB) (some d) H'))
theorem ok_Test_and (T : Txt K mg) : DefMX P w K mg base 5 (cadr mg "Test") "__and__" ["self", "other"] (spOp (cadr mg "Test") (cadr mg "BadTest") "and") := by
  obtain ⟨f, fd, h⟩ := T.d_Test_and
  obtain ⟨fE_BadTest, EB_BadTest⟩ := T.x_BadTest
  refine h.defX (Fun.okMX h.fn sc_Test_and (fun vs H Q E h => ?_) (fun cdv A outer s H vs Q E hr h => ?_))
  · obtain ⟨p, a, y, rfl, _⟩ := h
    rfl
  · obtain ⟨p, a, y, rfl, ha, h⟩ := h
    obtain ⟨dx, i1, f1, u1, qs1, hp, _⟩ := ha.node
    refine ⟨_, (pss_cons (ps_if (pt_not (pt_val (pe_callB (call_isiG (K := K) rfl) (by rfl) T.h_isinstance (by decide +kernel) (pa_cons (pv 1) (pa_cons (pe_cls rfl T.e_Test) pa_nil)))))
  (pss_one (ps_raiseBadTest rfl EB_BadTest hr (takes_of rfl rfl rfl rfl) (pa_cons pe_str pa_nil)))
  pss_nil)
  (pss_one (ps_ret (pe_defX (takes_of rfl rfl rfl rfl) (ok_combined T) hr rfl (pa_cons pe_str (pa_cons (pe_tup (pa_cons (pv 0) (pa_cons (pv 1) pa_nil))) pa_nil)))))), ?_⟩
    rcases h with ⟨q, b, rfl, hb, hO⟩ | ⟨⟨Tn, hT, ty⟩, hE⟩
    · obtain ⟨dx2, i2, f2, u2, qs2, hq, _⟩ := hb.node
      walk_at "g"
      refine g_isOwn T.is_Test T.cl_Test hq ?_
      walk_at "g"
      refine ⟨by show 2 ≤ sizeLine; decide, fun t ht => ?_⟩
      have kt : ∀ r o, H r = some o → (upd H t (.tup [.ref p, .ref q])) r = some o := fun r o h => by rw [upd_ne (ne_of_none h ht)]; exact h
      walk_at "g"
      refine ⟨"and", t, [a, b], [p, q], rfl, upd_same, .cons (ha.keep kt) (.cons (hb.keep kt) .nil), Nat.le_refl _, fun h d H' k e => hO.1 h d H' (fun r o h => k r o (kt r o h)) e, fun h1 h2 d H' k e => hO.2.1 h1 h2 d H' (fun r o h => k r o (kt r o h)) e, fun h1 h2 r H' k A => ?_⟩
      walk_at "g"
      exact hO.2.2 h1 h2 r H' (fun r o h => k r o (kt r o h)) A
    · walk_at "g"
      refine g_isNot T.is_Test (ty.x K) hT ?_
      walk_at "g"
      exact ⟨_, rfl, fun d hd => hE d _ (fun q o h => by rw [upd_ne (ne_of_none h hd)]; exact h) upd_same⟩
end
section
variable {P : Program} {w : World} {K : PySem.W.Frag} {mg : Str → Option Value} {base : Heap}
theorem ok_Test_or (T : Txt K mg) : DefMX P w K mg base 5 (cadr mg "Test") "__or__" ["self", "other"] (spOp (cadr mg "Test") (cadr mg "BadTest") "or") := by
  obtain ⟨f, fd, h⟩ := T.d_Test_or
  obtain ⟨fE_BadTest, EB_BadTest⟩ := T.x_BadTest
  refine h.defX (Fun.okMX h.fn sc_Test_or (fun vs H Q E h => ?_) (fun cdv A outer s H vs Q E hr h => ?_))
  · obtain ⟨p, a, y, rfl, _⟩ := h
    rfl
  · obtain ⟨p, a, y, rfl, ha, h⟩ := h
    obtain ⟨dx, i1, f1, u1, qs1, hp, _⟩ := ha.node
    refine ⟨_, (pss_cons (ps_if (pt_not (pt_val (pe_callB (call_isiG (K := K) rfl) (by rfl) T.h_isinstance (by decide +kernel) (pa_cons (pv 1) (pa_cons (pe_cls rfl T.e_Test) pa_nil)))))
  (pss_one (ps_raiseBadTest rfl EB_BadTest hr (takes_of rfl rfl rfl rfl) (pa_cons pe_str pa_nil)))
  pss_nil)
  (pss_one (ps_ret (pe_defX (takes_of rfl rfl rfl rfl) (ok_combined T) hr rfl (pa_cons pe_str (pa_cons (pe_tup (pa_cons (pv 0) (pa_cons (pv 1) pa_nil))) pa_nil)))))), ?_⟩
    rcases h with ⟨q, b, rfl, hb, hO⟩ | ⟨⟨Tn, hT, ty⟩, hE⟩
    · obtain ⟨dx2, i2, f2, u2, qs2, hq, _⟩ := hb.node
      walk_at "g"
      refine g_isOwn T.is_Test T.cl_Test hq ?_
      walk_at "g"
      refine ⟨by show 2 ≤ sizeLine; decide, fun t ht => ?_⟩
      have kt : ∀ r o, H r = some o → (upd H t (.tup [.ref p, .ref q])) r = some o := fun r o h => by rw [upd_ne (ne_of_none h ht)]; exact h
      walk_at "g"
      refine ⟨"or", t, [a, b], [p, q], rfl, upd_same, .cons (ha.keep kt) (.cons (hb.keep kt) .nil), Nat.le_refl _, fun h d H' k e => hO.1 h d H' (fun r o h => k r o (kt r o h)) e, fun h1 h2 d H' k e => hO.2.1 h1 h2 d H' (fun r o h => k r o (kt r o h)) e, fun h1 h2 r H' k A => ?_⟩
      walk_at "g"
      exact hO.2.2 h1 h2 r H' (fun r o h => k r o (kt r o h)) A
    · walk_at "g"
      refine g_isNot T.is_Test (ty.x K) hT ?_
      walk_at "g"
      exact ⟨_, rfl, fun d hd => hE d _ (fun q o h => by rw [upd_ne (ne_of_none h hd)]; exact h) upd_same⟩
/-- ~a, sure(a) -/
def spUn (C CB : Addr) (w : Str) : Sp := fun vs H Q E => ∃ (p : Addr) (a : Ts), vs = [.ref p] ∧ TestAt C H a p ∧ Outc C CB (.un w a) H Q E
theorem ok_Test_invert (T : Txt K mg) : DefMX P w K mg base 5 (cadr mg "Test") "__invert__" ["self"] (spUn (cadr mg "Test") (cadr mg "BadTest") "not") := by
  obtain ⟨f, fd, h⟩ := T.d_Test_invert
  refine h.defX (Fun.okMX h.fn sc_Test_invert (fun vs H Q E h => ?_) (fun cdv A outer s H vs Q E hr h => ?_))
  · obtain ⟨p, a, rfl, _⟩ := h
    rfl
  · obtain ⟨p, a, rfl, ha, hO⟩ := h
    refine ⟨_, (pss_one (ps_ret (pe_defX (takes_of rfl rfl rfl rfl) (ok_combined T) hr rfl (pa_cons pe_str (pa_cons (pe_tup (pa_cons (pv 0) pa_nil)) pa_nil))))), ?_⟩
    walk_at "g"
    refine ⟨by show 1 ≤ sizeLine; decide, fun t ht => ?_⟩
    have kt : ∀ r o, H r = some o → (upd H t (.tup [.ref p])) r = some o := fun r o h => by rw [upd_ne (ne_of_none h ht)]; exact h
    walk_at "g"
    refine ⟨"not", t, [a], [p], rfl, upd_same, .cons (ha.keep kt) .nil, by show 1 ≤ 2; decide, fun h d H' k e => hO.1 h d H' (fun r o h => k r o (kt r o h)) e, fun h1 h2 d H' k e => hO.2.1 h1 h2 d H' (fun r o h => k r o (kt r o h)) e, fun h1 h2 r H' k A => ?_⟩
    walk_at "g"
    exact hO.2.2 h1 h2 r H' (fun r o h => k r o (kt r o h)) A
theorem ok_sure (T : Txt K mg) : DefX P w K mg base 5 "sure" ["test"] (spUn (cadr mg "Test") (cadr mg "BadTest") "sure") := by
  obtain ⟨f, fd, h⟩ := T.d_sure
  obtain ⟨fE_BadTest, EB_BadTest⟩ := T.x_BadTest
  refine h.defX (Fun.okMX h.fn sc_sure (fun vs H Q E h => ?_) (fun cdv A outer s H vs Q E hr h => ?_))
  · obtain ⟨p, a, rfl, _⟩ := h
    rfl
  · obtain ⟨p, a, rfl, ha, hO⟩ := h
    obtain ⟨dx, i1, f1, u1, qs1, hp, _⟩ := ha.node
    refine ⟨_, (pss_cons (ps_if (pt_not (pt_val (pe_callB (call_isiG (K := K) rfl) (by rfl) T.h_isinstance (by decide +kernel) (pa_cons (pv 0) (pa_cons (pe_cls rfl T.e_Test) pa_nil)))))
  (pss_one (ps_raiseBadTest rfl EB_BadTest hr (takes_of rfl rfl rfl rfl) (pa_cons pe_str pa_nil)))
  pss_nil)
  (pss_one (ps_ret (pe_defX (takes_of rfl rfl rfl rfl) (ok_combined T) hr rfl (pa_cons pe_str (pa_cons (pe_tup (pa_cons (pv 0) pa_nil)) pa_nil)))))), ?_⟩
    walk_at "g"
    refine g_isOwn T.is_Test T.cl_Test hp ?_
    walk_at "g"
    refine ⟨by show 1 ≤ sizeLine; decide, fun t ht => ?_⟩
    have kt : ∀ r o, H r = some o → (upd H t (.tup [.ref p])) r = some o := fun r o h => by rw [upd_ne (ne_of_none h ht)]; exact h
    walk_at "g"
    refine ⟨"sure", t, [a], [p], rfl, upd_same, .cons (ha.keep kt) .nil, by show 1 ≤ 2; decide, fun h d H' k e => hO.1 h d H' (fun r o h => k r o (kt r o h)) e, fun h1 h2 d H' k e => hO.2.1 h1 h2 d H' (fun r o h => k r o (kt r o h)) e, fun h1 h2 r H' k A => ?_⟩
    walk_at "g"
    exact hO.2.2 h1 h2 r H' (fun r o h => k r o (kt r o h)) A
end
/-! texts of the 94 signs -/
def txtB (z : Str) : Bool := z.cps.toList.all fun c => decide (c ∈ signs.cps.toList)
def isTxtB : V → Bool
  | .str z => txtB z
  | _ => false
theorem none_bad {l : List Nat} {p : Nat → Bool} {f : Nat → V} : decide ((((l.filter fun n => !p n).map f).length : Int) = 0) = l.all p := by
  rw [List.length_map, Bool.eq_iff_iff, decide_eq_true_eq, List.all_eq_true]
  constructor
  · intro h c hc
    have h' : (l.filter fun n => !p n) = [] := List.length_eq_zero_iff.mp (by omega)
    have := (List.filter_eq_nil_iff.mp h') c hc
    simpa using this
  · intro h
    have h' : (l.filter fun n => !p n) = [] := List.filter_eq_nil_iff.mpr fun c hc => by
      have := h c hc
      simpa using this
    rw [h']
    rfl
def spThingB (F : V → Bool) : Sp := fun vs H Q _ => ∃ v, vs = [v] ∧ thing H v ∧ ∀ H', (∀ p o, H p = some o → H' p = some o) → Q (.bl (F v)) H'
def letters : List Nat := (Str.ofString "abcdefghijklmnopqrstuvwxyz").cps.toList
def nameSigns : List Nat := (Str.ofString "abcdefghijklmnopqrstuvwxyz0123456789").cps.toList
def keptWords : List Str := ["and", "or", "not", "sure", "in", "is", "empty", "begins", "always", "never"]
def nameP (z : Str) : Prop := z.length ≠ 0 ∧ z.length ≤ 8 ∧ (∀ c r, z.cps.toList = c :: r → c ∈ letters) ∧ z ∉ keptWords ∧ ∀ c ∈ z.cps.toList, c ∈ nameSigns
noncomputable def nameB : V → Bool
  | .str z => @decide (nameP z) (Classical.propDecidable _)
  | _ => false
theorem nameB_str {z : Str} : nameB (.str z) = true ↔ nameP z := by
  unfold nameB
  exact @decide_eq_true_iff _ (Classical.propDecidable _)
theorem nameB_no {z : Str} (h : ¬ nameP z) : nameB (.str z) = false := by
  cases e : nameB (.str z) with
  | false => rfl
  | true => exact absurd (nameB_str.mp e) h
theorem nameB_is {z : Str} {b : Bool} (h : nameP z ↔ b = true) : nameB (.str z) = b := by
  cases b with
  | true => exact nameB_str.mpr (h.mpr rfl)
  | false => exact nameB_no fun z => absurd (h.mp z) Bool.false_ne_true
def kindV : V → V
  | .int _ => .str (Str.ofString "number")
  | .str z => if txtB z = true then .str (Str.ofString "text") else .non
  | _ => .non
section
variable {P : Program} {w : World} {K : PySem.W.Frag} {mg : Str → Option Value} {base : Heap}
theorem ok_is_integer (T : Txt K mg) : Def P w K mg base 1 "is_integer" ["thing"] (spThingB isIntB) := by
  obtain ⟨f, fd, h⟩ := T.d_is_integer
  refine h.def (Fun.okM h.fn sc_is_integer (fun vs H Q E h => ?_) (fun cdv A outer s H vs Q E hr h => ?_))
  · obtain ⟨x, rfl, _⟩ := h
    rfl
  · obtain ⟨x, rfl, hx, k⟩ := h
    have k' := k H fun _ _ h => h
    refine ⟨_, (pss_one (ps_ret (pe_and (pe_callB (call_isiG (K := K) rfl) (by rfl) T.h_isinstance (by decide +kernel) (pa_cons (pv 0) (pa_cons (pe_bltn (v := .ty "int") (by rfl) T.h_int (by decide +kernel) rfl) pa_nil))) (pe_one (pe_not (pe_callB (call_isiG (K := K) rfl) (by rfl) T.h_isinstance (by decide +kernel) (pa_cons (pv 0) (pa_cons (pe_bltn (v := .ty "bool") (by rfl) T.h_bool (by decide +kernel) rfl) pa_nil)))))))), ?_⟩
    rcases hx with rfl | ⟨b, rfl⟩ | ⟨i, rfl⟩ | ⟨z, rfl, hz⟩ | ⟨p, rfl, hp⟩ <;> walk_at "g" <;> exact k'
end
section
variable {P : Program} {w : World} {K : PySem.W.Frag} {mg : Str → Option Value} {base : Heap}
theorem ok_is_text (T : Txt K mg) : Def P w K mg base 1 "is_text" ["thing"] (spThingB isTxtB) := by
  obtain ⟨f, fd, h⟩ := T.d_is_text
  obtain ⟨t_SIGNS, G_SIGNS⟩ := T.k_SIGNS
  refine h.def (Fun.okM h.fn sc_is_text (fun vs H Q E h => ?_) (fun cdv A outer s H vs Q E hr h => ?_))
  · obtain ⟨x, rfl, _⟩ := h
    rfl
  · obtain ⟨x, rfl, hx, k⟩ := h
    have k' := k H fun _ _ h => h
    refine ⟨_, (pss_cons (ps_if (pt_not (pt_val (pe_callB (call_isiG (K := K) rfl) (by rfl) T.h_isinstance (by decide +kernel) (pa_cons (pv 0) (pa_cons (pe_bltn (v := .ty "str") (by rfl) T.h_str (by decide +kernel) rfl) pa_nil)))))
  (pss_one (ps_ret pe_bl))
  pss_nil)
  (pss_one (ps_ret (pe_callB (cr_all rfl) (by rfl) T.h_all (by decide +kernel) (pa_cons (pe_lc (own := [("sign", 1)]) rfl sc_is_text.nd (pi_str (pv 0)) (blkOk_by (N := N_is_text) (sc := defScope S_is_text) (by decide +kernel)) (fun _ _ _ _ _ => pg_name (i := 1) sc_is_text.nd rfl (Or.inl rfl)) (fun _ _ _ _ _ => pts_nil) (fun _ _ _ _ _ => (pe_cmpR (op_inG (K := K) rfl) (pv 1) (pe_glob (v := .str C_SIGNS) rfl G_SIGNS ⟨_, rfl⟩) (by rfl)))) pa_nil))))), ?_⟩
    rcases hx with rfl | ⟨b, rfl⟩ | ⟨i, rfl⟩ | ⟨z, rfl, hz⟩ | ⟨p, rfl, hp⟩
    case inr.inr.inr.inl =>
      walk_at "g"
      refine fun L hL => ?_
      refine lc_text (fun _ => true) (fun n => .bl (decide (n ∈ signs.cps.toList))) (by omega) (fun n Hh R S hn hK hR hS => ?_) (fun H2 hK hL2 => ?_)
      · walk_at "g"
        refine ⟨rfl, ?_⟩
        walk_at "g"
        exact hR rfl
      · walk_at "g"
        refine ⟨L, z.cps.toList.map fun n => decide (n ∈ signs.cps.toList), rfl, SqL.of ?_, ?_⟩
        · rw [hL2, List.filter_eq_self.mpr (fun _ _ => rfl), List.map_map]; rfl
        · walk_at "g"
          have e : (z.cps.toList.map fun n => decide (n ∈ signs.cps.toList)).all id = isTxtB (.str z) := by
            show _ = txtB z
            unfold txtB
            rw [List.all_map]; rfl
          rw [e]
          exact k _ fun p o h => hK p o (ne_of_none h hL) h
    all_goals (walk_at "g"; exact k')
end
section
variable {P : Program} {w : World} {K : PySem.W.Frag} {mg : Str → Option Value} {base : Heap}
theorem ok_is_name (T : Txt K mg) : Def P w K mg base 1 "is_name" ["thing"] (spThingB nameB) := by
  obtain ⟨f, fd, h⟩ := T.d_is_name
  obtain ⟨t_LONGEST_NAME, G_LONGEST_NAME⟩ := T.k_LONGEST_NAME
  obtain ⟨t_LETTERS, G_LETTERS⟩ := T.k_LETTERS
  obtain ⟨t_WORDS, G_WORDS, Q_WORDS⟩ := T.k_WORDS
  obtain ⟨t_NAME_SIGNS, G_NAME_SIGNS⟩ := T.k_NAME_SIGNS
  refine h.def (Fun.okM h.fn sc_is_name (fun vs H Q E h => ?_) (fun cdv A outer s H vs Q E hr h => ?_))
  · obtain ⟨x, rfl, _⟩ := h
    rfl
  · obtain ⟨x, rfl, hx, k⟩ := h
    have k' := k H fun _ _ h => h
    refine ⟨_, (pss_cons (ps_if (pt_not (pt_val (pe_callB (call_isiG (K := K) rfl) (by rfl) T.h_isinstance (by decide +kernel) (pa_cons (pv 0) (pa_cons (pe_bltn (v := .ty "str") (by rfl) T.h_str (by decide +kernel) rfl) pa_nil)))))
  (pss_one (ps_ret pe_bl))
  pss_nil)
  (pss_cons (ps_if (PW.pt (pw_or (pt_cmpR op_eq (pe_callB (call_lenG (K := K) rfl) (by rfl) T.h_len (by decide +kernel) (pa_cons (pv 0) pa_nil)) pe_int (nomark _)) (pw_or1 (pt_cmpR op_gtG (pe_callB (call_lenG (K := K) rfl) (by rfl) T.h_len (by decide +kernel) (pa_cons (pv 0) pa_nil)) (pe_glob (v := .int 8) rfl G_LONGEST_NAME ⟨_, rfl⟩) (nomark _)))))
  (pss_one (ps_ret pe_bl))
  pss_nil)
  (pss_cons (ps_if (PW.pt (pw_or (pt_cmpR (op_notInG (K := K) rfl) (pe_ix (ix_seqG (K := K) rfl) (pv 0) pe_int (fun _ _ => rfl)) (pe_glob (v := .str C_LETTERS) rfl G_LETTERS ⟨_, rfl⟩) (by rfl)) (pw_or1 (pt_cmpR (op_inG (K := K) rfl) (pv 0) (pe_glob (v := .ref t_WORDS) rfl G_WORDS rfl) (by rfl)))))
  (pss_one (ps_ret pe_bl))
  pss_nil)
  (pss_one (ps_ret (pe_callB (cr_all rfl) (by rfl) T.h_all (by decide +kernel) (pa_cons (pe_lc (own := [("sign", 1)]) rfl sc_is_name.nd (pi_str (pv 0)) (blkOk_by (N := N_is_name) (sc := defScope S_is_name) (by decide +kernel)) (fun _ _ _ _ _ => pg_name (i := 1) sc_is_name.nd rfl (Or.inl rfl)) (fun _ _ _ _ _ => pts_nil) (fun _ _ _ _ _ => (pe_cmpR (op_inG (K := K) rfl) (pv 1) (pe_glob (v := .str C_NAME_SIGNS) rfl G_NAME_SIGNS ⟨_, rfl⟩) (by rfl)))) pa_nil))))))), ?_⟩
    rcases hx with rfl | ⟨b, rfl⟩ | ⟨i, rfl⟩ | ⟨z, rfl, hz⟩ | ⟨p, rfl, hp⟩
    case inr.inr.inr.inl =>
      walk_at "g"
      refine g_lenS (by rw [sizeLine_eq]; omega) ?_
      have no : ¬ nameP z → Q (.bl false) H := fun h => by rw [← nameB_no h]; exact k'
      walk_at "g"
      refine g_dec (fun h0 => ?_) (fun h0 => ?_)
      · walk_at "g"
        exact no fun n => n.1 (by omega)
      walk_at "g"
      refine g_lenS (by rw [sizeLine_eq]; omega) ?_
      walk_at "g"
      refine g_dec (fun h8 => ?_) (fun h8 => ?_)
      · walk_at "g"
        exact no fun n => by have := n.2.1; omega
      walk_at "g"
      obtain ⟨c, r, hcr⟩ : ∃ c r, z.cps.toList = c :: r := by
        cases e : z.cps.toList with
        | nil => exact absurd (by have e2 : z.cps.toList.length = z.length := Array.length_toList
                                  rw [e] at e2; simpa using e2.symm) h0
        | cons c r => exact ⟨c, r, rfl⟩
      refine g_ixS (n := c) (by rw [sizeLine_eq]; omega) (atI_nat (j := 0) (by rw [hcr]; rfl)) ?_
      walk_at "g"
      refine g_ndec (fun hc => ?_) (fun hc => ?_)
      · walk_at "g"
        exact no fun n => hc (n.2.2.1 c r hcr)
      walk_at "g"
      refine .inr ⟨_, keptWords.map V.str, rfl, .inr (Q_WORDS _), rfl, Tw.flat_strs _, ?_⟩
      walk_at "g"
      rw [if_neg Bool.false_ne_true, inV_strs]
      refine g_dec (fun hw => ?_) (fun hw => ?_)
      · walk_at "g"
        exact no fun n => n.2.2.2.1 hw
      walk_at "g"
      refine fun L hL => ?_
      refine lc_text (fun _ => true) (fun n => .bl (decide (n ∈ nameSigns))) (by omega) (fun n Hh R S hn hK hR hS => ?_) (fun H2 hK hL2 => ?_)
      · walk_at "g"
        refine ⟨rfl, ?_⟩
        walk_at "g"
        exact hR rfl
      · walk_at "g"
        refine ⟨L, z.cps.toList.map fun n => decide (n ∈ nameSigns), rfl, SqL.of ?_, ?_⟩
        · rw [hL2, List.filter_eq_self.mpr (fun _ _ => rfl), List.map_map]; rfl
        · walk_at "g"
          have e : nameB (.str z) = (z.cps.toList.map fun n => decide (n ∈ nameSigns)).all id := by
            refine nameB_is ?_
            rw [List.all_map, List.all_eq_true]
            constructor
            · intro n c hc
              exact decide_eq_true (n.2.2.2.2 c hc)
            · intro h
              exact ⟨by omega, by omega, fun c' r' e' => by rw [hcr] at e'; injection e' with e1 _; rw [← e1]; exact hc, hw, fun c hc => of_decide_eq_true (h c hc)⟩
          rw [← e]
          exact k _ fun p o h => hK p o (ne_of_none h hL) h
    all_goals (walk_at "g"; exact k')
end
section
variable {P : Program} {w : World} {K : PySem.W.Frag} {mg : Str → Option Value} {base : Heap}
def spKind : Sp := fun vs H Q _ => ∃ v, vs = [v] ∧ thing H v ∧ ∀ H', (∀ p o, H p = some o → H' p = some o) → Q (kindV v) H'
theorem ok_kind_of (T : Txt K mg) : Def P w K mg base 2 "kind_of" ["value"] spKind := by
  obtain ⟨f, fd, h⟩ := T.d_kind_of
  refine h.def (Fun.okM h.fn sc_kind_of (fun vs H Q E h => ?_) (fun cdv A outer s H vs Q E hr h => ?_))
  · obtain ⟨x, rfl, _⟩ := h
    rfl
  · obtain ⟨x, rfl, hx, k⟩ := h
    refine ⟨_, (pss_cons (ps_if (pt_val (pe_def (ok_is_integer T) hr rfl (pa_cons (pv 0) pa_nil)))
  (pss_one (ps_ret pe_str))
  pss_nil)
  (pss_cons (ps_if (pt_val (pe_def (ok_is_text T) hr rfl (pa_cons (pv 0) pa_nil)))
  (pss_one (ps_ret pe_str))
  pss_nil)
  (pss_one (ps_ret pe_non)))), ?_⟩
    walk_at "g"
    refine ⟨_, rfl, hx, fun H1 h1 => ?_⟩
    have hx1 := hx.keep h1
    rcases hx with rfl | ⟨b, rfl⟩ | ⟨i, rfl⟩ | ⟨z, rfl, hz⟩ | ⟨p, rfl, hp⟩
    case inr.inr.inl =>
      rw [show isIntB (.int i) = true from rfl]
      walk_at "g"
      exact k _ h1
    all_goals
      walk_at "g"
      refine g_split (fun z => absurd z Bool.false_ne_true) (fun _ => ?_)
      walk_at "g"
      refine ⟨_, rfl, hx1, fun H2 h2 => ?_⟩
      have k2 := k H2 fun p o h => h2 p o (h1 p o h)
    case inr.inr.inr.inl =>
      walk_at "g"
      refine g_split (fun e => ?_) (fun e => ?_)
      · walk_at "g"
        have e' : txtB z = true := e
        have k2 : Q (if txtB z = true then V.str (Str.ofString "text") else V.non) H2 := k2
        rw [if_pos e'] at k2
        exact k2
      · walk_at "g"
        have e' : txtB z = false := e
        have k2 : Q (if txtB z = true then V.str (Str.ofString "text") else V.non) H2 := k2
        rw [if_neg (by rw [e']; exact Bool.false_ne_true)] at k2
        exact k2
    all_goals
      walk_at "g"
      refine g_split (fun z => absurd z Bool.false_ne_true) (fun _ => ?_)
      walk_at "g"
      exact k2
end
theorem atom_made {C : Addr} {H H2 : Hp} {i f u x dx : Addr} {w : Str} (fs : List Str) (ts : List V) (hi : H i = none) (hf : (upd H i (.tup [])) f = none) (hu : (upd (upd H i (.tup [])) f (.tup (fs.map V.str))) u = none)
    (hx : (upd (upd (upd H i (.tup [])) f (.tup (fs.map V.str))) u (.tup ts)) x = none) (hdx : (upd (upd (upd H i (.tup [])) f (.tup (fs.map V.str))) u (.tup ts)) dx = none)
    (k2 : ∀ q o, q ≠ x → (upd (upd (upd (upd (upd H i (.tup [])) f (.tup (fs.map V.str))) u (.tup ts)) dx (.own x)) x (.ins C dx [])) q = some o → H2 q = some o)
    (h2 : H2 x = some (.ins C dx (tf w i f u (sizeK [] : Nat) (depthK [] : Nat)))) : (∀ q o, H q = some o → H2 q = some o) ∧ TestAt C H2 (.at w fs ts) x := by
  have ki : ∀ q o, H q = some o → (upd H i (.tup [])) q = some o := fun q o h => by rw [upd_ne (ne_of_none h hi)]; exact h
  have kf : ∀ q o, (upd H i (.tup [])) q = some o → (upd (upd H i (.tup [])) f (.tup (fs.map V.str))) q = some o := fun q o h => by rw [upd_ne (ne_of_none h hf)]; exact h
  have ku : ∀ q o, (upd (upd H i (.tup [])) f (.tup (fs.map V.str))) q = some o → (upd (upd (upd H i (.tup [])) f (.tup (fs.map V.str))) u (.tup ts)) q = some o := fun q o h => by rw [upd_ne (ne_of_none h hu)]; exact h
  have kx : ∀ q o, (upd (upd (upd H i (.tup [])) f (.tup (fs.map V.str))) u (.tup ts)) q = some o → H2 q = some o := fun q o h => k2 q o (ne_of_none h hx) (by rw [upd_ne (ne_of_none h hx), upd_ne (ne_of_none h hdx)]; exact h)
  refine ⟨fun q o h => kx _ _ (ku _ _ (kf _ _ (ki _ _ h))), dx, i, f, u, h2, kx _ _ (ku _ _ (kf _ _ upd_same)), kx _ _ (ku _ _ upd_same), kx _ _ upd_same⟩
def spNeed (G : V → Prop) : Sp := fun vs H Q _ => ∃ v, vs = [v] ∧ G v ∧ ∀ H', (∀ q o, H q = some o → H' q = some o) → Q .non H'
section
variable {P : Program} {w : World} {K : PySem.W.Frag} {mg : Str → Option Value} {base : Heap}
theorem ok_need_column (T : Txt K mg) : Def P w K mg base 2 "need_column" ["thing"] (spNeed fun v => ∃ c, v = .str c ∧ nameP c) := by
  obtain ⟨f, fd, h⟩ := T.d_need_column
  refine h.def (Fun.okM h.fn sc_need_column (fun vs H Q E h => ?_) (fun cdv A outer s H vs Q E hr h => ?_))
  · obtain ⟨v, rfl, _⟩ := h
    rfl
  · obtain ⟨v, rfl, ⟨c, rfl, hc⟩, k⟩ := h
    refine ⟨_, (pss_one (ps_if (pt_not (pt_val (pe_def (ok_is_name T) hr rfl (pa_cons (pv 0) pa_nil))))
  (pss_one ps_never)
  pss_nil)), ?_⟩
    walk_at "g"
    refine ⟨_, rfl, .inr (.inr (.inr (.inl ⟨c, rfl, Nat.le_trans hc.2.1 (by decide)⟩))), fun H1 k1 => ?_⟩
    rw [nameB_str.mpr hc]
    walk_at "g"
    exact k _ k1
end
def Ts.cols (t : Ts) : List Str := t.atoms.flatMap Ts.flds
def spNames (C : Addr) (n : Nat) : Sp := fun vs H Q _ => ∃ (p : Addr) (t : Ts), vs = [.ref p] ∧ TestAt C H t p ∧ t.depth ≤ n ∧ t.size ≤ 1000 ∧ t.cols.length ≤ 1000 ∧
  ∀ zs L H', H L = none → (∀ q o, H q = some o → H' q = some o) → H' L = some (.lst (zs.map V.str)) → PyProof.Rows.sortedS zs = true → zs.Nodup → (∀ k, k ∈ zs ↔ k ∈ t.cols) → Q (.ref L) H'
section
variable {P : Program} {w : World} {K : PySem.W.Frag} {mg : Str → Option Value} {base : Heap}
theorem ok_Test_atoms (T : Txt K mg) : DefM P w K mg base 13 (cadr mg "Test") "atoms" ["self"] (spAtoms (cadr mg "Test") 12) := ok_atomsN T 12
end
/-! the draws -/
structure Dr (H : Hp) (d sc : Addr) (ns : List Int) : Prop where
  ex : ∃ (i b c e : Int), sc ≠ d ∧ 0 ≤ i ∧ H d = some (.lst [.ref sc, .int i, .int b, .int c, .int e]) ∧ H sc = some (.lst (ns.map V.int))
def Keep (d : Addr) (H H' : Hp) : Prop := ∀ p o, p ≠ d → H p = some o → H' p = some o
theorem Keep.refl (d : Addr) (H : Hp) : Keep d H H := fun _ _ _ h => h
theorem Keep.trans {d : Addr} {H H1 H2 : Hp} (a : Keep d H H1) (b : Keep d H1 H2) : Keep d H H2 := fun p o n h => b p o n (a p o n h)
theorem Dr.new {H : Hp} {d sc p : Addr} {ns : List Int} {o : HO} (D : Dr H d sc ns) (hp : H p = none) : Dr (upd H p o) d sc ns := by
  obtain ⟨i, b, c, e, h1, h2, h3, h4⟩ := D.ex
  exact ⟨i, b, c, e, h1, h2, by rw [upd_ne (ne_of_none h3 hp)]; exact h3, by rw [upd_ne (ne_of_none h4 hp)]; exact h4⟩
theorem Dr.at {H : Hp} {d sc : Addr} {ns : List Int} (D : Dr H d sc ns) : ∃ xs, H d = some (.lst xs) := by
  obtain ⟨i, b, c, e, h1, h2, h3, h4⟩ := D.ex
  exact ⟨_, h3⟩
theorem Dr.sc {H : Hp} {d sc : Addr} {ns : List Int} (D : Dr H d sc ns) : H sc = some (.lst (ns.map V.int)) := by
  obtain ⟨i, b, c, e, h1, h2, h3, h4⟩ := D.ex
  exact h4
theorem Dr.ne {H : Hp} {d sc p : Addr} {ns : List Int} (D : Dr H d sc ns) (hp : H p = none) : p ≠ d ∧ p ≠ sc := by
  obtain ⟨i, b, c, e, h1, h2, h3, h4⟩ := D.ex
  exact ⟨Ne.symm (ne_of_none h3 hp), Ne.symm (ne_of_none h4 hp)⟩
theorem Dr.other {H : Hp} {d sc p : Addr} {ns : List Int} {o : HO} (D : Dr H d sc ns) (h1 : p ≠ d) (h2 : p ≠ sc) : Dr (upd H p o) d sc ns := by
  obtain ⟨i, b, c, e, g1, g2, g3, g4⟩ := D.ex
  exact ⟨i, b, c, e, g1, g2, by rw [upd_ne (Ne.symm h1)]; exact g3, by rw [upd_ne (Ne.symm h2)]; exact g4⟩
theorem Keep.new {d p : Addr} {H H1 : Hp} {o : HO} (a : Keep d H H1) (hp : H p = none) : Keep d H (L2.upd H1 p o) := fun q u n h => by rw [upd_ne (ne_of_none h hp)]; exact a q u n h
theorem Keep.back {d p : Addr} {H H1 : Hp} (a : Keep d H H1) (n : p ≠ d) (h : H1 p = none) : H p = none := by
  cases hh : H p with
  | none => rfl
  | some o => rw [a p o n hh] at h; cases h
theorem Keep.upd {d : Addr} {H H1 : Hp} {o : HO} (a : Keep d H H1) : Keep d H (L2.upd H1 d o) := fun p u n h => by rw [upd_ne n]; exact a p u n h
def spTake : Sp := fun vs H Q _ => ∃ d sc ns m, vs = [.ref d, .int m] ∧ Dr H d sc ns ∧ 0 < m ∧ m.natAbs.log2 < 9000 ∧ ∀ r H', 0 ≤ r → r < m → Dr H' d sc ns → Keep d H H' → Q (.int r) H'
section
variable {P : Program} {w : World} {K : PySem.W.Frag} {mg : Str → Option Value} {base : Heap}
theorem ok__law_take (T : Txt K mg) : Def P w K mg base 1 "_law_take" ["_law_draw", "_law_many"] spTake := by
  obtain ⟨f, fd, h⟩ := T.d__law_take
  refine h.def (Fun.okM h.fn sc__law_take (fun vs H Q E h => ?_) (fun cdv A outer s H vs Q E hr h => ?_))
  · obtain ⟨d, sc, ns, m, rfl, _⟩ := h
    rfl
  · obtain ⟨d, sc, ns, m, rfl, ⟨i, b, c, e, hne, hi, hd, hs⟩, hm, hml, k⟩ := h
    refine ⟨_, (pss_cons (ps_if (PW.pt (pw_and (pt_cmpR op_eq (pe_ix (ix_seqG (K := K) rfl) (pv 0) pe_int (fun _ _ => rfl)) pe_int (nomark _)) (pw_and1 (pt_cmpR op_ltG (pe_ix (ix_seqG (K := K) rfl) (pv 0) pe_int (fun _ _ => rfl)) (pe_callB (call_lenG (K := K) rfl) (by rfl) T.h_len (by decide +kernel) (pa_cons (pe_ix (ix_seqG (K := K) rfl) (pv 0) pe_int (fun _ _ => rfl)) pa_nil)) (nomark _)))))
  (pss_cons (ps_set (i := 2) sc__law_take.nd rfl (Or.inl rfl) (pe_ix (ix_seqG (K := K) rfl) (pe_ix (ix_seqG (K := K) rfl) (pv 0) pe_int (fun _ _ => rfl)) (pe_ix (ix_seqG (K := K) rfl) (pv 0) pe_int (fun _ _ => rfl)) (fun _ _ => rfl)))
  (pss_cons (ps_asg (pe_op op_addG (pe_ix (ix_seqG (K := K) rfl) (pv 0) pe_int (fun _ _ => rfl)) pe_int) (pg_sub (pv 0) pe_int set_list))
  (pss_one (ps_if (pt_cmpR op_geG (pv 2) (pe_op op_powG' pe_int pe_int) (nomark _))
  (pss_one (ps_asg (pe_op op_modG (pe_callTy call_intG (by rfl) T.h_int (by decide +kernel) (pa_cons (pv 2) pa_nil)) (pe_op op_powG' (pe_op op_powG' pe_int pe_int) pe_int)) (pg_sub (pv 0) pe_int set_list)))
  (pss_one (ps_asg (pe_op op_modG (pe_callTy call_intG (by rfl) T.h_int (by decide +kernel) (pa_cons (pe_op op_addG (pe_op op_addG (pe_op op_mulG (pe_ix (ix_seqG (K := K) rfl) (pv 0) pe_int (fun _ _ => rfl)) pe_int) (pe_op op_modG (pe_callTy call_intG (by rfl) T.h_int (by decide +kernel) (pa_cons (pv 2) pa_nil)) pe_int)) pe_int) pa_nil)) pe_int) (pg_sub (pv 0) pe_int set_list)))))))
  pss_nil)
  (pss_cons (ps_if (pt_cmpR op_gtG (pe_ix (ix_seqG (K := K) rfl) (pv 0) pe_int (fun _ _ => rfl)) pe_int (nomark _))
  (pss_cons (ps_set (i := 3) sc__law_take.nd rfl (Or.inl rfl) (pe_op op_modG (pe_callTy call_intG (by rfl) T.h_int (by decide +kernel) (pa_cons (pe_ix (ix_seqG (K := K) rfl) (pv 0) pe_int (fun _ _ => rfl)) pa_nil)) (pv 1)))
  (pss_cons (ps_asg (pe_op op_fdG (pe_ix (ix_seqG (K := K) rfl) (pv 0) pe_int (fun _ _ => rfl)) (pv 1)) (pg_sub (pv 0) pe_int set_list))
  (pss_one (ps_ret (pv 3)))))
  pss_nil)
  (pss_cons (ps_asg (pe_op op_addG (pe_ix (ix_seqG (K := K) rfl) (pv 0) pe_int (fun _ _ => rfl)) pe_int) (pg_sub (pv 0) pe_int set_list))
  (pss_cons (ps_set (i := 4) sc__law_take.nd rfl (Or.inl rfl) (pe_op op_modG (pe_callTy call_intG (by rfl) T.h_int (by decide +kernel) (pa_cons (pe_op op_addG (pe_ix (ix_seqG (K := K) rfl) (pv 0) pe_int (fun _ _ => rfl)) (pe_op op_mulG pe_int (pe_ix (ix_seqG (K := K) rfl) (pv 0) pe_int (fun _ _ => rfl)))) pa_nil)) pe_int))
  (pss_cons (ps_set (i := 4) sc__law_take.nd rfl (Or.inl rfl) (pe_op op_modG (pe_callTy call_intG (by rfl) T.h_int (by decide +kernel) (pa_cons (pe_op op_powG' (pv 4) pe_int) pa_nil)) pe_int))
  (pss_cons (ps_asg (pe_op op_modG (pe_callTy call_intG (by rfl) T.h_int (by decide +kernel) (pa_cons (pe_op op_addG (pe_op op_mulG (pv 4) pe_int) (pe_ix (ix_seqG (K := K) rfl) (pv 0) pe_int (fun _ _ => rfl))) pa_nil)) pe_int) (pg_sub (pv 0) pe_int set_list))
  (pss_one (ps_ret (pe_op op_modG (pe_callTy call_intG (by rfl) T.h_int (by decide +kernel) (pa_cons (pe_op op_fdG (pe_ix (ix_seqG (K := K) rfl) (pv 0) pe_int (fun _ _ => rfl)) pe_int) pa_nil)) (pv 1)))))))))), ?_⟩
    walk_at "G"
    all_goals refine k _ _ (Int.emod_nonneg _ (by omega)) (Int.emod_lt_of_pos _ hm) ?_ ?_
    all_goals first
      | exact ⟨_, _, _, _, hne, by omega, upd_same, by walk_at "hp"⟩
      | (repeat (first | exact Keep.refl _ _ | refine Keep.upd ?_))
end
/-! more draws -/
def spBegin (K : PySem.W.Frag) : Sp := fun vs H Q _ => ∃ (a : Addr) (ns : List Int), vs = [.ref a] ∧ SqL K H a (ns.map V.int) ∧ ∀ d sc ms H', H d = none → Same H H' → Dr H' d sc ms → Q (.ref d) H'
theorem cut_map (ns : List Int) (lo hi : Option Int) : ∃ ms : List Int, cutV (ns.map V.int) lo hi = ms.map V.int := ⟨_, by unfold cutV; rw [← List.map_drop, ← List.map_take]⟩
section
variable {P : Program} {w : World} {K : PySem.W.Frag} {mg : Str → Option Value} {base : Heap}
theorem ok__law_begin (T : Txt K mg) : Def P w K mg base 1 "_law_begin" ["_law_script"] (spBegin K) := by
  obtain ⟨f, fd, h⟩ := T.d__law_begin
  refine h.def (Fun.okM h.fn sc__law_begin (fun vs H Q E h => ?_) (fun cdv A outer s H vs Q E hr h => ?_))
  · obtain ⟨x, y, rfl, _⟩ := h
    rfl
  · obtain ⟨a, ns, rfl, hS, k⟩ := h
    refine ⟨_, (pss_one (ps_ret (pe_lst (pa_cons (pe_callTy (call_listG (K := K) rfl) (by rfl) T.h_list (by decide +kernel) (pa_cons (pe_slice (sl_G (K := K) rfl) (pv 0) po_none (po_some pe_int)) pa_nil)) (pa_cons pe_int (pa_cons pe_int (pa_cons pe_int (pa_cons pe_int pa_nil)))))))), ?_⟩
    walk_at "g"
    obtain ⟨ms, hms⟩ := cut_map ns none (some 63)
    refine g_slL hS (fun p hp => ?_)
    rw [hms]
    walk_at "g"
    refine ⟨p, _, rfl, .inl (SqL.of upd_same), fun l hl => ?_⟩
    walk_at "g"
    refine ⟨by show 5 ≤ sizeLine; decide, fun d hd => ?_⟩
    walk_at "g"
    have n1 : l ≠ d := ne_of_none upd_same hd
    have n2 : l ≠ p := fun z => by rw [z, upd_same] at hl; cases hl
    have hpd : d ≠ p := fun z => by rw [z, upd_ne (fun z => n2 z.symm), upd_same] at hd; cases hd
    refine k d l ms _ ?_ (fun b o hb => ?_) ⟨0, 0, 1, 0, n1, by decide, upd_same, by rw [upd_ne n1, upd_same]⟩
    · rw [upd_ne (fun z => n1 z.symm), upd_ne hpd] at hd
      exact hd
    · have b1 : b ≠ p := ne_of_none hb hp
      have b2 : b ≠ l := fun z => by rw [upd_ne n2] at hl; rw [z, hl] at hb; cases hb
      have b3 : b ≠ d := fun z => by rw [upd_ne (fun z => n1 z.symm), upd_ne hpd] at hd; rw [z, hd] at hb; cases hb
      rw [upd_ne b3, upd_ne b2, upd_ne b1]
      exact hb
/-- a text of the 94 signs -/
def spChars : Sp := fun vs H Q _ => vs = [] ∧ Q (.str signs) H
theorem ok__law_chars (T : Txt K mg) : Def P w K mg base 1 "_law_chars" [] spChars := by
  obtain ⟨f, fd, h⟩ := T.d__law_chars
  refine h.def (Fun.okM h.fn sc__law_chars (fun vs H Q E h => ?_) (fun cdv A outer s H vs Q E hr h => ?_))
  · obtain ⟨rfl, _⟩ := h
    rfl
  · obtain ⟨rfl, k⟩ := h
    refine ⟨_, (pss_cons (ps_set (i := 0) sc__law_chars.nd rfl (Or.inl rfl) pe_str)
  (pss_one (ps_ret (pe_op op_addG (pv 0) pe_str)))), ?_⟩
    walk_at "g"
    refine g_addS (by decide +kernel) ?_
    walk_at "g"
    exact k
/-- a drawn value -/
def spDraw (G : V → Prop) : Sp := fun vs H Q _ => ∃ d sc ns, vs = [.ref d] ∧ Dr H d sc ns ∧ ∀ v H', G v → Dr H' d sc ns → Keep d H H' → Q v H'
def isI (v : V) : Prop := ∃ i, v = .int i
def isS (v : V) : Prop := ∃ z : Str, v = .str z ∧ z.length ≤ 100 ∧ ∀ c ∈ z.cps.toList, c ∈ signs.cps.toList
end
/-! the forms of tests -/
inductive At where
  | always
  | never
  | empty (c : Str)
  | among (c : Str) (vs : List V)
  | begins (c z : Str)
  | compare (c op : Str) (v : V)
  | against (c op d : Str) (n : Int)
namespace At
def word : At → Str
  | .always => "always"
  | .never => "never"
  | .empty _ => "empty"
  | .among _ _ => "among"
  | .begins _ _ => "begins"
  | .compare _ _ _ => "compare"
  | .against _ _ _ _ => "against"
def flds : At → List Str
  | .always => []
  | .never => []
  | .empty c => [c]
  | .among c _ => [c]
  | .begins c _ => [c]
  | .compare c _ _ => [c]
  | .against c _ d _ => [c, d]
def trms : At → List V
  | .always => []
  | .never => []
  | .empty _ => []
  | .among _ vs => vs
  | .begins _ z => [.str z]
  | .compare _ op v => [.str op, v]
  | .against _ op _ n => [.str op, .int n]
def ts (a : At) : Ts := .at a.word a.flds a.trms
end At
inductive Fm where
  | at (a : At)
  | un (w : Str) (f : Fm)
  | bi (w : Str) (f g : Fm)
namespace Fm
def ts : Fm → Ts
  | .at a => a.ts
  | .un w f => .un w f.ts
  | .bi w f g => .bi w f.ts g.ts
def cols : Fm → List Str
  | .at a => a.flds
  | .un _ f => f.cols
  | .bi _ f g => f.cols ++ g.cols
theorem ts_cols : ∀ f : Fm, f.ts.cols = f.cols
  | .at a => by simp [ts, cols, Ts.cols, Ts.atoms, At.ts, Ts.flds]
  | .un w f => by
    have := ts_cols f
    simpa [ts, cols, Ts.cols, Ts.atoms] using this
  | .bi w f g => by
    have h1 := ts_cols f
    have h2 := ts_cols g
    simp only [ts, cols, Ts.cols, Ts.atoms, List.flatMap_append] at h1 h2 ⊢
    rw [h1, h2]
def size (f : Fm) : Nat := f.ts.size
def depth (f : Fm) : Nat := f.ts.depth
end Fm
def opsL : List Str := ["<", "<=", "==", "!=", ">", ">="]
/-- a value: a number or a text -/
def isV (_ : Bool) (v : V) : Prop := isI v ∨ isS v
def At.Wf (κ : List (Str × Bool)) : At → Prop
  | .always => True
  | .never => True
  | .empty c => nameP c ∧ ∃ k, (c, k) ∈ κ
  | .among c vs => nameP c ∧ vs ≠ [] ∧ vs.length ≤ 8 ∧ ∃ k, (c, k) ∈ κ ∧ ∀ v ∈ vs, isV k v
  | .begins c z => nameP c ∧ (c, true) ∈ κ ∧ isS (.str z)
  | .compare c op v => nameP c ∧ op ∈ opsL ∧ ∃ k, (c, k) ∈ κ ∧ isV k v
  | .against c op d n => nameP c ∧ nameP d ∧ d ≠ c ∧ op ∈ opsL ∧ ∃ k, (c, k) ∈ κ ∧ (d, k) ∈ κ ∧ (k = true → n = 0)
def Fm.Wf (κ : List (Str × Bool)) : Fm → Prop
  | .at a => a.Wf κ
  | .un w f => (w = "not" ∨ w = "sure") ∧ f.Wf κ
  | .bi w f g => (w = "and" ∨ w = "or") ∧ f.Wf κ ∧ g.Wf κ
theorem isS.txt {z : Str} (h : isS (.str z)) : txtB z = true := by
  obtain ⟨y, e, _, hc⟩ := h
  cases e
  unfold txtB
  rw [List.all_eq_true]
  intro c m
  exact decide_eq_true (hc c m)
theorem isV.thing {H : Hp} {k : Bool} {v : V} (h : isV k v) : thing H v := by
  rcases h with ⟨i, rfl⟩ | ⟨z, rfl, l, _⟩
  · exact .inr (.inr (.inl ⟨i, rfl⟩))
  · exact .inr (.inr (.inr (.inl ⟨z, rfl, l⟩)))
theorem isV.kind {k : Bool} {v : V} (h : isV k v) : ∃ s, kindV v = .str s := by
  rcases h with ⟨i, rfl⟩ | ⟨z, rfl, hz⟩
  · exact ⟨_, rfl⟩
  · have e : txtB z = true := isS.txt ⟨z, rfl, hz⟩
    refine ⟨"text", ?_⟩
    show (if txtB z = true then V.str (Str.ofString "text") else V.non) = _
    rw [if_pos e]
def kS (k : Bool) : Str := if k = true then "text" else "number"
theorem kS_inj {a b : Bool} (h : kS a = kS b) : a = b := by
  revert h
  cases a <;> cases b <;> decide +kernel
/-! columns, orders, rows -/
def LAt (H : Hp) (L : Addr) (ts : List (List V)) : Prop := ∃ qs : List Addr, H L = some (.lst (qs.map V.ref)) ∧ qs.length = ts.length ∧ ∀ (i : Nat) (q : Addr) (t : List V), qs[i]? = some q → ts[i]? = some t → H q = some (.tup t)
theorem LAt.keep {H H' : Hp} {L : Addr} {ts : List (List V)} (h : LAt H L ts) (k : ∀ q o, H q = some o → H' q = some o) : LAt H' L ts := by
  obtain ⟨qs, h1, h2, h3⟩ := h
  exact ⟨qs, k _ _ h1, h2, fun i q t hq ht => k _ _ (h3 i q t hq ht)⟩
theorem LAt.keepP {H H' : Hp} {L p : Addr} {ts : List (List V)} (h : LAt H L ts) (n : L ≠ p) (hp : ∃ xs, H p = some (.lst xs)) (k : Keep p H H') : LAt H' L ts := by
  obtain ⟨qs, h1, h2, h3⟩ := h
  refine ⟨qs, k _ _ n h1, h2, fun i q t hq ht => ?_⟩
  have e := h3 i q t hq ht
  exact k _ _ (fun z => by obtain ⟨xs, hx⟩ := hp; rw [z, hx] at e; cases e) e
theorem LAt.app {H : Hp} {L t : Addr} {ts : List (List V)} {qs : List Addr} {x : List V} (h : LAt H L ts) (e : H L = some (.lst (qs.map V.ref))) (ht : H t = none) :
    LAt (upd (upd H t (.tup x)) L (.lst (qs.map V.ref ++ [.ref t]))) L (ts ++ [x]) := by
  obtain ⟨qs', h1, h2, h3⟩ := h
  obtain rfl : qs' = qs := by
    rw [e] at h1
    injection h1 with e
    injection e with e
    exact ((List.map_inj_right (fun a b h => by injection h)).mp e).symm
  have nt : L ≠ t := ne_of_none e ht
  refine ⟨qs' ++ [t], by rw [upd_same, List.map_append]; rfl, by rw [List.length_append, List.length_append, h2]; rfl, fun i q u hq hu => ?_⟩
  by_cases hlt : i < qs'.length
  · rw [List.getElem?_append_left hlt] at hq
    rw [List.getElem?_append_left (by omega)] at hu
    have e' := h3 i q u hq hu
    rw [upd_ne (fun z => by rw [z, e] at e'; cases e'), upd_ne (ne_of_none e' ht)]
    exact e'
  · rw [List.getElem?_append_right (by omega)] at hq
    rw [List.getElem?_append_right (by omega), ← h2] at hu
    obtain ⟨hi0, _⟩ := List.getElem?_eq_some_iff.mp hq
    have : i - qs'.length = 0 := by simpa using hi0
    rw [this] at hq hu
    obtain rfl : t = q := by simpa using hq
    obtain rfl : x = u := by simpa using hu
    rw [upd_ne (Ne.symm nt)]
    exact upd_same
theorem LAt.get {H : Hp} {L : Addr} {ts : List (List V)} (h : LAt H L ts) {qs : List Addr} (e : H L = some (.lst (qs.map V.ref))) : qs.length = ts.length ∧ ∀ (i : Nat) (q : Addr) (t : List V), qs[i]? = some q → ts[i]? = some t → H q = some (.tup t) := by
  obtain ⟨qs', h1, h2, h3⟩ := h
  obtain rfl : qs' = qs := by
    rw [e] at h1
    injection h1 with e
    injection e with e
    exact ((List.map_inj_right (fun a b h => by injection h)).mp e).symm
  exact ⟨h2, h3⟩
abbrev Col := Str × Bool × Bool
def ct (c : Col) : List V := [.str c.1, .str (kS c.2.1), .bl c.2.2]
def dS (up : Bool) : Str := if up = true then "up" else "down"
def pt (c : Str × Bool) : List V := [.str c.1, .str (dS c.2)]
def kdA (cs : List Col) : Str → Option Bool := cs.foldl (fun f x => fun c => if c = x.1 then some x.2.1 else f c) (fun _ => none)
theorem kdA_app {cs : List Col} {x : Col} {c : Str} : kdA (cs ++ [x]) c = if c = x.1 then some x.2.1 else kdA cs c := by
  unfold kdA
  rw [List.foldl_append]
  rfl
theorem kdA_mem {cs : List Col} {x : Col} (h : x ∈ cs) : ∃ kd, kdA cs x.1 = some kd := by
  have key : ∀ (r : List Col) (l : List Col), x ∈ l ++ r → (x ∈ l → ∃ kd, kdA l x.1 = some kd) → ∃ kd, kdA (l ++ r) x.1 = some kd := by
    intro r
    induction r with
    | nil => intro l h k; rw [List.append_nil] at h ⊢; exact k h
    | cons y r ih =>
      intro l h k
      have e : l ++ y :: r = (l ++ [y]) ++ r := by simp
      rw [e] at h ⊢
      refine ih (l ++ [y]) h fun hm => ?_
      rw [kdA_app]
      by_cases hx : x.1 = y.1
      · rw [if_pos hx]; exact ⟨_, rfl⟩
      · rw [if_neg hx]
        rcases List.mem_append.mp hm with hm | hm
        · exact k hm
        · exact absurd (by rw [List.mem_singleton.mp hm]) hx
  exact key cs [] h fun hm => nomatch hm
theorem strs_of : ∀ {ys : List V}, (∀ y ∈ ys, ∃ z, y = .str z) → ∃ xs : List Str, ys = xs.map V.str
  | [], _ => ⟨[], rfl⟩
  | y :: ys, h => by
    obtain ⟨z, rfl⟩ := h y List.mem_cons_self
    obtain ⟨xs, rfl⟩ := strs_of fun y hy => h y (List.mem_cons_of_mem _ hy)
    exact ⟨z :: xs, rfl⟩
abbrev XT (H H' : Hp) : Prop := ∀ q o, H q = some o → H' q = some o
theorem XT.new {H H1 : Hp} {t : Addr} {o : HO} (k : XT H H1) (h : H1 t = none) : XT H (upd H1 t o) := fun q u e => by rw [upd_ne (ne_of_none (k q u e) h)]; exact k q u e
theorem XT.pool {H H1 H2 : Hp} {p : Addr} (k : XT H H1) (h : H p = none) (K : Keep p H1 H2) : XT H H2 := fun q u e => K q u (ne_of_none e h) (k q u e)
theorem xtL {K : PySem.W.Frag} {H H' : Hp} {a : Addr} {xs : List V} (h : SqL K H a xs) (k : XT H H') : SqL K H' a xs := by
  rcases h with h | h
  · rcases h with h | ⟨o, h⟩
    · exact .inl (.inl (k _ _ h))
    · exact .inl (.inr ⟨o, k _ _ h⟩)
  · exact .inr h
theorem XT.trans {H H1 H2 : Hp} (a : XT H H1) (b : XT H1 H2) : XT H H2 := fun q o h => b q o (a q o h)

/-- a comprehension with a promise over what it has taken -/
theorem lc_inv {σ : L2.St} {g : TG} {tt : TT} {te : TE} {vs : List Nat} {J : It} {H1 : Hp} {D : Addr} {Qd : Hp → Prop} (xs : List V) (Pv : Nat → List V → Hp → Prop) (h0 : Pv 0 [] (upd H1 D (.lst []))) (hJ : ∀ i acc H, Pv i acc H → Fits J xs H) (hlen : xs.length ≤ 1000000)
    (hD : ∀ i acc H, Pv i acc H → H D = some (.lst acc) ∧ acc.length ≤ i)
    (hs : ∀ i acc x Hh (R : V → Hp → Prop) (S : Hp → Prop), xs[i]? = some x → Pv i acc Hh → (∀ y H4, H4 D = some (.lst acc) → Pv (i + 1) (acc ++ [y]) (upd H4 D (.lst (acc ++ [y]))) → R y H4) → (∀ H3, Pv (i + 1) acc H3 → S H3) →
      g x (wipe σ vs) Hh fun σ2 H2 => wipe σ2 vs = wipe σ vs ∧ tt σ2 H2 fun b H3 => if b = true then te σ2 H3 R else S H3)
    (hd : ∀ acc H, Pv xs.length acc H → Qd H) :
    ∃ W : Nat → Nat → Hp → Prop, (∃ m, W 0 m (upd H1 D (.lst []))) ∧ ∀ i m H, W i m H →
      (J.stop i H ∧ Qd H) ∨ (J.go i H ∧ ∃ Nx : Hp → Prop, (∀ H', Nx H' → ∃ m', m' < m ∧ W (i + 1) m' H') ∧ ∀ x H', J.yld i H x H' → g x (wipe σ vs) H' fun σ2 H2 => wipe σ2 vs = wipe σ vs ∧ tt σ2 H2 fun b H3 =>
        if b = true then te σ2 H3 fun y H4 => ∃ acc, H4 D = some (.lst acc) ∧ acc.length < sizeLine ∧ Nx (upd H4 D (.lst (acc ++ [y]))) else Nx H3) := by
  refine ⟨fun i m H => m = xs.length - i ∧ i ≤ xs.length ∧ ∃ acc, Pv i acc H, ⟨xs.length, by simp, Nat.zero_le _, [], h0⟩, ?_⟩
  rintro i m H ⟨rfl, hi, acc, hp⟩
  have fi := hJ i acc H hp
  by_cases hlt : i < xs.length
  · refine .inr ⟨fi.go i hlt, fun H' => ∃ acc, Pv (i + 1) acc H', fun H' w => ⟨xs.length - (i + 1), by omega, rfl, hlt, w⟩, ?_⟩
    intro x H' hy
    obtain ⟨rfl, hx⟩ := fi.yld i x H' hy
    obtain ⟨d1, d2⟩ := hD i acc _ hp
    exact hs i acc x _ _ _ hx hp (fun y H4 e q => ⟨acc, e, by rw [sizeLine_eq]; omega, _, q⟩) (fun H3 q => ⟨_, q⟩)
  · have e : i = xs.length := by omega
    subst e
    exact .inl ⟨fi.stop _ (Nat.le_refl _), hd acc H hp⟩

theorem TyOf7.keep {H H' : Hp} {v : V} {T : String} (h : TyOf7 H v T) (k : XT H H') : TyOf7 H' v T := by
  cases h with
  | non => exact .non
  | bl b => exact .bl b
  | int i => exact .int i
  | str z => exact .str z
  | lst h => exact .lst (k _ _ h)
  | tup h => exact .tup (k _ _ h)
  | dct h => exact .dct (k _ _ h)
theorem XT.refl {H : Hp} : XT H H := fun _ _ h => h
theorem kit_seq {K : PySem.W.Frag} : ∀ T ∈ kinds7, PySem.W.kitAny K (.type T) [.type "list", .type "tuple"] = some (decide (T = "list" ∨ T = "tuple")) := by
  intro T h
  unfold kinds7 at h
  simp only [List.mem_cons, List.not_mem_nil, or_false] at h
  rcases h with rfl | rfl | rfl | rfl | rfl | rfl | rfl
  · exact kitAny_cons (b := false) (kit_ty (by decide +kernel)) (fun _ => kitAny_cons (b := false) (kit_ty (by decide +kernel)) (fun _ => rfl) (fun z => nomatch z)) (fun z => nomatch z)
  · exact kitAny_cons (b := false) (kit_ty (by decide +kernel)) (fun _ => kitAny_cons (b := false) (kit_ty (by decide +kernel)) (fun _ => rfl) (fun z => nomatch z)) (fun z => nomatch z)
  · exact kitAny_cons (b := false) (kit_ty (by decide +kernel)) (fun _ => kitAny_cons (b := false) (kit_ty (by decide +kernel)) (fun _ => rfl) (fun z => nomatch z)) (fun z => nomatch z)
  · exact kitAny_cons (b := false) (kit_ty (by decide +kernel)) (fun _ => kitAny_cons (b := false) (kit_ty (by decide +kernel)) (fun _ => rfl) (fun z => nomatch z)) (fun z => nomatch z)
  · exact kitAny_cons (b := true) (kit_ty (by decide +kernel)) (fun z => nomatch z) (fun _ => by decide)
  · exact kitAny_cons (b := false) (kit_ty (by decide +kernel)) (fun _ => kitAny_cons (b := true) (kit_ty (by decide +kernel)) (fun z => nomatch z) (fun _ => by decide)) (fun z => nomatch z)
  · exact kitAny_cons (b := false) (kit_ty (by decide +kernel)) (fun _ => kitAny_cons (b := false) (kit_ty (by decide +kernel)) (fun _ => rfl) (fun z => nomatch z)) (fun z => nomatch z)
def spSeqX (K : PySem.W.Frag) : Sp := fun vs H Q _ => ∃ v Tn, vs = [v] ∧ Tn ∈ kinds7 ∧ (∀ H', XT H H' → TyX K H' v (.type Tn)) ∧ ∀ H', XT H H' → Q (.bl (decide (Tn = "list" ∨ Tn = "tuple"))) H'
section
variable {P : Program} {w : World} {K : PySem.W.Frag} {mg : Str → Option Value} {base : Heap}
theorem ok_is_sequence (T : Txt K mg) : Def P w K mg base 1 "is_sequence" ["thing"] (spSeqX K) := by
  obtain ⟨f, fd, h⟩ := T.d_is_sequence
  refine h.def (Fun.okM h.fn sc_is_sequence (fun vs H Q E h => ?_) (fun cdv A outer s H vs Q E hr h => ?_))
  · obtain ⟨v, Tn, rfl, _⟩ := h
    rfl
  · obtain ⟨v, Tn, rfl, hT, ty, k⟩ := h
    refine ⟨_, (pss_one (ps_ret (pe_callB call_isiT (by rfl) T.h_isinstance (by decide +kernel) (pa_cons (pv 0) (pa_cons (pe_tup (pa_cons (pe_bltn (v := .ty "list") (by rfl) T.h_list (by decide +kernel) rfl) (pa_cons (pe_bltn (v := .ty "tuple") (by rfl) T.h_tuple (by decide +kernel) rfl) pa_nil))) pa_nil))))), ?_⟩
    walk_at "g"
    refine ⟨by show 2 ≤ sizeLine; decide, fun t ht => ?_⟩
    walk_at "g"
    have kt : XT H (upd H t (.tup [.ty "list", .ty "tuple"])) := fun q o h => by rw [upd_ne (ne_of_none h ht)]; exact h
    refine ⟨v, t, _, _, _, _, rfl, upd_same, .cons (.ty "list") (.cons (.ty "tuple") .nil), ty _ kt, kit_seq Tn hT, ?_⟩
    walk_at "g"
    exact k _ kt
end
section
variable {P : Program} {w : World} {K : PySem.W.Frag} {mg : Str → Option Value} {base : Heap}
theorem ok_need_op (T : Txt K mg) : Def P w K mg base 1 "need_op" ["thing"] (spNeed fun v => ∃ c, v = .str c ∧ c ∈ opsL) := by
  obtain ⟨f, fd, h⟩ := T.d_need_op
  obtain ⟨t_OPS, G_OPS, Q_OPS⟩ := T.k_OPS
  refine h.def (Fun.okM h.fn sc_need_op (fun vs H Q E h => ?_) (fun cdv A outer s H vs Q E hr h => ?_))
  · obtain ⟨v, rfl, _⟩ := h
    rfl
  · obtain ⟨v, rfl, ⟨c, rfl, hc⟩, k⟩ := h
    refine ⟨_, (pss_one (ps_if (PW.pt (pw_or (pt_not (pt_val (pe_callB (call_isiG (K := K) rfl) (by rfl) T.h_isinstance (by decide +kernel) (pa_cons (pv 0) (pa_cons (pe_bltn (v := .ty "str") (by rfl) T.h_str (by decide +kernel) rfl) pa_nil))))) (pw_or1 (pt_cmpR (op_notInG (K := K) rfl) (pv 0) (pe_glob (v := .ref t_OPS) rfl G_OPS rfl) (by rfl)))))
  (pss_one ps_never)
  pss_nil)), ?_⟩
    walk_at "g"
    refine .inr ⟨_, opsL.map V.str, rfl, .inr (Q_OPS _), rfl, Tw.flat_strs _, ?_⟩
    rw [if_pos rfl, inV_strs]
    walk_at "g"
    refine g_ndec (fun h => absurd hc h) (fun _ => ?_)
    walk_at "g"
    exact k _ fun _ _ h => h
theorem ok_need_values (T : Txt K mg) : Def P w K mg base 3 "need_values" ["thing"] (fun vs H Q _ => ∃ (l : Addr) (xs : List V) (k : Bool), vs = [.ref l] ∧ H l = some (.lst xs) ∧ xs ≠ [] ∧ xs.length ≤ 8 ∧ (∀ v ∈ xs, isV k v) ∧ ∀ H', (∀ q o, H q = some o → H' q = some o) → Q .non H') := by
  obtain ⟨f, fd, h⟩ := T.d_need_values
  obtain ⟨t_MOST_VALUES, G_MOST_VALUES⟩ := T.k_MOST_VALUES
  refine h.def (Fun.okM h.fn sc_need_values (fun vs H Q E h => ?_) (fun cdv A outer s H vs Q E hr h => ?_))
  · obtain ⟨l, xs, kd, rfl, _⟩ := h
    rfl
  · obtain ⟨l, xs, kd, rfl, hl, hne, h8, hv, k⟩ := h
    refine ⟨_, (pss_cons (ps_if (PW.pt (pw_or (pt_not (pt_val (pe_def (ok_is_sequence T) hr rfl (pa_cons (pv 0) pa_nil)))) (pw_or (pt_cmpR op_eq (pe_callB (call_lenG (K := K) rfl) (by rfl) T.h_len (by decide +kernel) (pa_cons (pv 0) pa_nil)) pe_int (nomark _)) (pw_or1 (pt_cmpR op_gtG (pe_callB (call_lenG (K := K) rfl) (by rfl) T.h_len (by decide +kernel) (pa_cons (pv 0) pa_nil)) (pe_glob (v := .int 8) rfl G_MOST_VALUES ⟨_, rfl⟩) (nomark _))))))
  (pss_one ps_never)
  pss_nil)
  (pss_one (ps_for PassesOwn.never rfl (pi_list (pv 0)) (pg_name (i := 1) sc_need_values.nd rfl (Or.inl rfl))
  (pss_one (ps_if (pt_cmpR op_isNG (pe_def (ok_kind_of T) hr rfl (pa_cons (pv 1) pa_nil)) pe_non (nomark _))
  (pss_one ps_never)
  pss_nil))))), ?_⟩
    have hpos : 0 < xs.length := List.length_pos_iff.mpr hne
    walk_at "g"
    refine ⟨_, "list", rfl, by decide, fun H2 x2 => .base (.lst (x2 _ _ hl)), fun H1 k1 => ?_⟩
    have hl1 := k1 _ _ hl
    rw [show decide (("list" : String) = "list" ∨ ("list" : String) = "tuple") = true by decide]
    walk_at "g"
    refine g_dec (fun h => absurd h (by omega)) (fun _ => ?_)
    walk_at "g"
    refine g_dec (fun h => absurd h (by omega)) (fun _ => ?_)
    walk_at "g"
    refine ⟨l, rfl, ⟨_, SqL.of hl1⟩, for_listA (xs := xs) (fun j σ' H' => (∃ v, σ' = [some (.ref l), v]) ∧ ∀ q o, H q = some o → H' q = some o) ⟨⟨none, rfl⟩, k1⟩ (fun _ _ _ _ e => SqL.of (e.2 _ _ hl)) ?_ ?_⟩
    · rintro j x σ' H2 D' hj ⟨⟨v, rfl⟩, k2⟩ hnx hct hbk hrt
      have hx := hv x (List.mem_of_getElem? hj)
      obtain ⟨s, es⟩ := hx.kind
      walk_at "g"
      refine ⟨_, rfl, hx.thing, fun H3 k3 => ?_⟩
      rw [es]
      walk_at "g"
      exact hnx _ _ ⟨⟨_, rfl⟩, fun q o h => k3 _ _ (k2 _ _ h)⟩
    · rintro σ' H2 ⟨⟨v, rfl⟩, k2⟩
      walk_at "g"
      exact k _ k2
theorem ok_always (T : Txt K mg) : Def P w K mg base 4 "always" [] (fun vs H Q _ => vs = [] ∧ ∀ t H', (∀ q o, H q = some o → H' q = some o) → TestAt (cadr mg "Test") H' At.always.ts t → Q (.ref t) H') := by
  obtain ⟨f, fd, h⟩ := T.d_always
  refine h.def (Fun.okM h.fn sc_always (fun vs H Q E h => ?_) (fun cdv A outer s H vs Q E hr h => ?_))
  · obtain ⟨rfl, _⟩ := h
    rfl
  · obtain ⟨rfl, k⟩ := h
    refine ⟨_, (pss_one (ps_ret (pe_new (ok_Test_init T) hr rfl T.e_Test (pa_cons pe_str (pa_cons (pe_tup pa_nil) (pa_cons (pe_tup pa_nil) (pa_cons (pe_tup pa_nil) pa_nil))))))), ?_⟩
    walk_at "g"
    refine ⟨Nat.zero_le _, fun i hi => ?_⟩
    walk_at "g"
    refine ⟨by show 0 ≤ sizeLine; decide, fun f hf => ?_⟩
    walk_at "g"
    refine ⟨by show 0 ≤ sizeLine; decide, fun u hu => ?_⟩
    walk_at "g"
    intro x dx hx hdx hne
    have hi2 : ∀ y0 : HO, (upd (upd (upd (upd (upd H i (.tup [])) f (.tup [])) u (.tup [])) dx (.own x)) x y0) i = some (.tup []) := fun y0 => by
      have h1 : (upd (upd (upd H i (.tup [])) f (.tup [])) u (.tup [])) i = some (.tup []) := by rw [upd_ne (ne_of_none (by rw [upd_ne (ne_of_none upd_same hf)]; exact upd_same) hu), upd_ne (ne_of_none upd_same hf)]; exact upd_same
      rw [upd_ne (ne_of_none h1 hx), upd_ne (ne_of_none h1 hdx)]; exact h1
    refine ⟨x, dx, i, f, u, _, [], [], rfl, upd_same, hi2 _, .nil, Nat.zero_le _, fun H9 k9 h9 => ⟨rfl, ?_⟩⟩
    obtain ⟨e1, e2⟩ := atom_made (At.always.flds) (At.always.trms) hi hf hu hx hdx k9 h9
    walk_at "g"
    exact k x H9 (fun q o h => e1 _ _ (h)) e2
theorem ok_never (T : Txt K mg) : Def P w K mg base 4 "never" [] (fun vs H Q _ => vs = [] ∧ ∀ t H', (∀ q o, H q = some o → H' q = some o) → TestAt (cadr mg "Test") H' At.never.ts t → Q (.ref t) H') := by
  obtain ⟨f, fd, h⟩ := T.d_never
  refine h.def (Fun.okM h.fn sc_never (fun vs H Q E h => ?_) (fun cdv A outer s H vs Q E hr h => ?_))
  · obtain ⟨rfl, _⟩ := h
    rfl
  · obtain ⟨rfl, k⟩ := h
    refine ⟨_, (pss_one (ps_ret (pe_new (ok_Test_init T) hr rfl T.e_Test (pa_cons pe_str (pa_cons (pe_tup pa_nil) (pa_cons (pe_tup pa_nil) (pa_cons (pe_tup pa_nil) pa_nil))))))), ?_⟩
    walk_at "g"
    refine ⟨Nat.zero_le _, fun i hi => ?_⟩
    walk_at "g"
    refine ⟨by show 0 ≤ sizeLine; decide, fun f hf => ?_⟩
    walk_at "g"
    refine ⟨by show 0 ≤ sizeLine; decide, fun u hu => ?_⟩
    walk_at "g"
    intro x dx hx hdx hne
    have hi2 : ∀ y0 : HO, (upd (upd (upd (upd (upd H i (.tup [])) f (.tup [])) u (.tup [])) dx (.own x)) x y0) i = some (.tup []) := fun y0 => by
      have h1 : (upd (upd (upd H i (.tup [])) f (.tup [])) u (.tup [])) i = some (.tup []) := by rw [upd_ne (ne_of_none (by rw [upd_ne (ne_of_none upd_same hf)]; exact upd_same) hu), upd_ne (ne_of_none upd_same hf)]; exact upd_same
      rw [upd_ne (ne_of_none h1 hx), upd_ne (ne_of_none h1 hdx)]; exact h1
    refine ⟨x, dx, i, f, u, _, [], [], rfl, upd_same, hi2 _, .nil, Nat.zero_le _, fun H9 k9 h9 => ⟨rfl, ?_⟩⟩
    obtain ⟨e1, e2⟩ := atom_made (At.never.flds) (At.never.trms) hi hf hu hx hdx k9 h9
    walk_at "g"
    exact k x H9 (fun q o h => e1 _ _ (h)) e2
theorem ok_empty (T : Txt K mg) : Def P w K mg base 4 "empty" ["column"] (fun vs H Q _ => ∃ c, vs = [.str c] ∧ nameP c ∧ ∀ t H', (∀ q o, H q = some o → H' q = some o) → TestAt (cadr mg "Test") H' (At.empty c).ts t → Q (.ref t) H') := by
  obtain ⟨f, fd, h⟩ := T.d_empty
  refine h.def (Fun.okM h.fn sc_empty (fun vs H Q E h => ?_) (fun cdv A outer s H vs Q E hr h => ?_))
  · obtain ⟨c, rfl, _⟩ := h
    rfl
  · obtain ⟨c, rfl, hc, k⟩ := h
    refine ⟨_, (pss_cons (ps_expr (pe_def (ok_need_column T) hr rfl (pa_cons (pv 0) pa_nil)))
  (pss_one (ps_ret (pe_new (ok_Test_init T) hr rfl T.e_Test (pa_cons pe_str (pa_cons (pe_tup pa_nil) (pa_cons (pe_tup (pa_cons (pv 0) pa_nil)) (pa_cons (pe_tup pa_nil) pa_nil)))))))), ?_⟩
    walk_at "g"
    refine ⟨_, rfl, ⟨c, rfl, hc⟩, fun H1 k1 => ?_⟩
    walk_at "g"
    refine ⟨Nat.zero_le _, fun i hi => ?_⟩
    walk_at "g"
    refine ⟨by show 1 ≤ sizeLine; decide, fun f hf => ?_⟩
    walk_at "g"
    refine ⟨by show 0 ≤ sizeLine; decide, fun u hu => ?_⟩
    walk_at "g"
    intro x dx hx hdx hne
    have hi2 : ∀ y0 : HO, (upd (upd (upd (upd (upd H1 i (.tup [])) f (.tup [V.str c])) u (.tup [])) dx (.own x)) x y0) i = some (.tup []) := fun y0 => by
      have h1 : (upd (upd (upd H1 i (.tup [])) f (.tup [V.str c])) u (.tup [])) i = some (.tup []) := by rw [upd_ne (ne_of_none (by rw [upd_ne (ne_of_none upd_same hf)]; exact upd_same) hu), upd_ne (ne_of_none upd_same hf)]; exact upd_same
      rw [upd_ne (ne_of_none h1 hx), upd_ne (ne_of_none h1 hdx)]; exact h1
    refine ⟨x, dx, i, f, u, _, [], [], rfl, upd_same, hi2 _, .nil, Nat.zero_le _, fun H9 k9 h9 => ⟨rfl, ?_⟩⟩
    obtain ⟨e1, e2⟩ := atom_made ((At.empty c).flds) ((At.empty c).trms) hi hf hu hx hdx k9 h9
    walk_at "g"
    exact k x H9 (fun q o h => e1 _ _ (k1 _ _ h)) e2
theorem ok_begins (T : Txt K mg) : Def P w K mg base 4 "begins" ["column", "prefix"] (fun vs H Q _ => ∃ c z, vs = [.str c, .str z] ∧ nameP c ∧ isS (.str z) ∧ ∀ t H', (∀ q o, H q = some o → H' q = some o) → TestAt (cadr mg "Test") H' (At.begins c z).ts t → Q (.ref t) H') := by
  obtain ⟨f, fd, h⟩ := T.d_begins
  refine h.def (Fun.okM h.fn sc_begins (fun vs H Q E h => ?_) (fun cdv A outer s H vs Q E hr h => ?_))
  · obtain ⟨c, z, rfl, _⟩ := h
    rfl
  · obtain ⟨c, z, rfl, hc, hz, k⟩ := h
    refine ⟨_, (pss_cons (ps_expr (pe_def (ok_need_column T) hr rfl (pa_cons (pv 0) pa_nil)))
  (pss_cons (ps_if (pt_not (pt_val (pe_def (ok_is_text T) hr rfl (pa_cons (pv 1) pa_nil))))
  (pss_one ps_never)
  pss_nil)
  (pss_one (ps_ret (pe_new (ok_Test_init T) hr rfl T.e_Test (pa_cons pe_str (pa_cons (pe_tup pa_nil) (pa_cons (pe_tup (pa_cons (pv 0) pa_nil)) (pa_cons (pe_tup (pa_cons (pv 1) pa_nil)) pa_nil))))))))), ?_⟩
    walk_at "g"
    refine ⟨_, rfl, ⟨c, rfl, hc⟩, fun H1 k1 => ?_⟩
    walk_at "g"
    refine ⟨_, rfl, isV.thing (k := true) (.inr hz), fun H2 k2 => ?_⟩
    rw [show isTxtB (.str z) = true from isS.txt hz]
    walk_at "g"
    refine ⟨Nat.zero_le _, fun i hi => ?_⟩
    walk_at "g"
    refine ⟨by show 1 ≤ sizeLine; decide, fun f hf => ?_⟩
    walk_at "g"
    refine ⟨by show 1 ≤ sizeLine; decide, fun u hu => ?_⟩
    walk_at "g"
    intro x dx hx hdx hne
    have hi2 : ∀ y0 : HO, (upd (upd (upd (upd (upd H2 i (.tup [])) f (.tup [V.str c])) u (.tup [V.str z])) dx (.own x)) x y0) i = some (.tup []) := fun y0 => by
      have h1 : (upd (upd (upd H2 i (.tup [])) f (.tup [V.str c])) u (.tup [V.str z])) i = some (.tup []) := by rw [upd_ne (ne_of_none (by rw [upd_ne (ne_of_none upd_same hf)]; exact upd_same) hu), upd_ne (ne_of_none upd_same hf)]; exact upd_same
      rw [upd_ne (ne_of_none h1 hx), upd_ne (ne_of_none h1 hdx)]; exact h1
    refine ⟨x, dx, i, f, u, _, [], [], rfl, upd_same, hi2 _, .nil, Nat.zero_le _, fun H9 k9 h9 => ⟨rfl, ?_⟩⟩
    obtain ⟨e1, e2⟩ := atom_made ((At.begins c z).flds) ((At.begins c z).trms) hi hf hu hx hdx k9 h9
    walk_at "g"
    exact k x H9 (fun q o h => e1 _ _ (k2 _ _ (k1 _ _ h))) e2
theorem ok_compare (T : Txt K mg) : Def P w K mg base 4 "compare" ["column", "op", "value"] (fun vs H Q _ => ∃ c op v kd, vs = [.str c, .str op, v] ∧ nameP c ∧ op ∈ opsL ∧ isV kd v ∧ ∀ t H', (∀ q o, H q = some o → H' q = some o) → TestAt (cadr mg "Test") H' (At.compare c op v).ts t → Q (.ref t) H') := by
  obtain ⟨f, fd, h⟩ := T.d_compare
  refine h.def (Fun.okM h.fn sc_compare (fun vs H Q E h => ?_) (fun cdv A outer s H vs Q E hr h => ?_))
  · obtain ⟨c, op, v, kd, rfl, _⟩ := h
    rfl
  · obtain ⟨c, op, v, kd, rfl, hc, ho, hv, k⟩ := h
    refine ⟨_, (pss_cons (ps_expr (pe_def (ok_need_column T) hr rfl (pa_cons (pv 0) pa_nil)))
  (pss_cons (ps_expr (pe_def (ok_need_op T) hr rfl (pa_cons (pv 1) pa_nil)))
  (pss_cons (ps_if (pt_cmpR op_isNG (pe_def (ok_kind_of T) hr rfl (pa_cons (pv 2) pa_nil)) pe_non (nomark _))
  (pss_one ps_never)
  pss_nil)
  (pss_one (ps_ret (pe_new (ok_Test_init T) hr rfl T.e_Test (pa_cons pe_str (pa_cons (pe_tup pa_nil) (pa_cons (pe_tup (pa_cons (pv 0) pa_nil)) (pa_cons (pe_tup (pa_cons (pv 1) (pa_cons (pv 2) pa_nil))) pa_nil)))))))))), ?_⟩
    walk_at "g"
    refine ⟨_, rfl, ⟨c, rfl, hc⟩, fun H1 k1 => ?_⟩
    walk_at "g"
    refine ⟨_, rfl, ⟨op, rfl, ho⟩, fun H2 k2 => ?_⟩
    walk_at "g"
    obtain ⟨s0, es⟩ := hv.kind
    refine ⟨_, rfl, hv.thing, fun H3 k3 => ?_⟩
    rw [es]
    walk_at "g"
    refine ⟨Nat.zero_le _, fun i hi => ?_⟩
    walk_at "g"
    refine ⟨by show 1 ≤ sizeLine; decide, fun f hf => ?_⟩
    walk_at "g"
    refine ⟨by show 2 ≤ sizeLine; decide, fun u hu => ?_⟩
    walk_at "g"
    intro x dx hx hdx hne
    have hi2 : ∀ y0 : HO, (upd (upd (upd (upd (upd H3 i (.tup [])) f (.tup [V.str c])) u (.tup [V.str op, v])) dx (.own x)) x y0) i = some (.tup []) := fun y0 => by
      have h1 : (upd (upd (upd H3 i (.tup [])) f (.tup [V.str c])) u (.tup [V.str op, v])) i = some (.tup []) := by rw [upd_ne (ne_of_none (by rw [upd_ne (ne_of_none upd_same hf)]; exact upd_same) hu), upd_ne (ne_of_none upd_same hf)]; exact upd_same
      rw [upd_ne (ne_of_none h1 hx), upd_ne (ne_of_none h1 hdx)]; exact h1
    refine ⟨x, dx, i, f, u, _, [], [], rfl, upd_same, hi2 _, .nil, Nat.zero_le _, fun H9 k9 h9 => ⟨rfl, ?_⟩⟩
    obtain ⟨e1, e2⟩ := atom_made ((At.compare c op v).flds) ((At.compare c op v).trms) hi hf hu hx hdx k9 h9
    walk_at "g"
    exact k x H9 (fun q o h => e1 _ _ (k3 _ _ (k2 _ _ (k1 _ _ h)))) e2
theorem ok_against (T : Txt K mg) : DefKw P w K mg base 4 "against" ["column", "op", "other", "more"] 3 "more" (.int 0) (fun vs H Q _ => ∃ c op d n, vs = [.str c, .str op, .str d, .int n] ∧ nameP c ∧ op ∈ opsL ∧ nameP d ∧ d ≠ c ∧ ∀ t H', (∀ q o, H q = some o → H' q = some o) → TestAt (cadr mg "Test") H' (At.against c op d n).ts t → Q (.ref t) H') := by
  obtain ⟨f, fd, h⟩ := T.d_against
  refine h.def (Fun.okM h.fn sc_against (fun vs H Q E h => ?_) (fun cdv A outer s H vs Q E hr h => ?_))
  · obtain ⟨c, op, d, n, rfl, _⟩ := h
    rfl
  · obtain ⟨c, op, d, n, rfl, hc, ho, hd, hdc, k⟩ := h
    refine ⟨_, (pss_cons (ps_expr (pe_def (ok_need_column T) hr rfl (pa_cons (pv 0) pa_nil)))
  (pss_cons (ps_expr (pe_def (ok_need_op T) hr rfl (pa_cons (pv 1) pa_nil)))
  (pss_cons (ps_expr (pe_def (ok_need_column T) hr rfl (pa_cons (pv 2) pa_nil)))
  (pss_cons (ps_if (pt_cmpR op_eq (pv 2) (pv 0) (nomark _))
  (pss_one ps_never)
  pss_nil)
  (pss_cons (ps_if (pt_not (pt_val (pe_def (ok_is_integer T) hr rfl (pa_cons (pv 3) pa_nil))))
  (pss_one ps_never)
  pss_nil)
  (pss_one (ps_ret (pe_new (ok_Test_init T) hr rfl T.e_Test (pa_cons pe_str (pa_cons (pe_tup pa_nil) (pa_cons (pe_tup (pa_cons (pv 0) (pa_cons (pv 2) pa_nil))) (pa_cons (pe_tup (pa_cons (pv 1) (pa_cons (pv 3) pa_nil))) pa_nil)))))))))))), ?_⟩
    walk_at "g"
    refine ⟨_, rfl, ⟨c, rfl, hc⟩, fun H1 k1 => ?_⟩
    walk_at "g"
    refine ⟨_, rfl, ⟨op, rfl, ho⟩, fun H2 k2 => ?_⟩
    walk_at "g"
    refine ⟨_, rfl, ⟨d, rfl, hd⟩, fun H3 k3 => ?_⟩
    walk_at "g"
    refine g_dec (fun h => absurd h hdc) (fun _ => ?_)
    walk_at "g"
    refine ⟨_, rfl, .inr (.inr (.inl ⟨n, rfl⟩)), fun H4 k4 => ?_⟩
    rw [show isIntB (.int n) = true from rfl]
    walk_at "g"
    refine ⟨Nat.zero_le _, fun i hi => ?_⟩
    walk_at "g"
    refine ⟨by show 2 ≤ sizeLine; decide, fun f hf => ?_⟩
    walk_at "g"
    refine ⟨by show 2 ≤ sizeLine; decide, fun u hu => ?_⟩
    walk_at "g"
    intro x dx hx hdx hne
    have hi2 : ∀ y0 : HO, (upd (upd (upd (upd (upd H4 i (.tup [])) f (.tup [V.str c, V.str d])) u (.tup [V.str op, V.int n])) dx (.own x)) x y0) i = some (.tup []) := fun y0 => by
      have h1 : (upd (upd (upd H4 i (.tup [])) f (.tup [V.str c, V.str d])) u (.tup [V.str op, V.int n])) i = some (.tup []) := by rw [upd_ne (ne_of_none (by rw [upd_ne (ne_of_none upd_same hf)]; exact upd_same) hu), upd_ne (ne_of_none upd_same hf)]; exact upd_same
      rw [upd_ne (ne_of_none h1 hx), upd_ne (ne_of_none h1 hdx)]; exact h1
    refine ⟨x, dx, i, f, u, _, [], [], rfl, upd_same, hi2 _, .nil, Nat.zero_le _, fun H9 k9 h9 => ⟨rfl, ?_⟩⟩
    obtain ⟨e1, e2⟩ := atom_made ((At.against c op d n).flds) ((At.against c op d n).trms) hi hf hu hx hdx k9 h9
    walk_at "g"
    exact k x H9 (fun q o h => e1 _ _ (k4 _ _ (k3 _ _ (k2 _ _ (k1 _ _ h))))) e2
theorem ok_among (T : Txt K mg) : Def P w K mg base 4 "among" ["column", "values"] (fun vs H Q _ => ∃ c l xs kd, vs = [.str c, .ref l] ∧ nameP c ∧ H l = some (.lst xs) ∧ xs ≠ [] ∧ xs.length ≤ 8 ∧ (∀ v ∈ xs, isV kd v) ∧ ∀ t H', (∀ q o, H q = some o → H' q = some o) → TestAt (cadr mg "Test") H' (At.among c xs).ts t → Q (.ref t) H') := by
  obtain ⟨f, fd, h⟩ := T.d_among
  refine h.def (Fun.okM h.fn sc_among (fun vs H Q E h => ?_) (fun cdv A outer s H vs Q E hr h => ?_))
  · obtain ⟨c, l, xs, kd, rfl, _⟩ := h
    rfl
  · obtain ⟨c, l, xs, kd, rfl, hc, hl, hne0, h8, hv, k⟩ := h
    refine ⟨_, (pss_cons (ps_expr (pe_def (ok_need_column T) hr rfl (pa_cons (pv 0) pa_nil)))
  (pss_cons (ps_expr (pe_def (ok_need_values T) hr rfl (pa_cons (pv 1) pa_nil)))
  (pss_one (ps_ret (pe_new (ok_Test_init T) hr rfl T.e_Test (pa_cons pe_str (pa_cons (pe_tup pa_nil) (pa_cons (pe_tup (pa_cons (pv 0) pa_nil)) (pa_cons (pe_callTy (call_tupleG (K := K) rfl) (by rfl) T.h_tuple (by decide +kernel) (pa_cons (pv 1) pa_nil)) pa_nil))))))))), ?_⟩
    walk_at "g"
    refine ⟨_, rfl, ⟨c, rfl, hc⟩, fun H1 k1 => ?_⟩
    walk_at "g"
    refine ⟨l, xs, kd, rfl, k1 _ _ hl, hne0, h8, hv, fun H2 k2 => ?_⟩
    have hl2 := k2 _ _ (k1 _ _ hl)
    walk_at "g"
    refine ⟨Nat.zero_le _, fun i hi => ?_⟩
    walk_at "g"
    refine ⟨by show 1 ≤ sizeLine; decide, fun f hf => ?_⟩
    walk_at "g"
    refine ⟨l, xs, rfl, .inl ⟨SqL.of (by rw [upd_ne (ne_of_none (by rw [upd_ne (ne_of_none hl2 hi)]; exact hl2) hf), upd_ne (ne_of_none hl2 hi)]; exact hl2), fun u hu => ?_⟩⟩
    walk_at "g"
    intro x dx hx hdx hne
    have hi2 : ∀ y0 : HO, (upd (upd (upd (upd (upd H2 i (.tup [])) f (.tup [V.str c])) u (.tup xs)) dx (.own x)) x y0) i = some (.tup []) := fun y0 => by
      have h1 : (upd (upd (upd H2 i (.tup [])) f (.tup [V.str c])) u (.tup xs)) i = some (.tup []) := by rw [upd_ne (ne_of_none (by rw [upd_ne (ne_of_none upd_same hf)]; exact upd_same) hu), upd_ne (ne_of_none upd_same hf)]; exact upd_same
      rw [upd_ne (ne_of_none h1 hx), upd_ne (ne_of_none h1 hdx)]; exact h1
    refine ⟨x, dx, i, f, u, _, [], [], rfl, upd_same, hi2 _, .nil, Nat.zero_le _, fun H9 k9 h9 => ⟨rfl, ?_⟩⟩
    obtain ⟨e1, e2⟩ := atom_made ((At.among c xs).flds) ((At.among c xs).trms) hi hf hu hx hdx k9 h9
    walk_at "g"
    exact k x H9 (fun q o h => e1 _ _ (k2 _ _ (k1 _ _ h))) e2
end
section
variable {P : Program} {w : World} {K : PySem.W.Frag} {mg : Str → Option Value} {base : Heap}
theorem ok__law_number (T : Txt K mg) : Def P w K mg base 2 "_law_number" ["_law_draw"] (spDraw isI) := by
  obtain ⟨f, fd, h⟩ := T.d__law_number
  refine h.def (Fun.okM h.fn sc__law_number (fun vs H Q E h => ?_) (fun cdv A outer s H vs Q E hr h => ?_))
  · obtain ⟨d, sc, ns, rfl, _⟩ := h
    rfl
  · obtain ⟨d, sc, ns, rfl, hD, k⟩ := h
    refine ⟨_, (pss_cons (ps_set (i := 1) sc__law_number.nd rfl (Or.inl rfl) (pe_def (ok__law_take T) hr rfl (pa_cons (pv 0) (pa_cons pe_int pa_nil))))
  (pss_cons (ps_if (pt_cmpR op_eq (pv 1) pe_int (nomark _))
  (pss_one (ps_ret (pe_op op_addG (pe_op op_subG (pe_def (ok__law_take T) hr rfl (pa_cons (pv 0) (pa_cons (pe_op op_subG (pe_op op_mulG pe_int (pe_op op_powG' pe_int pe_int)) pe_int) pa_nil))) (pe_op op_powG' pe_int pe_int)) pe_int)))
  pss_nil)
  (pss_cons (ps_if (pt_cmpR op_eq (pv 1) pe_int (nomark _))
  (pss_one (ps_ret (pe_op op_subG (pe_def (ok__law_take T) hr rfl (pa_cons (pv 0) (pa_cons pe_int pa_nil))) pe_int)))
  pss_nil)
  (pss_one (ps_ret (pe_op op_subG (pe_def (ok__law_take T) hr rfl (pa_cons (pv 0) (pa_cons pe_int pa_nil))) pe_int)))))), ?_⟩
    walk_at "g"
    refine ⟨_, _, _, _, rfl, hD, by decide, by decide +kernel, fun r H1 r0 r1 D1 K1 => ?_⟩
    walk_at "G"
    all_goals refine ⟨_, _, _, _, rfl, D1, by decide +kernel, by decide +kernel, fun r2 H2 r20 r21 D2 K2 => ?_⟩
    all_goals walk_at "g"
    all_goals exact k _ _ ⟨_, rfl⟩ D2 (K1.trans K2)
end
section
variable {P : Program} {w : World} {K : PySem.W.Frag} {mg : Str → Option Value} {base : Heap}
theorem ok__law_text (T : Txt K mg) : Def P w K mg base 2 "_law_text" ["_law_draw"] (spDraw isS) := by
  obtain ⟨f, fd, h⟩ := T.d__law_text
  refine h.def (Fun.okM h.fn sc__law_text (fun vs H Q E h => ?_) (fun cdv A outer s H vs Q E hr h => ?_))
  · obtain ⟨d, sc, ns, rfl, _⟩ := h
    rfl
  · obtain ⟨d, sc, ns, rfl, hD, k⟩ := h
    refine ⟨_, (pss_cons (ps_set (i := 1) sc__law_text.nd rfl (Or.inr rfl) pe_str)
  (pss_cons (ps_set (i := 2) sc__law_text.nd rfl (Or.inl rfl) (pe_def (ok__law_take T) hr rfl (pa_cons (pv 0) (pa_cons pe_int pa_nil))))
  (Evl.pss_cut (ps_if (pt_cmpR op_eq (pe_def (ok__law_take T) hr rfl (pa_cons (pv 0) (pa_cons pe_int pa_nil))) pe_int (nomark _))
  (pss_cons (ps_set (i := 1) sc__law_text.nd rfl (Or.inr rfl) (pe_def0 (ok__law_chars T) hr rfl))
  (pss_one (ps_set (i := 2) sc__law_text.nd rfl (Or.inl rfl) (pe_def (ok__law_take T) hr rfl (pa_cons (pv 0) (pa_cons pe_int pa_nil))))))
  pss_nil)
  (pss_one (ps_ret (pe_m1 PySem.F.slot_str_join PySem.F.type_str_join (mt_joinG (K := K) rfl) pe_str (pe_lc (own := [("_law_k", 3)]) rfl sc__law_text.nd (pi_range1 rfl T.h_range (pa_cons (pv 2) pa_nil)) (blkOk_by (N := N__law_text) (sc := defScope S__law_text) (by decide +kernel)) (fun _ _ _ _ _ => pg_name (i := 3) sc__law_text.nd rfl (Or.inl rfl)) (fun _ _ _ _ _ => pts_nil) (fun _ _ _ _ _ => (pe_ix (ix_seqG (K := K) rfl) (pv 1) (pe_def (ok__law_take T) hr rfl (pa_cons (pv 0) (pa_cons (pe_callB (call_lenG (K := K) rfl) (by rfl) T.h_len (by decide +kernel) (pa_cons (pv 1) pa_nil)) pa_nil))) (fun _ _ => rfl)))))))))), ?_⟩
    walk_at "g"
    refine ⟨_, _, _, _, rfl, hD, by decide, by decide +kernel, fun r H1 r0 r1 D1 K1 => ?_⟩
    walk_at "g"
    refine g_cut (M := fun σ' H' => ∃ (z : Str) (n : Int), σ' = [some (.ref d), some (.str z), some (.int n), none] ∧ 0 ≤ n ∧ n < 39 ∧ 0 < z.length ∧ z.length ≤ 100 ∧ (∀ c ∈ z.cps.toList, c ∈ signs.cps.toList) ∧ Dr H' d sc ns ∧ Keep d H H') ?_ ?_
    · walk_at "g"
      refine ⟨_, _, _, _, rfl, D1, by decide, by decide +kernel, fun r2 H2 r20 r21 D2 K2 => ?_⟩
      walk_at "G"
      · refine ⟨rfl, ?_⟩
        walk_at "g"
        refine ⟨_, _, _, _, rfl, D2, by decide, by decide +kernel, fun r3 H3 r30 r31 D3 K3 => ?_⟩
        walk_at "g"
        exact ⟨_, _, rfl, r30, r31, by decide +kernel, by decide +kernel, fun c hc => hc, D3, (K1.trans K2).trans K3⟩
      · exact ⟨_, _, rfl, r0, by omega, by decide +kernel, by decide +kernel, by decide +kernel, D2, K1.trans K2⟩
    · rintro σ' H' ⟨z, n, rfl, n0, n1, z0, z1, hz, DD, KK⟩
      walk_at "g"
      walk_at "g"
      refine ⟨n, rfl, by omega, by omega, fun L hL => ?_⟩
      obtain ⟨hLd, hLs⟩ := DD.ne hL
      refine lc_range (fun i Hi => H L = none ∧ Dr Hi d sc ns ∧ Keep d H Hi ∧ ∃ ys : List Str, ys.length = i ∧ Hi L = some (.lst (ys.map V.str)) ∧ ∀ y ∈ ys, ∃ c, c ∈ signs.cps.toList ∧ y = ⟨#[c]⟩) ?_ ?_ ?_
      · refine ⟨?_, ?_, ?_, [], rfl, upd_same, fun y hy => nomatch hy⟩
        · exact KK.back hLd hL
        · exact DD.new hL
        · exact KK.new (KK.back hLd hL)
      · rintro i Hi hi ⟨hL0, DDi, KKi, ys, rfl, hLi, hys⟩
        refine ⟨rfl, ?_⟩
        walk_at "g"
        refine g_lenS (Nat.le_trans z1 (by decide)) ?_
        walk_at "g"
        refine ⟨_, _, _, _, rfl, DDi, by omega, ?_, fun r4 H4 r40 r41 D4 K4 => ?_⟩
        · have : (z.length : Int).natAbs < 2 ^ 64 := by omega
          exact Nat.lt_of_lt_of_le (PySem.Flt.log2_lt_of (by decide) this) (by decide)
        · obtain ⟨k4, rfl⟩ := Int.eq_ofNat_of_zero_le r40
          have hk4 : k4 < z.cps.toList.length := by
            have e : z.cps.toList.length = z.length := Array.length_toList
            omega
          refine g_ixS (n := z.cps.toList[k4]) (Nat.le_trans z1 (by decide)) (atI_nat (List.getElem?_eq_getElem hk4)) ?_
          have e4 := K4 L _ hLd hLi
          refine ⟨_, e4, ?_, hL0, ?_, ?_, ys ++ [⟨#[z.cps.toList[k4]]⟩], by simp, ?_, ?_⟩
          · rw [List.length_map, sizeLine_eq]; omega
          · exact D4.other hLd hLs
          · exact (KKi.trans K4).new hL0
          · rw [upd_same, List.map_append]; rfl
          · intro y hy
            rcases List.mem_append.mp hy with hy | hy
            · exact hys y hy
            · exact ⟨_, hz _ (List.getElem_mem hk4), List.mem_singleton.mp hy⟩
      · rintro Hi ⟨hL0, DDi, KKi, ys, hyl, hLi, hys⟩
        have hy1 : ∀ y ∈ ys, y.length = 1 := fun y hy => by obtain ⟨c, _, rfl⟩ := hys y hy; rfl
        have hsum : (ys.map (·.length)).sum = ys.length := by
          clear hyl hLi hys
          induction ys with
          | nil => rfl
          | cons y r ih =>
            rw [List.map_cons, List.sum_cons, ih (fun y hy => hy1 y (List.mem_cons_of_mem _ hy)), hy1 y List.mem_cons_self, List.length_cons]
            omega
        refine g_join (SqL.of hLi) ?_ ?_
        · rw [hsum, show (Str.ofString "").length = 0 by decide +kernel]
          omega
        · walk_at "g"
          refine k _ _ ⟨_, rfl, ?_, ?_⟩ DDi KKi
          · show (Txt.join (Str.ofString "") ys).cps.size ≤ 100
            rw [← Array.length_toList, join_cps, List.length_flatMap]
            have : (ys.map fun y => y.cps.toList.length).sum = (ys.map (·.length)).sum := rfl
            rw [this, hsum]
            omega
          · intro c hc
            rw [join_cps] at hc
            obtain ⟨y, hy, hc⟩ := List.mem_flatMap.mp hc
            obtain ⟨c', h', rfl⟩ := hys y hy
            have : c = c' := by simpa using hc
            rw [this]
            exact h'
end
theorem nodup_le {α : Type} [DecidableEq α] : ∀ {ys xs : List α}, ys.Nodup → (∀ y ∈ ys, y ∈ xs) → ys.length ≤ xs.length
  | [], _, _, _ => Nat.zero_le _
  | y :: ys, xs, nd, h => by
    obtain ⟨n1, n2⟩ := List.nodup_cons.mp nd
    have hy := h y List.mem_cons_self
    have h2 : ys.length ≤ (xs.erase y).length := nodup_le n2 fun z hz => (List.mem_erase_of_ne (fun e : z = y => n1 (by rw [← e]; exact hz))).mpr (h z (List.mem_cons_of_mem _ hz))
    rw [List.length_erase_of_mem hy] at h2
    have := List.length_pos_of_mem hy
    simp
    omega
def digS (k : Nat) : Str := Str.ofString (toString (k : Int))
theorem dig_inj : ((List.range 60).map digS).Nodup := by decide +kernel
theorem dig_ok : ∀ k ∈ List.range 60, (digS k).length ≤ 2 ∧ (digS k).length ≠ 0 ∧ (∀ c ∈ (digS k).cps.toList, c ∈ nameSigns ∧ c < 97) := by decide +kernel
theorem kept_big : ∀ z ∈ keptWords, ∀ c ∈ z.cps.toList, 97 ≤ c := by decide +kernel
theorem app_inj {z a b : Str} (h : z ++ a = z ++ b) : a = b := by
  refine str_ext ?_
  have h2 := congrArg (fun s : Str => s.cps.toList) h
  simp only [PySem.W.KT.app_list] at h2
  exact List.append_cancel_left h2
theorem pick_at {ws : List Nat} {m : Nat} (hw : ws.length = m) {r : Int} (r0 : 0 ≤ r) (r1 : r < (m : Int)) : ∃ c, c ∈ ws ∧ atI ws r = some c := by
  obtain ⟨k4, rfl⟩ := Int.eq_ofNat_of_zero_le r0
  have hk : k4 < ws.length := by omega
  exact ⟨_, List.getElem_mem hk, atI_nat (List.getElem?_eq_getElem hk)⟩
/-- a name but for the words that are kept -/
def preP (z : Str) : Prop := z.length ≠ 0 ∧ z.length ≤ 8 ∧ (∀ c r, z.cps.toList = c :: r → c ∈ letters) ∧ ∀ c ∈ z.cps.toList, c ∈ nameSigns
def spName : Sp := fun vs H Q _ => ∃ (d sc : Addr) (ns : List Int) (L : Addr) (xs : List Str), vs = [.ref d, .ref L] ∧ Dr H d sc ns ∧ L ≠ d ∧ H L = some (.lst (xs.map V.str)) ∧ xs.length < 60 ∧ ∀ z H', nameP z → z ∉ xs → Dr H' d sc ns → Keep d H H' → Q (.str z) H'
section
variable {P : Program} {w : World} {K : PySem.W.Frag} {mg : Str → Option Value} {base : Heap}
theorem ok__law_name (T : Txt K mg) : Def P w K mg base 2 "_law_name" ["_law_draw", "_law_taken"] spName := by
  obtain ⟨f, fd, h⟩ := T.d__law_name
  refine h.def (Fun.okM h.fn sc__law_name (fun vs H Q E h => ?_) (fun cdv A outer s H vs Q E hr h => ?_))
  · obtain ⟨d, sc, ns, L, xs, rfl, _⟩ := h
    rfl
  · obtain ⟨d, sc, ns, L, xs, rfl, hD, hLd, hL, hx, k⟩ := h
    refine ⟨_, (pss_cons (ps_set (i := 2) sc__law_name.nd rfl (Or.inl rfl) pe_str)
  (pss_cons (ps_set (i := 3) sc__law_name.nd rfl (Or.inl rfl) (pe_op op_addG (pv 2) pe_str))
  (pss_cons (ps_set (i := 4) sc__law_name.nd rfl (Or.inl rfl) (pe_ix (ix_seqG (K := K) rfl) (pv 2) (pe_def (ok__law_take T) hr rfl (pa_cons (pv 0) (pa_cons pe_int pa_nil))) (fun _ _ => rfl)))
  (pss_cons (ps_for PassesOwn.never rfl (pi_range1 rfl T.h_range (pa_cons (pe_def (ok__law_take T) hr rfl (pa_cons (pv 0) (pa_cons pe_int pa_nil))) pa_nil)) (pg_name (i := 5) sc__law_name.nd rfl (Or.inl rfl))
  (pss_one (ps_set (i := 4) sc__law_name.nd rfl (Or.inl rfl) (pe_op op_addG (pv 4) (pe_ix (ix_seqG (K := K) rfl) (pv 3) (pe_def (ok__law_take T) hr rfl (pa_cons (pv 0) (pa_cons pe_int pa_nil))) (fun _ _ => rfl))))))
  (pss_cons (ps_set (i := 6) sc__law_name.nd rfl (Or.inl rfl) (pe_lst (pa_cons pe_str (pa_cons pe_str (pa_cons pe_str (pa_cons pe_str (pa_cons pe_str (pa_cons pe_str (pa_cons pe_str (pa_cons pe_str (pa_cons pe_str (pa_cons pe_str pa_nil))))))))))))
  (pss_cons (ps_if (PW.pt (pw_or (pt_cmpR (op_inG (K := K) rfl) (pv 4) (pv 6) (by rfl)) (pw_or1 (pt_cmpR (op_inG (K := K) rfl) (pv 4) (pv 1) (by rfl)))))
  (pss_cons (ps_set (i := 4) sc__law_name.nd rfl (Or.inl rfl) (pe_slice (sl_G (K := K) rfl) (pv 4) po_none (po_some pe_int)))
  (pss_one (ps_for PassesOwn.never rfl (pi_range1 rfl T.h_range (pa_cons pe_int pa_nil)) (pg_name (i := 5) sc__law_name.nd rfl (Or.inl rfl))
  (pss_one (ps_if (pt_cmpR (op_notInG (K := K) rfl) (pe_op op_addG (pv 4) (pe_callTy call_str_int (by rfl) T.h_str (by decide +kernel) (pa_cons (pv 5) pa_nil))) (pv 1) (by rfl))
  (pss_one (ps_ret (pe_op op_addG (pv 4) (pe_callTy call_str_int (by rfl) T.h_str (by decide +kernel) (pa_cons (pv 5) pa_nil)))))
  pss_nil)))))
  pss_nil)
  (pss_one (ps_ret (pv 4))))))))), ?_⟩
    walk_at "g"
    have hll : letters.length = 26 := by decide +kernel
    have hnl : nameSigns.length = 36 := by decide +kernel
    have hns : (Str.ofString "abcdefghijklmnopqrstuvwxyz" ++ Str.ofString "0123456789").cps.toList = nameSigns := by decide +kernel
    have hsl : (Str.ofString "abcdefghijklmnopqrstuvwxyz" ++ Str.ofString "0123456789").length = 36 := by decide +kernel
    have hlet : (Str.ofString "abcdefghijklmnopqrstuvwxyz").cps.toList = letters := rfl
    have hlt : (Str.ofString "abcdefghijklmnopqrstuvwxyz").length = 26 := by decide +kernel
    refine g_addS (by decide +kernel) ?_
    generalize hS : Str.ofString "abcdefghijklmnopqrstuvwxyz" ++ Str.ofString "0123456789" = sg at hns hsl ⊢
    generalize hT : Str.ofString "abcdefghijklmnopqrstuvwxyz" = lt at hlet hlt ⊢
    walk_at "g"
    refine ⟨_, _, _, _, rfl, hD, by decide, by decide +kernel, fun r H1 r0 r1 D1 K1 => ?_⟩
    obtain ⟨c0, hc0, hat0⟩ := pick_at (ws := letters) hll r0 r1
    refine g_ixS (n := c0) (by rw [hlt]; decide) (by rw [hlet]; exact hat0) ?_
    walk_at "g"
    refine ⟨_, _, _, _, rfl, D1, by decide, by decide +kernel, fun r2 H2 r20 r21 D2 K2 => ?_⟩
    refine ⟨_, rfl, by omega, by omega, ?_⟩
    have hc0n : c0 ∈ nameSigns := by
      have : ∀ c ∈ letters, c ∈ nameSigns := by decide +kernel
      exact this _ hc0
    refine for_rangeA (fun i σ' H' => ∃ (z : Str) (kv : Option V), σ' = [some (.ref d), some (.ref L), some (.str lt), some (.str sg), some (.str z), kv, none] ∧ z.length = i + 1 ∧ preP z ∧ Dr H' d sc ns ∧ Keep d H H') ⟨⟨#[c0]⟩, none, rfl, rfl, ⟨by show (1 : Nat) ≠ 0; decide, by show (1 : Nat) ≤ 8; decide, fun c r h => by cases h; exact hc0, fun c h => by simp at h; rw [h]; exact hc0n⟩, D2, K1.trans K2⟩ ?_ ?_
    · rintro i σ' H3 D' hi ⟨z, kv, rfl, hz, hp, D3, K3⟩ hnx hct hbk hrt
      walk_at "g"
      refine ⟨_, _, _, _, rfl, D3, by decide, by decide +kernel, fun r4 H4 r40 r41 D4 K4 => ?_⟩
      obtain ⟨c, hc, hat⟩ := pick_at (ws := nameSigns) hnl r40 r41
      refine g_ixS (n := c) (by rw [hsl]; decide) (by rw [hns]; exact hat) ?_
      have hi8 : i < 8 := by omega
      have hl1 : (z ++ (⟨#[c]⟩ : Str)).length = i + 1 + 1 := by rw [PySem.Str.length_append, hz]; rfl
      refine g_addS (by rw [sizeLine_eq, hz]; show i + 1 + 1 ≤ _; omega) ?_
      walk_at "g"
      refine hnx _ _ ⟨_, _, rfl, hl1, ⟨by omega, by omega, fun a r h => ?_, fun a h => ?_⟩, D4, K3.trans K4⟩
      · rw [PySem.W.KT.app_list] at h
        cases e : z.cps.toList with
        | nil =>
          have : z.cps.toList.length = z.length := Array.length_toList
          rw [e, hz] at this; simp at this
        | cons b s =>
          rw [e] at h
          injection h with h1 _
          rw [← h1]
          exact hp.2.2.1 b s e
      · rw [PySem.W.KT.app_list] at h
        rcases List.mem_append.mp h with h | h
        · exact hp.2.2.2 a h
        · have : a = c := by simpa using h
          rw [this]; exact hc
    · rintro σ' H3 ⟨z, kv, rfl, hz, hp, D3, K3⟩
      walk_at "g"
      refine ⟨by show 10 ≤ sizeLine; decide, fun q hq => ?_⟩
      obtain ⟨hqd, hqs⟩ := D3.ne hq
      have D4 := D3.new (o := .lst ((keptWords).map V.str)) hq
      have K4 := K3.new (o := .lst ((keptWords).map V.str)) (K3.back hqd hq)
      have hL4 : (upd H3 q (.lst (keptWords.map V.str))) L = some (.lst (xs.map V.str)) := K4 L _ hLd hL
      walk_at "g"
      refine .inr ⟨_, keptWords.map V.str, rfl, .inl (SqL.of upd_same), rfl, Tw.flat_strs _, ?_⟩
      rw [if_neg Bool.false_ne_true, inV_strs]
      have hfl : (keptWords.map V.str) = [V.str (Str.ofString "and"), V.str (Str.ofString "or"), V.str (Str.ofString "not"), V.str (Str.ofString "sure"), V.str (Str.ofString "in"), V.str (Str.ofString "is"), V.str (Str.ofString "empty"), V.str (Str.ofString "begins"), V.str (Str.ofString "always"), V.str (Str.ofString "never")] := rfl
      rw [← hfl]
      walk_at "g"
      have h6 : (cutS z none (some 6)).cps.toList = z.cps.toList.take 6 := by
        show ((z.cps.toList.drop 0).take (HT.sIx z.length z.length (some ((6 : Nat) : Int)) - 0)) = _
        rw [HT.sIx_nat]
        have : z.cps.toList.length = z.length := Array.length_toList
        rw [List.drop_zero, Nat.sub_zero]
        by_cases h : 6 ≤ z.length
        · rw [Nat.min_eq_left h]
        · rw [Nat.min_eq_right (by omega), ← this, List.take_length, List.take_of_length_le (by omega)]
      have hl6 : (cutS z none (some 6)).length = min 6 z.length := by
        show (cutS z none (some 6)).cps.size = _
        have : z.cps.toList.length = z.length := Array.length_toList
        rw [← Array.length_toList, h6, List.length_take, this]
      have good : ∀ i, i < 60 → nameP (cutS z none (some 6) ++ digS i) := fun i hi => by
        obtain ⟨d1, d2, d3⟩ := dig_ok i (List.mem_range.mpr hi)
        have hlen : (cutS z none (some 6) ++ digS i).length = min 6 z.length + (digS i).length := by rw [PySem.Str.length_append, hl6]
        have hz0 := hp.1
        have hcp : (cutS z none (some 6) ++ digS i).cps.toList = z.cps.toList.take 6 ++ (digS i).cps.toList := by rw [PySem.W.KT.app_list, h6]
        refine ⟨by omega, by omega, fun c r h => ?_, fun hk => ?_, fun c h => ?_⟩
        · rw [hcp] at h
          cases e : z.cps.toList with
          | nil =>
            have : z.cps.toList.length = z.length := Array.length_toList
            rw [e] at this; simp at this; omega
          | cons b s =>
            rw [e] at h
            injection h with h1 _
            rw [← h1]
            exact hp.2.2.1 b s e
        · have hdl : (digS i).cps.toList.length = (digS i).length := Array.length_toList
          obtain ⟨c, hc⟩ : ∃ c, c ∈ (digS i).cps.toList := by
            cases e : (digS i).cps.toList with
            | nil => rw [e] at hdl; simp at hdl; omega
            | cons c r => exact ⟨c, List.mem_cons_self⟩
          have h1 := kept_big _ hk c (by rw [hcp]; exact List.mem_append.mpr (.inr hc))
          have h2 := (d3 c hc).2
          omega
        · rw [hcp] at h
          rcases List.mem_append.mp h with h | h
          · exact hp.2.2.2 c (List.mem_of_mem_take h)
          · exact (d3 c h).1
      refine g_dec (fun h1 => ?_) (fun h1 => ?_)
      rotate_left
      · walk_at "g"
        refine .inr ⟨_, xs.map V.str, rfl, .inl (SqL.of hL4), rfl, Tw.flat_strs _, ?_⟩
        rw [if_neg Bool.false_ne_true, inV_strs]
        walk_at "g"
        refine g_dec (fun h2 => ?_) (fun h2 => ?_)
        rotate_left
        · walk_at "g"
          exact k z _ ⟨hp.1, hp.2.1, hp.2.2.1, h1, hp.2.2.2⟩ h2 D4 K4
        walk_at "g"
        refine g_slS (by rw [sizeLine_eq]; omega) ?_
        walk_at "g"
        refine ⟨_, rfl, by omega, by omega, ?_⟩
        refine for_rangeA (fun i σ' H' => H' = upd H3 q (.lst (keptWords.map V.str)) ∧ (∃ v5, σ' = [some (.ref d), some (.ref L), some (.str lt), some (.str sg), some (.str (cutS z none (some 6))), v5, some (.ref q)]) ∧ ∀ j < i, cutS z none (some 6) ++ digS j ∈ xs) ⟨rfl, ⟨_, rfl⟩, fun j hj => absurd hj (Nat.not_lt_zero _)⟩ ?_ ?_
        · rintro i σ' H5 D' hi ⟨rfl, ⟨v5, rfl⟩, hall⟩ hnx hct hbk hrt
          have hi60 : i < 60 := by simpa using hi
          have hdg := (dig_ok i (List.mem_range.mpr hi60)).1
          have e0 : Str.ofString (toString (0 + (i : Int))) = digS i := by rw [Int.zero_add]; rfl
          have hlog : (0 + (i : Int)).natAbs.log2 < 1920 := by
            have : (0 + (i : Int)).natAbs < 2 ^ 64 := by omega
            exact Nat.lt_of_lt_of_le (PySem.Flt.log2_lt_of (by decide) this) (by decide)
          walk_at "g"
          refine ⟨_, rfl, hlog, ?_⟩
          rw [e0]
          refine g_addS (by rw [sizeLine_eq, hl6]; omega) ?_
          walk_at "g"
          refine .inr ⟨_, xs.map V.str, rfl, .inl (SqL.of hL4), rfl, Tw.flat_strs _, ?_⟩
          rw [if_pos rfl, inV_strs]
          walk_at "g"
          refine g_ndec (fun hn => ?_) (fun hn => ?_)
          · walk_at "g"
            rw [hrt]
            refine ⟨_, rfl, hlog, ?_⟩
            rw [e0]
            refine g_addS (by rw [sizeLine_eq, hl6]; omega) ?_
            walk_at "g"
            exact k _ _ (good i hi60) hn D4 K4
          · walk_at "g"
            refine hnx _ _ ⟨rfl, ⟨_, rfl⟩, fun j hj => ?_⟩
            rcases Nat.lt_or_ge j i with h | h
            · exact hall j h
            · obtain rfl : j = i := by omega
              exact hn
        · rintro σ' H5 ⟨rfl, ⟨v5, rfl⟩, hall⟩
          have hnd : ((List.range 60).map fun j => cutS z none (some 6) ++ digS j).Nodup := by
            have h := dig_inj
            rw [List.nodup_iff_pairwise_ne, List.pairwise_map] at h ⊢
            exact h.imp fun hab he => hab (app_inj he)
          have := nodup_le hnd (xs := xs) fun y hy => by
            obtain ⟨j, hj, rfl⟩ := List.mem_map.mp hy
            exact hall j (by simpa using hj)
          simp at this
          omega
      walk_at "g"
      refine g_slS (by rw [sizeLine_eq]; omega) ?_
      walk_at "g"
      refine ⟨_, rfl, by omega, by omega, ?_⟩
      refine for_rangeA (fun i σ' H' => H' = upd H3 q (.lst (keptWords.map V.str)) ∧ (∃ v5, σ' = [some (.ref d), some (.ref L), some (.str lt), some (.str sg), some (.str (cutS z none (some 6))), v5, some (.ref q)]) ∧ ∀ j < i, cutS z none (some 6) ++ digS j ∈ xs) ⟨rfl, ⟨_, rfl⟩, fun j hj => absurd hj (Nat.not_lt_zero _)⟩ ?_ ?_
      · rintro i σ' H5 D' hi ⟨rfl, ⟨v5, rfl⟩, hall⟩ hnx hct hbk hrt
        have hi60 : i < 60 := by simpa using hi
        have hdg := (dig_ok i (List.mem_range.mpr hi60)).1
        have e0 : Str.ofString (toString (0 + (i : Int))) = digS i := by rw [Int.zero_add]; rfl
        have hlog : (0 + (i : Int)).natAbs.log2 < 1920 := by
          have : (0 + (i : Int)).natAbs < 2 ^ 64 := by omega
          exact Nat.lt_of_lt_of_le (PySem.Flt.log2_lt_of (by decide) this) (by decide)
        walk_at "g"
        refine ⟨_, rfl, hlog, ?_⟩
        rw [e0]
        refine g_addS (by rw [sizeLine_eq, hl6]; omega) ?_
        walk_at "g"
        refine .inr ⟨_, xs.map V.str, rfl, .inl (SqL.of hL4), rfl, Tw.flat_strs _, ?_⟩
        rw [if_pos rfl, inV_strs]
        walk_at "g"
        refine g_ndec (fun hn => ?_) (fun hn => ?_)
        · walk_at "g"
          rw [hrt]
          refine ⟨_, rfl, hlog, ?_⟩
          rw [e0]
          refine g_addS (by rw [sizeLine_eq, hl6]; omega) ?_
          walk_at "g"
          exact k _ _ (good i hi60) hn D4 K4
        · walk_at "g"
          refine hnx _ _ ⟨rfl, ⟨_, rfl⟩, fun j hj => ?_⟩
          rcases Nat.lt_or_ge j i with h | h
          · exact hall j h
          · obtain rfl : j = i := by omega
            exact hn
      · rintro σ' H5 ⟨rfl, ⟨v5, rfl⟩, hall⟩
        have hnd : ((List.range 60).map fun j => cutS z none (some 6) ++ digS j).Nodup := by
          have h := dig_inj
          rw [List.nodup_iff_pairwise_ne, List.pairwise_map] at h ⊢
          exact h.imp fun hab he => hab (app_inj he)
        have := nodup_le hnd (xs := xs) fun y hy => by
          obtain ⟨j, hj, rfl⟩ := List.mem_map.mp hy
          exact hall j (by simpa using hj)
        simp at this
        omega
end
/-! drawn columns -/
def ColAt (H : Hp) (q : Addr) (c : Str × Bool) : Prop := ∃ fl, H q = some (.tup [.str c.1, .str (kS c.2), .bl fl])
def ColsAt (H : Hp) (L : Addr) (cs : List (Str × Bool)) : Prop := ∃ qs : List Addr, H L = some (.lst (qs.map V.ref)) ∧ qs.length = cs.length ∧ ∀ (i : Nat) (q : Addr) (c : Str × Bool), qs[i]? = some q → cs[i]? = some c → ColAt H q c
structure GoodCols (cs : List (Str × Bool)) : Prop where
  ne : cs ≠ []
  few : cs.length ≤ 12
  nd : (cs.map (·.1)).Nodup
  nm : ∀ c ∈ cs, nameP c.1
theorem Dr.keepAll {H H' : Hp} {d sc : Addr} {ns : List Int} (D : Dr H d sc ns) (k : ∀ p o, H p = some o → H' p = some o) : Dr H' d sc ns := by
  obtain ⟨i, b, c, e, h1, h2, h3, h4⟩ := D.ex
  exact ⟨i, b, c, e, h1, h2, k _ _ h3, k _ _ h4⟩
theorem Dr.tne {H : Hp} {d sc q : Addr} {ns : List Int} {xs : List V} (D : Dr H d sc ns) (h : H q = some (.tup xs)) : q ≠ d := fun z => by
  obtain ⟨ys, hy⟩ := D.at
  rw [z, hy] at h
  cases h
theorem ColsAt.draw {H H' : Hp} {L d sc : Addr} {ns : List Int} {cs : List (Str × Bool)} (h : ColsAt H L cs) (D : Dr H d sc ns) (k : Keep d H H') (hL : L ≠ d) : ColsAt H' L cs := by
  obtain ⟨qs, h1, h2, h3⟩ := h
  refine ⟨qs, k _ _ hL h1, h2, fun i q c hq hc => ?_⟩
  obtain ⟨fl, e⟩ := h3 i q c hq hc
  exact ⟨fl, k _ _ (D.tne e) e⟩
theorem ColsAt.keep {H H' : Hp} {L : Addr} {cs : List (Str × Bool)} (h : ColsAt H L cs) (k : ∀ p o, H p = some o → H' p = some o) : ColsAt H' L cs := by
  obtain ⟨qs, h1, h2, h3⟩ := h
  refine ⟨qs, k _ _ h1, h2, fun i q c hq hc => ?_⟩
  obtain ⟨fl, e⟩ := h3 i q c hq hc
  exact ⟨fl, k _ _ e⟩
def spValueK : Sp := fun vs H Q _ => ∃ d sc ns kd, vs = [.ref d, .str (kS kd)] ∧ Dr H d sc ns ∧ ∀ v H', isV kd v → Dr H' d sc ns → Keep d H H' → Q v H'
def spCols : Sp := fun vs H Q _ => ∃ d sc ns m, vs = [.ref d, .int m] ∧ Dr H d sc ns ∧ 0 < m ∧ m ≤ 12 ∧ ∀ L cs H', GoodCols cs → ColsAt H' L cs → L ≠ d → L ≠ sc → H L = none → Dr H' d sc ns → Keep d H H' → Q (.ref L) H'
section
variable {P : Program} {w : World} {K : PySem.W.Frag} {mg : Str → Option Value} {base : Heap}
theorem ok__law_value (T : Txt K mg) : Def P w K mg base 3 "_law_value" ["_law_draw", "_law_kind_here"] spValueK := by
  obtain ⟨f, fd, h⟩ := T.d__law_value
  refine h.def (Fun.okM h.fn sc__law_value (fun vs H Q E h => ?_) (fun cdv A outer s H vs Q E hr h => ?_))
  · obtain ⟨d, sc, ns, kd, rfl, _⟩ := h
    rfl
  · obtain ⟨d, sc, ns, kd, rfl, hD, k⟩ := h
    refine ⟨_, (pss_cons (ps_if (pt_cmpR op_eq (pv 1) pe_str (nomark _))
  (pss_one (ps_ret (pe_def (ok__law_number T) hr rfl (pa_cons (pv 0) pa_nil))))
  pss_nil)
  (pss_one (ps_ret (pe_def (ok__law_text T) hr rfl (pa_cons (pv 0) pa_nil))))), ?_⟩
    walk_at "g"
    cases kd with
    | false =>
      refine g_dec (fun _ => ?_) (fun h => absurd rfl h)
      walk_at "g"
      refine ⟨_, _, _, rfl, hD, fun v H1 hv D1 K1 => ?_⟩
      walk_at "g"
      exact k _ _ (.inl hv) D1 K1
    | true =>
      refine g_dec (fun h => absurd h (show ("text" : Str) ≠ "number" by decide +kernel)) (fun _ => ?_)
      walk_at "g"
      refine ⟨_, _, _, rfl, hD, fun v H1 hv D1 K1 => ?_⟩
      walk_at "g"
      exact k _ _ (.inr hv) D1 K1
theorem ok__law_columns (T : Txt K mg) : Def P w K mg base 3 "_law_columns" ["_law_draw", "_law_most"] spCols := by
  obtain ⟨f, fd, h⟩ := T.d__law_columns
  refine h.def (Fun.okM h.fn sc__law_columns (fun vs H Q E h => ?_) (fun cdv A outer s H vs Q E hr h => ?_))
  · obtain ⟨d, sc, ns, m, rfl, _⟩ := h
    rfl
  · obtain ⟨d, sc, ns, m, rfl, hD, hm0, hm, k⟩ := h
    refine ⟨_, (pss_cons (ps_set (i := 2) sc__law_columns.nd rfl (Or.inl rfl) (pe_lst pa_nil))
  (pss_cons (ps_set (i := 3) sc__law_columns.nd rfl (Or.inl rfl) (pe_lst pa_nil))
  (pss_cons (ps_for PassesOwn.never rfl (pi_range1 rfl T.h_range (pa_cons (pe_op op_addG pe_int (pe_def (ok__law_take T) hr rfl (pa_cons (pv 0) (pa_cons (pv 1) pa_nil)))) pa_nil)) (pg_name (i := 4) sc__law_columns.nd rfl (Or.inl rfl))
  (pss_cons (ps_set (i := 5) sc__law_columns.nd rfl (Or.inl rfl) (pe_def (ok__law_name T) hr rfl (pa_cons (pv 0) (pa_cons (pv 2) pa_nil))))
  (pss_cons (ps_expr (pe_bm PySem.F.plainAttrs_list PySem.F.slot_list_append PySem.F.type_list_append mt_append (pv 2) (pa_cons (pv 5) pa_nil)))
  (pss_cons (ps_set (i := 6) sc__law_columns.nd rfl (Or.inl rfl) (pe_ix (ix_seqG (K := K) rfl) (pe_lst (pa_cons pe_str (pa_cons pe_str pa_nil))) (pe_def (ok__law_take T) hr rfl (pa_cons (pv 0) (pa_cons pe_int pa_nil))) (fun _ _ => rfl)))
  (Evl.pss_cut (ps_if (PW.pt (pw_and (pt_cmpR op_gtG (pv 4) pe_int (nomark _)) (pw_and1 (pt_cmpR op_eq (pe_def (ok__law_take T) hr rfl (pa_cons (pv 0) (pa_cons pe_int pa_nil))) pe_int (nomark _)))))
  (pss_one (ps_set (i := 6) sc__law_columns.nd rfl (Or.inl rfl) (pe_ix (ix_seqG (K := K) rfl) (pe_ix (ix_seqG (K := K) rfl) (pv 3) pe_int (fun _ _ => rfl)) pe_int (fun _ _ => rfl))))
  pss_nil)
  (pss_one (ps_expr (pe_bm PySem.F.plainAttrs_list PySem.F.slot_list_append PySem.F.type_list_append mt_append (pv 3) (pa_cons (pe_tup (pa_cons (pv 5) (pa_cons (pv 6) (pa_cons (pe_cmpR op_eq (pe_def (ok__law_take T) hr rfl (pa_cons (pv 0) (pa_cons pe_int pa_nil))) pe_int (nomark _)) pa_nil)))) pa_nil)))))))))
  (pss_one (ps_ret (pv 3)))))), ?_⟩
    walk_at "g"
    refine ⟨Nat.zero_le _, fun Ln hLn => ?_⟩
    have D1 := hD.new (o := .lst []) hLn
    have K1 := (Keep.refl d H).new (o := .lst []) hLn
    have nd := hD.ne hLn
    have e1 : (upd H Ln (.lst [])) Ln = some (.lst (([] : List Str).map V.str)) := upd_same
    generalize upd H Ln (.lst []) = H1 at D1 K1 e1
    walk_at "g"
    refine ⟨Nat.zero_le _, fun L hL => ?_⟩
    have D2 := D1.new (o := .lst []) hL
    have K2 := K1.new (o := .lst []) (K1.back (D1.ne hL).1 hL)
    have nL := D1.ne hL
    have hLH := K1.back (D1.ne hL).1 hL
    have nLL : Ln ≠ L := ne_of_none e1 hL
    have e2 : (upd H1 L (.lst [])) L = some (.lst (([] : List Addr).map V.ref)) := upd_same
    have e3 : (upd H1 L (.lst [])) Ln = some (.lst (([] : List Str).map V.str)) := by rw [upd_ne nLL]; exact e1
    generalize upd H1 L (.lst []) = H2 at D2 K2 e2 e3
    clear D1 K1 e1
    walk_at "g"
    have hml : m.natAbs.log2 < 9000 := by
      have : m.natAbs < 2 ^ 64 := by omega
      exact Nat.lt_of_lt_of_le (PySem.Flt.log2_lt_of (by decide) this) (by decide)
    refine ⟨_, _, _, _, rfl, D2, hm0, hml, fun r H3 r0 r1 D3 K3 => ?_⟩
    walk_at "g"
    refine ⟨_, rfl, by omega, by omega, ?_⟩
    refine for_rangeA (fun i σ' H' => ∃ (s4 s5 s6 : Option V) (cs : List (Str × Bool)), σ' = [some (.ref d), some (.int m), some (.ref Ln), some (.ref L), s4, s5, s6] ∧ Dr H' d sc ns ∧ Keep d H H' ∧ H' Ln = some (.lst ((cs.map (·.1)).map V.str)) ∧ ColsAt H' L cs ∧ cs.length = i ∧ (cs.map (·.1)).Nodup ∧ ∀ c ∈ cs, nameP c.1) ⟨none, none, none, [], rfl, D3, K2.trans K3, K3 _ _ nd.1 e3, ⟨[], K3 _ _ nL.1 e2, rfl, fun i q c h => by simp at h⟩, rfl, List.nodup_nil, fun c hc => nomatch hc⟩ ?_ ?_
    · rintro i σ' H4 D' hi ⟨s4, s5, s6, cs, rfl, D4, K4, hN4, hC4, rfl, hnd, hnm⟩ hnx hct hbk hrt
      have hi12 : cs.length < 12 := by omega
      walk_at "g"
      refine ⟨_, _, _, _, _, rfl, D4, nd.1, hN4, by rw [List.length_map]; omega, fun z H5 hz hzn D5 K5 => ?_⟩
      have hN5 := K5 _ _ nd.1 hN4
      have hC5 := hC4.draw D4 K5 nL.1
      walk_at "g"
      have kN : ∀ {o : HO}, Keep d H (upd H5 Ln o) := fun {o} => (K4.trans K5).new hLn
      have D6 := D5.other (o := .lst ((cs.map (·.1)).map V.str ++ [.str z])) nd.1 nd.2
      have hN6 : (upd H5 Ln (.lst ((cs.map (·.1)).map V.str ++ [.str z]))) Ln = some (.lst ((cs.map (·.1)).map V.str ++ [.str z])) := upd_same
      have hC6 : ColsAt (upd H5 Ln (.lst ((cs.map (·.1)).map V.str ++ [.str z]))) L cs := by
        obtain ⟨qs, h1, h2, h3⟩ := hC5
        refine ⟨qs, by rw [upd_ne (Ne.symm nLL)]; exact h1, h2, fun i q c hq hc => ?_⟩
        obtain ⟨fl, e⟩ := h3 i q c hq hc
        exact ⟨fl, by rw [upd_ne (fun w => by rw [w, hN5] at e; cases e)]; exact e⟩
      have K6 := kN (o := .lst ((cs.map (·.1)).map V.str ++ [.str z]))
      generalize upd H5 Ln (.lst ((cs.map (·.1)).map V.str ++ [.str z])) = H6 at D6 hN6 hC6 K6
      refine ⟨by show 2 ≤ sizeLine; decide, fun p hp => ?_⟩
      have D7 := D6.new (o := .lst [.str (kS false), .str (kS true)]) hp
      have K7 := K6.new (o := .lst [.str (kS false), .str (kS true)]) (K6.back (D6.ne hp).1 hp)
      have x7 : ∀ q o, H6 q = some o → (upd H6 p (.lst [.str (kS false), .str (kS true)])) q = some o := fun q o h => by rw [upd_ne (ne_of_none h hp)]; exact h
      have hN7 := x7 _ _ hN6
      have hC7 := hC6.keep x7
      have hp7 : (upd H6 p (.lst [.str (kS false), .str (kS true)])) p = some (.lst [.str (kS false), .str (kS true)]) := upd_same
      have npd := (D6.ne hp).1
      have e0 : upd H6 p (.lst [.str (Str.ofString "number"), .str (Str.ofString "text")]) = upd H6 p (.lst [.str (kS false), .str (kS true)]) := rfl
      rw [e0]
      generalize upd H6 p (.lst [.str (kS false), .str (kS true)]) = H7 at D7 K7 hN7 hC7 hp7
      clear D5 D6 K6 hN6 hC6 hN5 hC5 hN4 hC4 x7 kN
      walk_at "g"
      refine ⟨_, _, _, _, rfl, D7, by decide, by decide +kernel, fun r2 H8 r20 r21 D8 K8 => ?_⟩
      obtain ⟨kd, ek⟩ : ∃ kd : Bool, atI [V.str (kS false), V.str (kS true)] r2 = some (.str (kS kd)) := by
        have : r2 = 0 ∨ r2 = 1 := by omega
        rcases this with rfl | rfl
        · exact ⟨false, rfl⟩
        · exact ⟨true, rfl⟩
      refine g_ixL (SqL.of (K8 _ _ npd hp7)) ek ?_
      have hN8 := K8 _ _ nd.1 hN7
      have hC8 := hC7.draw D7 K8 nL.1
      have K08 := K7.trans K8
      clear D7 K7 hN7 hC7
      walk_at "g"
      refine g_cutA (M := fun σ' H' => ∃ kd : Bool, σ' = [some (.ref d), some (.int m), some (.ref Ln), some (.ref L), some (.int (0 + (cs.length : Int))), some (.str z), some (.str (kS kd))] ∧ Dr H' d sc ns ∧ Keep d H8 H') (fun D1' hn1 _ _ _ => ?_) ?_
      · walk_at "g"
        refine g_dec (fun h0 => ?_) (fun h0 => ?_)
        · walk_at "g"
          refine ⟨_, _, _, _, rfl, D8, by decide, by decide +kernel, fun r3 H9 r30 r31 D9 K9 => ?_⟩
          walk_at "g"
          refine g_dec (fun h1 => ?_) (fun h1 => ?_)
          · walk_at "g"
            obtain ⟨qs, h1', h2', h3'⟩ := hC8.draw D8 K9 nL.1
            obtain ⟨q, eq⟩ : ∃ q, qs[0]? = some q := ⟨_, List.getElem?_eq_getElem (by omega)⟩
            obtain ⟨c, ec⟩ : ∃ c, cs[0]? = some c := ⟨_, List.getElem?_eq_getElem (by omega)⟩
            obtain ⟨fl, e⟩ := h3' 0 q c eq ec
            refine g_ixL (SqL.of h1') (v := .ref q) (atI_nat (j := 0) (by rw [List.getElem?_map, eq]; rfl)) ?_
            walk_at "g"
            refine g_ixT (SqT.of e) (v := .str (kS c.2)) (by rfl) ?_
            walk_at "g"
            exact hn1 _ _ ⟨_, rfl, D9, K9⟩
          · walk_at "g"
            exact hn1 _ _ ⟨_, rfl, D9, K9⟩
        · walk_at "g"
          exact hn1 _ _ ⟨_, rfl, D8, Keep.refl _ _⟩
      rintro σ' H9 ⟨kd, rfl, D9, K9⟩
      have hN9 := K9 _ _ nd.1 hN8
      have hC9 := hC8.draw D8 K9 nL.1
      have hL9 := hC9.choose_spec.1
      walk_at "g"
      refine ⟨_, _, _, _, rfl, D9, by decide, by decide +kernel, fun r4 H10 r40 r41 D10 K10 => ?_⟩
      walk_at "g"
      refine ⟨by show 3 ≤ sizeLine; decide, fun t ht => ?_⟩
      have hN10 := K10 _ _ nd.1 hN9
      have hC10 := hC9.draw D9 K10 nL.1
      have K010 := (K08.trans K9).trans K10
      obtain ⟨qs, h1, h2, h3⟩ := hC10
      have xt : ∀ q o, H10 q = some o → (upd H10 t (.tup [.str z, .str (kS kd), .bl (decide (r4 = 0))])) q = some o := fun q o h => by rw [upd_ne (ne_of_none h ht)]; exact h
      have ntL : t ≠ L := Ne.symm (ne_of_none h1 ht)
      have Kt := K010.new (o := .tup [.str z, .str (kS kd), .bl (decide (r4 = 0))]) (K010.back (D10.ne ht).1 ht)
      have Dt := D10.new (o := .tup [.str z, .str (kS kd), .bl (decide (r4 = 0))]) ht
      have htt : (upd H10 t (.tup [.str z, .str (kS kd), .bl (decide (r4 = 0))])) t = some (.tup [.str z, .str (kS kd), .bl (decide (r4 = 0))]) := upd_same
      have h1t := xt _ _ h1
      have hNt := xt _ _ hN10
      have h3t : ∀ (i : Nat) (q : Addr) (c : Str × Bool), qs[i]? = some q → cs[i]? = some c → ColAt (upd H10 t (.tup [.str z, .str (kS kd), .bl (decide (r4 = 0))])) q c := fun i q c hq hc => by
        obtain ⟨fl, e⟩ := h3 i q c hq hc
        exact ⟨fl, xt _ _ e⟩
      generalize upd H10 t (.tup [.str z, .str (kS kd), .bl (decide (r4 = 0))]) = Ht at Kt Dt htt h1t hNt h3t
      walk_at "g"
      refine hnx _ _ ⟨_, _, _, cs ++ [(z, kd)], rfl, Dt.other nL.1 nL.2, Kt.new hLH, ?_, ⟨qs ++ [t], by rw [upd_same, List.map_append]; rfl, by rw [List.length_append, List.length_append, h2]; rfl, fun i q c hq hc => ?_⟩, by rw [List.length_append]; rfl, ?_, fun c hc => ?_⟩
      · rw [upd_ne nLL, hNt, List.map_append, List.map_append]
        rfl
      · have low : ∀ q, ColAt Ht q c → ColAt (upd Ht L (.lst (qs.map V.ref ++ [.ref t]))) q c := fun q ⟨fl, e⟩ => ⟨fl, by rw [upd_ne (fun w => by rw [w, h1t] at e; cases e)]; exact e⟩
        by_cases hlt : i < qs.length
        · rw [List.getElem?_append_left hlt] at hq
          rw [List.getElem?_append_left (by omega)] at hc
          exact low _ (h3t i q c hq hc)
        · rw [List.getElem?_append_right (by omega)] at hq
          rw [List.getElem?_append_right (by omega), ← h2] at hc
          obtain ⟨hi0, _⟩ := List.getElem?_eq_some_iff.mp hq
          have : i - qs.length = 0 := by simpa using hi0
          rw [this] at hq hc
          obtain rfl : t = q := by simpa using hq
          obtain rfl : (z, kd) = c := by simpa using hc
          exact low _ ⟨_, htt⟩
      · rw [List.map_append, List.nodup_append]
        refine ⟨hnd, by simp, fun a ha b hb => ?_⟩
        obtain rfl : b = z := by simpa using hb
        intro e
        exact hzn (e ▸ ha)
      · rcases List.mem_append.mp hc with hc | hc
        · exact hnm c hc
        · rw [List.mem_singleton.mp hc]; exact hz
    · rintro σ' H4 ⟨s4, s5, s6, cs, rfl, D4, K4, hN4, hC4, hlen, hnd, hnm⟩
      walk_at "g"
      refine k L cs H4 ⟨fun e => ?_, by omega, hnd, hnm⟩ hC4 nL.1 nL.2 hLH D4 K4
      rw [e] at hlen
      simp at hlen
      omega
end
/-! forms on the heap -/
/-- the draws stand, and what stood but for them -/
structure DK (d sc : Addr) (ns : List Int) (H H1 : Hp) : Prop where
  D : Dr H1 d sc ns
  K : Keep d H H1
theorem DK.refl {d sc : Addr} {ns : List Int} {H : Hp} (D : Dr H d sc ns) : DK d sc ns H H := ⟨D, Keep.refl _ _⟩
theorem DK.step {d sc : Addr} {ns : List Int} {H H1 H2 : Hp} (a : DK d sc ns H H1) (D : Dr H2 d sc ns) (K : Keep d H1 H2) : DK d sc ns H H2 := ⟨D, a.K.trans K⟩
theorem DK.new {d sc p : Addr} {ns : List Int} {H H1 : Hp} {o : HO} (a : DK d sc ns H H1) (hp : H1 p = none) : DK d sc ns H (upd H1 p o) := ⟨a.D.new hp, a.K.new (a.K.back (a.D.ne hp).1 hp)⟩
theorem DK.ext {d sc : Addr} {ns : List Int} {H H1 H2 : Hp} (a : DK d sc ns H H1) (k : ∀ q o, H1 q = some o → H2 q = some o) : DK d sc ns H H2 := ⟨a.D.keepAll k, a.K.trans fun q o _ h => k q o h⟩
theorem DK.put {d sc p : Addr} {ns : List Int} {H H1 : Hp} {o : HO} (a : DK d sc ns H H1) (hp : H p = none) (h1 : p ≠ d) (h2 : p ≠ sc) : DK d sc ns H (upd H1 p o) := ⟨a.D.other h1 h2, a.K.new hp⟩
theorem ext_new {H : Hp} {p : Addr} {o : HO} (hp : H p = none) : ∀ q u, H q = some u → (upd H p o) q = some u := fun q u h => by rw [upd_ne (ne_of_none h hp)]; exact h
/-- no part of a form stands there -/
def NF (o : HO) : Prop := (∀ l, o ≠ .tup l) ∧ ∀ vs k, o = .lst vs → vs ≠ [] → (∀ v ∈ vs, isV k v) → False
theorem isV_ref {k : Bool} {p : Addr} (h : isV k (.ref p)) : False := by
  rcases h with ⟨i, e⟩ | ⟨z, e, _⟩ <;> cases e
theorem NF.refs {qs : List Addr} : NF (.lst (qs.map V.ref)) := by
  refine ⟨(fun l e => nomatch e), fun vs k e hne h => ?_⟩
  injection e with e
  subst e
  cases qs with
  | nil => exact hne rfl
  | cons q r => exact isV_ref (h (.ref q) List.mem_cons_self)
theorem Dr.nf {H : Hp} {d sc : Addr} {ns : List Int} (D : Dr H d sc ns) : ∃ o, H d = some o ∧ NF o := by
  obtain ⟨i, b, c, e, h1, h2, h3, h4⟩ := D.ex
  refine ⟨_, h3, fun l e => (nomatch e), fun vs k e hne h => ?_⟩
  injection e with e
  subst e
  exact isV_ref (h (.ref sc) List.mem_cons_self)
theorem NF.dict {kvs : List (Key × V)} : NF (.dK kvs) := ⟨(fun l e => nomatch e), (fun vs k e => nomatch e)⟩
def AtomForm (H : Hp) (p : Addr) : At → Prop
  | .always => H p = some (.tup [.str "always"])
  | .never => H p = some (.tup [.str "never"])
  | .empty c => H p = some (.tup [.str "empty", .str c])
  | .among c vs => ∃ l k, H p = some (.tup [.str "among", .str c, .ref l]) ∧ H l = some (.lst vs) ∧ vs ≠ [] ∧ ∀ v ∈ vs, isV k v
  | .begins c z => H p = some (.tup [.str "begins", .str c, .str z])
  | .compare c op v => H p = some (.tup [.str "compare", .str c, .str op, v])
  | .against c op d n => H p = some (.tup [.str "against", .str c, .str op, .str d, .int n])
theorem AtomForm.keepN {H H' : Hp} {p q : Addr} {a : At} (h : AtomForm H q a) (k : ∀ b o, b ≠ p → H b = some o → H' b = some o) (n : ∃ o, H p = some o ∧ NF o) : AtomForm H' q a := by
  obtain ⟨o, ho, n1, n2⟩ := n
  have nt : ∀ {b : Addr} {l : List V}, H b = some (.tup l) → b ≠ p := fun h z => n1 _ (by rw [z, ho] at h; injection h)
  cases a with
  | among c vs =>
    obtain ⟨l, kd, h1, h2, h3, h4⟩ := h
    exact ⟨l, kd, k _ _ (nt h1) h1, k _ _ (fun z => n2 vs kd (by rw [z, ho] at h2; injection h2) h3 h4) h2, h3, h4⟩
  | always => exact k _ _ (nt h) h
  | never => exact k _ _ (nt h) h
  | empty c => exact k _ _ (nt h) h
  | begins c z => exact k _ _ (nt h) h
  | compare c op v => exact k _ _ (nt h) h
  | against c op d m => exact k _ _ (nt h) h
theorem AtomForm.keep {H H' : Hp} {q : Addr} {a : At} (h : AtomForm H q a) (k : ∀ b o, H b = some o → H' b = some o) : AtomForm H' q a := by
  cases a with
  | among c vs =>
    obtain ⟨l, kd, h1, h2, h3, h4⟩ := h
    exact ⟨l, kd, k _ _ h1, k _ _ h2, h3, h4⟩
  | always => exact k _ _ h
  | never => exact k _ _ h
  | empty c => exact k _ _ h
  | begins c z => exact k _ _ h
  | compare c op v => exact k _ _ h
  | against c op d m => exact k _ _ h
def FormAt (H : Hp) : Fm → Addr → Prop
  | .at a, p => AtomForm H p a
  | .un w f, p => ∃ q, H p = some (.tup [.str w, .ref q]) ∧ FormAt H f q
  | .bi w f g, p => ∃ q r, H p = some (.tup [.str w, .ref q, .ref r]) ∧ FormAt H f q ∧ FormAt H g r
theorem FormAt.keepN {H H' : Hp} {p : Addr} (k : ∀ b o, b ≠ p → H b = some o → H' b = some o) (n : ∃ o, H p = some o ∧ NF o) : ∀ {f : Fm} {q : Addr}, FormAt H f q → FormAt H' f q
  | .at _, _, h => AtomForm.keepN h k n
  | .un _ _, _, ⟨q, h1, h2⟩ =>
    have nt : ∀ {b : Addr} {l : List V}, H b = some (.tup l) → b ≠ p := fun h z => by obtain ⟨o, ho, n1, _⟩ := n; exact n1 _ (by rw [z, ho] at h; injection h)
    ⟨q, k _ _ (nt h1) h1, FormAt.keepN k n h2⟩
  | .bi _ _ _, _, ⟨q, r, h1, h2, h3⟩ =>
    have nt : ∀ {b : Addr} {l : List V}, H b = some (.tup l) → b ≠ p := fun h z => by obtain ⟨o, ho, n1, _⟩ := n; exact n1 _ (by rw [z, ho] at h; injection h)
    ⟨q, r, k _ _ (nt h1) h1, FormAt.keepN k n h2, FormAt.keepN k n h3⟩
theorem FormAt.keep {H H' : Hp} (k : ∀ b o, H b = some o → H' b = some o) : ∀ {f : Fm} {q : Addr}, FormAt H f q → FormAt H' f q
  | .at _, _, h => AtomForm.keep h k
  | .un _ _, _, ⟨q, h1, h2⟩ => ⟨q, k _ _ h1, FormAt.keep k h2⟩
  | .bi _ _ _, _, ⟨q, r, h1, h2, h3⟩ => ⟨q, r, k _ _ h1, FormAt.keep k h2, FormAt.keep k h3⟩
theorem FormAt.draw {H H' : Hp} {d sc : Addr} {ns : List Int} {f : Fm} {q : Addr} (h : FormAt H f q) (D : Dr H d sc ns) (k : Keep d H H') : FormAt H' f q := h.keepN (p := d) k D.nf
def spAtom : Sp := fun vs H Q _ => ∃ (d sc : Addr) (ns : List Int) (L : Addr) (cs : List (Str × Bool)), vs = [.ref d, .ref L] ∧ Dr H d sc ns ∧ GoodCols cs ∧ ColsAt H L cs ∧ L ≠ d ∧ ∀ q a H', AtomForm H' q a → a.Wf cs → DK d sc ns H H' → Q (.ref q) H'
section
variable {P : Program} {w : World} {K : PySem.W.Frag} {mg : Str → Option Value} {base : Heap}
theorem ok__law_atom (T : Txt K mg) : Def P w K mg base 4 "_law_atom" ["_law_draw", "_law_columns_here"] spAtom := by
  obtain ⟨f, fd, h⟩ := T.d__law_atom
  refine h.def (Fun.okM h.fn sc__law_atom (fun vs H Q E h => ?_) (fun cdv A outer s H vs Q E hr h => ?_))
  · obtain ⟨d, sc, ns, L, cs, rfl, _⟩ := h
    rfl
  · obtain ⟨d, sc, ns, L, cs, rfl, hD, hG, hC, hLd, k⟩ := h
    refine ⟨_, (pss_cons (ps_set (i := 2) sc__law_atom.nd rfl (Or.inl rfl) (pe_ix (ix_seqG (K := K) rfl) (pv 1) (pe_def (ok__law_take T) hr rfl (pa_cons (pv 0) (pa_cons (pe_callB (call_lenG (K := K) rfl) (by rfl) T.h_len (by decide +kernel) (pa_cons (pv 1) pa_nil)) pa_nil))) (fun _ _ => rfl)))
  (pss_cons (ps_set (i := 3) sc__law_atom.nd rfl (Or.inr rfl) (pe_ix (ix_seqG (K := K) rfl) (pv 2) pe_int (fun _ _ => rfl)))
  (pss_cons (ps_set (i := 4) sc__law_atom.nd rfl (Or.inr rfl) (pe_ix (ix_seqG (K := K) rfl) (pv 2) pe_int (fun _ _ => rfl)))
  (pss_cons (ps_set (i := 5) sc__law_atom.nd rfl (Or.inl rfl) (pe_ix (ix_seqG (K := K) rfl) (pe_lst (pa_cons pe_str (pa_cons pe_str (pa_cons pe_str (pa_cons pe_str (pa_cons pe_str (pa_cons pe_str pa_nil))))))) (pe_def (ok__law_take T) hr rfl (pa_cons (pv 0) (pa_cons pe_int pa_nil))) (fun _ _ => rfl)))
  (pss_cons (ps_set (i := 6) sc__law_atom.nd rfl (Or.inl rfl) (pe_def (ok__law_take T) hr rfl (pa_cons (pv 0) (pa_cons pe_int pa_nil))))
  (pss_cons (ps_setLc (i := 7) (own := [("_law_one", 9)]) rfl sc__law_atom.nd rfl rfl (sw_true rfl rfl rfl (by decide +kernel)) (pi_list (pv 1)) (blkOk_by (N := N__law_atom) (sc := defScope S__law_atom) (by decide +kernel)) (fun _ _ _ _ _ => pg_name (i := 9) sc__law_atom.nd rfl (Or.inl rfl)) (fun _ _ _ _ _ => pts_one (PW.pt (pw_and (pt_cmpR op_eq (pe_ix (ix_seqG (K := K) rfl) (pv 9) pe_int (fun _ _ => rfl)) (pv 4) (nomark _)) (pw_and1 (pt_cmpR op_ne (pe_ix (ix_seqG (K := K) rfl) (pv 9) pe_int (fun _ _ => rfl)) (pv 3) (nomark _)))))) (fun _ _ _ _ _ => (pe_ix (ix_seqG (K := K) rfl) (pv 9) pe_int (fun _ _ => rfl))))
  (pss_cons (ps_if (pt_cmpR op_eq (pv 6) pe_int (nomark _))
  (pss_one (ps_ret (pe_tup (pa_cons pe_str pa_nil))))
  pss_nil)
  (pss_cons (ps_if (pt_cmpR op_eq (pv 6) pe_int (nomark _))
  (pss_one (ps_ret (pe_tup (pa_cons pe_str pa_nil))))
  pss_nil)
  (pss_cons (ps_if (pt_cmpR op_eq (pv 6) pe_int (nomark _))
  (pss_one (ps_ret (pe_tup (pa_cons pe_str (pa_cons (pv 3) pa_nil)))))
  pss_nil)
  (pss_cons (ps_if (pt_cmpR op_eq (pv 6) pe_int (nomark _))
  (pss_one (ps_ret (pe_tup (pa_cons pe_str (pa_cons (pv 3) (pa_cons (pe_lc (own := [("_law_k", 10)]) rfl sc__law_atom.nd (pi_range1 rfl T.h_range (pa_cons (pe_op op_addG pe_int (pe_def (ok__law_take T) hr rfl (pa_cons (pv 0) (pa_cons pe_int pa_nil)))) pa_nil)) (blkOk_by (N := N__law_atom) (sc := defScope S__law_atom) (by decide +kernel)) (fun _ _ _ _ _ => pg_name (i := 10) sc__law_atom.nd rfl (Or.inl rfl)) (fun _ _ _ _ _ => pts_nil) (fun _ _ _ _ _ => (pe_def (ok__law_value T) hr rfl (pa_cons (pv 0) (pa_cons (pv 4) pa_nil))))) pa_nil))))))
  pss_nil)
  (Evl.pss_cut (ps_if (PW.pt (pw_and (pt_cmpR op_eq (pv 6) pe_int (nomark _)) (pw_and1 (pt_cmpR op_eq (pv 4) pe_str (nomark _)))))
  (pss_one (ps_ret (pe_tup (pa_cons pe_str (pa_cons (pv 3) (pa_cons (pe_def (ok__law_text T) hr rfl (pa_cons (pv 0) pa_nil)) pa_nil))))))
  pss_nil)
  (Evl.pss_cut (ps_if (PW.pt (pw_and (pt_cmpR op_gtG (pv 6) pe_int (nomark _)) (pw_and1 (pt_cmpR op_gtG (pe_callB (call_lenG (K := K) rfl) (by rfl) T.h_len (by decide +kernel) (pa_cons (pv 7) pa_nil)) pe_int (nomark _)))))
  (pss_cons (ps_set (i := 8) sc__law_atom.nd rfl (Or.inl rfl) pe_int)
  (Evl.pss_cut (ps_if (PW.pt (pw_and (pt_cmpR op_eq (pv 4) pe_str (nomark _)) (pw_and1 (pt_cmpR op_eq (pe_def (ok__law_take T) hr rfl (pa_cons (pv 0) (pa_cons pe_int pa_nil))) pe_int (nomark _)))))
  (pss_one (ps_set (i := 8) sc__law_atom.nd rfl (Or.inl rfl) (pe_def (ok__law_number T) hr rfl (pa_cons (pv 0) pa_nil))))
  pss_nil)
  (pss_one (ps_ret (pe_tup (pa_cons pe_str (pa_cons (pv 3) (pa_cons (pv 5) (pa_cons (pe_ix (ix_seqG (K := K) rfl) (pv 7) (pe_def (ok__law_take T) hr rfl (pa_cons (pv 0) (pa_cons (pe_callB (call_lenG (K := K) rfl) (by rfl) T.h_len (by decide +kernel) (pa_cons (pv 7) pa_nil)) pa_nil))) (fun _ _ => rfl)) (pa_cons (pv 8) pa_nil))))))))))
  pss_nil)
  (pss_one (ps_ret (pe_tup (pa_cons pe_str (pa_cons (pv 3) (pa_cons (pv 5) (pa_cons (pe_def (ok__law_value T) hr rfl (pa_cons (pv 0) (pa_cons (pv 4) pa_nil))) pa_nil))))))))))))))))))), ?_⟩
    obtain ⟨qs, hL, hlen, hcol⟩ := id hC
    have hq0 : 0 < qs.length := by
      rw [hlen]
      exact List.length_pos_iff.mpr hG.ne
    have hq12 := hG.few
    walk_at "g"
    have hlog : ((qs.map V.ref).length : Int).natAbs.log2 < 9000 := by
      have : (((qs.map V.ref).length : Nat) : Int).natAbs < 2 ^ 64 := by rw [List.length_map]; omega
      exact Nat.lt_of_lt_of_le (PySem.Flt.log2_lt_of (by decide) this) (by decide)
    refine ⟨_, _, _, _, rfl, hD, by rw [List.length_map]; omega, hlog, fun r H1 r0 r1 D1 K1 => ?_⟩
    have B1 : DK d sc ns H H1 := ⟨D1, K1⟩
    rw [List.length_map] at r1
    obtain ⟨j, rfl⟩ := Int.eq_ofNat_of_zero_le r0
    obtain ⟨q, hq⟩ : ∃ q, qs[j]? = some q := ⟨_, List.getElem?_eq_getElem (by omega)⟩
    obtain ⟨⟨c, kd⟩, hc⟩ : ∃ c, cs[j]? = some c := ⟨_, List.getElem?_eq_getElem (by omega)⟩
    have hcm := List.mem_of_getElem? hc
    have hcn : nameP c := hG.nm _ hcm
    have hC1 := hC.draw hD K1 hLd
    have hL1 := K1 _ _ hLd hL
    obtain ⟨fl, e1⟩ := hcol j q _ hq hc
    have e1 := K1 _ _ (hD.tne e1) e1
    refine g_ixL (SqL.of hL1) (v := .ref q) (atI_nat (by rw [List.getElem?_map, hq]; rfl)) ?_
    walk_at "g"
    refine g_ixT (SqT.of e1) (v := .str c) (by rfl) ?_
    walk_at "g"
    refine g_ixT (SqT.of e1) (v := .str (kS kd)) (by rfl) ?_
    walk_at "g"
    refine ⟨by show 6 ≤ sizeLine; decide, fun p hp => ?_⟩
    have B2 := B1.new (o := .lst (opsL.map V.str)) hp
    have hC2 := hC1.keep (ext_new (o := .lst (opsL.map V.str)) hp)
    have hp2 : (upd H1 p (.lst (opsL.map V.str))) p = some (.lst (opsL.map V.str)) := upd_same
    have hpd := (D1.ne hp).1
    have e0 : upd H1 p (.lst [.str (Str.ofString "<"), .str (Str.ofString "<="), .str (Str.ofString "=="), .str (Str.ofString "!="), .str (Str.ofString ">"), .str (Str.ofString ">=")]) = upd H1 p (.lst (opsL.map V.str)) := rfl
    rw [e0]
    generalize upd H1 p (.lst (opsL.map V.str)) = H2 at B2 hC2 hp2
    clear hC1 hL1 e1 hcol hL B1
    walk_at "g"
    refine ⟨_, _, _, _, rfl, B2.D, by decide, by decide +kernel, fun r2 H3 r20 r21 D3 K3 => ?_⟩
    have B3 := B2.step D3 K3
    obtain ⟨op, hop, eop⟩ := atI_strs (ws := opsL) r20 (by show r2 < 6; exact r21)
    refine g_ixL (SqL.of (K3 _ _ hpd hp2)) eop ?_
    have hC3 := hC2.draw B2.D K3 hLd
    walk_at "g"
    refine ⟨_, _, _, _, rfl, D3, by decide, by decide +kernel, fun r3 H4 r30 r31 D4 K4 => ?_⟩
    have B4 := B3.step D4 K4
    have hC4 := hC3.draw D3 K4 hLd
    clear hC3 hC2 B3 B2 D3
    obtain ⟨qs, hL, hlen, hcol⟩ := id hC4
    walk_at "g"
    refine ⟨L, rfl, ⟨_, SqL.of hL⟩, fun Do hDo => ?_⟩
    refine lc_any (qs.map V.ref) (fun y => ∃ c2, y = .str c2 ∧ c2 ≠ c ∧ (c2, kd) ∈ cs) hDo (fun H2 k2 => fits_l (SqL.of (k2 _ _ hL))) (by rw [List.length_map]; omega) (fun x Hh R S hx kh hR hS => ?_) (fun H5 ys k5 h5' hys hyl => ?_)
    · obtain ⟨q2, hq2, rfl⟩ := List.mem_map.mp hx
      obtain ⟨j2, hj2, rfl⟩ := List.mem_iff_getElem.mp hq2
      obtain ⟨⟨c2, kd2⟩, hc2⟩ : ∃ c, cs[j2]? = some c := ⟨_, List.getElem?_eq_getElem (by omega)⟩
      obtain ⟨fl2, e2⟩ := hcol j2 qs[j2] _ (List.getElem?_eq_getElem hj2) hc2
      have e2 := kh _ _ e2
      walk_at "g"
      refine ⟨rfl, ?_⟩
      walk_at "g"
      refine g_ixT (SqT.of e2) (v := .str (kS kd2)) (by rfl) ?_
      walk_at "g"
      refine g_dec (fun h1 => ?_) (fun h1 => ?_)
      · obtain rfl := kS_inj h1
        walk_at "g"
        refine g_ixT (SqT.of e2) (v := .str c2) (by rfl) ?_
        walk_at "g"
        refine g_ndec (fun h2 => ?_) (fun h2 => ?_)
        · walk_at "g"
          refine g_ixT (SqT.of e2) (v := .str c2) (by rfl) ?_
          exact hR _ ⟨c2, rfl, h2, List.mem_of_getElem? hc2⟩
        · exact hS
      · walk_at "g"
        exact hS
    have B5 := B4.ext k5
    have hyl12 : ys.length ≤ 12 := by
      rw [List.length_map] at hyl
      omega
    clear hC4 hL hcol hlen hC
    clear B4 D4 K4
    walk_at "g"
    refine g_dec (fun h0 => ?_) (fun h0 => ?_)
    · walk_at "g"
      refine ⟨by show 1 ≤ sizeLine; decide, fun t ht => ?_⟩
      walk_at "g"
      exact k t .always _ upd_same True.intro (B5.new ht)
    walk_at "g"
    refine g_dec (fun h1 => ?_) (fun h1 => ?_)
    · walk_at "g"
      refine ⟨by show 1 ≤ sizeLine; decide, fun t ht => ?_⟩
      walk_at "g"
      exact k t .never _ upd_same True.intro (B5.new ht)
    walk_at "g"
    refine g_dec (fun h2 => ?_) (fun h2 => ?_)
    · walk_at "g"
      refine ⟨by show 2 ≤ sizeLine; decide, fun t ht => ?_⟩
      walk_at "g"
      exact k t (.empty c) _ upd_same ⟨hcn, kd, hcm⟩ (B5.new ht)
    walk_at "g"
    refine g_dec (fun h3 => ?_) (fun h3 => ?_)
    · walk_at "g"
      refine ⟨_, _, _, _, rfl, B5.D, by decide, by decide +kernel, fun r6 H6 r60 r61 D6 K6 => ?_⟩
      have B6 := B5.step D6 K6
      walk_at "g"
      refine ⟨_, rfl, by omega, by omega, fun Da hDa => ?_⟩
      have hDaH := B6.K.back (D6.ne hDa).1 hDa
      obtain ⟨n1, n2⟩ := D6.ne hDa
      refine lc_range (fun i Hi => DK d sc ns H Hi ∧ ∃ ys : List V, ys.length = i ∧ Hi Da = some (.lst ys) ∧ ∀ y ∈ ys, isV kd y) ?_ ?_ ?_
      · exact ⟨B6.new hDa, [], rfl, upd_same, fun y hy => nomatch hy⟩
      · rintro i Hi hi ⟨Bi, ys, rfl, hDi, hys⟩
        refine ⟨rfl, ?_⟩
        walk_at "g"
        refine ⟨_, _, _, kd, rfl, Bi.D, fun v H7 hv D7 K7 => ?_⟩
        refine ⟨_, K7 _ _ n1 hDi, ?_, (Bi.step D7 K7).put hDaH n1 n2, ys ++ [v], by simp, upd_same, fun y hy => ?_⟩
        · rw [sizeLine_eq]; omega
        · rcases List.mem_append.mp hy with hy | hy
          · exact hys y hy
          · rw [List.mem_singleton.mp hy]; exact hv
      · rintro Hi ⟨Bi, ys, hyl2, hDi, hys⟩
        walk_at "g"
        refine ⟨by show 3 ≤ sizeLine; decide, fun t ht => ?_⟩
        walk_at "g"
        have hne : ys ≠ [] := fun e => by rw [e] at hyl2; simp at hyl2; omega
        exact k t (.among c ys) _ ⟨Da, kd, upd_same, ext_new ht _ _ hDi, hne, hys⟩ ⟨hcn, hne, by omega, kd, hcm, hys⟩ (Bi.new ht)
    walk_at "g"
    refine g_cutA (M := fun σ' H' => σ' = [some (.ref d), some (.ref L), some (.ref q), some (.str c), some (.str (kS kd)), some (.str op), some (.int r3), some (.ref Do), none, none, none] ∧ H' = H5) (fun D1' hn1 hr1 _ _ => ?_) ?_
    · walk_at "g"
      refine g_dec (fun h4 => ?_) (fun h4 => ?_)
      · walk_at "g"
        refine g_dec (fun h5 => ?_) (fun h5 => ?_)
        · walk_at "g"
          refine ⟨_, _, _, rfl, B5.D, fun v H6 hv D6 K6 => ?_⟩
          have B6 := B5.step D6 K6
          walk_at "g"
          refine ⟨by show 3 ≤ sizeLine; decide, fun t ht => ?_⟩
          rw [hr1]
          refine g_rt ?_
          obtain rfl : kd = true := kS_inj (b := true) h5
          obtain ⟨z, rfl, hz⟩ := hv
          exact k t (.begins c z) _ upd_same ⟨hcn, hcm, z, rfl, hz⟩ (B6.new ht)
        · walk_at "g"
          exact hn1 _ _ ⟨rfl, rfl⟩
      · walk_at "g"
        exact hn1 _ _ ⟨rfl, rfl⟩
    rintro σ' H6 ⟨rfl, rfl⟩
    walk_at "g"
    refine g_cutA (M := fun σ' H' => σ' = [some (.ref d), some (.ref L), some (.ref q), some (.str c), some (.str (kS kd)), some (.str op), some (.int r3), some (.ref Do), none, none, none] ∧ H' = H6) (fun D1' hn1 hr1 _ _ => ?_) ?_
    · walk_at "g"
      refine g_dec (fun h4 => ?_) (fun h4 => ?_)
      · walk_at "g"
        refine g_dec (fun h5 => ?_) (fun h5 => ?_)
        · walk_at "g"
          refine g_cutA (M := fun σ' H' => ∃ n : Int, (kd = true → n = 0) ∧ σ' = [some (.ref d), some (.ref L), some (.ref q), some (.str c), some (.str (kS kd)), some (.str op), some (.int r3), some (.ref Do), some (.int n), none, none] ∧ DK d sc ns H H' ∧ Keep d H6 H') (fun D2' hn2 hr2 _ _ => ?_) ?_
          · walk_at "g"
            refine g_dec (fun h6 => ?_) (fun h6 => ?_)
            · walk_at "g"
              refine ⟨_, _, _, _, rfl, B5.D, by decide, by decide +kernel, fun r6 H7 r60 r61 D7 K7 => ?_⟩
              have B7 := B5.step D7 K7
              walk_at "g"
              refine g_dec (fun h7 => ?_) (fun h7 => ?_)
              · walk_at "g"
                refine ⟨_, _, _, rfl, B7.D, fun v H8 hv D8 K8 => ?_⟩
                obtain ⟨n, rfl⟩ := hv
                walk_at "g"
                obtain rfl : kd = false := kS_inj (b := false) h6
                exact hn2 _ _ ⟨n, (fun e => nomatch e), rfl, B7.step D8 K8, K7.trans K8⟩
              · walk_at "g"
                exact hn2 _ _ ⟨0, fun _ => rfl, rfl, B7, K7⟩
            · walk_at "g"
              exact hn2 _ _ ⟨0, fun _ => rfl, rfl, B5, Keep.refl _ _⟩
          rintro σ' H7 ⟨n, hn, rfl, B7, K7⟩
          have hDod : Do ≠ d := fun z => by
            obtain ⟨o, ho, n1, n2⟩ := B5.D.nf
            rw [← z, h5'] at ho
            cases ho
            obtain ⟨c2, e2, _⟩ := hys (ys[0]'(by rw [List.length_pos_iff]; intro e; rw [e] at h5; simp at h5)) (List.getElem_mem _)
            obtain ⟨i, b, c, e, g1, g2, g3, g4⟩ := B5.D.ex
            rw [← z, h5'] at g3
            injection g3 with g3
            injection g3 with g3
            subst g3
            cases e2
          have h7' := K7 _ _ hDod h5'
          walk_at "g"
          have hyp : 0 < ys.length := by omega
          have hlog2 : ((ys.length : Nat) : Int).natAbs.log2 < 9000 := by
            have : ((ys.length : Nat) : Int).natAbs < 2 ^ 64 := by omega
            exact Nat.lt_of_lt_of_le (PySem.Flt.log2_lt_of (by decide) this) (by decide)
          refine ⟨_, _, _, _, rfl, B7.D, by omega, hlog2, fun r6 H8 r60 r61 D8 K8 => ?_⟩
          have B8 := B7.step D8 K8
          obtain ⟨j6, rfl⟩ := Int.eq_ofNat_of_zero_le r60
          have hj6 : j6 < ys.length := by omega
          obtain ⟨c2, e2, hc21, hc22⟩ := hys ys[j6] (List.getElem_mem hj6)
          refine g_ixL (SqL.of (K8 _ _ hDod h7')) (v := .str c2) (atI_nat (by rw [List.getElem?_eq_getElem hj6, e2])) ?_
          walk_at "g"
          refine ⟨by show 5 ≤ sizeLine; decide, fun t ht => ?_⟩
          rw [hr1]
          refine g_rt ?_
          exact k t (.against c op c2 n) _ upd_same ⟨hcn, hG.nm _ hc22, hc21, hop, kd, hcm, hc22, hn⟩ (B8.new ht)
        · walk_at "g"
          exact hn1 _ _ ⟨rfl, rfl⟩
      · walk_at "g"
        exact hn1 _ _ ⟨rfl, rfl⟩
    rintro σ' H7 ⟨rfl, rfl⟩
    walk_at "g"
    refine ⟨_, _, _, kd, rfl, B5.D, fun v H8 hv D8 K8 => ?_⟩
    have B8 := B5.step D8 K8
    walk_at "g"
    refine ⟨by show 4 ≤ sizeLine; decide, fun t ht => ?_⟩
    walk_at "g"
    exact k t (.compare c op v) _ upd_same ⟨hcn, hop, kd, hcm, hv⟩ (B8.new ht)
end
/-! drawn forms -/
theorem cut_to {a b : List V} : cutV (a ++ b) none (some (a.length : Int)) = a := by
  unfold cutV
  rw [HT.sIx_nat, HT.sIx_none, List.length_append, Nat.min_eq_left (by omega), List.drop_zero, Nat.sub_zero, List.take_left']
  rfl
theorem cut_from {a b : List V} {n : Nat} (h : n = a.length) : cutV (a ++ b) (some (n : Int)) none = b := by
  subst h
  unfold cutV
  rw [HT.sIx_nat, HT.sIx_none, List.length_append, Nat.min_eq_left (by omega), List.drop_left', Nat.add_sub_cancel_left, List.take_length]
  rfl
inductive RF (R : Fm → Addr → Prop) : List Fm → List Addr → Prop
  | nil : RF R [] []
  | cons {f : Fm} {q : Addr} {fs : List Fm} {qs : List Addr} (h : R f q) (r : RF R fs qs) : RF R (f :: fs) (q :: qs)
theorem RF.mono {R S : Fm → Addr → Prop} (h : ∀ t q, R t q → S t q) : ∀ {ts : List Fm} {qs : List Addr}, RF R ts qs → RF S ts qs
  | _, _, .nil => .nil
  | _, _, .cons a r => .cons (h _ _ a) (r.mono h)
theorem RF.len {R : Fm → Addr → Prop} : ∀ {ts : List Fm} {qs : List Addr}, RF R ts qs → qs.length = ts.length
  | _, _, .nil => rfl
  | _, _, .cons _ r => congrArg (· + 1) r.len
theorem RF.app {R : Fm → Addr → Prop} : ∀ {ts us : List Fm} {qs ps : List Addr}, RF R ts qs → RF R us ps → RF R (ts ++ us) (qs ++ ps)
  | _, _, _, _, .nil, s => s
  | _, _, _, _, .cons a r, s => .cons a (r.app s)
theorem RF.split {R : Fm → Addr → Prop} : ∀ {qa qb : List Addr} {fs : List Fm}, RF R fs (qa ++ qb) → ∃ fa fb, fs = fa ++ fb ∧ RF R fa qa ∧ RF R fb qb
  | [], _, fs, h => ⟨[], fs, rfl, .nil, h⟩
  | q :: qa, qb, fs, h => by
    cases h with
    | cons a r =>
      obtain ⟨fa, fb, e, x, y⟩ := r.split
      exact ⟨_ :: fa, fb, by rw [e]; rfl, .cons a x, y⟩
theorem two_at : ∀ {qs : List Addr} {n : Nat}, n + 1 < qs.length → ∃ qa q1 q2 qb, qs = qa ++ q1 :: q2 :: qb ∧ qa.length = n
  | q1 :: q2 :: qb, 0, _ => ⟨[], q1, q2, qb, rfl, rfl⟩
  | q :: qs, n + 1, h => by
    obtain ⟨qa, q1, q2, qb, e, l⟩ := two_at (qs := qs) (n := n) (by simp at h; omega)
    exact ⟨q :: qa, q1, q2, qb, by rw [e]; rfl, by rw [List.length_cons, l]⟩
  | [], n, h => absurd h (by simp)
  | [q], 0, h => absurd h (by simp)
def GoodF (cs : List (Str × Bool)) (f : Fm) : Prop := f.Wf cs ∧ f.ts.depth + 1 ≤ 2 * f.ts.size
def sizeF (fs : List Fm) : Nat := (fs.map fun f => f.ts.size).sum
theorem sizeF_app (a b : List Fm) : sizeF (a ++ b) = sizeF a + sizeF b := by
  unfold sizeF
  rw [List.map_append, List.sum_append]
def spWrapped : Sp := fun vs H Q _ => ∃ (q : Addr) (i : Int) (f : Fm), vs = [.ref q, .int i] ∧ FormAt H f q ∧ ∀ t f' H', (∀ q o, H q = some o → H' q = some o) → FormAt H' f' t → (f' = f ∨ f' = .un "not" f ∨ f' = .un "sure" f) → Q (.ref t) H'
def spForm : Sp := fun vs H Q _ => ∃ (d sc : Addr) (ns : List Int) (L : Addr) (cs : List (Str × Bool)) (m : Int), vs = [.ref d, .ref L, .int m] ∧ Dr H d sc ns ∧ GoodCols cs ∧ ColsAt H L cs ∧ L ≠ d ∧ 0 < m ∧ m ≤ 6 ∧ ∀ q f H', FormAt H' f q → GoodF cs f → f.ts.size ≤ 6 → DK d sc ns H H' → Q (.ref q) H'
section
variable {P : Program} {w : World} {K : PySem.W.Frag} {mg : Str → Option Value} {base : Heap}
theorem ok__law_wrapped (T : Txt K mg) : Def P w K mg base 1 "_law_wrapped" ["_law_form_here", "_law_choice"] spWrapped := by
  obtain ⟨f, fd, h⟩ := T.d__law_wrapped
  refine h.def (Fun.okM h.fn sc__law_wrapped (fun vs H Q E h => ?_) (fun cdv A outer s H vs Q E hr h => ?_))
  · obtain ⟨q, i, f0, rfl, _⟩ := h
    rfl
  · obtain ⟨q, i, f0, rfl, hF, k⟩ := h
    refine ⟨_, (pss_cons (ps_if (pt_cmpR op_eq (pv 1) pe_int (nomark _))
  (pss_one (ps_ret (pe_tup (pa_cons pe_str (pa_cons (pv 0) pa_nil)))))
  pss_nil)
  (pss_cons (ps_if (pt_cmpR op_eq (pv 1) pe_int (nomark _))
  (pss_one (ps_ret (pe_tup (pa_cons pe_str (pa_cons (pv 0) pa_nil)))))
  pss_nil)
  (pss_one (ps_ret (pv 0))))), ?_⟩
    walk_at "g"
    refine g_dec (fun h0 => ?_) (fun h0 => ?_)
    · walk_at "g"
      refine ⟨by show 2 ≤ sizeLine; decide, fun t ht => ?_⟩
      walk_at "g"
      exact k t (.un "not" f0) _ (ext_new ht) ⟨q, upd_same, hF.keep (ext_new ht)⟩ (.inr (.inl rfl))
    walk_at "g"
    refine g_dec (fun h0 => ?_) (fun h0 => ?_)
    · walk_at "g"
      refine ⟨by show 2 ≤ sizeLine; decide, fun t ht => ?_⟩
      walk_at "g"
      exact k t (.un "sure" f0) _ (ext_new ht) ⟨q, upd_same, hF.keep (ext_new ht)⟩ (.inr (.inr rfl))
    walk_at "g"
    exact k q f0 _ (fun _ _ h => h) hF (.inl rfl)
theorem wrap_good {cs : List (Str × Bool)} {f f' : Fm} (w : f.Wf cs) (h : f' = f ∨ f' = .un "not" f ∨ f' = .un "sure" f) : f'.Wf cs ∧ f'.ts.size = f.ts.size ∧ f'.ts.depth ≤ f.ts.depth + 1 := by
  rcases h with rfl | rfl | rfl
  · exact ⟨w, rfl, Nat.le_succ _⟩
  · exact ⟨⟨.inl rfl, w⟩, rfl, Nat.le_refl _⟩
  · exact ⟨⟨.inr rfl, w⟩, rfl, Nat.le_refl _⟩
theorem ok__law_form (T : Txt K mg) : Def P w K mg base 5 "_law_form" ["_law_draw", "_law_columns_here", "_law_most"] spForm := by
  obtain ⟨f, fd, h⟩ := T.d__law_form
  refine h.def (Fun.okM h.fn sc__law_form (fun vs H Q E h => ?_) (fun cdv A outer s H vs Q E hr h => ?_))
  · obtain ⟨d, sc, ns, L, cs, m, rfl, _⟩ := h
    rfl
  · obtain ⟨d, sc, ns, L, cs, m, rfl, hD, hG, hC, hLd, hm0, hm6, k⟩ := h
    refine ⟨_, (pss_cons (ps_set (i := 3) sc__law_form.nd rfl (Or.inl rfl) (pe_lst pa_nil))
  (pss_cons (ps_for PassesOwn.never rfl (pi_range1 rfl T.h_range (pa_cons (pe_op op_addG pe_int (pe_def (ok__law_take T) hr rfl (pa_cons (pv 0) (pa_cons (pv 2) pa_nil)))) pa_nil)) (pg_name (i := 4) sc__law_form.nd rfl (Or.inl rfl))
  (pss_one (ps_expr (pe_bm PySem.F.plainAttrs_list PySem.F.slot_list_append PySem.F.type_list_append mt_append (pv 3) (pa_cons (pe_def (ok__law_wrapped T) hr rfl (pa_cons (pe_def (ok__law_atom T) hr rfl (pa_cons (pv 0) (pa_cons (pv 1) pa_nil))) (pa_cons (pe_def (ok__law_take T) hr rfl (pa_cons (pv 0) (pa_cons pe_int pa_nil))) pa_nil))) pa_nil)))))
  (pss_cons (ps_for PassesOwn.never rfl (pi_range1 rfl T.h_range (pa_cons (pe_op op_subG (pe_callB (call_lenG (K := K) rfl) (by rfl) T.h_len (by decide +kernel) (pa_cons (pv 3) pa_nil)) pe_int) pa_nil)) (pg_name (i := 4) sc__law_form.nd rfl (Or.inl rfl))
  (pss_cons (ps_set (i := 5) sc__law_form.nd rfl (Or.inl rfl) (pe_def (ok__law_take T) hr rfl (pa_cons (pv 0) (pa_cons (pe_op op_subG (pe_callB (call_lenG (K := K) rfl) (by rfl) T.h_len (by decide +kernel) (pa_cons (pv 3) pa_nil)) pe_int) pa_nil))))
  (pss_cons (ps_set (i := 6) sc__law_form.nd rfl (Or.inl rfl) (pe_ix (ix_seqG (K := K) rfl) (pe_lst (pa_cons pe_str (pa_cons pe_str pa_nil))) (pe_def (ok__law_take T) hr rfl (pa_cons (pv 0) (pa_cons pe_int pa_nil))) (fun _ _ => rfl)))
  (pss_cons (ps_set (i := 7) sc__law_form.nd rfl (Or.inl rfl) (pe_def (ok__law_wrapped T) hr rfl (pa_cons (pe_tup (pa_cons (pv 6) (pa_cons (pe_ix (ix_seqG (K := K) rfl) (pv 3) (pv 5) (fun _ _ => rfl)) (pa_cons (pe_ix (ix_seqG (K := K) rfl) (pv 3) (pe_op op_addG (pv 5) pe_int) (fun _ _ => rfl)) pa_nil)))) (pa_cons (pe_def (ok__law_take T) hr rfl (pa_cons (pv 0) (pa_cons pe_int pa_nil))) pa_nil))))
  (pss_one (ps_set (i := 3) sc__law_form.nd rfl (Or.inl rfl) (pe_op op_addG (pe_op op_addG (pe_slice (sl_G (K := K) rfl) (pv 3) po_none (po_some (pv 5))) (pe_lst (pa_cons (pv 7) pa_nil))) (pe_slice (sl_G (K := K) rfl) (pv 3) (po_some (pe_op op_addG (pv 5) pe_int)) po_none))))))))
  (pss_one (ps_ret (pe_ix (ix_seqG (K := K) rfl) (pv 3) pe_int (fun _ _ => rfl))))))), ?_⟩
    walk_at "g"
    refine ⟨Nat.zero_le _, fun Lp hLp => ?_⟩
    have B1 := (DK.refl hD).new (o := .lst []) hLp
    have hC1 := hC.keep (ext_new (o := .lst []) hLp)
    have nLp := hD.ne hLp
    have hLH : H Lp = none := hLp
    have hLpL : Lp ≠ L := by
      obtain ⟨qs, h1, _⟩ := hC
      exact Ne.symm (ne_of_none h1 hLp)
    have e1 : (upd H Lp (.lst [])) Lp = some (.lst (([] : List Addr).map V.ref)) := upd_same
    generalize upd H Lp (.lst []) = H1 at B1 hC1 e1
    walk_at "g"
    have hml : m.natAbs.log2 < 9000 := by
      have : m.natAbs < 2 ^ 64 := by omega
      exact Nat.lt_of_lt_of_le (PySem.Flt.log2_lt_of (by decide) this) (by decide)
    refine ⟨_, _, _, _, rfl, B1.D, hm0, hml, fun r H2 r0 r1 D2 K2 => ?_⟩
    have B2 := B1.step D2 K2
    have hC2 := hC1.draw B1.D K2 hLd
    have e2 := K2 _ _ nLp.1 e1
    walk_at "g"
    refine ⟨_, rfl, by omega, by omega, ?_⟩
    refine for_rangeA (fun i σ' H' => ∃ (s4 : Option V) (fs : List Fm) (qs : List Addr), σ' = [some (.ref d), some (.ref L), some (.int m), some (.ref Lp), s4, none, none, none] ∧ DK d sc ns H H' ∧ ColsAt H' L cs ∧ H' Lp = some (.lst (qs.map V.ref)) ∧ RF (FormAt H') fs qs ∧ fs.length = i ∧ sizeF fs = i ∧ ∀ f ∈ fs, GoodF cs f) ⟨none, [], [], rfl, B2, hC2, e2, .nil, rfl, rfl, fun f hf => nomatch hf⟩ ?_ ?_
    · rintro i σ' H3 D' hi ⟨s4, fs, qs, rfl, B3, hC3, hL3, hR3, hlen, hsz, hgood⟩ hnx hct hbk hrt
      have hi6 : i < 6 := by omega
      have hql := hR3.len
      walk_at "g"
      refine ⟨_, _, _, _, _, rfl, B3.D, hG, hC3, hLd, fun q a H4 hA hwf B4 => ?_⟩
      have hC4 := hC3.draw B3.D B4.K hLd
      have hL4 := B4.K _ _ nLp.1 hL3
      have hR4 := hR3.mono fun f q h => FormAt.draw h B3.D B4.K
      have C4 := B3.step B4.D B4.K
      walk_at "g"
      refine ⟨_, _, _, _, rfl, B4.D, by decide, by decide +kernel, fun r5 H5 r50 r51 D5 K5 => ?_⟩
      have C5 := C4.step D5 K5
      have hC5 := hC4.draw B4.D K5 hLd
      have hL5 := K5 _ _ nLp.1 hL4
      have hR5 := hR4.mono fun f q h => FormAt.draw h B4.D K5
      have hA5 : FormAt H5 (.at a) q := FormAt.draw (f := .at a) hA B4.D K5
      walk_at "g"
      refine ⟨q, _, .at a, rfl, hA5, fun t f' H6 x6 hF6 hor => ?_⟩
      obtain ⟨w1, w2, w3⟩ := wrap_good (cs := cs) (f := .at a) hwf hor
      have C6 := C5.ext x6
      have hC6 := hC5.keep x6
      have hL6 := x6 _ _ hL5
      have hR6 := hR5.mono fun f q h => FormAt.keep x6 h
      walk_at "g"
      have kL : ∀ b o, b ≠ Lp → H6 b = some o → (upd H6 Lp (.lst (qs.map V.ref ++ [.ref t]))) b = some o := fun b o hb h => by rw [upd_ne hb]; exact h
      have nL : ∃ o, H6 Lp = some o ∧ NF o := ⟨_, hL6, NF.refs⟩
      refine hnx _ _ ⟨_, fs ++ [f'], qs ++ [t], rfl, C6.put hLH nLp.1 nLp.2, ?_, by rw [upd_same, List.map_append]; rfl, (hR6.mono fun f q h => FormAt.keepN kL nL h).app (.cons (FormAt.keepN kL nL hF6) .nil), by rw [List.length_append, hlen]; rfl, ?_, fun f hf => ?_⟩
      · obtain ⟨ps, h1, h2, h3⟩ := hC6
        refine ⟨ps, kL _ _ (Ne.symm hLpL) h1, h2, fun i q c hq hc => ?_⟩
        obtain ⟨fl, e⟩ := h3 i q c hq hc
        exact ⟨fl, kL _ _ (fun z => by rw [z, hL6] at e; cases e) e⟩
      · rw [sizeF_app, hsz]
        show i + (f'.ts.size + 0) = i + 1
        rw [w2]; rfl
      · rcases List.mem_append.mp hf with hf | hf
        · exact hgood f hf
        · rw [List.mem_singleton.mp hf]
          refine ⟨w1, ?_⟩
          have e1 : (Fm.at a).ts.depth = 0 := rfl
          have e2 : (Fm.at a).ts.size = 1 := rfl
          rw [e1] at w3
          rw [e2] at w2
          omega
    · rintro σ' H3 ⟨s4, fs, qs, rfl, B3, hC3, hL3, hR3, hlen, hsz, hgood⟩
      have hql := hR3.len
      clear hC2 e2 B2 K2 D2 e1 hC1 B1
      walk_at "g"
      have hn6 : fs.length ≤ 6 := by omega
      have hn1 : 1 ≤ fs.length := by omega
      refine ⟨_, rfl, by rw [List.length_map]; omega, by rw [List.length_map]; omega, ?_⟩
      refine for_rangeA (fun i σ' H' => ∃ (s4 s5 s6 s7 : Option V) (Lq : Addr) (fs' : List Fm) (qs' : List Addr), σ' = [some (.ref d), some (.ref L), some (.int m), some (.ref Lq), s4, s5, s6, s7] ∧ DK d sc ns H H' ∧ Lq ≠ d ∧ H' Lq = some (.lst (qs'.map V.ref)) ∧ RF (FormAt H') fs' qs' ∧ fs'.length + i = fs.length ∧ sizeF fs' = fs.length ∧ ∀ f ∈ fs', GoodF cs f) ⟨_, none, none, none, Lp, fs, qs, rfl, B3, nLp.1, hL3, hR3, rfl, by omega, hgood⟩ ?_ ?_
      · rintro i σ' H4 D' hi ⟨s4, s5, s6, s7, Lq, fs', qs', rfl, B4, hLq, hL4, hR4, hlen4, hsz4, hgood4⟩ hnx hct hbk hrt
        have hql4 := hR4.len
        rw [List.length_map] at hi
        have hlt : 2 ≤ qs'.length := by omega
        walk_at "g"
        have hlog : (((qs'.map V.ref).length : Int) - 1).natAbs.log2 < 9000 := by
          have : (((qs'.map V.ref).length : Int) - 1).natAbs < 2 ^ 64 := by rw [List.length_map]; omega
          exact Nat.lt_of_lt_of_le (PySem.Flt.log2_lt_of (by decide) this) (by decide)
        refine ⟨_, _, _, _, rfl, B4.D, by rw [List.length_map]; omega, hlog, fun r5 H5 r50 r51 D5 K5 => ?_⟩
        rw [List.length_map] at r51
        obtain ⟨n, rfl⟩ := Int.eq_ofNat_of_zero_le r50
        obtain ⟨qa, q1, q2, qb, rfl, rfl⟩ := two_at (qs := qs') (n := n) (by omega)
        have hqlen : qa.length + qb.length + 2 ≤ 6 := by
          have := hql4
          simp at this
          omega
        have B5 := B4.step D5 K5
        have hL5 := K5 _ _ hLq hL4
        have hR5 := hR4.mono fun f q h => FormAt.draw h B4.D K5
        clear hL4 hR4 K5
        walk_at "g"
        refine ⟨by show 2 ≤ sizeLine; decide, fun W hW => ?_⟩
        have B6 := B5.new (o := .lst [.str "and", .str "or"]) hW
        have x6 := ext_new (o := .lst [.str "and", .str "or"]) hW
        have hL6 := x6 _ _ hL5
        have hR6 := hR5.mono fun f q h => FormAt.keep x6 h
        have hW6 : (upd H5 W (.lst [.str "and", .str "or"])) W = some (.lst [.str "and", .str "or"]) := upd_same
        have hWd := (D5.ne hW).1
        have e0 : upd H5 W (.lst [.str (Str.ofString "and"), .str (Str.ofString "or")]) = upd H5 W (.lst [.str "and", .str "or"]) := rfl
        rw [e0]
        generalize upd H5 W (.lst [.str "and", .str "or"]) = H6 at B6 x6 hL6 hR6 hW6
        clear hL5 hR5
        walk_at "g"
        refine ⟨_, _, _, _, rfl, B6.D, by decide, by decide +kernel, fun r7 H7 r70 r71 D7 K7 => ?_⟩
        obtain ⟨wd, hwd, ewd⟩ : ∃ wd : Str, (wd = "and" ∨ wd = "or") ∧ atI [V.str "and", V.str "or"] r7 = some (.str wd) := by
          have : r7 = 0 ∨ r7 = 1 := by omega
          rcases this with rfl | rfl
          · exact ⟨_, .inl rfl, rfl⟩
          · exact ⟨_, .inr rfl, rfl⟩
        refine g_ixL (SqL.of (K7 _ _ hWd hW6)) ewd ?_
        have B7 := B6.step D7 K7
        have hL7 := K7 _ _ hLq hL6
        have hR7 := hR6.mono fun f q h => FormAt.draw h B6.D K7
        obtain ⟨fa, fr, rfl, ha7, hr7⟩ := hR7.split
        obtain ⟨f1, f2, fb, rfl, h17, h27, hb7⟩ : ∃ f1 f2 fb, fr = f1 :: f2 :: fb ∧ FormAt H7 f1 q1 ∧ FormAt H7 f2 q2 ∧ RF (FormAt H7) fb qb := by
          cases hr7 with
          | cons a r =>
            cases r with
            | cons b r => exact ⟨_, _, _, rfl, a, b, r⟩
        clear hL6 hR6 hR7 hr7 hW6
        have hm : (qa ++ q1 :: q2 :: qb).map V.ref = qa.map V.ref ++ (V.ref q1 :: V.ref q2 :: qb.map V.ref) := by rw [List.map_append]; rfl
        have i1 : atI ((qa ++ q1 :: q2 :: qb).map V.ref) (qa.length : Int) = some (.ref q1) := by
          refine atI_nat ?_
          rw [hm, List.getElem?_append_right (by rw [List.length_map]; omega), List.length_map, Nat.sub_self]; rfl
        have i2 : atI ((qa ++ q1 :: q2 :: qb).map V.ref) ((qa.length : Int) + 1) = some (.ref q2) := by
          refine atI_nat (j := qa.length + 1) ?_
          rw [hm, List.getElem?_append_right (by rw [List.length_map]; omega), List.length_map, Nat.add_sub_cancel_left]; rfl
        walk_at "g"
        refine g_ixL (SqL.of hL7) i1 ?_
        walk_at "g"
        refine g_ixL (SqL.of hL7) i2 ?_
        walk_at "g"
        refine ⟨by show 3 ≤ sizeLine; decide, fun t ht => ?_⟩
        have x8 := ext_new (o := .tup [.str wd, .ref q1, .ref q2]) ht
        have B8 := B7.new (o := .tup [.str wd, .ref q1, .ref q2]) ht
        have hL8 := x8 _ _ hL7
        have ha8 := ha7.mono fun f q h => FormAt.keep x8 h
        have hb8 := hb7.mono fun f q h => FormAt.keep x8 h
        have ht8 : FormAt (upd H7 t (.tup [.str wd, .ref q1, .ref q2])) (.bi wd f1 f2) t := ⟨q1, q2, upd_same, h17.keep x8, h27.keep x8⟩
        generalize upd H7 t (.tup [.str wd, .ref q1, .ref q2]) = H8 at x8 B8 hL8 ha8 hb8 ht8
        clear hL7 ha7 hb7
        walk_at "g"
        refine ⟨_, _, _, _, rfl, B8.D, by decide, by decide +kernel, fun r9 H9 r90 r91 D9 K9 => ?_⟩
        have B9 := B8.step D9 K9
        have hL9 := K9 _ _ hLq hL8
        have ha9 := ha8.mono fun f q h => FormAt.draw h B8.D K9
        have hb9 := hb8.mono fun f q h => FormAt.draw h B8.D K9
        have ht9 := FormAt.draw ht8 B8.D K9
        clear hL8 ha8 hb8 ht8
        walk_at "g"
        refine ⟨t, _, _, rfl, ht9, fun t' f' H10 x10 hF10 hor => ?_⟩
        have g1 := hgood4 f1 (List.mem_append.mpr (.inr List.mem_cons_self))
        have g2 := hgood4 f2 (List.mem_append.mpr (.inr (List.mem_cons_of_mem _ List.mem_cons_self)))
        obtain ⟨w1, w2, w3⟩ := wrap_good (cs := cs) (f := .bi wd f1 f2) ⟨hwd, g1.1, g2.1⟩ hor
        have B10 := B9.ext x10
        have hL10 := x10 _ _ hL9
        have ha10 := ha9.mono fun f q h => FormAt.keep x10 h
        have hb10 := hb9.mono fun f q h => FormAt.keep x10 h
        clear hL9 ha9 hb9 ht9
        rw [hm] at hL10
        walk_at "g"
        have hlq : (qa.length : Int) = ((qa.map V.ref).length : Int) := by rw [List.length_map]
        refine g_slL (SqL.of hL10) fun A hA => ?_
        rw [hlq, cut_to]
        have xA := ext_new (o := .lst (qa.map V.ref)) hA
        have BA := B10.new (o := .lst (qa.map V.ref)) hA
        have hAA : (upd H10 A (.lst (qa.map V.ref))) A = some (.lst (qa.map V.ref)) := upd_same
        have hLA := xA _ _ hL10
        have haA := ha10.mono fun f q h => FormAt.keep xA h
        have hbA := hb10.mono fun f q h => FormAt.keep xA h
        have hFA := hF10.keep xA
        generalize upd H10 A (.lst (qa.map V.ref)) = H11 at BA hAA hLA haA hbA hFA
        clear xA hL10 ha10 hb10 hF10
        walk_at "g"
        refine ⟨by show 1 ≤ sizeLine; decide, fun Bq hB => ?_⟩
        have xB := ext_new (o := .lst [.ref t']) hB
        have BB := BA.new (o := .lst [.ref t']) hB
        have hBB : (upd H11 Bq (.lst [.ref t'])) Bq = some (.lst [.ref t']) := upd_same
        have hAB := xB _ _ hAA
        have hLB := xB _ _ hLA
        have haB := haA.mono fun f q h => FormAt.keep xB h
        have hbB := hbA.mono fun f q h => FormAt.keep xB h
        have hFB := hFA.keep xB
        generalize upd H11 Bq (.lst [.ref t']) = H12 at BB hBB hAB hLB haB hbB hFB
        clear xB hAA hLA haA hbA hFA
        refine .inr (.inr ⟨A, Bq, _, _, rfl, rfl, hAB, hBB, ?_, fun Cq hCq => ?_⟩)
        · rw [List.length_map, sizeLine_eq]
          show qa.length + 1 ≤ _
          omega
        have xC := ext_new (o := .lst (qa.map V.ref ++ [.ref t'])) hCq
        have BC := BB.new (o := .lst (qa.map V.ref ++ [.ref t'])) hCq
        have hCC : (upd H12 Cq (.lst (qa.map V.ref ++ [.ref t']))) Cq = some (.lst (qa.map V.ref ++ [.ref t'])) := upd_same
        have hLC := xC _ _ hLB
        have haC := haB.mono fun f q h => FormAt.keep xC h
        have hbC := hbB.mono fun f q h => FormAt.keep xC h
        have hFC := hFB.keep xC
        generalize upd H12 Cq (.lst (qa.map V.ref ++ [.ref t'])) = H13 at BC hCC hLC haC hbC hFC
        clear xC hBB hAB hLB haB hbB hFB
        walk_at "g"
        refine g_slL (SqL.of hLC) fun Dq hDq => ?_
        have ecut : cutV (qa.map V.ref ++ V.ref q1 :: V.ref q2 :: qb.map V.ref) (some (((qa.map V.ref).length : Int) + 2)) none = qb.map V.ref := by
          rw [show qa.map V.ref ++ V.ref q1 :: V.ref q2 :: qb.map V.ref = (qa.map V.ref ++ [V.ref q1, V.ref q2]) ++ qb.map V.ref by simp]
          exact cut_from (n := (qa.map V.ref).length + 2) (by simp)
        rw [ecut]
        have xD := ext_new (o := .lst (qb.map V.ref)) hDq
        have BD := BC.new (o := .lst (qb.map V.ref)) hDq
        have hDD : (upd H13 Dq (.lst (qb.map V.ref))) Dq = some (.lst (qb.map V.ref)) := upd_same
        have hCD := xD _ _ hCC
        have haD := haC.mono fun f q h => FormAt.keep xD h
        have hbD := hbC.mono fun f q h => FormAt.keep xD h
        have hFD := hFC.keep xD
        generalize upd H13 Dq (.lst (qb.map V.ref)) = H14 at BD hDD hCD haD hbD hFD
        clear xD hCC hLC haC hbC hFC
        refine .inr (.inr ⟨Cq, Dq, _, _, rfl, rfl, hCD, hDD, ?_, fun Eq hEq => ?_⟩)
        · rw [List.length_append, List.length_map, List.length_map, sizeLine_eq]
          show qa.length + 1 + qb.length ≤ _
          omega
        have xE := ext_new (o := .lst (qa.map V.ref ++ [.ref t'] ++ qb.map V.ref)) hEq
        have em : qa.map V.ref ++ [V.ref t'] ++ qb.map V.ref = (qa ++ t' :: qb).map V.ref := by simp
        walk_at "g"
        refine hnx _ _ ⟨_, _, _, _, Eq, fa ++ f' :: fb, qa ++ t' :: qb, rfl, BD.new hEq, (BD.D.ne hEq).1, by rw [upd_same, em], (haD.mono fun f q h => FormAt.keep xE h).app (.cons (hFD.keep xE) (hbD.mono fun f q h => FormAt.keep xE h)), ?_, ?_, fun f hf => ?_⟩
        · rw [List.length_append] at hlen4 ⊢
          simp at hlen4 ⊢
          omega
        · rw [sizeF_app] at hsz4 ⊢
          have a1 : sizeF (f1 :: f2 :: fb) = f1.ts.size + (f2.ts.size + sizeF fb) := rfl
          have a2 : sizeF (f' :: fb) = f'.ts.size + sizeF fb := rfl
          have a3 : (Fm.bi wd f1 f2).ts.size = f1.ts.size + f2.ts.size := rfl
          rw [a1] at hsz4
          rw [a2, w2, a3]
          omega
        · rcases List.mem_append.mp hf with hf | hf
          · exact hgood4 f (List.mem_append.mpr (.inl hf))
          · rcases List.mem_cons.mp hf with rfl | hf
            · refine ⟨w1, ?_⟩
              have a3 : (Fm.bi wd f1 f2).ts.size = f1.ts.size + f2.ts.size := rfl
              have a4 : (Fm.bi wd f1 f2).ts.depth = max f1.ts.depth f2.ts.depth + 1 := rfl
              have p1 := f1.ts.size_pos
              have p2 := f2.ts.size_pos
              have b1 := g1.2
              have b2 := g2.2
              rw [w2, a3]
              rw [a4] at w3
              omega
            · exact hgood4 f (List.mem_append.mpr (.inr (List.mem_cons_of_mem _ (List.mem_cons_of_mem _ hf))))
      · rintro σ' H4 ⟨s4, s5, s6, s7, Lq, fs', qs', rfl, B4, hLq, hL4, hR4, hlen4, hsz4, hgood4⟩
        rw [List.length_map, hql] at hlen4
        cases hR4 with
        | nil => simp at hlen4; omega
        | cons a r =>
          rename_i f q fr qr
          cases r with
          | nil =>
            walk_at "g"
            refine k q f H4 a (hgood4 f List.mem_cons_self) ?_ B4
            have : sizeF [f] = f.ts.size + 0 := rfl
            omega
          | cons b r => simp at hlen4; omega
end
section
variable {σ : L2.St} {H : Hp} {D : Ends} {n : Nat} {x z : Str} {t1 tz : TS}
/-- if x == 'z': of texts that are known -/
theorem g_skipS (hv : σ[n]? = some (some (.str x))) (hne : x ≠ z) (q : tz D σ H) : tSeq (tIfS (tTest (tOp rEq (tVar n) (tC (.str z)))) t1 tNext) tz D σ H := by
  refine g_seq (g_if (g_test (g_op (g_var hv (g_c (g_eqS (g_bl ?_)))))))
  rw [decide_eq_false hne, if_neg Bool.false_ne_true]
  exact q
theorem g_takeS (hv : σ[n]? = some (some (.str z))) (q : t1 (mkE (tz D) D.rt D.bk D.ct) σ H) : tSeq (tIfS (tTest (tOp rEq (tVar n) (tC (.str z)))) t1 tNext) tz D σ H := by
  refine g_seq (g_if (g_test (g_op (g_var hv (g_c (g_eqS (g_bl ?_)))))))
  rw [decide_eq_true rfl, if_pos rfl]
  exact q
end
def spMake (C : Addr) (n : Nat) : Sp := fun vs H Q _ => ∃ (q : Addr) (f : Fm) (κ : List (Str × Bool)), vs = [.ref q] ∧ FormAt H f q ∧ f.Wf κ ∧ f.ts.depth ≤ n ∧ f.ts.depth ≤ 12 ∧ f.ts.size ≤ 24 ∧ ∀ t H', (∀ q o, H q = some o → H' q = some o) → TestAt C H' f.ts t → Q (.ref t) H'
section
variable {P : Program} {w : World} {K : PySem.W.Frag} {mg : Str → Option Value} {base : Heap}
theorem ok_makeN (T : Txt K mg) : ∀ n, Def P w K mg base (n + 6) "_law_make" ["_law_form_here"] (spMake (cadr mg "Test") n) := by
  intro n
  induction n with
  | zero =>
    obtain ⟨f, fd, h⟩ := T.d__law_make
    refine h.def (Fun.okM h.fn sc__law_make (fun vs H Q E h => ?_) (fun cdv A outer s H vs Q E hr h => ?_))
    · obtain ⟨q, f, κ, rfl, _⟩ := h
      rfl
    · obtain ⟨q, f, κ, rfl, hF, hw, hd, hd2, hz, k⟩ := h
      refine ⟨_, (pss_cons (ps_set (i := 1) sc__law_make.nd rfl (Or.inl rfl) (pe_ix (ix_seqG (K := K) rfl) (pv 0) pe_int (fun _ _ => rfl)))
  (pss_cons (ps_if (pt_cmpR op_eq (pv 1) pe_str (nomark _))
  (pss_one ps_never)
  pss_nil)
  (pss_cons (ps_if (pt_cmpR op_eq (pv 1) pe_str (nomark _))
  (pss_one ps_never)
  pss_nil)
  (pss_cons (ps_if (pt_cmpR op_eq (pv 1) pe_str (nomark _))
  (pss_one ps_never)
  pss_nil)
  (pss_cons (ps_if (pt_cmpR op_eq (pv 1) pe_str (nomark _))
  (pss_one ps_never)
  pss_nil)
  (pss_cons (ps_if (pt_cmpR op_eq (pv 1) pe_str (nomark _))
  (pss_one (ps_ret (pe_def0 (ok_always T) hr rfl (hk := by omega))))
  pss_nil)
  (pss_cons (ps_if (pt_cmpR op_eq (pv 1) pe_str (nomark _))
  (pss_one (ps_ret (pe_def0 (ok_never T) hr rfl (hk := by omega))))
  pss_nil)
  (pss_cons (ps_if (pt_cmpR op_eq (pv 1) pe_str (nomark _))
  (pss_one (ps_ret (pe_def (ok_empty T) hr rfl (pa_cons (pe_ix (ix_seqG (K := K) rfl) (pv 0) pe_int (fun _ _ => rfl)) pa_nil) (hk := by omega))))
  pss_nil)
  (pss_cons (ps_if (pt_cmpR op_eq (pv 1) pe_str (nomark _))
  (pss_one (ps_ret (pe_def (ok_among T) hr rfl (pa_cons (pe_ix (ix_seqG (K := K) rfl) (pv 0) pe_int (fun _ _ => rfl)) (pa_cons (pe_callTy (call_listG (K := K) rfl) (by rfl) T.h_list (by decide +kernel) (pa_cons (pe_ix (ix_seqG (K := K) rfl) (pv 0) pe_int (fun _ _ => rfl)) pa_nil)) pa_nil)) (hk := by omega))))
  pss_nil)
  (pss_cons (ps_if (pt_cmpR op_eq (pv 1) pe_str (nomark _))
  (pss_one (ps_ret (pe_def (ok_begins T) hr rfl (pa_cons (pe_ix (ix_seqG (K := K) rfl) (pv 0) pe_int (fun _ _ => rfl)) (pa_cons (pe_ix (ix_seqG (K := K) rfl) (pv 0) pe_int (fun _ _ => rfl)) pa_nil)) (hk := by omega))))
  pss_nil)
  (pss_cons (ps_if (pt_cmpR op_eq (pv 1) pe_str (nomark _))
  (pss_one (ps_ret (pe_def (ok_compare T) hr rfl (pa_cons (pe_ix (ix_seqG (K := K) rfl) (pv 0) pe_int (fun _ _ => rfl)) (pa_cons (pe_ix (ix_seqG (K := K) rfl) (pv 0) pe_int (fun _ _ => rfl)) (pa_cons (pe_ix (ix_seqG (K := K) rfl) (pv 0) pe_int (fun _ _ => rfl)) pa_nil))) (hk := by omega))))
  pss_nil)
  (pss_cons (ps_if (pt_cmpR op_eq (pe_ix (ix_seqG (K := K) rfl) (pv 0) pe_int (fun _ _ => rfl)) pe_int (nomark _))
  (pss_one (ps_ret (pe_defK (ok_against T) hr rfl (pa_cons (pe_ix (ix_seqG (K := K) rfl) (pv 0) pe_int (fun _ _ => rfl)) (pa_cons (pe_ix (ix_seqG (K := K) rfl) (pv 0) pe_int (fun _ _ => rfl)) (pa_cons (pe_ix (ix_seqG (K := K) rfl) (pv 0) pe_int (fun _ _ => rfl)) pa_nil))) (hk := by omega))))
  pss_nil)
  (pss_one (ps_ret (pe_defKw (ok_against T) hr rfl (pa_cons (pe_ix (ix_seqG (K := K) rfl) (pv 0) pe_int (fun _ _ => rfl)) (pa_cons (pe_ix (ix_seqG (K := K) rfl) (pv 0) pe_int (fun _ _ => rfl)) (pa_cons (pe_ix (ix_seqG (K := K) rfl) (pv 0) pe_int (fun _ _ => rfl)) pa_nil))) (pe_ix (ix_seqG (K := K) rfl) (pv 0) pe_int (fun _ _ => rfl)) (hk := by omega)))))))))))))))), ?_⟩
      cases f with
      | un wd a => exact absurd hd (by show ¬ a.ts.depth + 1 ≤ 0; omega)
      | bi wd a b => exact absurd hd (by show ¬ max a.ts.depth b.ts.depth + 1 ≤ 0; omega)
      | «at» a =>
        cases a with
        | always =>
          have hA : H q = some (.tup [.str "always"]) := hF
          walk_at "g"
          refine g_ixT (SqT.of hA) (v := .str "always") (by rfl) ?_
          refine g_nx ?_
          refine g_skipS rfl (show ("always" : Str) ≠ "and" by decide +kernel) ?_
          refine g_skipS rfl (show ("always" : Str) ≠ "or" by decide +kernel) ?_
          refine g_skipS rfl (show ("always" : Str) ≠ "not" by decide +kernel) ?_
          refine g_skipS rfl (show ("always" : Str) ≠ "sure" by decide +kernel) ?_
          refine g_takeS rfl ?_
          walk_at "g"
          refine ⟨rfl, fun t H9 k9 A9 => ?_⟩
          walk_at "g"
          exact k t H9 k9 A9
        | never =>
          have hA : H q = some (.tup [.str "never"]) := hF
          walk_at "g"
          refine g_ixT (SqT.of hA) (v := .str "never") (by rfl) ?_
          refine g_nx ?_
          refine g_skipS rfl (show ("never" : Str) ≠ "and" by decide +kernel) ?_
          refine g_skipS rfl (show ("never" : Str) ≠ "or" by decide +kernel) ?_
          refine g_skipS rfl (show ("never" : Str) ≠ "not" by decide +kernel) ?_
          refine g_skipS rfl (show ("never" : Str) ≠ "sure" by decide +kernel) ?_
          refine g_skipS rfl (show ("never" : Str) ≠ "always" by decide +kernel) ?_
          refine g_takeS rfl ?_
          walk_at "g"
          refine ⟨rfl, fun t H9 k9 A9 => ?_⟩
          walk_at "g"
          exact k t H9 k9 A9
        | empty c =>
          have hA : H q = some (.tup [.str "empty", .str c]) := hF
          obtain ⟨hc, _⟩ := hw
          walk_at "g"
          refine g_ixT (SqT.of hA) (v := .str "empty") (by rfl) ?_
          refine g_nx ?_
          refine g_skipS rfl (show ("empty" : Str) ≠ "and" by decide +kernel) ?_
          refine g_skipS rfl (show ("empty" : Str) ≠ "or" by decide +kernel) ?_
          refine g_skipS rfl (show ("empty" : Str) ≠ "not" by decide +kernel) ?_
          refine g_skipS rfl (show ("empty" : Str) ≠ "sure" by decide +kernel) ?_
          refine g_skipS rfl (show ("empty" : Str) ≠ "always" by decide +kernel) ?_
          refine g_skipS rfl (show ("empty" : Str) ≠ "never" by decide +kernel) ?_
          refine g_takeS rfl ?_
          walk_at "g"
          refine g_ixT (SqT.of hA) (v := .str c) (by rfl) ?_
          walk_at "g"
          refine ⟨c, rfl, hc, fun t H9 k9 A9 => ?_⟩
          walk_at "g"
          exact k t H9 k9 A9
        | among c xs =>
          obtain ⟨l, kd0, hA, hl, _, _⟩ := hF
          obtain ⟨hc, hne, h8, kd, _, hvv⟩ := hw
          walk_at "g"
          refine g_ixT (SqT.of hA) (v := .str "among") (by rfl) ?_
          refine g_nx ?_
          refine g_skipS rfl (show ("among" : Str) ≠ "and" by decide +kernel) ?_
          refine g_skipS rfl (show ("among" : Str) ≠ "or" by decide +kernel) ?_
          refine g_skipS rfl (show ("among" : Str) ≠ "not" by decide +kernel) ?_
          refine g_skipS rfl (show ("among" : Str) ≠ "sure" by decide +kernel) ?_
          refine g_skipS rfl (show ("among" : Str) ≠ "always" by decide +kernel) ?_
          refine g_skipS rfl (show ("among" : Str) ≠ "never" by decide +kernel) ?_
          refine g_skipS rfl (show ("among" : Str) ≠ "empty" by decide +kernel) ?_
          refine g_takeS rfl ?_
          walk_at "g"
          refine g_ixT (SqT.of hA) (v := .str c) (by rfl) ?_
          walk_at "g"
          refine g_ixT (SqT.of hA) (v := .ref l) (by rfl) ?_
          walk_at "g"
          refine ⟨l, xs, rfl, .inl (SqL.of hl), fun l2 hl2 => ?_⟩
          walk_at "g"
          refine ⟨c, l2, xs, kd, rfl, hc, upd_same, hne, h8, hvv, fun t H9 k9 A9 => ?_⟩
          walk_at "g"
          exact k t H9 (fun q o h => k9 _ _ (ext_new hl2 _ _ h)) A9
        | begins c z =>
          have hA : H q = some (.tup [.str "begins", .str c, .str z]) := hF
          obtain ⟨hc, _, hz⟩ := hw
          walk_at "g"
          refine g_ixT (SqT.of hA) (v := .str "begins") (by rfl) ?_
          refine g_nx ?_
          refine g_skipS rfl (show ("begins" : Str) ≠ "and" by decide +kernel) ?_
          refine g_skipS rfl (show ("begins" : Str) ≠ "or" by decide +kernel) ?_
          refine g_skipS rfl (show ("begins" : Str) ≠ "not" by decide +kernel) ?_
          refine g_skipS rfl (show ("begins" : Str) ≠ "sure" by decide +kernel) ?_
          refine g_skipS rfl (show ("begins" : Str) ≠ "always" by decide +kernel) ?_
          refine g_skipS rfl (show ("begins" : Str) ≠ "never" by decide +kernel) ?_
          refine g_skipS rfl (show ("begins" : Str) ≠ "empty" by decide +kernel) ?_
          refine g_skipS rfl (show ("begins" : Str) ≠ "among" by decide +kernel) ?_
          refine g_takeS rfl ?_
          walk_at "g"
          refine g_ixT (SqT.of hA) (v := .str c) (by rfl) ?_
          walk_at "g"
          refine g_ixT (SqT.of hA) (v := .str z) (by rfl) ?_
          walk_at "g"
          refine ⟨c, z, rfl, hc, hz, fun t H9 k9 A9 => ?_⟩
          walk_at "g"
          exact k t H9 k9 A9
        | compare c op v =>
          have hA : H q = some (.tup [.str "compare", .str c, .str op, v]) := hF
          obtain ⟨hc, ho, kd, _, hvv⟩ := hw
          walk_at "g"
          refine g_ixT (SqT.of hA) (v := .str "compare") (by rfl) ?_
          refine g_nx ?_
          refine g_skipS rfl (show ("compare" : Str) ≠ "and" by decide +kernel) ?_
          refine g_skipS rfl (show ("compare" : Str) ≠ "or" by decide +kernel) ?_
          refine g_skipS rfl (show ("compare" : Str) ≠ "not" by decide +kernel) ?_
          refine g_skipS rfl (show ("compare" : Str) ≠ "sure" by decide +kernel) ?_
          refine g_skipS rfl (show ("compare" : Str) ≠ "always" by decide +kernel) ?_
          refine g_skipS rfl (show ("compare" : Str) ≠ "never" by decide +kernel) ?_
          refine g_skipS rfl (show ("compare" : Str) ≠ "empty" by decide +kernel) ?_
          refine g_skipS rfl (show ("compare" : Str) ≠ "among" by decide +kernel) ?_
          refine g_skipS rfl (show ("compare" : Str) ≠ "begins" by decide +kernel) ?_
          refine g_takeS rfl ?_
          walk_at "g"
          refine g_ixT (SqT.of hA) (v := .str c) (by rfl) ?_
          walk_at "g"
          refine g_ixT (SqT.of hA) (v := .str op) (by rfl) ?_
          walk_at "g"
          refine g_ixT (SqT.of hA) (v := v) (by rfl) ?_
          walk_at "g"
          refine ⟨c, op, v, kd, rfl, hc, ho, hvv, fun t H9 k9 A9 => ?_⟩
          walk_at "g"
          exact k t H9 k9 A9
        | against c op d n =>
          have hA : H q = some (.tup [.str "against", .str c, .str op, .str d, .int n]) := hF
          obtain ⟨hc, hdn, hdc, ho, _⟩ := hw
          walk_at "g"
          refine g_ixT (SqT.of hA) (v := .str "against") (by rfl) ?_
          refine g_nx ?_
          refine g_skipS rfl (show ("against" : Str) ≠ "and" by decide +kernel) ?_
          refine g_skipS rfl (show ("against" : Str) ≠ "or" by decide +kernel) ?_
          refine g_skipS rfl (show ("against" : Str) ≠ "not" by decide +kernel) ?_
          refine g_skipS rfl (show ("against" : Str) ≠ "sure" by decide +kernel) ?_
          refine g_skipS rfl (show ("against" : Str) ≠ "always" by decide +kernel) ?_
          refine g_skipS rfl (show ("against" : Str) ≠ "never" by decide +kernel) ?_
          refine g_skipS rfl (show ("against" : Str) ≠ "empty" by decide +kernel) ?_
          refine g_skipS rfl (show ("against" : Str) ≠ "among" by decide +kernel) ?_
          refine g_skipS rfl (show ("against" : Str) ≠ "begins" by decide +kernel) ?_
          refine g_skipS rfl (show ("against" : Str) ≠ "compare" by decide +kernel) ?_
          walk_at "g"
          refine g_ixT (SqT.of hA) (v := .int n) (by rfl) ?_
          walk_at "g"
          refine g_dec (fun h0 => ?_) (fun h0 => ?_)
          · subst h0
            walk_at "g"
            refine g_defK ?_
            walk_at "g"
            refine g_ixT (SqT.of hA) (v := .str c) (by rfl) ?_
            walk_at "g"
            refine g_ixT (SqT.of hA) (v := .str op) (by rfl) ?_
            walk_at "g"
            refine g_ixT (SqT.of hA) (v := .str d) (by rfl) ?_
            walk_at "g"
            refine ⟨c, op, d, 0, rfl, hc, ho, hdn, hdc, fun t H9 k9 A9 => ?_⟩
            walk_at "g"
            exact k t H9 k9 A9
          · walk_at "g"
            refine g_defKw ?_
            walk_at "g"
            refine g_ixT (SqT.of hA) (v := .str c) (by rfl) ?_
            walk_at "g"
            refine g_ixT (SqT.of hA) (v := .str op) (by rfl) ?_
            walk_at "g"
            refine g_ixT (SqT.of hA) (v := .str d) (by rfl) ?_
            walk_at "g"
            refine g_ixT (SqT.of hA) (v := .int n) (by rfl) ?_
            walk_at "g"
            refine ⟨rfl, rfl, c, op, d, n, rfl, hc, ho, hdn, hdc, fun t H9 k9 A9 => ?_⟩
            walk_at "g"
            exact k t H9 k9 A9
  | succ n ih =>
    have ok__law_make : Txt K mg → Def P w K mg base (n + 6) "_law_make" ["_law_form_here"] (spMake (cadr mg "Test") n) := fun _ => ih
    obtain ⟨f, fd, h⟩ := T.d__law_make
    refine h.def (Fun.okM h.fn sc__law_make (fun vs H Q E h => ?_) (fun cdv A outer s H vs Q E hr h => ?_))
    · obtain ⟨q, f, κ, rfl, _⟩ := h
      rfl
    · obtain ⟨q, f, κ, rfl, hF, hw, hd, hd2, hz, k⟩ := h
      refine ⟨_, (pss_cons (ps_set (i := 1) sc__law_make.nd rfl (Or.inl rfl) (pe_ix (ix_seqG (K := K) rfl) (pv 0) pe_int (fun _ _ => rfl)))
  (pss_cons (ps_if (pt_cmpR op_eq (pv 1) pe_str (nomark _))
  (pss_one (ps_ret (pe_opW (op_andW (K := K) rfl takes0 (ok_Test_and T) hr T.sf_Test T.nr_Test_and (hk := by omega)) (pe_def (ok__law_make T) hr rfl (pa_cons (pe_ix (ix_seqG (K := K) rfl) (pv 0) pe_int (fun _ _ => rfl)) pa_nil) (hk := by omega)) (pe_def (ok__law_make T) hr rfl (pa_cons (pe_ix (ix_seqG (K := K) rfl) (pv 0) pe_int (fun _ _ => rfl)) pa_nil) (hk := by omega)))))
  pss_nil)
  (pss_cons (ps_if (pt_cmpR op_eq (pv 1) pe_str (nomark _))
  (pss_one (ps_ret (pe_opW (op_orW (K := K) rfl takes0 (ok_Test_or T) hr T.sf_Test T.nr_Test_or (hk := by omega)) (pe_def (ok__law_make T) hr rfl (pa_cons (pe_ix (ix_seqG (K := K) rfl) (pv 0) pe_int (fun _ _ => rfl)) pa_nil) (hk := by omega)) (pe_def (ok__law_make T) hr rfl (pa_cons (pe_ix (ix_seqG (K := K) rfl) (pv 0) pe_int (fun _ _ => rfl)) pa_nil) (hk := by omega)))))
  pss_nil)
  (pss_cons (ps_if (pt_cmpR op_eq (pv 1) pe_str (nomark _))
  (pss_one (ps_ret (pe_invW takes0 (ok_Test_invert T) hr (pe_def (ok__law_make T) hr rfl (pa_cons (pe_ix (ix_seqG (K := K) rfl) (pv 0) pe_int (fun _ _ => rfl)) pa_nil) (hk := by omega)) (hk := by omega))))
  pss_nil)
  (pss_cons (ps_if (pt_cmpR op_eq (pv 1) pe_str (nomark _))
  (pss_one (ps_ret (pe_defX takes0 (ok_sure T) hr rfl (pa_cons (pe_def (ok__law_make T) hr rfl (pa_cons (pe_ix (ix_seqG (K := K) rfl) (pv 0) pe_int (fun _ _ => rfl)) pa_nil) (hk := by omega)) pa_nil) (hk := by omega))))
  pss_nil)
  (pss_cons (ps_if (pt_cmpR op_eq (pv 1) pe_str (nomark _))
  (pss_one (ps_ret (pe_def0 (ok_always T) hr rfl (hk := by omega))))
  pss_nil)
  (pss_cons (ps_if (pt_cmpR op_eq (pv 1) pe_str (nomark _))
  (pss_one (ps_ret (pe_def0 (ok_never T) hr rfl (hk := by omega))))
  pss_nil)
  (pss_cons (ps_if (pt_cmpR op_eq (pv 1) pe_str (nomark _))
  (pss_one (ps_ret (pe_def (ok_empty T) hr rfl (pa_cons (pe_ix (ix_seqG (K := K) rfl) (pv 0) pe_int (fun _ _ => rfl)) pa_nil) (hk := by omega))))
  pss_nil)
  (pss_cons (ps_if (pt_cmpR op_eq (pv 1) pe_str (nomark _))
  (pss_one (ps_ret (pe_def (ok_among T) hr rfl (pa_cons (pe_ix (ix_seqG (K := K) rfl) (pv 0) pe_int (fun _ _ => rfl)) (pa_cons (pe_callTy (call_listG (K := K) rfl) (by rfl) T.h_list (by decide +kernel) (pa_cons (pe_ix (ix_seqG (K := K) rfl) (pv 0) pe_int (fun _ _ => rfl)) pa_nil)) pa_nil)) (hk := by omega))))
  pss_nil)
  (pss_cons (ps_if (pt_cmpR op_eq (pv 1) pe_str (nomark _))
  (pss_one (ps_ret (pe_def (ok_begins T) hr rfl (pa_cons (pe_ix (ix_seqG (K := K) rfl) (pv 0) pe_int (fun _ _ => rfl)) (pa_cons (pe_ix (ix_seqG (K := K) rfl) (pv 0) pe_int (fun _ _ => rfl)) pa_nil)) (hk := by omega))))
  pss_nil)
  (pss_cons (ps_if (pt_cmpR op_eq (pv 1) pe_str (nomark _))
  (pss_one (ps_ret (pe_def (ok_compare T) hr rfl (pa_cons (pe_ix (ix_seqG (K := K) rfl) (pv 0) pe_int (fun _ _ => rfl)) (pa_cons (pe_ix (ix_seqG (K := K) rfl) (pv 0) pe_int (fun _ _ => rfl)) (pa_cons (pe_ix (ix_seqG (K := K) rfl) (pv 0) pe_int (fun _ _ => rfl)) pa_nil))) (hk := by omega))))
  pss_nil)
  (pss_cons (ps_if (pt_cmpR op_eq (pe_ix (ix_seqG (K := K) rfl) (pv 0) pe_int (fun _ _ => rfl)) pe_int (nomark _))
  (pss_one (ps_ret (pe_defK (ok_against T) hr rfl (pa_cons (pe_ix (ix_seqG (K := K) rfl) (pv 0) pe_int (fun _ _ => rfl)) (pa_cons (pe_ix (ix_seqG (K := K) rfl) (pv 0) pe_int (fun _ _ => rfl)) (pa_cons (pe_ix (ix_seqG (K := K) rfl) (pv 0) pe_int (fun _ _ => rfl)) pa_nil))) (hk := by omega))))
  pss_nil)
  (pss_one (ps_ret (pe_defKw (ok_against T) hr rfl (pa_cons (pe_ix (ix_seqG (K := K) rfl) (pv 0) pe_int (fun _ _ => rfl)) (pa_cons (pe_ix (ix_seqG (K := K) rfl) (pv 0) pe_int (fun _ _ => rfl)) (pa_cons (pe_ix (ix_seqG (K := K) rfl) (pv 0) pe_int (fun _ _ => rfl)) pa_nil))) (pe_ix (ix_seqG (K := K) rfl) (pv 0) pe_int (fun _ _ => rfl)) (hk := by omega)))))))))))))))), ?_⟩
      cases f with
      | bi wd a b =>
        obtain ⟨q1, q2, hA, h1, h2⟩ := hF
        obtain ⟨hwd, w1, w2⟩ := hw
        have hd' : max a.ts.depth b.ts.depth + 1 ≤ n + 1 := hd
        have hd2' : max a.ts.depth b.ts.depth + 1 ≤ 12 := hd2
        have hz' : a.ts.size + b.ts.size ≤ 24 := hz
        rcases hwd with rfl | rfl
        · walk_at "g"
          refine g_ixT (SqT.of hA) (v := .str "and") (by rfl) ?_
          refine g_nx ?_
          refine g_takeS rfl ?_
          walk_at "g"
          refine g_ixT (SqT.of hA) (v := .ref q1) (by rfl) ?_
          walk_at "g"
          refine ⟨q1, a, κ, rfl, h1, w1, by omega, by omega, by omega, fun t1 H1 x1 A1 => ?_⟩
          walk_at "g"
          refine g_ixT (SqT.of (x1 _ _ hA)) (v := .ref q2) (by rfl) ?_
          walk_at "g"
          refine ⟨q2, b, κ, rfl, h2.keep x1, w2, by omega, by omega, by omega, fun t2 H2 x2 A2 => ?_⟩
          have A1' := A1.keep x2
          obtain ⟨dx1, i1, f1, u1, qs1, hp1, _⟩ := A1'.node
          obtain ⟨dx2, i2, f2, u2, qs2, hp2, _⟩ := A2.node
          refine .inl ⟨t1, t2, dx1, dx2, _, _, rfl, rfl, hp1, hp2, t1, a.ts, _, rfl, A1', .inl ⟨t2, b.ts, rfl, A2, fun h => absurd h (by show ¬ 24 < a.ts.size + b.ts.size; omega), fun _ h => absurd h (by show ¬ 12 < max a.ts.depth b.ts.depth + 1; omega), fun _ _ r H' x A => ?_⟩⟩
          walk_at "g"
          exact k r H' (fun q o h => x _ _ (x2 _ _ (x1 _ _ h))) A
        · walk_at "g"
          refine g_ixT (SqT.of hA) (v := .str "or") (by rfl) ?_
          refine g_nx ?_
          refine g_skipS rfl (show ("or" : Str) ≠ "and" by decide +kernel) ?_
          refine g_takeS rfl ?_
          walk_at "g"
          refine g_ixT (SqT.of hA) (v := .ref q1) (by rfl) ?_
          walk_at "g"
          refine ⟨q1, a, κ, rfl, h1, w1, by omega, by omega, by omega, fun t1 H1 x1 A1 => ?_⟩
          walk_at "g"
          refine g_ixT (SqT.of (x1 _ _ hA)) (v := .ref q2) (by rfl) ?_
          walk_at "g"
          refine ⟨q2, b, κ, rfl, h2.keep x1, w2, by omega, by omega, by omega, fun t2 H2 x2 A2 => ?_⟩
          have A1' := A1.keep x2
          obtain ⟨dx1, i1, f1, u1, qs1, hp1, _⟩ := A1'.node
          obtain ⟨dx2, i2, f2, u2, qs2, hp2, _⟩ := A2.node
          refine .inl ⟨t1, t2, dx1, dx2, _, _, rfl, rfl, hp1, hp2, t1, a.ts, _, rfl, A1', .inl ⟨t2, b.ts, rfl, A2, fun h => absurd h (by show ¬ 24 < a.ts.size + b.ts.size; omega), fun _ h => absurd h (by show ¬ 12 < max a.ts.depth b.ts.depth + 1; omega), fun _ _ r H' x A => ?_⟩⟩
          walk_at "g"
          exact k r H' (fun q o h => x _ _ (x2 _ _ (x1 _ _ h))) A
      | un wd a =>
        obtain ⟨q1, hA, h1⟩ := hF
        obtain ⟨hwd, w1⟩ := hw
        have hd' : a.ts.depth + 1 ≤ n + 1 := hd
        have hd2' : a.ts.depth + 1 ≤ 12 := hd2
        have hz' : a.ts.size ≤ 24 := hz
        rcases hwd with rfl | rfl
        · walk_at "g"
          refine g_ixT (SqT.of hA) (v := .str "not") (by rfl) ?_
          refine g_nx ?_
          refine g_skipS rfl (show ("not" : Str) ≠ "and" by decide +kernel) ?_
          refine g_skipS rfl (show ("not" : Str) ≠ "or" by decide +kernel) ?_
          refine g_takeS rfl ?_
          walk_at "g"
          refine g_ixT (SqT.of hA) (v := .ref q1) (by rfl) ?_
          walk_at "g"
          refine ⟨q1, a, κ, rfl, h1, w1, by omega, by omega, by omega, fun t1 H1 x1 A1 => ?_⟩
          obtain ⟨dx1, i1, f1, u1, qs1, hp1, _⟩ := A1.node
          walk_at "g"
          refine ⟨t1, dx1, _, rfl, hp1, t1, a.ts, rfl, A1, fun h => absurd h (by show ¬ 24 < a.ts.size; omega), fun _ h => absurd h (by show ¬ 12 < a.ts.depth + 1; omega), fun _ _ r H' x A => ?_⟩
          walk_at "g"
          exact k r H' (fun q o h => x _ _ (x1 _ _ h)) A
        · walk_at "g"
          refine g_ixT (SqT.of hA) (v := .str "sure") (by rfl) ?_
          refine g_nx ?_
          refine g_skipS rfl (show ("sure" : Str) ≠ "and" by decide +kernel) ?_
          refine g_skipS rfl (show ("sure" : Str) ≠ "or" by decide +kernel) ?_
          refine g_skipS rfl (show ("sure" : Str) ≠ "not" by decide +kernel) ?_
          refine g_takeS rfl ?_
          walk_at "g"
          refine g_ixT (SqT.of hA) (v := .ref q1) (by rfl) ?_
          walk_at "g"
          refine ⟨q1, a, κ, rfl, h1, w1, by omega, by omega, by omega, fun t1 H1 x1 A1 => ?_⟩
          obtain ⟨dx1, i1, f1, u1, qs1, hp1, _⟩ := A1.node
          walk_at "g"
          refine ⟨t1, a.ts, rfl, A1, fun h => absurd h (by show ¬ 24 < a.ts.size; omega), fun _ h => absurd h (by show ¬ 12 < a.ts.depth + 1; omega), fun _ _ r H' x A => ?_⟩
          walk_at "g"
          exact k r H' (fun q o h => x _ _ (x1 _ _ h)) A
      | «at» a =>
        cases a with
        | always =>
          have hA : H q = some (.tup [.str "always"]) := hF
          walk_at "g"
          refine g_ixT (SqT.of hA) (v := .str "always") (by rfl) ?_
          refine g_nx ?_
          refine g_skipS rfl (show ("always" : Str) ≠ "and" by decide +kernel) ?_
          refine g_skipS rfl (show ("always" : Str) ≠ "or" by decide +kernel) ?_
          refine g_skipS rfl (show ("always" : Str) ≠ "not" by decide +kernel) ?_
          refine g_skipS rfl (show ("always" : Str) ≠ "sure" by decide +kernel) ?_
          refine g_takeS rfl ?_
          walk_at "g"
          refine ⟨rfl, fun t H9 k9 A9 => ?_⟩
          walk_at "g"
          exact k t H9 k9 A9
        | never =>
          have hA : H q = some (.tup [.str "never"]) := hF
          walk_at "g"
          refine g_ixT (SqT.of hA) (v := .str "never") (by rfl) ?_
          refine g_nx ?_
          refine g_skipS rfl (show ("never" : Str) ≠ "and" by decide +kernel) ?_
          refine g_skipS rfl (show ("never" : Str) ≠ "or" by decide +kernel) ?_
          refine g_skipS rfl (show ("never" : Str) ≠ "not" by decide +kernel) ?_
          refine g_skipS rfl (show ("never" : Str) ≠ "sure" by decide +kernel) ?_
          refine g_skipS rfl (show ("never" : Str) ≠ "always" by decide +kernel) ?_
          refine g_takeS rfl ?_
          walk_at "g"
          refine ⟨rfl, fun t H9 k9 A9 => ?_⟩
          walk_at "g"
          exact k t H9 k9 A9
        | empty c =>
          have hA : H q = some (.tup [.str "empty", .str c]) := hF
          obtain ⟨hc, _⟩ := hw
          walk_at "g"
          refine g_ixT (SqT.of hA) (v := .str "empty") (by rfl) ?_
          refine g_nx ?_
          refine g_skipS rfl (show ("empty" : Str) ≠ "and" by decide +kernel) ?_
          refine g_skipS rfl (show ("empty" : Str) ≠ "or" by decide +kernel) ?_
          refine g_skipS rfl (show ("empty" : Str) ≠ "not" by decide +kernel) ?_
          refine g_skipS rfl (show ("empty" : Str) ≠ "sure" by decide +kernel) ?_
          refine g_skipS rfl (show ("empty" : Str) ≠ "always" by decide +kernel) ?_
          refine g_skipS rfl (show ("empty" : Str) ≠ "never" by decide +kernel) ?_
          refine g_takeS rfl ?_
          walk_at "g"
          refine g_ixT (SqT.of hA) (v := .str c) (by rfl) ?_
          walk_at "g"
          refine ⟨c, rfl, hc, fun t H9 k9 A9 => ?_⟩
          walk_at "g"
          exact k t H9 k9 A9
        | among c xs =>
          obtain ⟨l, kd0, hA, hl, _, _⟩ := hF
          obtain ⟨hc, hne, h8, kd, _, hvv⟩ := hw
          walk_at "g"
          refine g_ixT (SqT.of hA) (v := .str "among") (by rfl) ?_
          refine g_nx ?_
          refine g_skipS rfl (show ("among" : Str) ≠ "and" by decide +kernel) ?_
          refine g_skipS rfl (show ("among" : Str) ≠ "or" by decide +kernel) ?_
          refine g_skipS rfl (show ("among" : Str) ≠ "not" by decide +kernel) ?_
          refine g_skipS rfl (show ("among" : Str) ≠ "sure" by decide +kernel) ?_
          refine g_skipS rfl (show ("among" : Str) ≠ "always" by decide +kernel) ?_
          refine g_skipS rfl (show ("among" : Str) ≠ "never" by decide +kernel) ?_
          refine g_skipS rfl (show ("among" : Str) ≠ "empty" by decide +kernel) ?_
          refine g_takeS rfl ?_
          walk_at "g"
          refine g_ixT (SqT.of hA) (v := .str c) (by rfl) ?_
          walk_at "g"
          refine g_ixT (SqT.of hA) (v := .ref l) (by rfl) ?_
          walk_at "g"
          refine ⟨l, xs, rfl, .inl (SqL.of hl), fun l2 hl2 => ?_⟩
          walk_at "g"
          refine ⟨c, l2, xs, kd, rfl, hc, upd_same, hne, h8, hvv, fun t H9 k9 A9 => ?_⟩
          walk_at "g"
          exact k t H9 (fun q o h => k9 _ _ (ext_new hl2 _ _ h)) A9
        | begins c z =>
          have hA : H q = some (.tup [.str "begins", .str c, .str z]) := hF
          obtain ⟨hc, _, hz⟩ := hw
          walk_at "g"
          refine g_ixT (SqT.of hA) (v := .str "begins") (by rfl) ?_
          refine g_nx ?_
          refine g_skipS rfl (show ("begins" : Str) ≠ "and" by decide +kernel) ?_
          refine g_skipS rfl (show ("begins" : Str) ≠ "or" by decide +kernel) ?_
          refine g_skipS rfl (show ("begins" : Str) ≠ "not" by decide +kernel) ?_
          refine g_skipS rfl (show ("begins" : Str) ≠ "sure" by decide +kernel) ?_
          refine g_skipS rfl (show ("begins" : Str) ≠ "always" by decide +kernel) ?_
          refine g_skipS rfl (show ("begins" : Str) ≠ "never" by decide +kernel) ?_
          refine g_skipS rfl (show ("begins" : Str) ≠ "empty" by decide +kernel) ?_
          refine g_skipS rfl (show ("begins" : Str) ≠ "among" by decide +kernel) ?_
          refine g_takeS rfl ?_
          walk_at "g"
          refine g_ixT (SqT.of hA) (v := .str c) (by rfl) ?_
          walk_at "g"
          refine g_ixT (SqT.of hA) (v := .str z) (by rfl) ?_
          walk_at "g"
          refine ⟨c, z, rfl, hc, hz, fun t H9 k9 A9 => ?_⟩
          walk_at "g"
          exact k t H9 k9 A9
        | compare c op v =>
          have hA : H q = some (.tup [.str "compare", .str c, .str op, v]) := hF
          obtain ⟨hc, ho, kd, _, hvv⟩ := hw
          walk_at "g"
          refine g_ixT (SqT.of hA) (v := .str "compare") (by rfl) ?_
          refine g_nx ?_
          refine g_skipS rfl (show ("compare" : Str) ≠ "and" by decide +kernel) ?_
          refine g_skipS rfl (show ("compare" : Str) ≠ "or" by decide +kernel) ?_
          refine g_skipS rfl (show ("compare" : Str) ≠ "not" by decide +kernel) ?_
          refine g_skipS rfl (show ("compare" : Str) ≠ "sure" by decide +kernel) ?_
          refine g_skipS rfl (show ("compare" : Str) ≠ "always" by decide +kernel) ?_
          refine g_skipS rfl (show ("compare" : Str) ≠ "never" by decide +kernel) ?_
          refine g_skipS rfl (show ("compare" : Str) ≠ "empty" by decide +kernel) ?_
          refine g_skipS rfl (show ("compare" : Str) ≠ "among" by decide +kernel) ?_
          refine g_skipS rfl (show ("compare" : Str) ≠ "begins" by decide +kernel) ?_
          refine g_takeS rfl ?_
          walk_at "g"
          refine g_ixT (SqT.of hA) (v := .str c) (by rfl) ?_
          walk_at "g"
          refine g_ixT (SqT.of hA) (v := .str op) (by rfl) ?_
          walk_at "g"
          refine g_ixT (SqT.of hA) (v := v) (by rfl) ?_
          walk_at "g"
          refine ⟨c, op, v, kd, rfl, hc, ho, hvv, fun t H9 k9 A9 => ?_⟩
          walk_at "g"
          exact k t H9 k9 A9
        | against c op d n =>
          have hA : H q = some (.tup [.str "against", .str c, .str op, .str d, .int n]) := hF
          obtain ⟨hc, hdn, hdc, ho, _⟩ := hw
          walk_at "g"
          refine g_ixT (SqT.of hA) (v := .str "against") (by rfl) ?_
          refine g_nx ?_
          refine g_skipS rfl (show ("against" : Str) ≠ "and" by decide +kernel) ?_
          refine g_skipS rfl (show ("against" : Str) ≠ "or" by decide +kernel) ?_
          refine g_skipS rfl (show ("against" : Str) ≠ "not" by decide +kernel) ?_
          refine g_skipS rfl (show ("against" : Str) ≠ "sure" by decide +kernel) ?_
          refine g_skipS rfl (show ("against" : Str) ≠ "always" by decide +kernel) ?_
          refine g_skipS rfl (show ("against" : Str) ≠ "never" by decide +kernel) ?_
          refine g_skipS rfl (show ("against" : Str) ≠ "empty" by decide +kernel) ?_
          refine g_skipS rfl (show ("against" : Str) ≠ "among" by decide +kernel) ?_
          refine g_skipS rfl (show ("against" : Str) ≠ "begins" by decide +kernel) ?_
          refine g_skipS rfl (show ("against" : Str) ≠ "compare" by decide +kernel) ?_
          walk_at "g"
          refine g_ixT (SqT.of hA) (v := .int n) (by rfl) ?_
          walk_at "g"
          refine g_dec (fun h0 => ?_) (fun h0 => ?_)
          · subst h0
            walk_at "g"
            refine g_defK ?_
            walk_at "g"
            refine g_ixT (SqT.of hA) (v := .str c) (by rfl) ?_
            walk_at "g"
            refine g_ixT (SqT.of hA) (v := .str op) (by rfl) ?_
            walk_at "g"
            refine g_ixT (SqT.of hA) (v := .str d) (by rfl) ?_
            walk_at "g"
            refine ⟨c, op, d, 0, rfl, hc, ho, hdn, hdc, fun t H9 k9 A9 => ?_⟩
            walk_at "g"
            exact k t H9 k9 A9
          · walk_at "g"
            refine g_defKw ?_
            walk_at "g"
            refine g_ixT (SqT.of hA) (v := .str c) (by rfl) ?_
            walk_at "g"
            refine g_ixT (SqT.of hA) (v := .str op) (by rfl) ?_
            walk_at "g"
            refine g_ixT (SqT.of hA) (v := .str d) (by rfl) ?_
            walk_at "g"
            refine g_ixT (SqT.of hA) (v := .int n) (by rfl) ?_
            walk_at "g"
            refine ⟨rfl, rfl, c, op, d, n, rfl, hc, ho, hdn, hdc, fun t H9 k9 A9 => ?_⟩
            walk_at "g"
            exact k t H9 k9 A9
theorem ok__law_make (T : Txt K mg) : Def P w K mg base 18 "_law_make" ["_law_form_here"] (spMake (cadr mg "Test") 12) := ok_makeN T 12
end
theorem form_word {H : Hp} {a : At} {q : Addr} (h : AtomForm H q a) : ∃ r, H q = some (.tup (.str a.word :: r)) := by
  cases a with
  | among c vs => obtain ⟨l, k, e, _⟩ := h; exact ⟨_, e⟩
  | always => exact ⟨_, h⟩
  | never => exact ⟨_, h⟩
  | empty c => exact ⟨_, h⟩
  | begins c z => exact ⟨_, h⟩
  | compare c op v => exact ⟨_, h⟩
  | against c op d n => exact ⟨_, h⟩
theorem atom_words (a : At) : a.word ≠ "and" ∧ a.word ≠ "or" ∧ a.word ≠ "not" ∧ a.word ≠ "sure" := by
  cases a <;> (simp only [At.word]; decide +kernel)
/-! names of a form -/
def Fm.ats : Fm → List At
  | .at a => [a]
  | .un _ f => f.ats
  | .bi _ f g => f.ats ++ g.ats
theorem Fm.ats_cols : ∀ f : Fm, f.ats.flatMap At.flds = f.cols
  | .at a => by simp [ats, cols]
  | .un _ f => f.ats_cols
  | .bi _ f g => by
    have h1 := f.ats_cols
    have h2 := g.ats_cols
    simp only [ats, cols, List.flatMap_append]
    rw [h1, h2]
theorem Fm.ats_len : ∀ f : Fm, f.ats.length = f.ts.size
  | .at _ => rfl
  | .un _ f => f.ats_len
  | .bi _ f g => by
    show (f.ats ++ g.ats).length = f.ts.size + g.ts.size
    rw [List.length_append, f.ats_len, g.ats_len]
theorem At.flds_len (a : At) : a.flds.length ≤ 2 := by cases a <;> simp [At.flds]
def spLawAtoms (n : Nat) : Sp := fun vs H Q _ => ∃ (q : Addr) (f : Fm) (G : Hp), vs = [.ref q] ∧ (∀ q o, G q = some o → H q = some o) ∧ FormAt G f q ∧ (∃ κ, f.Wf κ) ∧ f.ts.depth ≤ n ∧ f.ts.size ≤ 24 ∧ ∀ l as H', H l = none → (∀ q o, H q = some o → H' q = some o) → H' l = some (.lst (as.map V.ref)) → RF (FormAt G) (f.ats.map Fm.at) as → Q (.ref l) H'
def spAtomNames : Sp := fun vs H Q _ => ∃ (q : Addr) (a : At), vs = [.ref q] ∧ AtomForm H q a ∧ ∀ l, H l = none → Q (.ref l) (upd H l (.lst (a.flds.map V.str)))
section
variable {P : Program} {w : World} {K : PySem.W.Frag} {mg : Str → Option Value} {base : Heap}
theorem ok_lawAtomsN (T : Txt K mg) : ∀ n, Def P w K mg base (n + 1) "_law_atoms" ["_law_form_here"] (spLawAtoms n) := by
  intro n
  induction n with
  | zero =>
    obtain ⟨f, fd, h⟩ := T.d__law_atoms
    refine h.def (Fun.okM h.fn sc__law_atoms (fun vs H Q E h => ?_) (fun cdv A outer s H vs Q E hr h => ?_))
    · obtain ⟨q, f, G, rfl, _⟩ := h
      rfl
    · obtain ⟨q, f, G, rfl, hG, hF, ⟨κ, hw⟩, hd, hz, k⟩ := h
      refine ⟨_, (pss_cons (ps_if (PW.pt (pw_or (pt_cmpR op_eq (pe_ix (ix_seqG (K := K) rfl) (pv 0) pe_int (fun _ _ => rfl)) pe_str (nomark _)) (pw_or1 (pt_cmpR op_eq (pe_ix (ix_seqG (K := K) rfl) (pv 0) pe_int (fun _ _ => rfl)) pe_str (nomark _)))))
  (pss_one ps_never)
  pss_nil)
  (pss_cons (ps_if (PW.pt (pw_or (pt_cmpR op_eq (pe_ix (ix_seqG (K := K) rfl) (pv 0) pe_int (fun _ _ => rfl)) pe_str (nomark _)) (pw_or1 (pt_cmpR op_eq (pe_ix (ix_seqG (K := K) rfl) (pv 0) pe_int (fun _ _ => rfl)) pe_str (nomark _)))))
  (pss_one ps_never)
  pss_nil)
  (pss_one (ps_ret (pe_lst (pa_cons (pv 0) pa_nil)))))), ?_⟩
      cases f with
      | un wd a => exact absurd hd (by show ¬ a.ts.depth + 1 ≤ 0; omega)
      | bi wd a b => exact absurd hd (by show ¬ max a.ts.depth b.ts.depth + 1 ≤ 0; omega)
      | «at» a =>
        obtain ⟨rr, hA⟩ := form_word hF
        have hA := hG _ _ hA
        obtain ⟨n1, n2, n3, n4⟩ := atom_words a
        walk_at "g"
        refine g_ixT (SqT.of hA) (v := .str a.word) (atI_nat (j := 0) rfl) ?_
        walk_at "g"
        refine g_dec (fun h => absurd h n1) (fun _ => ?_)
        walk_at "g"
        refine g_ixT (SqT.of hA) (v := .str a.word) (atI_nat (j := 0) rfl) ?_
        walk_at "g"
        refine g_dec (fun h => absurd h n2) (fun _ => ?_)
        walk_at "g"
        refine g_ixT (SqT.of hA) (v := .str a.word) (atI_nat (j := 0) rfl) ?_
        walk_at "g"
        refine g_dec (fun h => absurd h n3) (fun _ => ?_)
        walk_at "g"
        refine g_ixT (SqT.of hA) (v := .str a.word) (atI_nat (j := 0) rfl) ?_
        walk_at "g"
        refine g_dec (fun h => absurd h n4) (fun _ => ?_)
        walk_at "g"
        refine ⟨by show 1 ≤ sizeLine; decide, fun l hl => ?_⟩
        walk_at "g"
        exact k l [q] _ hl (ext_new hl) upd_same (.cons hF .nil)
  | succ n ih =>
    have ok__law_atoms : Txt K mg → Def P w K mg base (n + 1) "_law_atoms" ["_law_form_here"] (spLawAtoms n) := fun _ => ih
    obtain ⟨f, fd, h⟩ := T.d__law_atoms
    refine h.def (Fun.okM h.fn sc__law_atoms (fun vs H Q E h => ?_) (fun cdv A outer s H vs Q E hr h => ?_))
    · obtain ⟨q, f, G, rfl, _⟩ := h
      rfl
    · obtain ⟨q, f, G, rfl, hG, hF, ⟨κ, hw⟩, hd, hz, k⟩ := h
      refine ⟨_, (pss_cons (ps_if (PW.pt (pw_or (pt_cmpR op_eq (pe_ix (ix_seqG (K := K) rfl) (pv 0) pe_int (fun _ _ => rfl)) pe_str (nomark _)) (pw_or1 (pt_cmpR op_eq (pe_ix (ix_seqG (K := K) rfl) (pv 0) pe_int (fun _ _ => rfl)) pe_str (nomark _)))))
  (pss_one (ps_ret (pe_op op_addG (pe_def (ok__law_atoms T) hr rfl (pa_cons (pe_ix (ix_seqG (K := K) rfl) (pv 0) pe_int (fun _ _ => rfl)) pa_nil) (hk := by omega)) (pe_def (ok__law_atoms T) hr rfl (pa_cons (pe_ix (ix_seqG (K := K) rfl) (pv 0) pe_int (fun _ _ => rfl)) pa_nil) (hk := by omega)))))
  pss_nil)
  (pss_cons (ps_if (PW.pt (pw_or (pt_cmpR op_eq (pe_ix (ix_seqG (K := K) rfl) (pv 0) pe_int (fun _ _ => rfl)) pe_str (nomark _)) (pw_or1 (pt_cmpR op_eq (pe_ix (ix_seqG (K := K) rfl) (pv 0) pe_int (fun _ _ => rfl)) pe_str (nomark _)))))
  (pss_one (ps_ret (pe_def (ok__law_atoms T) hr rfl (pa_cons (pe_ix (ix_seqG (K := K) rfl) (pv 0) pe_int (fun _ _ => rfl)) pa_nil) (hk := by omega))))
  pss_nil)
  (pss_one (ps_ret (pe_lst (pa_cons (pv 0) pa_nil)))))), ?_⟩
      cases f with
      | «at» a =>
        obtain ⟨rr, hA⟩ := form_word hF
        have hA := hG _ _ hA
        obtain ⟨n1, n2, n3, n4⟩ := atom_words a
        walk_at "g"
        refine g_ixT (SqT.of hA) (v := .str a.word) (atI_nat (j := 0) rfl) ?_
        walk_at "g"
        refine g_dec (fun h => absurd h n1) (fun _ => ?_)
        walk_at "g"
        refine g_ixT (SqT.of hA) (v := .str a.word) (atI_nat (j := 0) rfl) ?_
        walk_at "g"
        refine g_dec (fun h => absurd h n2) (fun _ => ?_)
        walk_at "g"
        refine g_ixT (SqT.of hA) (v := .str a.word) (atI_nat (j := 0) rfl) ?_
        walk_at "g"
        refine g_dec (fun h => absurd h n3) (fun _ => ?_)
        walk_at "g"
        refine g_ixT (SqT.of hA) (v := .str a.word) (atI_nat (j := 0) rfl) ?_
        walk_at "g"
        refine g_dec (fun h => absurd h n4) (fun _ => ?_)
        walk_at "g"
        refine ⟨by show 1 ≤ sizeLine; decide, fun l hl => ?_⟩
        walk_at "g"
        exact k l [q] _ hl (ext_new hl) upd_same (.cons hF .nil)
      | bi wd a b =>
        obtain ⟨q1, q2, hA, h1, h2⟩ := hF
        have hA := hG _ _ hA
        obtain ⟨hwd, w1, w2⟩ := hw
        have hd' : max a.ts.depth b.ts.depth + 1 ≤ n + 1 := hd
        have hz' : a.ts.size + b.ts.size ≤ 24 := hz
        walk_at "g"
        refine g_ixT (SqT.of hA) (v := .str wd) (by rfl) ?_
        walk_at "g"
        refine g_dec (fun hx => ?_) (fun hx => ?_)
        rotate_left
        · walk_at "g"
          refine g_ixT (SqT.of hA) (v := .str wd) (by rfl) ?_
          walk_at "g"
          refine g_dec (fun hy => ?_) (fun hy => absurd hwd (fun z => z.elim hx hy))
          walk_at "g"
          refine g_ixT (SqT.of hA) (v := .ref q1) (by rfl) ?_
          walk_at "g"
          refine ⟨q1, a, G, rfl, hG, h1, ⟨κ, w1⟩, by omega, by omega, fun l1 as1 H1 hl1 x1 e1 R1 => ?_⟩
          walk_at "g"
          refine g_ixT (SqT.of (x1 _ _ hA)) (v := .ref q2) (by rfl) ?_
          walk_at "g"
          refine ⟨q2, b, G, rfl, fun q o h => x1 _ _ (hG _ _ h), h2, ⟨κ, w2⟩, by omega, by omega, fun l2 as2 H2 hl2 x2 e2 R2 => ?_⟩
          have n1 := R1.len
          have n2 := R2.len
          rw [List.length_map, Fm.ats_len] at n1 n2
          refine .inr (.inr ⟨l1, l2, _, _, rfl, rfl, x2 _ _ e1, e2, by rw [List.length_map, List.length_map, sizeLine_eq]; omega, fun l hl => ?_⟩)
          walk_at "g"
          refine k l (as1 ++ as2) _ ?_ (fun q o h => ext_new hl _ _ (x2 _ _ (x1 _ _ h))) (by rw [upd_same, List.map_append]) ?_
          · cases e : H l with
            | none => rfl
            | some o => rw [x2 _ _ (x1 _ _ e)] at hl; cases hl
          · show RF _ ((a.ats ++ b.ats).map Fm.at) _
            rw [List.map_append]
            exact R1.app R2
        walk_at "g"
        refine g_ixT (SqT.of hA) (v := .ref q1) (by rfl) ?_
        walk_at "g"
        refine ⟨q1, a, G, rfl, hG, h1, ⟨κ, w1⟩, by omega, by omega, fun l1 as1 H1 hl1 x1 e1 R1 => ?_⟩
        walk_at "g"
        refine g_ixT (SqT.of (x1 _ _ hA)) (v := .ref q2) (by rfl) ?_
        walk_at "g"
        refine ⟨q2, b, G, rfl, fun q o h => x1 _ _ (hG _ _ h), h2, ⟨κ, w2⟩, by omega, by omega, fun l2 as2 H2 hl2 x2 e2 R2 => ?_⟩
        have n1 := R1.len
        have n2 := R2.len
        rw [List.length_map, Fm.ats_len] at n1 n2
        refine .inr (.inr ⟨l1, l2, _, _, rfl, rfl, x2 _ _ e1, e2, by rw [List.length_map, List.length_map, sizeLine_eq]; omega, fun l hl => ?_⟩)
        walk_at "g"
        refine k l (as1 ++ as2) _ ?_ (fun q o h => ext_new hl _ _ (x2 _ _ (x1 _ _ h))) (by rw [upd_same, List.map_append]) ?_
        · cases e : H l with
          | none => rfl
          | some o => rw [x2 _ _ (x1 _ _ e)] at hl; cases hl
        · show RF _ ((a.ats ++ b.ats).map Fm.at) _
          rw [List.map_append]
          exact R1.app R2
      | un wd a =>
        obtain ⟨q1, hA, h1⟩ := hF
        have hA := hG _ _ hA
        obtain ⟨hwd, w1⟩ := hw
        have hd' : a.ts.depth + 1 ≤ n + 1 := hd
        have hz' : a.ts.size ≤ 24 := hz
        have n1 : wd ≠ "and" ∧ wd ≠ "or" := by rcases hwd with rfl | rfl <;> decide +kernel
        walk_at "g"
        refine g_ixT (SqT.of hA) (v := .str wd) (by rfl) ?_
        walk_at "g"
        refine g_dec (fun h => absurd h n1.1) (fun _ => ?_)
        walk_at "g"
        refine g_ixT (SqT.of hA) (v := .str wd) (by rfl) ?_
        walk_at "g"
        refine g_dec (fun h => absurd h n1.2) (fun _ => ?_)
        walk_at "g"
        refine g_ixT (SqT.of hA) (v := .str wd) (by rfl) ?_
        walk_at "g"
        refine g_dec (fun hx => ?_) (fun hx => ?_)
        rotate_left
        · walk_at "g"
          refine g_ixT (SqT.of hA) (v := .str wd) (by rfl) ?_
          walk_at "g"
          refine g_dec (fun hy => ?_) (fun hy => absurd hwd (fun z => z.elim hx hy))
          walk_at "g"
          refine g_ixT (SqT.of hA) (v := .ref q1) (by rfl) ?_
          walk_at "g"
          refine ⟨q1, a, G, rfl, hG, h1, ⟨κ, w1⟩, by omega, by omega, fun l1 as1 H1 hl1 x1 e1 R1 => ?_⟩
          walk_at "g"
          exact k l1 as1 H1 hl1 x1 e1 R1
        walk_at "g"
        refine g_ixT (SqT.of hA) (v := .ref q1) (by rfl) ?_
        walk_at "g"
        refine ⟨q1, a, G, rfl, hG, h1, ⟨κ, w1⟩, by omega, by omega, fun l1 as1 H1 hl1 x1 e1 R1 => ?_⟩
        walk_at "g"
        exact k l1 as1 H1 hl1 x1 e1 R1
theorem ok__law_atoms (T : Txt K mg) : Def P w K mg base 13 "_law_atoms" ["_law_form_here"] (spLawAtoms 12) := ok_lawAtomsN T 12
theorem atom_tup {H : Hp} {a : At} {q : Addr} (h : AtomForm H q a) : ∃ r, H q = some (.tup (.str a.word :: r)) ∧ (r.length = 0 ↔ a.flds = []) ∧ (∀ c, a.flds.head? = some c → r[0]? = some (.str c)) ∧ ∀ c d op n, a = .against c op d n → r[2]? = some (.str d) := by
  cases a with
  | among c vs => obtain ⟨l, k, e, _⟩ := h; exact ⟨_, e, by simp [At.flds], fun c hc => by simp [At.flds] at hc; simp [hc], fun _ _ _ _ e => nomatch e⟩
  | always => exact ⟨_, h, by simp [At.flds], fun c hc => by simp [At.flds] at hc, fun _ _ _ _ e => nomatch e⟩
  | never => exact ⟨_, h, by simp [At.flds], fun c hc => by simp [At.flds] at hc, fun _ _ _ _ e => nomatch e⟩
  | empty c => exact ⟨_, h, by simp [At.flds], fun c hc => by simp [At.flds] at hc; simp [hc], fun _ _ _ _ e => nomatch e⟩
  | begins c z => exact ⟨_, h, by simp [At.flds], fun c hc => by simp [At.flds] at hc; simp [hc], fun _ _ _ _ e => nomatch e⟩
  | compare c op v => exact ⟨_, h, by simp [At.flds], fun c hc => by simp [At.flds] at hc; simp [hc], fun _ _ _ _ e => nomatch e⟩
  | against c op d n => exact ⟨_, h, by simp [At.flds], fun c hc => by simp [At.flds] at hc; simp [hc], fun c' d' op' n' e => by cases e; rfl⟩
theorem ok__law_atom_names (T : Txt K mg) : Def P w K mg base 1 "_law_atom_names" ["_law_atom_here"] spAtomNames := by
  obtain ⟨f, fd, h⟩ := T.d__law_atom_names
  refine h.def (Fun.okM h.fn sc__law_atom_names (fun vs H Q E h => ?_) (fun cdv A outer s H vs Q E hr h => ?_))
  · obtain ⟨q, a, rfl, _⟩ := h
    rfl
  · obtain ⟨q, a, rfl, hF, k⟩ := h
    refine ⟨_, (pss_cons (ps_if (pt_cmpR op_eq (pe_callB (call_lenG (K := K) rfl) (by rfl) T.h_len (by decide +kernel) (pa_cons (pv 0) pa_nil)) pe_int (nomark _))
  (pss_one (ps_ret (pe_lst pa_nil)))
  pss_nil)
  (pss_cons (ps_if (pt_cmpR op_eq (pe_ix (ix_seqG (K := K) rfl) (pv 0) pe_int (fun _ _ => rfl)) pe_str (nomark _))
  (pss_one (ps_ret (pe_lst (pa_cons (pe_ix (ix_seqG (K := K) rfl) (pv 0) pe_int (fun _ _ => rfl)) (pa_cons (pe_ix (ix_seqG (K := K) rfl) (pv 0) pe_int (fun _ _ => rfl)) pa_nil)))))
  pss_nil)
  (pss_one (ps_ret (pe_lst (pa_cons (pe_ix (ix_seqG (K := K) rfl) (pv 0) pe_int (fun _ _ => rfl)) pa_nil)))))), ?_⟩
    obtain ⟨rr, hA, hz, h0, h2⟩ := atom_tup hF
    walk_at "g"
    refine g_lenT (SqT.of hA) ?_
    walk_at "g"
    refine g_dec (fun h => ?_) (fun h => ?_)
    · have : a.flds = [] := hz.mp (by rw [List.length_cons] at h; omega)
      rw [this] at k
      walk_at "g"
      refine ⟨Nat.zero_le _, fun l hl => ?_⟩
      walk_at "g"
      exact k l hl
    have hne : a.flds ≠ [] := fun e => h (by rw [List.length_cons, hz.mpr e]; rfl)
    walk_at "g"
    refine g_ixT (SqT.of hA) (v := .str a.word) (atI_nat (j := 0) rfl) ?_
    walk_at "g"
    refine g_dec (fun hag => ?_) (fun hag => ?_)
    · obtain ⟨c, op, d, n, rfl⟩ : ∃ c op d n, a = .against c op d n := by
        cases a with
        | against c op d n => exact ⟨_, _, _, _, rfl⟩
        | _ => exact absurd hag (by simp only [At.word]; decide +kernel)
      walk_at "g"
      refine g_ixT (SqT.of hA) (v := .str c) (atI_nat (j := 1) (h0 c rfl)) ?_
      walk_at "g"
      refine g_ixT (SqT.of hA) (v := .str d) (atI_nat (j := 3) (h2 c d op n rfl)) ?_
      walk_at "g"
      refine ⟨by show 2 ≤ sizeLine; decide, fun l hl => ?_⟩
      walk_at "g"
      exact k l hl
    · obtain ⟨c, hc⟩ : ∃ c, a.flds = [c] := by
        cases a with
        | against c op d n => exact absurd rfl hag
        | always => exact absurd rfl hne
        | never => exact absurd rfl hne
        | _ => exact ⟨_, rfl⟩
      rw [hc] at k
      walk_at "g"
      refine g_ixT (SqT.of hA) (v := .str c) (atI_nat (j := 1) (h0 c (by rw [hc]; rfl))) ?_
      walk_at "g"
      refine ⟨by show 1 ≤ sizeLine; decide, fun l hl => ?_⟩
      walk_at "g"
      exact k l hl
end
/-! shapes without checks and keys -/
def spShort (K : PySem.W.Frag) : Sp := fun vs H Q _ => ∃ (v : V) (a b : Int), vs = [v, .int a, .int b] ∧
  ((∃ Tn, Tn ∈ kinds7 ∧ TyOf7 H v Tn ∧ Tn ≠ "list" ∧ Tn ≠ "tuple" ∧ ∀ H', XT H H' → Q (.bl false) H') ∨
   (∃ p xs, v = .ref p ∧ (H p = some (.lst xs) ∨ SqT K H p xs) ∧ ∀ H', XT H H' → Q (.bl (decide (a ≤ (xs.length : Int)) && decide ((xs.length : Int) ≤ b))) H'))
theorem xtT {K : PySem.W.Frag} {H H' : Hp} {a : Addr} {xs : List V} (h : SqT K H a xs) (k : XT H H') : SqT K H' a xs := by
  rcases h with h | h
  · rcases h with h | ⟨o, h⟩
    · exact .inl (.inl (k _ _ h))
    · exact .inl (.inr ⟨o, k _ _ h⟩)
  · exact .inr h
def keysP (kvs : List (Key × V)) (S : List Str) : Prop := ∀ z : Str, (valV kvs (Sum.inr z)).isSome = decide (z ∈ S)
theorem keysP.nil : keysP [] [] := fun z => rfl
theorem keysP.put {kvs : List (Key × V)} {S : List Str} {c : Str} {v : V} (h : keysP kvs S) : keysP (putK kvs (Sum.inr c) v) (S ++ [c]) := fun z => by
  rw [valV_put]
  by_cases e : z = c
  · rw [if_pos (by rw [e]), e]
    exact (decide_eq_true (List.mem_append.mpr (.inr (List.mem_singleton.mpr rfl)))).symm
  · rw [if_neg (fun h => e (by injection h)), h z]
    exact decide_eq_decide.mpr ⟨fun h => List.mem_append.mpr (.inl h), fun h => (List.mem_append.mp h).elim id fun h => absurd (List.mem_singleton.mp h) e⟩
structure ColsOk (cs : List Col) : Prop where
  ne : 1 ≤ cs.length
  le : cs.length ≤ 12
  nm : ∀ c ∈ cs, nameP c.1
  nd : (cs.map (·.1)).Nodup
/-- the columns by their names -/
def SpotsAt (H : Hp) (kvs : List (Key × V)) (cs : List Col) : Prop := ∀ (j : Nat) c, cs[j]? = some c → ∃ q, valV kvs (Sum.inr c.1) = some (.ref q) ∧ H q = some (.tup (ct c))
theorem SpotsAt.keep {H H' : Hp} {kvs : List (Key × V)} {cs : List Col} (h : SpotsAt H kvs cs) (k : XT H H') : SpotsAt H' kvs cs := fun j c hc => by
  obtain ⟨q, h1, h2⟩ := h j c hc
  exact ⟨q, h1, k _ _ h2⟩
theorem SpotsAt.keepN {H H' : Hp} {x : Addr} {o : HO} {kvs : List (Key × V)} {cs : List Col} (h : SpotsAt H kvs cs) (hx : H x = some o) (no : ∀ l, o ≠ .tup l) (k : ∀ q o, q ≠ x → H q = some o → H' q = some o) : SpotsAt H' kvs cs := fun j c hc => by
  obtain ⟨q, h1, h2⟩ := h j c hc
  exact ⟨q, h1, k _ _ (fun z => by rw [z, hx] at h2; exact no _ (by injection h2)) h2⟩
/-- a shape made of the columns cs -/
def ShapeAt (C : Addr) (H : Hp) (cs : List Col) (x : Addr) : Prop := ∃ dx fs D kvs, H x = some (.ins C dx fs) ∧ fs.lookup ("spots" : Str) = some (V.ref D) ∧ H D = some (.dK kvs) ∧ keysP kvs (cs.map (·.1)) ∧ SpotsAt H kvs cs
theorem ShapeAt.keep {C x : Addr} {H H' : Hp} {cs : List Col} (h : ShapeAt C H cs x) (k : XT H H') : ShapeAt C H' cs x := by
  obtain ⟨dx, fs, D, kvs, h1, h2, h3, h4, h5⟩ := h
  exact ⟨dx, fs, D, kvs, k _ _ h1, h2, k _ _ h3, h4, h5.keep k⟩
theorem g_dput {σ : L2.St} {H : Hp} {D : Ends} {td ty tv : TE} (q : tv σ H fun v H1 => td σ H1 fun x H2 => ty σ H2 fun y H3 => ∃ a H4, x = .ref a ∧ DPut H3 a y v H4 ∧ D.nx σ H4) : sDPut td ty tv D σ H := q
section
variable {P : Program} {w : World} {K : PySem.W.Frag} {mg : Str → Option Value} {base : Heap}
theorem ok_is_short (T : Txt K mg) : Def P w K mg base 2 "is_short" ["thing", "least", "most"] (spShort K) := by
  obtain ⟨f, fd, h⟩ := T.d_is_short
  refine h.def (Fun.okM h.fn sc_is_short (fun vs H Q E h => ?_) (fun cdv A outer s H vs Q E hr h => ?_))
  · obtain ⟨v, a, b, rfl, _⟩ := h
    rfl
  · obtain ⟨v, a, b, rfl, h⟩ := h
    refine ⟨_, (pss_one (ps_ret (pe_and (pe_def (ok_is_sequence T) hr rfl (pa_cons (pv 0) pa_nil)) (pe_and (pe_cmpR op_leG (pv 1) (pe_callB (call_lenG (K := K) rfl) (by rfl) T.h_len (by decide +kernel) (pa_cons (pv 0) pa_nil)) (nomark _)) (pe_one (pe_cmpR op_leG (pe_callB (call_lenG (K := K) rfl) (by rfl) T.h_len (by decide +kernel) (pa_cons (pv 0) pa_nil)) (pv 2) (nomark _))))))), ?_⟩
    rcases h with ⟨Tn, hT, ty, n1, n2, k⟩ | ⟨p, xs, rfl, hp, k⟩
    · walk_at "g"
      refine ⟨v, Tn, rfl, hT, fun H' x => (ty.keep x).x K, fun H' x => ?_⟩
      rw [decide_eq_false (fun h => h.elim n1 n2)]
      walk_at "g"
      exact k _ x
    · rcases hp with hp | hp
      · walk_at "g"
        refine ⟨.ref p, "list", rfl, by decide, fun H' x => .base (.lst (x _ _ hp)), fun H' x => ?_⟩
        rw [show decide ("list" = "list" ∨ "list" = "tuple") = true by decide]
        walk_at "g"
        refine g_lenL (SqL.of (x _ _ hp)) ?_
        walk_at "g"
        by_cases ha : a ≤ (xs.length : Int)
        · rw [decide_eq_true ha]
          walk_at "g"
          refine g_lenL (SqL.of (x _ _ hp)) ?_
          walk_at "g"
          have := k _ x
          rw [decide_eq_true ha, Bool.true_and] at this
          exact this
        · rw [decide_eq_false ha]
          walk_at "g"
          have := k _ x
          rw [decide_eq_false ha, Bool.false_and] at this
          exact this
      · walk_at "g"
        refine ⟨.ref p, "tuple", rfl, by decide, fun H' x => tyx_t (xtT hp x), fun H' x => ?_⟩
        rw [show decide ("tuple" = "list" ∨ "tuple" = "tuple") = true by decide]
        walk_at "g"
        refine g_lenT (xtT hp x) ?_
        walk_at "g"
        by_cases ha : a ≤ (xs.length : Int)
        · rw [decide_eq_true ha]
          walk_at "g"
          refine g_lenT (xtT hp x) ?_
          walk_at "g"
          have := k _ x
          rw [decide_eq_true ha, Bool.true_and] at this
          exact this
        · rw [decide_eq_false ha]
          walk_at "g"
          have := k _ x
          rw [decide_eq_false ha, Bool.false_and] at this
          exact this
theorem ok_is_column (T : Txt K mg) : Def P w K mg base 3 "is_column" ["thing"] (fun vs H Q _ => ∃ (t : Addr) (c : Col), vs = [.ref t] ∧ H t = some (.tup (ct c)) ∧ nameP c.1 ∧ ∀ H', XT H H' → Q (.bl true) H') := by
  obtain ⟨f, fd, h⟩ := T.d_is_column
  obtain ⟨t_KINDS, G_KINDS, Q_KINDS⟩ := T.k_KINDS
  refine h.def (Fun.okM h.fn sc_is_column (fun vs H Q E h => ?_) (fun cdv A outer s H vs Q E hr h => ?_))
  · obtain ⟨t, c, rfl, _⟩ := h
    rfl
  · obtain ⟨t, c, rfl, ht, hc, k⟩ := h
    refine ⟨_, (pss_cons (ps_if (pt_not (pt_val (pe_def (ok_is_short T) hr rfl (pa_cons (pv 0) (pa_cons pe_int (pa_cons pe_int pa_nil))))))
  (pss_one (ps_ret pe_bl))
  pss_nil)
  (pss_cons (ps_set (i := 1) sc_is_column.nd rfl (Or.inl rfl) (pe_and (pe_callB (call_isiG (K := K) rfl) (by rfl) T.h_isinstance (by decide +kernel) (pa_cons (pe_ix (ix_seqG (K := K) rfl) (pv 0) pe_int (fun _ _ => rfl)) (pa_cons (pe_bltn (v := .ty "str") (by rfl) T.h_str (by decide +kernel) rfl) pa_nil))) (pe_one (pe_cmpR (op_inG (K := K) rfl) (pe_ix (ix_seqG (K := K) rfl) (pv 0) pe_int (fun _ _ => rfl)) (pe_glob (v := .ref t_KINDS) rfl G_KINDS rfl) (by rfl)))))
  (pss_one (ps_ret (pe_and (pe_def (ok_is_name T) hr rfl (pa_cons (pe_ix (ix_seqG (K := K) rfl) (pv 0) pe_int (fun _ _ => rfl)) pa_nil)) (pe_and (pv 1) (pe_one (pe_callB (call_isiG (K := K) rfl) (by rfl) T.h_isinstance (by decide +kernel) (pa_cons (pe_ix (ix_seqG (K := K) rfl) (pv 0) pe_int (fun _ _ => rfl)) (pa_cons (pe_bltn (v := .ty "bool") (by rfl) T.h_bool (by decide +kernel) rfl) pa_nil)))))))))), ?_⟩
    walk_at "g"
    refine ⟨_, _, _, rfl, .inr ⟨t, _, rfl, .inr (SqT.of ht), fun H1 x1 => ?_⟩⟩
    have h1 := x1 _ _ ht
    rw [show (decide ((3 : Int) ≤ ((ct c).length : Int)) && decide (((ct c).length : Int) ≤ 3)) = true by rfl]
    walk_at "g"
    refine g_ixT (SqT.of h1) (v := .str (kS c.2.1)) (by rfl) ?_
    walk_at "g"
    refine g_ixT (SqT.of h1) (v := .str (kS c.2.1)) (by rfl) ?_
    walk_at "g"
    refine .inr ⟨_, [Str.ofString "number", Str.ofString "text"].map V.str, rfl, .inr (Q_KINDS _), rfl, Tw.flat_strs _, ?_⟩
    rw [if_neg Bool.false_ne_true, inV_strs, show decide (kS c.2.1 ∈ [Str.ofString "number", Str.ofString "text"]) = true by cases c.2.1 <;> decide +kernel]
    walk_at "g"
    refine g_ixT (SqT.of h1) (v := .str c.1) (by rfl) ?_
    walk_at "g"
    refine ⟨_, rfl, .inr (.inr (.inr (.inl ⟨_, rfl, by have := hc.2.1; omega⟩))), fun H2 x2 => ?_⟩
    rw [nameB_str.mpr hc]
    walk_at "g"
    refine g_ixT (SqT.of (x2 _ _ h1)) (v := .bl c.2.2) (by rfl) ?_
    walk_at "g"
    exact k _ (x1.trans x2)
theorem ok_need_columns (T : Txt K mg) : Def P w K mg base 4 "need_columns" ["columns"] (fun vs H Q _ => ∃ (L : Addr) (cs : List Col), vs = [.ref L] ∧ LAt H L (cs.map ct) ∧ ColsOk cs ∧ ∀ H', XT H H' → Q .non H') := by
  obtain ⟨f, fd, h⟩ := T.d_need_columns
  obtain ⟨t_MOST_COLUMNS, G_MOST_COLUMNS⟩ := T.k_MOST_COLUMNS
  refine h.def (Fun.okM h.fn sc_need_columns (fun vs H Q E h => ?_) (fun cdv A outer s H vs Q E hr h => ?_))
  · obtain ⟨L, cs, rfl, _⟩ := h
    rfl
  · obtain ⟨L, cs, rfl, hC, hcs, k⟩ := h
    obtain ⟨qs, hL, hlen, hcol⟩ := id hC
    rw [List.length_map] at hlen
    have n1 := hcs.ne
    have n2 := hcs.le
    refine ⟨_, (pss_cons (ps_if (pt_not (pt_val (pe_def (ok_is_short T) hr rfl (pa_cons (pv 0) (pa_cons pe_int (pa_cons (pe_glob (v := .int 12) rfl G_MOST_COLUMNS ⟨_, rfl⟩) pa_nil))))))
  (pss_one ps_never)
  pss_nil)
  (pss_cons (ps_set (i := 1) sc_need_columns.nd rfl (Or.inl rfl) pe_dnewK)
  (pss_one (ps_for PassesOwn.never rfl (pi_enumG (K := K) rfl (by rfl) T.h_enumerate (pa_cons (pv 0) pa_nil)) (pg_tupG (K := K) (n := 2) rfl rfl (pgs_cons (pg_name (i := 2) sc_need_columns.nd rfl (Or.inl rfl)) (pgs_cons (pg_name (i := 3) sc_need_columns.nd rfl (Or.inl rfl)) pgs_nil)))
  (pss_cons (ps_if (PW.pt (pw_or (pt_not (pt_val (pe_def (ok_is_column T) hr rfl (pa_cons (pv 3) pa_nil)))) (pw_or1 (pt_cmp (pc_din (hu_of hr) (pe_ix (ix_seqG (K := K) rfl) (pv 3) pe_int (fun _ _ => rfl)) (pv 1))))))
  (pss_one ps_never)
  pss_nil)
  (pss_one (ps_dput (hu_of hr) (pv 1) (pe_ix (ix_seqG (K := K) rfl) (pv 3) pe_int (fun _ _ => rfl)) pe_bl rfl))))))), ?_⟩
    walk_at "g"
    refine ⟨_, _, _, rfl, .inr ⟨L, _, rfl, .inl hL, fun H1 x1 => ?_⟩⟩
    rw [show (decide ((1 : Int) ≤ ((qs.map V.ref).length : Int)) && decide (((qs.map V.ref).length : Int) ≤ 12)) = true by
      rw [List.length_map, decide_eq_true (by omega), decide_eq_true (by omega)]; rfl]
    walk_at "g"
    intro r hr
    have x2 := x1.new (o := .dK []) hr
    have e2 : (upd H1 r (.dK [])) r = some (.dK []) := upd_same
    generalize upd H1 r (.dK []) = H2 at x2 e2
    have hHr : H r = none := by
      cases e : H r with
      | none => rfl
      | some o => rw [x1 _ _ e] at hr; cases hr
    have nr : L ≠ r := fun z => by rw [z, hHr] at hL; cases hL
    walk_at "g"
    refine g_enumG ?_
    walk_at "g"
    refine ⟨L, qs.map V.ref, rfl, .inl (SqL.of (x2 _ _ hL)), fun J hJ => ?_⟩
    refine for_enumA (xs := qs.map V.ref) (fun i σ' H' => ∃ (s2 s3 : Option V) (kvs : List (Key × V)), σ' = [some (.ref L), some (.ref r), s2, s3] ∧ XT H H' ∧ H' r = some (.dK kvs) ∧ keysP kvs ((cs.take i).map (·.1)) ∧ kvs.length ≤ i) ⟨none, none, [], rfl, x2, e2, keysP.nil, Nat.le_refl _⟩ ?_ ?_ ?_
    · rintro i σ' H' hi ⟨s2, s3, kvs, rfl, x3, _⟩
      exact hJ H' (by rw [x3 _ _ hL, x2 _ _ hL])
    · rintro i v t σ' H3 D' hv ⟨s2, s3, kvs, rfl, x3, e3, hk, hkl⟩ ht hnx hct hbk hrt
      rw [List.getElem?_map] at hv
      obtain ⟨q, hq, rfl⟩ := Option.map_eq_some_iff.mp hv
      have hil : i < cs.length := by
        have := (List.getElem?_eq_some_iff.mp hq).1
        omega
      obtain ⟨c, hc⟩ : ∃ c, cs[i]? = some c := ⟨_, List.getElem?_eq_getElem hil⟩
      have eq := hcol i q (ct c) hq (by rw [List.getElem?_map, hc]; rfl)
      have hcm : c ∈ cs := List.mem_of_getElem? hc
      have etk : (cs.take (i + 1)).map (·.1) = (cs.take i).map (·.1) ++ [c.1] := by rw [List.take_succ, hc, List.map_append]; rfl
      have hnot : c.1 ∉ (cs.take i).map (·.1) := fun hm => by
        have hnd := hcs.nd
        have e1 : cs.map (·.1) = (cs.take (i + 1)).map (·.1) ++ (cs.drop (i + 1)).map (·.1) := by rw [← List.map_append, List.take_append_drop]
        rw [e1, etk, List.append_assoc] at hnd
        exact (List.nodup_append.mp hnd).2.2 _ hm _ (List.mem_append.mpr (.inl (List.mem_singleton.mpr rfl))) rfl
      have x4 := x3.new (o := .tup [.int (i : Nat), .ref q]) ht
      have nrt : r ≠ t := ne_of_none e3 ht
      have e4 : (upd H3 t (.tup [.int (i : Nat), .ref q])) r = some (.dK kvs) := by rw [upd_ne nrt]; exact e3
      refine g_gtup upd_same rfl ?_
      refine g_gcons ?_
      walk_at "g"
      refine g_gcons ?_
      walk_at "g"
      refine g_gnil ?_
      generalize upd H3 t (.tup [.int (i : Nat), .ref q]) = H4 at x4 e4
      have eq4 := x4 _ _ eq
      walk_at "g"
      refine ⟨_, _, rfl, eq4, hcs.nm c hcm, fun H5 x5 => ?_⟩
      walk_at "g"
      refine g_ixT (SqT.of (x5 _ _ eq4)) (v := .str c.1) (by rfl) ?_
      walk_at "g"
      refine ⟨_, _, rfl, DGet.k (k := Sum.inr c.1) (x5 _ _ e4), ?_⟩
      rw [hk, decide_eq_false hnot]
      walk_at "g"
      refine g_dput ?_
      walk_at "g"
      refine g_ixT (SqT.of (x5 _ _ eq4)) (v := .str c.1) (by rfl) ?_
      refine ⟨r, _, rfl, DPut.k (k := Sum.inr c.1) (x5 _ _ e4) (by rw [sizeLine_eq]; omega), ?_⟩
      refine hnx _ _ ⟨_, _, _, rfl, fun q o h => ?_, upd_same, by rw [etk]; exact hk.put, Nat.le_trans (length_putK _ _ _) (by omega)⟩
      rw [upd_ne (fun z => by rw [z, hHr] at h; cases h)]
      exact x5 _ _ (x4 _ _ h)
    · rintro σ' H' ⟨s2, s3, kvs, rfl, x3, _⟩
      exact k _ x3
end
theorem nd_ne {l : List Str} (h : l.Nodup) {i j : Nat} {a b : Str} (ha : l[i]? = some a) (hb : l[j]? = some b) (n : i ≠ j) : a ≠ b := fun e => by
  subst e
  exact n ((List.getElem?_inj (List.getElem?_eq_some_iff.mp ha).1 h).mp (ha.trans hb.symm))
section
variable {P : Program} {w : World} {K : PySem.W.Frag} {mg : Str → Option Value} {base : Heap}
def spNone2 (K : PySem.W.Frag) : Sp := fun vs H Q _ => ∃ (v : V) (d : Addr), vs = [v, .ref d] ∧ (∀ H, SqT K H d []) ∧ ∀ H', XT H H' → Q .non H'
theorem ok_need_checks (T : Txt K mg) : Def P w K mg base 15 "need_checks" ["spots", "checks"] (spNone2 K) := by
  obtain ⟨f, fd, h⟩ := T.d_need_checks
  obtain ⟨t_MOST_RULES, G_MOST_RULES⟩ := T.k_MOST_RULES
  refine h.def (Fun.okM h.fn sc_need_checks (fun vs H Q E h => ?_) (fun cdv A outer s H vs Q E hr h => ?_))
  · obtain ⟨v, d, rfl, _⟩ := h
    rfl
  · obtain ⟨v, d, rfl, hd, k⟩ := h
    refine ⟨_, (pss_cons (ps_if (pt_not (pt_val (pe_def (ok_is_short T) hr rfl (pa_cons (pv 1) (pa_cons pe_int (pa_cons (pe_glob (v := .int 9) rfl G_MOST_RULES ⟨_, rfl⟩) pa_nil))))))
  (pss_one ps_never)
  pss_nil)
  (pss_one (ps_for PassesOwn.never rfl (pi_enumG (K := K) rfl (by rfl) T.h_enumerate (pa_cons (pv 1) pa_nil)) (pg_tupG (K := K) (n := 2) rfl rfl (pgs_cons (pg_name (i := 2) sc_need_checks.nd rfl (Or.inl rfl)) (pgs_cons (pg_name (i := 3) sc_need_checks.nd rfl (Or.inl rfl)) pgs_nil)))
  (pss_one ps_never)))), ?_⟩
    walk_at "g"
    refine ⟨_, _, _, rfl, .inr ⟨d, [], rfl, .inr (hd _), fun H1 x1 => ?_⟩⟩
    rw [show (decide ((0 : Int) ≤ (([] : List V).length : Int)) && decide ((([] : List V).length : Int) ≤ 9)) = true by rfl]
    walk_at "g"
    refine g_enumG ?_
    walk_at "g"
    refine ⟨d, [], rfl, .inr (hd _), fun J hJ => ?_⟩
    refine for_enumA (xs := []) (fun i σ' H' => H' = H1) rfl (fun i σ' H' _ e => hJ H' (by rw [e])) ?_ ?_
    · intro i v t σ' H3 D' hv
      simp at hv
    · rintro σ' H' rfl
      exact k _ x1
theorem ok_need_keys (T : Txt K mg) : Def P w K mg base 3 "need_keys" ["spots", "keys"] (spNone2 K) := by
  obtain ⟨f, fd, h⟩ := T.d_need_keys
  obtain ⟨t_MOST_RULES, G_MOST_RULES⟩ := T.k_MOST_RULES
  refine h.def (Fun.okM h.fn sc_need_keys (fun vs H Q E h => ?_) (fun cdv A outer s H vs Q E hr h => ?_))
  · obtain ⟨v, d, rfl, _⟩ := h
    rfl
  · obtain ⟨v, d, rfl, hd, k⟩ := h
    refine ⟨_, (pss_cons (ps_if (pt_not (pt_val (pe_def (ok_is_short T) hr rfl (pa_cons (pv 1) (pa_cons pe_int (pa_cons (pe_glob (v := .int 9) rfl G_MOST_RULES ⟨_, rfl⟩) pa_nil))))))
  (pss_one ps_never)
  pss_nil)
  (pss_one (ps_for PassesOwn.never rfl (pi_enumG (K := K) rfl (by rfl) T.h_enumerate (pa_cons (pv 1) pa_nil)) (pg_tupG (K := K) (n := 2) rfl rfl (pgs_cons (pg_name (i := 2) sc_need_keys.nd rfl (Or.inl rfl)) (pgs_cons (pg_name (i := 3) sc_need_keys.nd rfl (Or.inl rfl)) pgs_nil)))
  (pss_one ps_never)))), ?_⟩
    walk_at "g"
    refine ⟨_, _, _, rfl, .inr ⟨d, [], rfl, .inr (hd _), fun H1 x1 => ?_⟩⟩
    rw [show (decide ((0 : Int) ≤ (([] : List V).length : Int)) && decide ((([] : List V).length : Int) ≤ 9)) = true by rfl]
    walk_at "g"
    refine g_enumG ?_
    walk_at "g"
    refine ⟨d, [], rfl, .inr (hd _), fun J hJ => ?_⟩
    refine for_enumA (xs := []) (fun i σ' H' => H' = H1) rfl (fun i σ' H' _ e => hJ H' (by rw [e])) ?_ ?_
    · intro i v t σ' H3 D' hv
      simp at hv
    · rintro σ' H' rfl
      exact k _ x1
theorem eq_of_tup {H : Hp} {q : Addr} {xs ys : List V} (h : H q = some (.tup xs)) (k : H q = some (.tup ys)) : xs = ys := by
  rw [h] at k
  injection k with k
  injection k
theorem ok_Shape_init (T : Txt K mg) : DefCD P w K mg base 16 (cadr mg "Shape") ["self", "columns", "checks", "keys"] (fun vs H Q _ => ∃ (x L d1 d2 dx : Addr) (cs : List Col), vs = [.ref x, .ref L, .ref d1, .ref d2] ∧ H x = some (.ins (cadr mg "Shape") dx []) ∧ LAt H L (cs.map ct) ∧ ColsOk cs ∧ (∀ H, SqT K H d1 []) ∧ (∀ H, SqT K H d2 []) ∧ ∀ H', (∀ q o, q ≠ x → H q = some o → H' q = some o) → ShapeAt (cadr mg "Shape") H' cs x → Q .non H') := by
  obtain ⟨f, fd, h⟩ := T.d_Shape_init
  refine h.def (Fun.okM h.fn sc_Shape_init (fun vs H Q E h => ?_) (fun cdv A outer s H vs Q E hr h => ?_))
  · obtain ⟨x, L, d1, d2, dx, cs, rfl, _⟩ := h
    rfl
  · obtain ⟨x, L, d1, d2, dx, cs, rfl, hx, hC, hcs, hd1, hd2, k⟩ := h
    refine ⟨_, (pss_cons (ps_expr (pe_def (ok_need_columns T) hr rfl (pa_cons (pv 1) pa_nil)))
  (pss_cons (ps_fld (pv 0) (pe_callTy (call_tupleG (K := K) rfl) (by rfl) T.h_tuple (by decide +kernel) (pa_cons (pe_lc (own := [("column", 4)]) rfl sc_Shape_init.nd (pi_seqG (K := K) rfl (pv 1)) (blkOk_by (N := N_Shape_init) (sc := defScope S_Shape_init) (by decide +kernel)) (fun _ _ _ _ _ => pg_name (i := 4) sc_Shape_init.nd rfl (Or.inl rfl)) (fun _ _ _ _ _ => pts_nil) (fun _ _ _ _ _ => (pe_callTy (call_tupleG (K := K) rfl) (by rfl) T.h_tuple (by decide +kernel) (pa_cons (pv 4) pa_nil)))) pa_nil)) rfl)
  (pss_cons (ps_fld (pv 0) (pe_dc (own := [("column", 4)]) rfl sc_Shape_init.nd (pi_tupG (K := K) rfl (pe_fldG (K := K) rfl (pv 0) rfl)) (blkOk_by (N := N_Shape_init) (sc := defScope S_Shape_init) (by decide +kernel)) (fun _ _ _ _ _ => pg_name (i := 4) sc_Shape_init.nd rfl (Or.inl rfl)) (fun _ _ _ _ _ => pts_nil) (fun _ _ _ _ _ => (pe_ix (ix_seqG (K := K) rfl) (pv 4) pe_int (fun _ _ => rfl))) (fun _ _ _ _ _ => (pv 4))) rfl)
  (pss_cons (ps_expr (pe_def (ok_need_checks T) hr rfl (pa_cons (pe_fldG (K := K) rfl (pv 0) rfl) (pa_cons (pv 2) pa_nil))))
  (pss_cons (ps_fld (pv 0) (pe_callTy (call_tupleG (K := K) rfl) (by rfl) T.h_tuple (by decide +kernel) (pa_cons (pv 2) pa_nil)) rfl)
  (pss_cons (ps_expr (pe_def (ok_need_keys T) hr rfl (pa_cons (pe_fldG (K := K) rfl (pv 0) rfl) (pa_cons (pv 3) pa_nil))))
  (pss_one (ps_fld (pv 0) (pe_callTy (call_tupleG (K := K) rfl) (by rfl) T.h_tuple (by decide +kernel) (pa_cons (pe_lc (own := [("names", 5), ("test", 6)]) rfl sc_Shape_init.nd (pi_tupG (K := K) rfl (pv 3)) (blkOk_by (N := N_Shape_init) (sc := defScope S_Shape_init) (by decide +kernel)) (fun _ _ _ _ _ => (pg_tupG (K := K) (n := 2) rfl rfl (pgs_cons (pg_name (i := 5) sc_Shape_init.nd rfl (Or.inl rfl)) (pgs_cons (pg_name (i := 6) sc_Shape_init.nd rfl (Or.inl rfl)) pgs_nil)))) (fun _ _ _ _ _ => pts_nil) (fun _ _ _ _ _ => pe_never)) pa_nil)) rfl)))))))), ?_⟩
    have hcl := hcs.le
    walk_at "g"
    refine ⟨L, cs, rfl, hC, hcs, fun H1 x1 => ?_⟩
    obtain ⟨qs, hL, hlen, hcol⟩ := id (hC.keep x1)
    rw [List.length_map] at hlen
    have hx1 := x1 _ _ hx
    walk_at "g"
    refine g_seqG ?_
    walk_at "g"
    refine ⟨L, qs.map V.ref, rfl, .inl (SqL.of hL), fun J hJ D hD => ?_⟩
    refine lc_new (qs.map V.ref) (fun i y H' => ∃ q c, y = .ref q ∧ cs[i]? = some c ∧ H' q = some (.tup (ct c))) hD (fun H2 k2 => hJ H2 (by rw [k2 _ _ hL, hL])) (by rw [List.length_map]; omega) ?_ ?_ ?_
    · rintro i y Ha Hb ⟨zs, hz⟩ ⟨q, c, rfl, h1, h2⟩ hk
      exact ⟨q, c, rfl, h1, hk _ _ (fun z => by rw [z, hz] at h2; cases h2) h2⟩
    · intro i y Hh R S hy kh _ hR
      rw [List.getElem?_map] at hy
      obtain ⟨q, hqi, rfl⟩ := Option.map_eq_some_iff.mp hy
      have hil : i < cs.length := by
        have := (List.getElem?_eq_some_iff.mp hqi).1
        omega
      obtain ⟨c, hc⟩ : ∃ c, cs[i]? = some c := ⟨_, List.getElem?_eq_getElem hil⟩
      have et := kh _ _ (hcol i q (ct c) hqi (by rw [List.getElem?_map, hc]; rfl))
      walk_at "g"
      refine ⟨rfl, ?_⟩
      walk_at "g"
      refine g_tupT (SqT.of et) ?_
      exact hR _ _ (fun q o h => h) ⟨q, c, rfl, hc, et⟩
    · intro H2 ys x2 hW hyl hys
      have hyq : ∀ (i : Nat) (y : V), ys[i]? = some y → ∃ q c, y = .ref q ∧ cs[i]? = some c ∧ H2 q = some (.tup (ct c)) := hys
      walk_at "g"
      refine g_tupL (SqL.of hW) fun t ht => ?_
      have hx2 := x2 _ _ hx1
      have x3 : XT H2 (upd H2 t (.tup ys)) := fun q o h => by rw [upd_ne (ne_of_none h ht)]; exact h
      have et : (upd H2 t (.tup ys)) t = some (.tup ys) := upd_same
      generalize upd H2 t (.tup ys) = H3 at x3 et
      have hx3 := x3 _ _ hx2
      walk_at "g"
      refine ⟨x, _, dx, _, rfl, hx3, T.cl_Shape, T.n_Shape_layout, by decide, ?_⟩
      have kA : ∀ q o, q ≠ x → H q = some o → (upd H3 x (.ins (cadr mg "Shape") dx (putF "layout" (.ref t) []))) q = some o := fun q o n h => by rw [upd_ne n]; exact x3 _ _ (x2 _ _ (x1 _ _ h))
      have eA : (upd H3 x (.ins (cadr mg "Shape") dx (putF "layout" (.ref t) []))) x = some (.ins (cadr mg "Shape") dx (putF "layout" (.ref t) [])) := upd_same
      have xt : t ≠ x := fun z => by rw [z, hx3] at et; cases et
      have etA : (upd H3 x (.ins (cadr mg "Shape") dx (putF "layout" (.ref t) []))) t = some (.tup ys) := by rw [upd_ne xt]; exact et
      have yA : ∀ (i : Nat) (y : V), ys[i]? = some y → ∃ q c, y = .ref q ∧ cs[i]? = some c ∧ (upd H3 x (.ins (cadr mg "Shape") dx (putF "layout" (.ref t) []))) q = some (.tup (ct c)) := fun i y hy => by
        obtain ⟨q, c, h1, h2, h3⟩ := hyq i y hy
        have h4 := x3 _ _ h3
        exact ⟨q, c, h1, h2, by rw [upd_ne (fun z => by rw [z, hx3] at h4; cases h4)]; exact h4⟩
      have l1 : (putF ("layout" : Str) (V.ref t) []).lookup ("layout" : Str) = some (V.ref t) := by rfl
      have l1n : (putF ("layout" : Str) (V.ref t) []).length < 1000 := by show 1 < 1000; decide
      generalize upd H3 x (.ins (cadr mg "Shape") dx (putF "layout" (.ref t) [])) = HA at kA eA etA yA
      walk_at "g"
      refine g_dc ?_
      walk_at "g"
      refine ⟨x, _, dx, _, _, rfl, eA, T.cl_Shape, T.n_Shape_layout, l1, ?_⟩
      refine ⟨t, rfl, ⟨ys, SqT.of etA⟩, fun D hD => ?_⟩
      have hDt : t ≠ D := ne_of_none etA hD
      refine dc_tup (xs := ys) (fun i H' => (∀ q o, q ≠ D → HA q = some o → H' q = some o) ∧ ∃ kvs, H' D = some (.dK kvs) ∧ keysP kvs ((cs.take i).map (·.1)) ∧ kvs.length ≤ i ∧ ∀ (j : Nat) c, j < i → cs[j]? = some c → ∃ q, valV kvs (Sum.inr c.1) = some (.ref q) ∧ HA q = some (.tup (ct c))) ⟨fun q o n h => by rw [upd_ne n]; exact h, [], upd_same, keysP.nil, Nat.le_refl _, fun j c h => absurd h (Nat.not_lt_zero _)⟩ (fun i H' _ p => SqT.of (p.1 _ _ hDt etA)) ?_ ?_
      · rintro i y H' hy ⟨kD, kvs, eD, hk, hkl, hsp⟩
        obtain ⟨q, c, rfl, hc, hq⟩ := yA i y hy
        have eq := kD _ _ (ne_of_none hq hD) hq
        have hil : i < cs.length := (List.getElem?_eq_some_iff.mp hc).1
        walk_at "g"
        refine ⟨rfl, ?_⟩
        walk_at "g"
        refine g_ixT (SqT.of eq) (v := .str c.1) (by rfl) ?_
        walk_at "g"
        refine ⟨kvs, Sum.inr c.1, rfl, eD, by rw [sizeLine_eq]; omega, fun q o n h => by rw [upd_ne n]; exact kD _ _ n h, _, upd_same, ?_, Nat.le_trans (length_putK _ _ _) (by omega), fun j c2 hj hc2 => ?_⟩
        rotate_left
        · rw [valV_put]
          by_cases e : j = i
          · subst e
            rw [hc] at hc2
            injection hc2 with hc2
            exact ⟨q, by rw [if_pos (by rw [hc2])], by rw [← hc2]; exact hq⟩
          · have hne : c2.1 ≠ c.1 := nd_ne hcs.nd (i := j) (j := i) (by rw [List.getElem?_map, hc2]; rfl) (by rw [List.getElem?_map, hc]; rfl) e
            rw [if_neg (fun h => hne (by injection h))]
            exact hsp j c2 (by omega) hc2
        rw [List.take_succ, hc, List.map_append]
        exact hk.put
      · rintro HB ⟨kB, kvs, eD, hk, hkl, hsp⟩
        have hyl2 : ys.length = cs.length := by rw [hyl, List.length_map, hlen]
        rw [hyl2, List.take_length] at hk
        rw [hyl2] at hsp
        have spA : SpotsAt HA kvs cs := fun j c hc => hsp j c (List.getElem?_eq_some_iff.mp hc).1 hc
        have hxD : x ≠ D := ne_of_none eA hD
        have eB := kB _ _ hxD eA
        have spB : SpotsAt HB kvs cs := fun j c hc => by
          obtain ⟨q, h1, h2⟩ := spA j c hc
          exact ⟨q, h1, kB _ _ (ne_of_none h2 hD) h2⟩
        walk_at "g"
        refine ⟨x, _, dx, _, rfl, eB, T.cl_Shape, T.n_Shape_spots, l1n, ?_⟩
        have fC : ∃ fs, putF ("spots" : Str) (V.ref D) (putF ("layout" : Str) (V.ref t) []) = fs ∧ fs.lookup ("spots" : Str) = some (V.ref D) ∧ fs.length < 900 := ⟨_, rfl, by rfl, by show 2 < 900; decide⟩
        obtain ⟨fs, e3, l3, n3⟩ := fC
        rw [e3]
        have kC : ∀ q o, q ≠ x → H q = some o → (upd HB x (.ins (cadr mg "Shape") dx fs)) q = some o := fun q o n h => by
          have h2 := kA _ _ n h
          rw [upd_ne n]; exact kB _ _ (ne_of_none h2 hD) h2
        have eC : (upd HB x (.ins (cadr mg "Shape") dx fs)) x = some (.ins (cadr mg "Shape") dx fs) := upd_same
        have eDC : (upd HB x (.ins (cadr mg "Shape") dx fs)) D = some (.dK kvs) := by rw [upd_ne (Ne.symm hxD)]; exact eD
        have spC : SpotsAt (upd HB x (.ins (cadr mg "Shape") dx fs)) kvs cs := spB.keepN eB (fun l e => nomatch e) fun q o n h => by rw [upd_ne n]; exact h
        generalize upd HB x (.ins (cadr mg "Shape") dx fs) = HC at kC eC eDC spC
        walk_at "g"
        refine ⟨x, _, dx, _, _, rfl, eC, T.cl_Shape, T.n_Shape_spots, l3, ?_⟩
        walk_at "g"
        refine ⟨_, _, rfl, hd1, fun HE xE => ?_⟩
        walk_at "g"
        refine g_tupT (hd1 _) ?_
        walk_at "g"
        refine ⟨x, _, dx, _, rfl, xE _ _ eC, T.cl_Shape, T.n_Shape_check_tests, by omega, ?_⟩
        have fF : ∃ fs', putF ("check_tests" : Str) (V.ref d1) fs = fs' ∧ fs'.lookup ("spots" : Str) = some (V.ref D) ∧ fs'.length < 950 := by
          rw [← e3]
          exact ⟨_, rfl, by rfl, by show 3 < 950; decide⟩
        obtain ⟨fs', e4, l4, n4⟩ := fF
        rw [e4]
        have kF : ∀ q o, q ≠ x → H q = some o → (upd HE x (.ins (cadr mg "Shape") dx fs')) q = some o := fun q o n h => by
          rw [upd_ne n]; exact xE _ _ (kC _ _ n h)
        have eF : (upd HE x (.ins (cadr mg "Shape") dx fs')) x = some (.ins (cadr mg "Shape") dx fs') := upd_same
        have eDF : (upd HE x (.ins (cadr mg "Shape") dx fs')) D = some (.dK kvs) := by rw [upd_ne (Ne.symm hxD)]; exact xE _ _ eDC
        have spF : SpotsAt (upd HE x (.ins (cadr mg "Shape") dx fs')) kvs cs := (spC.keep xE).keepN (xE _ _ eC) (fun l e => nomatch e) fun q o n h => by rw [upd_ne n]; exact h
        generalize upd HE x (.ins (cadr mg "Shape") dx fs') = HF at kF eF eDF spF
        walk_at "g"
        refine ⟨x, _, dx, _, _, rfl, eF, T.cl_Shape, T.n_Shape_spots, l4, ?_⟩
        walk_at "g"
        refine ⟨_, _, rfl, hd2, fun HG xG => ?_⟩
        walk_at "g"
        refine ⟨d2, rfl, ⟨[], hd2 _⟩, fun D2 hD2 => ?_⟩
        have xI : XT HG (upd HG D2 (.lst [])) := fun q o h => by rw [upd_ne (ne_of_none h hD2)]; exact h
        have hzs : (upd HG D2 (.lst [])) D2 = some (.lst []) := upd_same
        refine ⟨fun i m H' => i = 0 ∧ m = 0 ∧ H' = upd HG D2 (.lst []), ⟨0, rfl, rfl, rfl⟩, ?_⟩
        rintro i m H' ⟨rfl, rfl, rfl⟩
        refine .inl ⟨⟨[], hd2 _, Nat.le_refl _⟩, ?_⟩
        generalize upd HG D2 (.lst []) = HI at xI hzs
        walk_at "g"
        refine g_tupL (SqL.of hzs) fun t2 ht2 => ?_
        have eI := xI _ _ (xG _ _ eF)
        have x2I : XT HI (upd HI t2 (.tup [])) := fun q o h => by rw [upd_ne (ne_of_none h ht2)]; exact h
        walk_at "g"
        refine ⟨x, _, dx, _, rfl, x2I _ _ eI, T.cl_Shape, T.n_Shape_key_rules, by omega, ?_⟩
        have fJ : ∃ fs2, putF ("key_rules" : Str) (V.ref t2) fs' = fs2 ∧ fs2.lookup ("spots" : Str) = some (V.ref D) := by
          rw [← e4, ← e3]
          exact ⟨_, rfl, by rfl⟩
        obtain ⟨fs2, e5, l5⟩ := fJ
        rw [e5]
        walk_at "g"
        refine k _ (fun q o n h => ?_) ⟨dx, fs2, D, kvs, upd_same, l5, ?_, hk, (spF.keep fun q o h => x2I _ _ (xI _ _ (xG _ _ h))).keepN (x2I _ _ eI) (fun l e => nomatch e) fun q o n h => by rw [upd_ne n]; exact h⟩
        · rw [upd_ne n]
          exact x2I _ _ (xI _ _ (xG _ _ (kF _ _ n h)))
        · rw [upd_ne (Ne.symm hxD)]
          exact x2I _ _ (xI _ _ (xG _ _ eDF))
end
/-! what fits a shape -/
def kB : V → Bool
  | .str _ => true
  | _ => false
theorem isV.kB {k : Bool} {v : V} (h : isV k v) : kindV v = .str (kS (kB v)) := by
  rcases h with ⟨i, rfl⟩ | ⟨z, rfl, hz⟩
  · rfl
  · have e : txtB z = true := isS.txt ⟨z, rfl, hz⟩
    show (if txtB z = true then V.str (Str.ofString "text") else V.non) = _
    rw [if_pos e]
    rfl
theorem kS_dec {a b : Bool} : decide (kS a = kS b) = decide (a = b) := decide_eq_decide.mpr ⟨kS_inj, fun h => by rw [h]⟩
def knd (cs : List Col) (c : Str) : Option Bool := (cs.find? fun x => decide (x.1 = c)).map (·.2.1)
theorem knd_none {cs : List Col} {c : Str} (h : c ∉ cs.map (·.1)) : knd cs c = none := by
  unfold knd
  rw [List.find?_eq_none.mpr fun x hx => by
    simp only [decide_eq_true_eq]
    intro e
    exact h (List.mem_map.mpr ⟨x, hx, e⟩)]
  rfl
theorem knd_some {cs : List Col} {c : Str} (h : c ∈ cs.map (·.1)) : ∃ (j : Nat) (x : Col), cs[j]? = some x ∧ x.1 = c ∧ knd cs c = some x.2.1 := by
  cases e : cs.find? fun x => decide (x.1 = c) with
  | none =>
    obtain ⟨x, hx, hc⟩ := List.mem_map.mp h
    have := List.find?_eq_none.mp e x hx
    simp [hc] at this
  | some x =>
    obtain ⟨j, hj⟩ := List.getElem?_of_mem (List.mem_of_find?_eq_some e)
    have hx := List.find?_some e
    simp only [decide_eq_true_eq] at hx
    exact ⟨j, x, hj, hx, by unfold knd; rw [e]; rfl⟩
theorem knd_mem {cs : List Col} {c : Str} {k : Bool} (h : knd cs c = some k) : c ∈ cs.map (·.1) := Classical.byContradiction fun n => by rw [knd_none n] at h; cases h
def amF : Option Bool → List V → Bool
  | none, _ => false
  | some k, vs => vs.all fun v => decide (kB v = k)
def agF : Option Bool → Option Bool → Int → Bool
  | some k, some k', n => decide (k = k') && (!k || decide (n = 0))
  | _, _, _ => false
theorem agF_none {a : Option Bool} {n : Int} : agF a none n = false := by cases a <;> rfl
def At.fits (cs : List Col) : At → Bool
  | .always => true
  | .never => true
  | .empty c => (knd cs c).isSome
  | .among c vs => amF (knd cs c) vs
  | .begins c _ => decide (knd cs c = some true)
  | .compare c _ v => decide (knd cs c = some (kB v))
  | .against c _ d n => agF (knd cs c) (knd cs d) n
theorem At.fits_no {cs : List Col} {a : At} {c : Str} (h : c ∈ a.flds) (n : c ∉ cs.map (·.1)) : a.fits cs = false := by
  have e := knd_none n
  cases a with
  | always => cases h
  | never => cases h
  | empty c' => obtain rfl := List.mem_singleton.mp h; show (knd cs c).isSome = false; rw [e]; rfl
  | among c' vs => obtain rfl := List.mem_singleton.mp h; show amF (knd cs c) vs = false; rw [e]; rfl
  | begins c' z => obtain rfl := List.mem_singleton.mp h; show decide (knd cs c = some true) = false; rw [e]; rfl
  | compare c' op v => obtain rfl := List.mem_singleton.mp h; show decide (knd cs c = some (kB v)) = false; rw [e]; rfl
  | against c' op d n' =>
    rcases List.mem_cons.mp h with rfl | h
    · show agF (knd cs c) (knd cs d) n' = false
      rw [e]; rfl
    · obtain rfl := List.mem_singleton.mp h
      show agF (knd cs c') (knd cs c) n' = false
      rw [e]; exact agF_none
theorem Fm.ts_atoms : ∀ f : Fm, f.ts.atoms = f.ats.map At.ts
  | .at a => rfl
  | .un _ f => f.ts_atoms
  | .bi _ f g => by
    show f.ts.atoms ++ g.ts.atoms = (f.ats ++ g.ats).map At.ts
    rw [List.map_append, f.ts_atoms, g.ts_atoms]
def Fm.fits (cs : List Col) (f : Fm) : Bool := f.ats.all fun a => a.fits cs
theorem Fm.ats_wf {κ : List (Str × Bool)} : ∀ {f : Fm}, f.Wf κ → ∀ a ∈ f.ats, a.Wf κ
  | .at a, h, b, hb => by rw [List.mem_singleton.mp hb]; exact h
  | .un _ f, h, b, hb => Fm.ats_wf (f := f) h.2 b hb
  | .bi _ f g, h, b, hb => (List.mem_append.mp hb).elim (fun m => Fm.ats_wf (f := f) h.2.1 b m) fun m => Fm.ats_wf (f := g) h.2.2 b m
def spIsVal : Sp := fun vs H Q _ => ∃ (k k' : Bool) (v : V), vs = [.str (kS k), v] ∧ isV k' v ∧ ∀ H', XT H H' → Q (.bl (decide (kB v = k))) H'
def spAtomFits (C : Addr) : Sp := fun vs H Q _ => ∃ (D p : Addr) (cs : List Col) (kvs : List (Key × V)) (a : At) (κ : List (Str × Bool)), vs = [.ref D, .ref p] ∧ H D = some (.dK kvs) ∧ keysP kvs (cs.map (·.1)) ∧ SpotsAt H kvs cs ∧ TestAt C H a.ts p ∧ a.Wf κ ∧ ∀ H', XT H H' → Q (.bl (a.fits cs)) H'
section
variable {P : Program} {w : World} {K : PySem.W.Frag} {mg : Str → Option Value} {base : Heap}
theorem ok_is_value (T : Txt K mg) : Def P w K mg base 3 "is_value" ["kind", "thing"] spIsVal := by
  obtain ⟨f, fd, h⟩ := T.d_is_value
  refine h.def (Fun.okM h.fn sc_is_value (fun vs H Q E h => ?_) (fun cdv A outer s H vs Q E hr h => ?_))
  · obtain ⟨k, k', v, rfl, _⟩ := h
    rfl
  · obtain ⟨k, k', v, rfl, hv, q⟩ := h
    refine ⟨_, (pss_one (ps_ret (pe_cmpR op_eq (pe_def (ok_kind_of T) hr rfl (pa_cons (pv 1) pa_nil)) (pv 0) (nomark _)))), ?_⟩
    walk_at "g"
    refine ⟨_, rfl, hv.thing, fun H1 x1 => ?_⟩
    rw [hv.kB]
    walk_at "g"
    have := q H1 x1
    rw [← kS_dec] at this
    exact this
theorem ok_atom_fits (T : Txt K mg) : Def P w K mg base 4 "atom_fits" ["spots", "atom"] (spAtomFits (cadr mg "Test")) := by
  obtain ⟨f, fd, h⟩ := T.d_atom_fits
  refine h.def (Fun.okM h.fn sc_atom_fits (fun vs H Q E h => ?_) (fun cdv A outer s H vs Q E hr h => ?_))
  · obtain ⟨D, p, cs, kvs, a, κ, rfl, _⟩ := h
    rfl
  · obtain ⟨D, p, cs, kvs, a, κ, rfl, hD, hk, hS, hA, hw, q⟩ := h
    obtain ⟨dx, i, f0, u, qs, hp, hi, hf, hu, _⟩ := hA.node
    have hf : H f0 = some (.tup (a.flds.map V.str)) := hf
    have hu : H u = some (.tup a.trms) := hu
    have hp : H p = some (.ins (cadr mg "Test") dx (tf a.word i f0 u a.ts.size a.ts.depth)) := hp
    refine ⟨_, (pss_cons (ps_if (pt_not (pt_val (pe_callB (cr_all rfl) (by rfl) T.h_all (by decide +kernel) (pa_cons (pe_lc (own := [("name", 3)]) rfl sc_atom_fits.nd (pi_tupG (K := K) rfl (pe_fldG (K := K) rfl (pv 1) rfl)) (blkOk_by (N := N_atom_fits) (sc := defScope S_atom_fits) (by decide +kernel)) (fun _ _ _ _ _ => pg_name (i := 3) sc_atom_fits.nd rfl (Or.inl rfl)) (fun _ _ _ _ _ => pts_nil) (fun _ _ _ _ _ => (pe_cmp (pc_din (hu_of hr) (pv 3) (pv 0))))) pa_nil))))
  (pss_one (ps_ret pe_bl))
  pss_nil)
  (pss_cons (ps_set (i := 2) sc_atom_fits.nd rfl (Or.inr rfl) (pe_lc (own := [("name", 3)]) rfl sc_atom_fits.nd (pi_tupG (K := K) rfl (pe_fldG (K := K) rfl (pv 1) rfl)) (blkOk_by (N := N_atom_fits) (sc := defScope S_atom_fits) (by decide +kernel)) (fun _ _ _ _ _ => pg_name (i := 3) sc_atom_fits.nd rfl (Or.inl rfl)) (fun _ _ _ _ _ => pts_nil) (fun _ _ _ _ _ => (pe_ix (ix_seqG (K := K) rfl) (pe_dget (hu_of hr) (pv 0) (pv 3) (fun _ _ => rfl)) pe_int (fun _ _ => rfl)))))
  (pss_cons (ps_if (pt_cmpR op_eq (pe_fldG (K := K) rfl (pv 1) rfl) pe_str (nomark _))
  (pss_one (ps_ret (pe_def (ok_is_value T) hr rfl (pa_cons (pe_ix (ix_seqG (K := K) rfl) (pv 2) pe_int (fun _ _ => rfl)) (pa_cons (pe_ix (ix_seqG (K := K) rfl) (pe_fldG (K := K) rfl (pv 1) rfl) pe_int (fun _ _ => rfl)) pa_nil)))))
  pss_nil)
  (pss_cons (ps_if (pt_cmpR op_eq (pe_fldG (K := K) rfl (pv 1) rfl) pe_str (nomark _))
  (pss_one (ps_ret (pe_and (pe_cmpR op_eq (pe_ix (ix_seqG (K := K) rfl) (pv 2) pe_int (fun _ _ => rfl)) (pe_ix (ix_seqG (K := K) rfl) (pv 2) pe_int (fun _ _ => rfl)) (nomark _)) (pe_one (pe_or (pe_cmpR op_eq (pe_ix (ix_seqG (K := K) rfl) (pv 2) pe_int (fun _ _ => rfl)) pe_str (nomark _)) (pe_one (pe_cmpR op_eq (pe_ix (ix_seqG (K := K) rfl) (pe_fldG (K := K) rfl (pv 1) rfl) pe_int (fun _ _ => rfl)) pe_int (nomark _))))))))
  pss_nil)
  (pss_cons (ps_if (pt_cmpR op_eq (pe_fldG (K := K) rfl (pv 1) rfl) pe_str (nomark _))
  (pss_one (ps_ret (pe_callB (cr_all rfl) (by rfl) T.h_all (by decide +kernel) (pa_cons (pe_lc (own := [("value", 4)]) rfl sc_atom_fits.nd (pi_tupG (K := K) rfl (pe_fldG (K := K) rfl (pv 1) rfl)) (blkOk_by (N := N_atom_fits) (sc := defScope S_atom_fits) (by decide +kernel)) (fun _ _ _ _ _ => pg_name (i := 4) sc_atom_fits.nd rfl (Or.inl rfl)) (fun _ _ _ _ _ => pts_nil) (fun _ _ _ _ _ => (pe_def (ok_is_value T) hr rfl (pa_cons (pe_ix (ix_seqG (K := K) rfl) (pv 2) pe_int (fun _ _ => rfl)) (pa_cons (pv 4) pa_nil))))) pa_nil))))
  pss_nil)
  (pss_one (ps_ret (pe_or (pe_cmpR op_ne (pe_fldG (K := K) rfl (pv 1) rfl) pe_str (nomark _)) (pe_one (pe_cmpR op_eq (pe_ix (ix_seqG (K := K) rfl) (pv 2) pe_int (fun _ _ => rfl)) pe_str (nomark _))))))))))), ?_⟩
    walk_at "g"
    refine ⟨p, _, dx, _, _, rfl, hp, T.cl_Test, T.n_Test_fields, tf_fields, ?_⟩
    refine ⟨f0, rfl, ⟨_, SqT.of hf⟩, fun L hL => ?_⟩
    refine lc_map (a.flds.map V.str) (fun x => match x with | .str c => .bl (decide (c ∈ cs.map (·.1))) | v => v) hL (fun H2 k2 => fits_t (SqT.of (k2 _ _ hf))) (by have := At.flds_len a; rw [List.length_map]; omega) (fun x Hh R S hx kh hR => ?_) (fun H2 x2 e2 => ?_)
    · obtain ⟨c, hc, rfl⟩ := List.mem_map.mp hx
      walk_at "g"
      refine ⟨rfl, ?_⟩
      walk_at "g"
      refine ⟨D, _, rfl, DGet.k (k := Sum.inr c) (kh _ _ hD), ?_⟩
      rw [hk c]
      exact hR
    walk_at "g"
    refine ⟨L, a.flds.map fun c => decide (c ∈ cs.map (·.1)), rfl, SqL.of (by rw [e2, List.map_map, List.map_map]; rfl), ?_⟩
    walk_at "g"
    cases hall : (a.flds.map fun c => decide (c ∈ cs.map (·.1))).all id with
    | false =>
      walk_at "g"
      obtain ⟨c, hc, hn⟩ : ∃ c ∈ a.flds, c ∉ cs.map (·.1) := by
        rw [List.all_map, List.all_eq_false] at hall
        obtain ⟨c, hc, h⟩ := hall
        exact ⟨c, hc, by simpa using h⟩
      have := q H2 x2
      rw [At.fits_no hc hn] at this
      exact this
    | true =>
      have hin : ∀ c ∈ a.flds, c ∈ cs.map (·.1) := fun c hc => by
        rw [List.all_map, List.all_eq_true] at hall
        simpa using hall c hc
      walk_at "g"
      refine ⟨p, _, dx, _, _, rfl, x2 _ _ hp, T.cl_Test, T.n_Test_fields, tf_fields, ?_⟩
      refine ⟨f0, rfl, ⟨_, SqT.of (x2 _ _ hf)⟩, fun L2 hL2 => ?_⟩
      refine lc_map (a.flds.map V.str) (fun x => match x with | .str c => .str (kS ((knd cs c).getD false)) | v => v) hL2 (fun H3 k3 => fits_t (SqT.of (k3 _ _ (x2 _ _ hf)))) (by have := At.flds_len a; rw [List.length_map]; omega) (fun x Hh R S hx kh hR => ?_) (fun H3 x3 e3 => ?_)
      · obtain ⟨c, hc, rfl⟩ := List.mem_map.mp hx
        obtain ⟨j, y, hj, hy, hkn⟩ := knd_some (hin c hc)
        obtain ⟨t, hv, ht⟩ := hS j y hj
        rw [hy] at hv
        have hR : R (.str (kS ((knd cs c).getD false))) Hh := hR
        rw [hkn] at hR
        walk_at "g"
        refine ⟨rfl, ?_⟩
        walk_at "g"
        refine ⟨D, .ref t, rfl, by rw [← hv]; exact DGet.k (k := Sum.inr c) (kh _ _ (x2 _ _ hD)), ?_⟩
        walk_at "g"
        refine g_ixT (SqT.of (kh _ _ (x2 _ _ ht))) (v := .str (kS y.2.1)) (show atI (ct y) 1 = some (.str (kS y.2.1)) from rfl) ?_
        exact hR
      have hp3 := x3 _ _ (x2 _ _ hp)
      have hu3 := x3 _ _ (x2 _ _ hu)
      have xx : XT H H3 := fun q o h => x3 _ _ (x2 _ _ h)
      have kk : ∀ c ∈ a.flds, ∃ k, knd cs c = some k := fun c hc => by
        obtain ⟨j, y, _, _, h⟩ := knd_some (hin c hc)
        exact ⟨_, h⟩
      rw [List.map_map] at e3
      walk_at "g"
      cases a with
      | always =>
          refine ⟨p, _, dx, _, _, rfl, hp3, T.cl_Test, T.n_Test_word, tf_word, ?_⟩
          walk_at "g"
          refine g_dec (fun h => absurd h (show ("always" : Str) ≠ "compare" by decide +kernel)) (fun _ => ?_)
          walk_at "g"
          refine ⟨p, _, dx, _, _, rfl, hp3, T.cl_Test, T.n_Test_word, tf_word, ?_⟩
          walk_at "g"
          refine g_dec (fun h => absurd h (show ("always" : Str) ≠ "against" by decide +kernel)) (fun _ => ?_)
          walk_at "g"
          refine ⟨p, _, dx, _, _, rfl, hp3, T.cl_Test, T.n_Test_word, tf_word, ?_⟩
          walk_at "g"
          refine g_dec (fun h => absurd h (show ("always" : Str) ≠ "among" by decide +kernel)) (fun _ => ?_)
          walk_at "g"
          refine ⟨p, _, dx, _, _, rfl, hp3, T.cl_Test, T.n_Test_word, tf_word, ?_⟩
          walk_at "g"
          rw [decide_eq_false (show ¬ At.always.word = Str.ofString "begins" from (show ¬ ("always" : Str) = "begins" by decide +kernel))]
          walk_at "g"
          exact q H3 xx
      | never =>
          refine ⟨p, _, dx, _, _, rfl, hp3, T.cl_Test, T.n_Test_word, tf_word, ?_⟩
          walk_at "g"
          refine g_dec (fun h => absurd h (show ("never" : Str) ≠ "compare" by decide +kernel)) (fun _ => ?_)
          walk_at "g"
          refine ⟨p, _, dx, _, _, rfl, hp3, T.cl_Test, T.n_Test_word, tf_word, ?_⟩
          walk_at "g"
          refine g_dec (fun h => absurd h (show ("never" : Str) ≠ "against" by decide +kernel)) (fun _ => ?_)
          walk_at "g"
          refine ⟨p, _, dx, _, _, rfl, hp3, T.cl_Test, T.n_Test_word, tf_word, ?_⟩
          walk_at "g"
          refine g_dec (fun h => absurd h (show ("never" : Str) ≠ "among" by decide +kernel)) (fun _ => ?_)
          walk_at "g"
          refine ⟨p, _, dx, _, _, rfl, hp3, T.cl_Test, T.n_Test_word, tf_word, ?_⟩
          walk_at "g"
          rw [decide_eq_false (show ¬ At.never.word = Str.ofString "begins" from (show ¬ ("never" : Str) = "begins" by decide +kernel))]
          walk_at "g"
          exact q H3 xx
      | empty c =>
          obtain ⟨k, hkc⟩ := kk c List.mem_cons_self
          have q : ∀ H', XT H H' → Q (.bl (knd cs c).isSome) H' := q
          rw [hkc] at q
          refine ⟨p, _, dx, _, _, rfl, hp3, T.cl_Test, T.n_Test_word, tf_word, ?_⟩
          walk_at "g"
          refine g_dec (fun h => absurd h (show ("empty" : Str) ≠ "compare" by decide +kernel)) (fun _ => ?_)
          walk_at "g"
          refine ⟨p, _, dx, _, _, rfl, hp3, T.cl_Test, T.n_Test_word, tf_word, ?_⟩
          walk_at "g"
          refine g_dec (fun h => absurd h (show ("empty" : Str) ≠ "against" by decide +kernel)) (fun _ => ?_)
          walk_at "g"
          refine ⟨p, _, dx, _, _, rfl, hp3, T.cl_Test, T.n_Test_word, tf_word, ?_⟩
          walk_at "g"
          refine g_dec (fun h => absurd h (show ("empty" : Str) ≠ "among" by decide +kernel)) (fun _ => ?_)
          walk_at "g"
          refine ⟨p, _, dx, _, _, rfl, hp3, T.cl_Test, T.n_Test_word, tf_word, ?_⟩
          walk_at "g"
          rw [decide_eq_false (show ¬ (At.empty c).word = Str.ofString "begins" from (show ¬ ("empty" : Str) = "begins" by decide +kernel))]
          walk_at "g"
          exact q H3 xx
      | begins c z =>
          obtain ⟨k, hkc⟩ := kk c List.mem_cons_self
          have q : ∀ H', XT H H' → Q (.bl (decide (knd cs c = some true))) H' := q
          have e3 : H3 L2 = some (.lst [.str (kS ((knd cs c).getD false))]) := e3
          rw [hkc] at q e3
          have e3 : H3 L2 = some (.lst [.str (kS k)]) := e3
          refine ⟨p, _, dx, _, _, rfl, hp3, T.cl_Test, T.n_Test_word, tf_word, ?_⟩
          walk_at "g"
          refine g_dec (fun h => absurd h (show ("begins" : Str) ≠ "compare" by decide +kernel)) (fun _ => ?_)
          walk_at "g"
          refine ⟨p, _, dx, _, _, rfl, hp3, T.cl_Test, T.n_Test_word, tf_word, ?_⟩
          walk_at "g"
          refine g_dec (fun h => absurd h (show ("begins" : Str) ≠ "against" by decide +kernel)) (fun _ => ?_)
          walk_at "g"
          refine ⟨p, _, dx, _, _, rfl, hp3, T.cl_Test, T.n_Test_word, tf_word, ?_⟩
          walk_at "g"
          refine g_dec (fun h => absurd h (show ("begins" : Str) ≠ "among" by decide +kernel)) (fun _ => ?_)
          walk_at "g"
          refine ⟨p, _, dx, _, _, rfl, hp3, T.cl_Test, T.n_Test_word, tf_word, ?_⟩
          walk_at "g"
          rw [decide_eq_true (show (At.begins c z).word = Str.ofString "begins" from rfl)]
          walk_at "g"
          have h := q H3 xx
          rw [show decide (some k = some true) = decide (kS k = Str.ofString "text") by cases k <;> decide +kernel] at h
          exact h
      | compare c op v =>
          obtain ⟨k, hkc⟩ := kk c List.mem_cons_self
          obtain ⟨_, _, kd, _, hvv⟩ := hw
          have q : ∀ H', XT H H' → Q (.bl (decide (knd cs c = some (kB v)))) H' := q
          have e3 : H3 L2 = some (.lst [.str (kS ((knd cs c).getD false))]) := e3
          rw [hkc] at q e3
          have e3 : H3 L2 = some (.lst [.str (kS k)]) := e3
          refine ⟨p, _, dx, _, _, rfl, hp3, T.cl_Test, T.n_Test_word, tf_word, ?_⟩
          walk_at "g"
          refine g_dec (fun _ => ?_) (fun h => absurd rfl h)
          walk_at "g"
          refine ⟨p, _, dx, _, _, rfl, hp3, T.cl_Test, T.n_Test_terms, tf_terms, ?_⟩
          walk_at "g"
          refine g_ixT (SqT.of hu3) (v := v) (by rfl) ?_
          walk_at "g"
          refine ⟨k, kd, v, rfl, hvv, fun H4 x4 => ?_⟩
          walk_at "g"
          have h := q H4 (xx.trans x4)
          rw [show decide (some k = some (kB v)) = decide (kB v = k) from decide_eq_decide.mpr ⟨fun h => by injection h with h; exact h.symm, fun h => by rw [h]⟩] at h
          exact h
      | among c vs =>
          obtain ⟨k, hkc⟩ := kk c List.mem_cons_self
          obtain ⟨_, _, h8, kd, _, hvv⟩ := hw
          have q : ∀ H', XT H H' → Q (.bl (amF (knd cs c) vs)) H' := q
          have e3 : H3 L2 = some (.lst [.str (kS ((knd cs c).getD false))]) := e3
          rw [hkc] at q e3
          have e3 : H3 L2 = some (.lst [.str (kS k)]) := e3
          have hu3 : H3 u = some (.tup vs) := hu3
          refine ⟨p, _, dx, _, _, rfl, hp3, T.cl_Test, T.n_Test_word, tf_word, ?_⟩
          walk_at "g"
          refine g_dec (fun h => absurd h (show ("among" : Str) ≠ "compare" by decide +kernel)) (fun _ => ?_)
          walk_at "g"
          refine ⟨p, _, dx, _, _, rfl, hp3, T.cl_Test, T.n_Test_word, tf_word, ?_⟩
          walk_at "g"
          refine g_dec (fun h => absurd h (show ("among" : Str) ≠ "against" by decide +kernel)) (fun _ => ?_)
          walk_at "g"
          refine ⟨p, _, dx, _, _, rfl, hp3, T.cl_Test, T.n_Test_word, tf_word, ?_⟩
          walk_at "g"
          refine g_dec (fun _ => ?_) (fun h => absurd rfl h)
          walk_at "g"
          refine ⟨p, _, dx, _, _, rfl, hp3, T.cl_Test, T.n_Test_terms, tf_terms, ?_⟩
          refine ⟨u, rfl, ⟨_, SqT.of hu3⟩, fun L4 hL4 => ?_⟩
          refine lc_new vs (fun i y _ => ∃ v, vs[i]? = some v ∧ y = .bl (decide (kB v = k))) hL4 (fun H4 k4 => fits_t (SqT.of (k4 _ _ hu3))) (by omega) (fun i y Ha Hb _ h _ => h) (fun i y Hh R S hy kh _ hR => ?_) (fun H4 ys x4 hW hyl hys => ?_)
          · walk_at "g"
            refine ⟨rfl, ?_⟩
            walk_at "g"
            refine g_ixL (SqL.of (kh _ _ e3)) (v := .str (kS k)) (show atI [V.str (kS k)] 0 = some (V.str (kS k)) from rfl) ?_
            walk_at "g"
            refine ⟨k, kd, y, rfl, hvv y (List.mem_of_getElem? hy), fun H5 x5 => ?_⟩
            exact hR _ _ x5 ⟨y, hy, rfl⟩
          · obtain rfl : ys = (vs.map fun v => decide (kB v = k)).map V.bl := by
              refine List.ext_getElem (by rw [hyl, List.length_map, List.length_map]) fun i g1 g2 => ?_
              obtain ⟨v, hv, e⟩ := hys i ys[i] (List.getElem?_eq_getElem g1)
              rw [e, List.getElem_map, List.getElem_map]
              obtain ⟨h3, h4⟩ := List.getElem?_eq_some_iff.mp hv
              rw [h4]
            walk_at "g"
            refine ⟨L4, vs.map fun v => decide (kB v = k), rfl, SqL.of hW, ?_⟩
            walk_at "g"
            have h := q H4 (xx.trans x4)
            rw [show amF (some k) vs = (vs.map fun v => decide (kB v = k)).all id by rw [List.all_map]; rfl] at h
            exact h
      | against c op d n =>
          obtain ⟨k, hkc⟩ := kk c List.mem_cons_self
          obtain ⟨k2, hkd⟩ := kk d (List.mem_cons_of_mem _ List.mem_cons_self)
          have q : ∀ H', XT H H' → Q (.bl (agF (knd cs c) (knd cs d) n)) H' := q
          have e3 : H3 L2 = some (.lst [.str (kS ((knd cs c).getD false)), .str (kS ((knd cs d).getD false))]) := e3
          rw [hkc, hkd] at q e3
          have q : ∀ H', XT H H' → Q (.bl (decide (k = k2) && (!k || decide (n = 0)))) H' := q
          have e3 : H3 L2 = some (.lst [.str (kS k), .str (kS k2)]) := e3
          refine ⟨p, _, dx, _, _, rfl, hp3, T.cl_Test, T.n_Test_word, tf_word, ?_⟩
          walk_at "g"
          refine g_dec (fun h => absurd h (show ("against" : Str) ≠ "compare" by decide +kernel)) (fun _ => ?_)
          walk_at "g"
          refine ⟨p, _, dx, _, _, rfl, hp3, T.cl_Test, T.n_Test_word, tf_word, ?_⟩
          walk_at "g"
          refine g_dec (fun _ => ?_) (fun h => absurd rfl h)
          walk_at "g"
          rw [kS_dec]
          by_cases hkk : k = k2
          · rw [decide_eq_true hkk] at q
            rw [decide_eq_true hkk]
            walk_at "g"
            cases k with
            | false =>
              rw [decide_eq_true (show kS false = Str.ofString "number" from rfl)]
              walk_at "g"
              exact q H3 xx
            | true =>
              rw [decide_eq_false (show ¬ kS true = Str.ofString "number" by decide +kernel)]
              walk_at "g"
              refine ⟨p, _, dx, _, _, rfl, hp3, T.cl_Test, T.n_Test_terms, tf_terms, ?_⟩
              walk_at "g"
              refine g_ixT (SqT.of hu3) (v := .int n) (by rfl) ?_
              walk_at "g"
              exact q H3 xx
          · rw [decide_eq_false hkk] at q
            rw [decide_eq_false hkk]
            walk_at "g"
            exact q H3 xx
end
def spIsFitting (C : Addr) : Sp := fun vs H Q _ => ∃ (D p : Addr) (cs : List Col) (kvs : List (Key × V)) (f : Fm) (κ : List (Str × Bool)), vs = [.ref D, .ref p] ∧ H D = some (.dK kvs) ∧ keysP kvs (cs.map (·.1)) ∧ SpotsAt H kvs cs ∧ TestAt C H f.ts p ∧ f.Wf κ ∧ f.ts.depth ≤ 12 ∧ f.ts.size ≤ 24 ∧ ∀ H', XT H H' → Q (.bl (f.fits cs)) H'
def spFits (CS C : Addr) : Sp := fun vs H Q _ => ∃ (x p : Addr) (cs : List Col) (f : Fm) (κ : List (Str × Bool)), vs = [.ref x, .ref p] ∧ ShapeAt CS H cs x ∧ TestAt C H f.ts p ∧ f.Wf κ ∧ f.ts.depth ≤ 12 ∧ f.ts.size ≤ 24 ∧ ∀ H', XT H H' → Q (.bl (f.fits cs)) H'
def spNeedT (CS C CB : Addr) : Sp := fun vs H Q E => ∃ (x : Addr) (y : V) (cs : List Col), vs = [.ref x, y] ∧ ShapeAt CS H cs x ∧
  ((∃ (p : Addr) (f : Fm) (κ : List (Str × Bool)), y = .ref p ∧ TestAt C H f.ts p ∧ f.Wf κ ∧ f.ts.depth ≤ 12 ∧ f.ts.size ≤ 24 ∧ (f.fits cs = true → ∀ H', XT H H' → Q .non H') ∧ (f.fits cs = false → ∀ d H', XT H H' → H' d = some (xwhy "column") → E (.ref CB) (some d) H')) ∨
   ((∃ T, T ∈ kinds7 ∧ TyOf7 H y T) ∧ ∀ d H', XT H H' → H' d = some (xwhy "part") → E (.ref CB) (some d) H'))
section
variable {P : Program} {w : World} {K : PySem.W.Frag} {mg : Str → Option Value} {base : Heap}
theorem ok_is_fitting (T : Txt K mg) : Def P w K mg base 14 "is_fitting" ["spots", "thing"] (spIsFitting (cadr mg "Test")) := by
  obtain ⟨f, fd, h⟩ := T.d_is_fitting
  refine h.def (Fun.okM h.fn sc_is_fitting (fun vs H Q E h => ?_) (fun cdv A outer s H vs Q E hr h => ?_))
  · obtain ⟨D, p, cs, kvs, f, κ, rfl, _⟩ := h
    rfl
  · obtain ⟨D, p, cs, kvs, ff, κ, rfl, hD, hk, hS, hA, hw, hd, hz, q⟩ := h
    obtain ⟨dx, i, f0, u, qs, hp, _⟩ := hA.node
    obtain ⟨as, hAs⟩ := hA.as
    refine ⟨_, (pss_one (ps_ret (pe_and (pe_callB (call_isiG (K := K) rfl) (by rfl) T.h_isinstance (by decide +kernel) (pa_cons (pv 1) (pa_cons (pe_cls rfl T.e_Test) pa_nil))) (pe_one (pe_callB (cr_all rfl) (by rfl) T.h_all (by decide +kernel) (pa_cons (pe_lc (own := [("atom", 2)]) rfl sc_is_fitting.nd (pi_list (pe_me0 (pv 1) T.cl_Test (ok_Test_atoms T) hr)) (blkOk_by (N := N_is_fitting) (sc := defScope S_is_fitting) (by decide +kernel)) (fun _ _ _ _ _ => pg_name (i := 2) sc_is_fitting.nd rfl (Or.inl rfl)) (fun _ _ _ _ _ => pts_nil) (fun _ _ _ _ _ => (pe_def (ok_atom_fits T) hr rfl (pa_cons (pv 0) (pa_cons (pv 2) pa_nil))))) pa_nil)))))), ?_⟩
    walk_at "g"
    refine g_isOwn T.is_Test T.cl_Test hp ?_
    walk_at "g"
    refine ⟨p, dx, _, rfl, hp, tf_atoms, ?_⟩
    walk_at "g"
    refine ⟨p, ff.ts, as, rfl, hAs, hd, by omega, fun l H1 hl x1 e1 => ?_⟩
    have hrow := (hAs.keep x1).row
    rw [ff.ts_atoms] at hrow
    have hlen := hrow.len
    rw [List.length_map, Fm.ats_len] at hlen
    refine ⟨l, rfl, ⟨_, SqL.of e1⟩, fun L hL => ?_⟩
    refine lc_new (as.map V.ref) (fun i y _ => ∃ a, ff.ats[i]? = some a ∧ y = .bl (a.fits cs)) hL (fun H2 k2 => fits_l (SqL.of (k2 _ _ e1))) (by rw [List.length_map]; omega) (fun i y Ha Hb _ h _ => h) (fun i y Hh R S hy kh _ hR => ?_) (fun H2 ys x2 hW hyl hys => ?_)
    · rw [List.getElem?_map] at hy
      obtain ⟨r, hr', rfl⟩ := Option.map_eq_some_iff.mp hy
      obtain ⟨t, ht, hT⟩ := hrow.get hr'
      rw [List.getElem?_map] at ht
      obtain ⟨a, ha, rfl⟩ := Option.map_eq_some_iff.mp ht
      walk_at "g"
      refine ⟨rfl, ?_⟩
      walk_at "g"
      exact ⟨D, r, cs, kvs, a, κ, rfl, kh _ _ (x1 _ _ hD), hk, (hS.keep x1).keep kh, hT.keep kh, Fm.ats_wf hw a (List.mem_of_getElem? ha), fun H3 x3 => hR _ _ x3 ⟨a, ha, rfl⟩⟩
    · obtain rfl : ys = (ff.ats.map fun a => a.fits cs).map V.bl := by
        refine List.ext_getElem (by rw [hyl, List.length_map, List.length_map, List.length_map, hlen, Fm.ats_len]) fun i g1 g2 => ?_
        obtain ⟨a, ha, e⟩ := hys i _ (List.getElem?_eq_getElem g1)
        rw [e, List.getElem_map, List.getElem_map]
        obtain ⟨h3, h4⟩ := List.getElem?_eq_some_iff.mp ha
        rw [h4]
      walk_at "g"
      refine ⟨L, ff.ats.map fun a => a.fits cs, rfl, SqL.of hW, ?_⟩
      walk_at "g"
      have h := q H2 (XT.trans x1 x2)
      rw [show ff.fits cs = (ff.ats.map fun a => a.fits cs).all id by rw [List.all_map]; rfl] at h
      exact h
theorem ok_fits (T : Txt K mg) : Def P w K mg base 15 "fits" ["shape", "test"] (spFits (cadr mg "Shape") (cadr mg "Test")) := by
  obtain ⟨f, fd, h⟩ := T.d_fits
  refine h.def (Fun.okM h.fn sc_fits (fun vs H Q E h => ?_) (fun cdv A outer s H vs Q E hr h => ?_))
  · obtain ⟨x, p, cs, f, κ, rfl, _⟩ := h
    rfl
  · obtain ⟨x, p, cs, ff, κ, rfl, hx, hA, hw, hd, hz, q⟩ := h
    obtain ⟨dx, fs, D, kvs, h1, h2, h3, h4, h5⟩ := hx
    refine ⟨_, (pss_one (ps_ret (pe_def (ok_is_fitting T) hr rfl (pa_cons (pe_fldG (K := K) rfl (pv 0) rfl) (pa_cons (pv 1) pa_nil))))), ?_⟩
    walk_at "g"
    refine ⟨x, _, dx, _, _, rfl, h1, T.cl_Shape, T.n_Shape_spots, h2, ?_⟩
    walk_at "g"
    refine ⟨D, p, cs, kvs, ff, κ, rfl, h3, h4, h5, hA, hw, hd, hz, fun H1 x1 => ?_⟩
    walk_at "g"
    exact q H1 x1
theorem ok_need_test (T : Txt K mg) : DefX P w K mg base 16 "need_test" ["shape", "thing"] (spNeedT (cadr mg "Shape") (cadr mg "Test") (cadr mg "BadTest")) := by
  obtain ⟨f, fd, h⟩ := T.d_need_test
  obtain ⟨fE_BadTest, EB_BadTest⟩ := T.x_BadTest
  refine h.defX (Fun.okMX h.fn sc_need_test (fun vs H Q E h => ?_) (fun cdv A outer s H vs Q E hr h => ?_))
  · obtain ⟨x, y, cs, rfl, _⟩ := h
    rfl
  · obtain ⟨x, y, cs, rfl, hx, h⟩ := h
    refine ⟨_, (pss_cons (ps_if (pt_not (pt_val (pe_callB (call_isiG (K := K) rfl) (by rfl) T.h_isinstance (by decide +kernel) (pa_cons (pv 1) (pa_cons (pe_cls rfl T.e_Test) pa_nil)))))
  (pss_one (ps_raiseBadTest rfl EB_BadTest hr (takes_of rfl rfl rfl rfl) (pa_cons pe_str pa_nil)))
  pss_nil)
  (pss_one (ps_if (pt_not (pt_val (pe_def (ok_fits T) hr rfl (pa_cons (pv 0) (pa_cons (pv 1) pa_nil)))))
  (pss_one (ps_raiseBadTest rfl EB_BadTest hr (takes_of rfl rfl rfl rfl) (pa_cons pe_str pa_nil)))
  pss_nil))), ?_⟩
    rcases h with ⟨p, ff, κ, rfl, hA, hw, hd, hz, hq, hE⟩ | ⟨⟨Tn, hT, ty⟩, hE⟩
    · obtain ⟨dx, i, f0, u, qs, hp, _⟩ := hA.node
      walk_at "g"
      refine g_isOwn T.is_Test T.cl_Test hp ?_
      walk_at "g"
      refine ⟨x, p, cs, ff, κ, rfl, hx, hA, hw, hd, hz, fun H1 x1 => ?_⟩
      cases e : ff.fits cs with
      | true =>
        walk_at "g"
        exact hq e _ x1
      | false =>
        walk_at "g"
        exact ⟨_, rfl, fun d hd => hE e d _ (fun q o h => by rw [upd_ne (ne_of_none (x1 _ _ h) hd)]; exact x1 _ _ h) upd_same⟩
    · walk_at "g"
      refine g_isNot T.is_Test (ty.x K) hT ?_
      walk_at "g"
      exact ⟨_, rfl, fun d hd => hE d _ (fun q o h => by rw [upd_ne (ne_of_none h hd)]; exact h) upd_same⟩
end
section
variable {P : Program} {w : World} {K : PySem.W.Frag} {mg : Str → Option Value} {base : Heap}
theorem ok__law_is_text (T : Txt K mg) : Def P w K mg base 2 "_law_is_text" ["_law_thing_here"] (spThingB isTxtB) := by
  obtain ⟨f, fd, h⟩ := T.d__law_is_text
  refine h.def (Fun.okM h.fn sc__law_is_text (fun vs H Q E h => ?_) (fun cdv A outer s H vs Q E hr h => ?_))
  · obtain ⟨x, rfl, _⟩ := h
    rfl
  · obtain ⟨x, rfl, hx, k⟩ := h
    have k' := k H fun _ _ h => h
    refine ⟨_, (pss_cons (ps_if (pt_not (pt_val (pe_callB (call_isiG (K := K) rfl) (by rfl) T.h_isinstance (by decide +kernel) (pa_cons (pv 0) (pa_cons (pe_bltn (v := .ty "str") (by rfl) T.h_str (by decide +kernel) rfl) pa_nil)))))
  (pss_one (ps_ret pe_bl))
  pss_nil)
  (pss_one (ps_ret (pe_cmpR op_eq (pe_callB (call_lenG (K := K) rfl) (by rfl) T.h_len (by decide +kernel) (pa_cons (pe_lc (own := [("_law_char", 1)]) rfl sc__law_is_text.nd (pi_str (pv 0)) (blkOk_by (N := N__law_is_text) (sc := defScope S__law_is_text) (by decide +kernel)) (fun _ _ _ _ _ => pg_name (i := 1) sc__law_is_text.nd rfl (Or.inl rfl)) (fun _ _ _ _ _ => pts_one (pt_cmpR (op_notInG (K := K) rfl) (pv 1) (pe_def0 (ok__law_chars T) hr rfl) (by rfl))) (fun _ _ _ _ _ => (pv 1))) pa_nil)) pe_int (nomark _))))), ?_⟩
    rcases hx with rfl | ⟨b, rfl⟩ | ⟨i, rfl⟩ | ⟨z, rfl, hz⟩ | ⟨p, rfl, hp⟩
    case inr.inr.inr.inl =>
      walk_at "g"
      refine fun L hL => ?_
      refine lc_text (fun n => !decide (n ∈ signs.cps.toList)) (fun n => .str ⟨#[n]⟩) (by omega) (fun n Hh R S hn hK hR hS => ?_) (fun H2 hK hL2 => ?_)
      · walk_at "g"
        refine ⟨rfl, ?_⟩
        walk_at "g"
        refine ⟨rfl, ?_⟩
        walk_at "g"
        refine g_split (fun h => ?_) (fun h => ?_)
        · walk_at "g"; exact hR h
        · exact hS h
      · walk_at "g"
        rw [none_bad (p := fun n => decide (n ∈ signs.cps.toList))]
        exact k _ fun p o h => hK p o (ne_of_none h hL) h
    all_goals (walk_at "g"; exact k')
end
theorem knd_at {cs : List Col} {c : Str} : ∀ {i : Nat} {x : Col}, cs[i]? = some x → x.1 = c → (∀ (j : Nat) y, j < i → cs[j]? = some y → y.1 ≠ c) → knd cs c = some x.2.1 := by
  induction cs with
  | nil => intro i x h; simp at h
  | cons a r ih =>
    intro i x h e n
    cases i with
    | zero =>
      obtain rfl : a = x := by simpa using h
      unfold knd
      rw [List.find?_cons, decide_eq_true e]
      rfl
    | succ i =>
      have ha : a.1 ≠ c := n 0 a (Nat.succ_pos _) rfl
      have := ih (i := i) (x := x) (by simpa using h) e fun j y hj hy => n (j + 1) y (by omega) (by simpa using hy)
      unfold knd at this ⊢
      rw [List.find?_cons, decide_eq_false ha]
      exact this
def kV : Option Bool → V
  | none => .non
  | some k => .str (kS k)
def spLawKind : Sp := fun vs H Q _ => ∃ (L : Addr) (cs : List Col) (c : Str), vs = [.ref L, .str c] ∧ LAt H L (cs.map ct) ∧ cs.length ≤ 12 ∧ Q (kV (knd cs c)) H
def spLFlag : Sp := fun vs H Q _ => ∃ b, vs = [.bl b, .bl b] ∧ Q (.bl true) H
theorem isV.noI {k : Bool} {z : Str} (h : isV k (.str z)) : isS (.str z) := by
  rcases h with ⟨i, e⟩ | h
  · cases e
  · exact h
section
variable {P : Program} {w : World} {K : PySem.W.Frag} {mg : Str → Option Value} {base : Heap}
theorem ok__law_is_integer (T : Txt K mg) : Def P w K mg base 1 "_law_is_integer" ["_law_thing_here"] (spThingB isIntB) := by
  obtain ⟨f, fd, h⟩ := T.d__law_is_integer
  refine h.def (Fun.okM h.fn sc__law_is_integer (fun vs H Q E h => ?_) (fun cdv A outer s H vs Q E hr h => ?_))
  · obtain ⟨x, rfl, _⟩ := h
    rfl
  · obtain ⟨x, rfl, hx, k⟩ := h
    have k' := k H fun _ _ h => h
    refine ⟨_, (pss_one (ps_ret (pe_and (pe_callB (call_isiG (K := K) rfl) (by rfl) T.h_isinstance (by decide +kernel) (pa_cons (pv 0) (pa_cons (pe_bltn (v := .ty "int") (by rfl) T.h_int (by decide +kernel) rfl) pa_nil))) (pe_one (pe_not (pe_callB (call_isiG (K := K) rfl) (by rfl) T.h_isinstance (by decide +kernel) (pa_cons (pv 0) (pa_cons (pe_bltn (v := .ty "bool") (by rfl) T.h_bool (by decide +kernel) rfl) pa_nil)))))))), ?_⟩
    rcases hx with rfl | ⟨b, rfl⟩ | ⟨i, rfl⟩ | ⟨z, rfl, hz⟩ | ⟨p, rfl, hp⟩ <;> walk_at "g" <;> exact k'
theorem ok__law_is_value (T : Txt K mg) : Def P w K mg base 3 "_law_is_value" ["_law_kind_here", "_law_thing_here"] spIsVal := by
  obtain ⟨f, fd, h⟩ := T.d__law_is_value
  refine h.def (Fun.okM h.fn sc__law_is_value (fun vs H Q E h => ?_) (fun cdv A outer s H vs Q E hr h => ?_))
  · obtain ⟨k, k', v, rfl, _⟩ := h
    rfl
  · obtain ⟨k, k', v, rfl, hv, q⟩ := h
    refine ⟨_, (pss_cons (ps_if (pt_cmpR op_eq (pv 0) pe_str (nomark _))
  (pss_one (ps_ret (pe_def (ok__law_is_integer T) hr rfl (pa_cons (pv 1) pa_nil))))
  pss_nil)
  (pss_one (ps_ret (pe_def (ok__law_is_text T) hr rfl (pa_cons (pv 1) pa_nil))))), ?_⟩
    walk_at "g"
    cases k with
    | false =>
      refine g_dec (fun _ => ?_) (fun h => absurd rfl h)
      walk_at "g"
      refine ⟨_, rfl, hv.thing, fun H1 x1 => ?_⟩
      walk_at "g"
      have := q H1 x1
      rcases hv with ⟨i, rfl⟩ | ⟨z, rfl, hz⟩
      · exact this
      · exact this
    | true =>
      refine g_dec (fun h => absurd h (show ("text" : Str) ≠ "number" by decide +kernel)) (fun _ => ?_)
      walk_at "g"
      refine ⟨_, rfl, hv.thing, fun H1 x1 => ?_⟩
      walk_at "g"
      have := q H1 x1
      rcases hv with ⟨i, rfl⟩ | ⟨z, rfl, hz⟩
      · exact this
      · have e : isTxtB (.str z) = true := isS.txt ⟨z, rfl, hz⟩
        rw [e]
        exact this
theorem ok__law_flag (T : Txt K mg) : Def P w K mg base 1 "_law_flag" ["_law_thing_here", "_law_due"] spLFlag := by
  obtain ⟨f, fd, h⟩ := T.d__law_flag
  refine h.def (Fun.okM h.fn sc__law_flag (fun vs H Q E h => ?_) (fun cdv A outer s H vs Q E hr h => ?_))
  · obtain ⟨b, rfl, _⟩ := h
    rfl
  · obtain ⟨b, rfl, k⟩ := h
    refine ⟨_, (pss_one (ps_ret (pe_and (pe_callB (call_isiG (K := K) rfl) (by rfl) T.h_isinstance (by decide +kernel) (pa_cons (pv 0) (pa_cons (pe_bltn (v := .ty "bool") (by rfl) T.h_bool (by decide +kernel) rfl) pa_nil))) (pe_one (pe_cmpR op_eq (pv 0) (pe_callTy call_boolG (by rfl) T.h_bool (by decide +kernel) (pa_cons (pv 1) pa_nil)) (nomark _)))))), ?_⟩
    walk_at "g"
    rw [decide_eq_true (rfl : b = b)]
    exact k
theorem ok__law_op (T : Txt K mg) : Def P w K mg base 2 "_law_op" ["_law_draw"] (fun vs H Q _ => ∃ d sc ns, vs = [.ref d] ∧ Dr H d sc ns ∧ ∀ op H', op ∈ opsL → DK d sc ns H H' → Q (.str op) H') := by
  obtain ⟨f, fd, h⟩ := T.d__law_op
  refine h.def (Fun.okM h.fn sc__law_op (fun vs H Q E h => ?_) (fun cdv A outer s H vs Q E hr h => ?_))
  · obtain ⟨d, sc, ns, rfl, _⟩ := h
    rfl
  · obtain ⟨d, sc, ns, rfl, hD, k⟩ := h
    refine ⟨_, (pss_one (ps_ret (pe_ix (ix_seqG (K := K) rfl) (pe_lst (pa_cons pe_str (pa_cons pe_str (pa_cons pe_str (pa_cons pe_str (pa_cons pe_str (pa_cons pe_str pa_nil))))))) (pe_def (ok__law_take T) hr rfl (pa_cons (pv 0) (pa_cons pe_int pa_nil))) (fun _ _ => rfl)))), ?_⟩
    walk_at "g"
    refine ⟨by show 6 ≤ sizeLine; decide, fun p hp => ?_⟩
    have B2 := (DK.refl hD).new (o := .lst (opsL.map V.str)) hp
    have hp2 : (upd H p (.lst (opsL.map V.str))) p = some (.lst (opsL.map V.str)) := upd_same
    have hpd := (hD.ne hp).1
    have e0 : upd H p (.lst [.str (Str.ofString "<"), .str (Str.ofString "<="), .str (Str.ofString "=="), .str (Str.ofString "!="), .str (Str.ofString ">"), .str (Str.ofString ">=")]) = upd H p (.lst (opsL.map V.str)) := rfl
    rw [e0]
    generalize upd H p (.lst (opsL.map V.str)) = H2 at B2 hp2
    walk_at "g"
    refine ⟨_, _, _, _, rfl, B2.D, by decide, by decide +kernel, fun r2 H3 r20 r21 D3 K3 => ?_⟩
    obtain ⟨op, hop, eop⟩ := atI_strs (ws := opsL) r20 (by show r2 < 6; exact r21)
    refine g_ixL (SqL.of (K3 _ _ hpd hp2)) eop ?_
    walk_at "g"
    exact k op _ hop (B2.step D3 K3)
theorem ok__law_kind (T : Txt K mg) : Def P w K mg base 1 "_law_kind" ["_law_columns_here", "_law_name_here"] spLawKind := by
  obtain ⟨f, fd, h⟩ := T.d__law_kind
  refine h.def (Fun.okM h.fn sc__law_kind (fun vs H Q E h => ?_) (fun cdv A outer s H vs Q E hr h => ?_))
  · obtain ⟨L, cs, c, rfl, _⟩ := h
    rfl
  · obtain ⟨L, cs, c, rfl, hC, hl, k⟩ := h
    obtain ⟨qs, hL, hlen, hcol⟩ := hC
    rw [List.length_map] at hlen
    refine ⟨_, (pss_cons (ps_for PassesOwn.never rfl (pi_list (pv 0)) (pg_name (i := 2) sc__law_kind.nd rfl (Or.inl rfl))
  (pss_one (ps_if (PW.pt (pw_and (pt_val (pe_callB (call_isiG (K := K) rfl) (by rfl) T.h_isinstance (by decide +kernel) (pa_cons (pv 1) (pa_cons (pe_bltn (v := .ty "str") (by rfl) T.h_str (by decide +kernel) rfl) pa_nil)))) (pw_and1 (pt_cmpR op_eq (pe_ix (ix_seqG (K := K) rfl) (pv 2) pe_int (fun _ _ => rfl)) (pv 1) (nomark _)))))
  (pss_one (ps_ret (pe_ix (ix_seqG (K := K) rfl) (pv 2) pe_int (fun _ _ => rfl))))
  pss_nil)))
  (pss_one (ps_ret pe_non))), ?_⟩
    walk_at "g"
    refine ⟨L, rfl, ⟨_, SqL.of hL⟩, for_listA (xs := qs.map V.ref) (fun j σ' H' => (∃ v, σ' = [some (.ref L), some (.str c), v]) ∧ H' = H ∧ ∀ (i : Nat) y, i < j → cs[i]? = some y → y.1 ≠ c) ⟨⟨none, rfl⟩, rfl, fun i y h => absurd h (Nat.not_lt_zero _)⟩ (fun _ _ _ _ e => SqL.of (by rw [e.2.1]; exact hL)) ?_ ?_⟩
    · rintro j x σ' H2 D' hj ⟨⟨v, rfl⟩, rfl, hn⟩ hnx hct hbk hrt
      rw [List.getElem?_map] at hj
      obtain ⟨q, hq, rfl⟩ := Option.map_eq_some_iff.mp hj
      obtain ⟨y, hy⟩ : ∃ y, cs[j]? = some y := ⟨_, List.getElem?_eq_getElem (by have := (List.getElem?_eq_some_iff.mp hq).1; omega)⟩
      have hc := hcol j q (ct y) hq (by rw [List.getElem?_map, hy]; rfl)
      refine g_name ?_
      walk_at "g"
      refine g_ixT (SqT.of hc) (v := .str y.1) (show atI (ct y) 0 = some (.str y.1) from rfl) ?_
      walk_at "g"
      refine g_dec (fun e => ?_) (fun e => ?_)
      · walk_at "g"
        refine g_ixT (SqT.of hc) (v := .str (kS y.2.1)) (show atI (ct y) 1 = some (.str (kS y.2.1)) from rfl) ?_
        walk_at "g"
        rw [hrt]
        rw [knd_at hy e hn] at k
        exact k
      · walk_at "g"
        refine hnx _ _ ⟨⟨_, rfl⟩, rfl, fun i z hi hz => ?_⟩
        rcases Nat.lt_or_ge i j with h | h
        · exact hn i z h hz
        · obtain rfl : i = j := by omega
          rw [hy] at hz
          injection hz with hz
          rw [← hz]; exact e
    · rintro σ' H2 ⟨⟨v, rfl⟩, rfl, hn⟩
      walk_at "g"
      rw [knd_none fun h => by
        obtain ⟨j, x, hj, hx, _⟩ := knd_some h
        exact hn j x (by rw [List.length_map, hlen]; exact (List.getElem?_eq_some_iff.mp hj).1) hj hx] at k
      exact k
end
theorem RF.get {R : Fm → Addr → Prop} : ∀ {ts : List Fm} {qs : List Addr} {i : Nat} {q : Addr}, RF R ts qs → qs[i]? = some q → ∃ t, ts[i]? = some t ∧ R t q
  | _, _, i, _, .nil, h => by simp at h
  | _, _, 0, _, .cons a r, h => by
    simp at h
    subst h
    exact ⟨_, rfl, a⟩
  | _, _, i + 1, _, .cons a r, h => by
    simp at h
    obtain ⟨t, e, x⟩ := r.get h
    exact ⟨t, by simpa using e, x⟩
theorem XT.late {H H1 : Hp} {t : Addr} {o : HO} (k : XT H H1) (h : H t = none) : XT H (upd H1 t o) := fun q u e => by rw [upd_ne (ne_of_none e h)]; exact k q u e
theorem lc_filt2 {σ : L2.St} {g : TG} {tt : TT} {te : TE} {vs : List Nat} {J : It} {H1 : Hp} {D : Addr} {Qd : Hp → Prop} (xs : List V) (f : V → Bool) (hD : H1 D = none) (hJ : ∀ H, XT H1 H → Fits J xs H) (hlen : xs.length ≤ 1000000)
    (hs : ∀ x Hh (R : V → Hp → Prop) (S : Hp → Prop), x ∈ xs → XT H1 Hh → (f x = true → ∀ H', XT Hh H' → R x H') → (f x = false → ∀ H', XT Hh H' → S H') →
      g x (wipe σ vs) Hh fun σ2 H2 => wipe σ2 vs = wipe σ vs ∧ tt σ2 H2 fun b H3 => if b = true then te σ2 H3 R else S H3)
    (hd : ∀ H, XT H1 H → H D = some (.lst (xs.filter f)) → Qd H) :
    ∃ W : Nat → Nat → Hp → Prop, (∃ m, W 0 m (upd H1 D (.lst []))) ∧ ∀ i m H, W i m H →
      (J.stop i H ∧ Qd H) ∨ (J.go i H ∧ ∃ Nx : Hp → Prop, (∀ H', Nx H' → ∃ m', m' < m ∧ W (i + 1) m' H') ∧ ∀ x H', J.yld i H x H' → g x (wipe σ vs) H' fun σ2 H2 => wipe σ2 vs = wipe σ vs ∧ tt σ2 H2 fun b H3 =>
        if b = true then te σ2 H3 fun y H4 => ∃ acc, H4 D = some (.lst acc) ∧ acc.length < sizeLine ∧ Nx (upd H4 D (.lst (acc ++ [y]))) else Nx H3) := by
  refine lc_inv xs (fun i acc H => acc = (xs.take i).filter f ∧ XT H1 H ∧ H D = some (.lst acc)) ⟨by rw [List.take_zero]; rfl, fun q o h => by rw [upd_ne (ne_of_none h hD)]; exact h, upd_same⟩ (fun _ _ H p => hJ H p.2.1) hlen (fun i acc H p => ⟨p.2.2, ?_⟩) ?_ ?_
  · rw [p.1]
    have h1 := List.length_filter_le f (xs.take i)
    rw [List.length_take] at h1
    omega
  · rintro i acc x Hh R S hx ⟨e, k, d⟩ hR hS
    have e1 : xs.take (i + 1) = xs.take i ++ [x] := by rw [List.take_succ, hx]; rfl
    refine hs x Hh R S (List.mem_of_getElem? hx) k (fun hf H' x' => hR x H' (x' _ _ d) ⟨by rw [e1, List.filter_append, e, List.filter_cons, if_pos hf]; rfl, (XT.trans k x').late hD, upd_same⟩) (fun hf H' x' => hS H' ⟨by rw [e1, List.filter_append, e, List.filter_cons, if_neg (by rw [hf]; exact Bool.false_ne_true)]; simp, XT.trans k x', x' _ _ d⟩)
  · rintro acc H ⟨e, k, d⟩
    rw [List.take_length] at e
    exact hd H k (by rw [d, e])
def spLawFits : Sp := fun vs H Q _ => ∃ (L q : Addr) (cs : List Col) (f : Fm) (κ : List (Str × Bool)), vs = [.ref L, .ref q] ∧ LAt H L (cs.map ct) ∧ cs.length ≤ 12 ∧ FormAt H f q ∧ f.Wf κ ∧ f.ts.depth ≤ 12 ∧ f.ts.size ≤ 24 ∧ ∀ H', XT H H' → Q (.bl (f.fits cs)) H'
section
variable {P : Program} {w : World} {K : PySem.W.Frag} {mg : Str → Option Value} {base : Heap}
theorem ok__law_fits (T : Txt K mg) : Def P w K mg base 14 "_law_fits" ["_law_columns_here", "_law_form_here"] spLawFits := by
  obtain ⟨f, fd, h⟩ := T.d__law_fits
  refine h.def (Fun.okM h.fn sc__law_fits (fun vs H Q E h => ?_) (fun cdv A outer s H vs Q E hr h => ?_))
  · obtain ⟨L, q, cs, f, κ, rfl, _⟩ := h
    rfl
  · obtain ⟨L, q, cs, ff, κ, rfl, hC, hl, hF, hw, hd, hz, k⟩ := h
    refine ⟨_, (pss_cons (ps_for PassesOwn.never rfl (pi_list (pe_def (ok__law_atoms T) hr rfl (pa_cons (pv 1) pa_nil))) (pg_name (i := 2) sc__law_fits.nd rfl (Or.inl rfl))
  (pss_cons (ps_set (i := 3) sc__law_fits.nd rfl (Or.inr rfl) (pe_lst pa_nil))
  (pss_cons (ps_for PassesOwn.never rfl (pi_list (pe_def (ok__law_atom_names T) hr rfl (pa_cons (pv 2) pa_nil))) (pg_name (i := 4) sc__law_fits.nd rfl (Or.inl rfl))
  (pss_cons (ps_if (pt_cmpR op_isNG (pe_def (ok__law_kind T) hr rfl (pa_cons (pv 0) (pa_cons (pv 4) pa_nil))) pe_non (nomark _))
  (pss_one (ps_ret pe_bl))
  pss_nil)
  (pss_one (ps_expr (pe_bm PySem.F.plainAttrs_list PySem.F.slot_list_append PySem.F.type_list_append mt_append (pv 3) (pa_cons (pe_def (ok__law_kind T) hr rfl (pa_cons (pv 0) (pa_cons (pv 4) pa_nil))) pa_nil))))))
  (pss_cons (ps_if (PW.pt (pw_and (pt_cmpR op_eq (pe_ix (ix_seqG (K := K) rfl) (pv 2) pe_int (fun _ _ => rfl)) pe_str (nomark _)) (pw_and1 (pt_not (pt_val (pe_def (ok__law_is_value T) hr rfl (pa_cons (pe_ix (ix_seqG (K := K) rfl) (pv 3) pe_int (fun _ _ => rfl)) (pa_cons (pe_ix (ix_seqG (K := K) rfl) (pv 2) pe_int (fun _ _ => rfl)) pa_nil))))))))
  (pss_one (ps_ret pe_bl))
  pss_nil)
  (pss_cons (ps_if (PW.pt (pw_and (pt_cmpR op_eq (pe_ix (ix_seqG (K := K) rfl) (pv 2) pe_int (fun _ _ => rfl)) pe_str (nomark _)) (pw_and1 (pt_cmpR op_gtG (pe_callB (call_lenG (K := K) rfl) (by rfl) T.h_len (by decide +kernel) (pa_cons (pe_lc (own := [("_law_value_here", 5)]) rfl sc__law_fits.nd (pi_list (pe_ix (ix_seqG (K := K) rfl) (pv 2) pe_int (fun _ _ => rfl))) (blkOk_by (N := N__law_fits) (sc := defScope S__law_fits) (by decide +kernel)) (fun _ _ _ _ _ => pg_name (i := 5) sc__law_fits.nd rfl (Or.inl rfl)) (fun _ _ _ _ _ => pts_one (pt_not (pt_val (pe_def (ok__law_is_value T) hr rfl (pa_cons (pe_ix (ix_seqG (K := K) rfl) (pv 3) pe_int (fun _ _ => rfl)) (pa_cons (pv 5) pa_nil)))))) (fun _ _ _ _ _ => (pv 5))) pa_nil)) pe_int (nomark _)))))
  (pss_one (ps_ret pe_bl))
  pss_nil)
  (pss_cons (ps_if (PW.pt (pw_and (pt_cmpR op_eq (pe_ix (ix_seqG (K := K) rfl) (pv 2) pe_int (fun _ _ => rfl)) pe_str (nomark _)) (pw_and1 (pt_cmpR op_ne (pe_ix (ix_seqG (K := K) rfl) (pv 3) pe_int (fun _ _ => rfl)) pe_str (nomark _)))))
  (pss_one (ps_ret pe_bl))
  pss_nil)
  (pss_one (ps_if (PW.pt (pw_and (pt_cmpR op_eq (pe_ix (ix_seqG (K := K) rfl) (pv 2) pe_int (fun _ _ => rfl)) pe_str (nomark _)) (pw_and1 (PW.pt (pw_or (pt_cmpR op_ne (pe_ix (ix_seqG (K := K) rfl) (pv 3) pe_int (fun _ _ => rfl)) (pe_ix (ix_seqG (K := K) rfl) (pv 3) pe_int (fun _ _ => rfl)) (nomark _)) (pw_or1 (PW.pt (pw_and (pt_cmpR op_eq (pe_ix (ix_seqG (K := K) rfl) (pv 3) pe_int (fun _ _ => rfl)) pe_str (nomark _)) (pw_and1 (pt_cmpR op_ne (pe_ix (ix_seqG (K := K) rfl) (pv 2) pe_int (fun _ _ => rfl)) pe_int (nomark _)))))))))))
  (pss_one (ps_ret pe_bl))
  pss_nil))))))))
  (pss_one (ps_ret pe_bl))), ?_⟩
    walk_at "g"
    refine ⟨q, ff, H, rfl, fun _ _ h => h, hF, ⟨κ, hw⟩, hd, hz, fun l as H1 hl1 x1 e1 R1 => ?_⟩
    have hlen := R1.len
    rw [List.length_map, Fm.ats_len] at hlen
    refine ⟨l, rfl, ⟨_, SqL.of e1⟩, ?_⟩
    refine for_listA (xs := as.map V.ref) (fun j σ' H' => (∃ s2 s3 s4 s5, σ' = [some (.ref L), some (.ref q), s2, s3, s4, s5]) ∧ XT H1 H' ∧ ∀ a ∈ ff.ats.take j, a.fits cs = true) ⟨⟨_, _, _, _, rfl⟩, XT.refl, fun a h => by rw [List.take_zero] at h; cases h⟩ (fun _ _ _ _ e => SqL.of (e.2.1 _ _ e1)) ?_ ?_
    · rintro j x σ' H3 D' hj ⟨⟨s2, s3, s4, s5, rfl⟩, x3, hfit⟩ hnx hct hbk hrt
      rw [List.getElem?_map] at hj
      obtain ⟨p, hp, rfl⟩ := Option.map_eq_some_iff.mp hj
      obtain ⟨t, ht, A⟩ := R1.get hp
      rw [List.getElem?_map] at ht
      obtain ⟨a, ha, rfl⟩ := Option.map_eq_some_iff.mp ht
      have A0 : AtomForm H p a := A
      have ham := List.mem_of_getElem? ha
      have aw := Fm.ats_wf hw a ham
      have yes : a.fits cs = true → ∀ b ∈ ff.ats.take (j + 1), b.fits cs = true := fun h b hb => by
        rw [List.take_succ, ha] at hb
        rcases List.mem_append.mp hb with hb | hb
        · exact hfit b hb
        · obtain rfl : b = a := by simpa using hb
          exact h
      have no : a.fits cs = false → ff.fits cs = false := fun h => List.all_eq_false.mpr ⟨a, ham, by rw [h]; exact Bool.false_ne_true⟩
      clear hfit ht A R1 hj
      walk_at "g"
      refine ⟨Nat.zero_le _, fun Dk hDk => ?_⟩
      have hDk1 : H1 Dk = none := by
        cases e : H1 Dk with
        | none => rfl
        | some o => rw [x3 _ _ e] at hDk; cases hDk
      have x4 := x3.new (o := .lst []) hDk
      have e4 : (upd H3 Dk (.lst [])) Dk = some (.lst []) := upd_same
      generalize upd H3 Dk (.lst []) = H4 at x4 e4
      walk_at "g"
      refine ⟨p, a, rfl, A0.keep fun q o h => x4 _ _ (x1 _ _ h), fun m hm => ?_⟩
      have x5 := x4.new (o := .lst (a.flds.map V.str)) hm
      have e5 : (upd H4 m (.lst (a.flds.map V.str))) Dk = some (.lst []) := by rw [upd_ne (ne_of_none e4 hm)]; exact e4
      have em : (upd H4 m (.lst (a.flds.map V.str))) m = some (.lst (a.flds.map V.str)) := upd_same
      have hmD : m ≠ Dk := Ne.symm (ne_of_none e4 hm)
      generalize upd H4 m (.lst (a.flds.map V.str)) = H5 at x5 e5 em
      clear e4 x4
      have hfl := At.flds_len a
      refine ⟨m, rfl, ⟨_, SqL.of em⟩, ?_⟩
      refine for_listA (xs := a.flds.map V.str) (fun i σ' H' => (∃ s4, σ' = [some (.ref L), some (.ref q), some (.ref p), some (.ref Dk), s4, s5]) ∧ XT H1 H' ∧ H' m = some (.lst (a.flds.map V.str)) ∧ H' Dk = some (.lst ((a.flds.take i).map fun c => kV (knd cs c))) ∧ ∀ c ∈ a.flds.take i, knd cs c ≠ none) ⟨⟨_, rfl⟩, x5, em, by rw [List.take_zero]; exact e5, fun c h => by rw [List.take_zero] at h; cases h⟩ (fun _ _ _ _ e => SqL.of e.2.2.1) ?_ ?_
      · rintro i y σ' H6 D5' hi ⟨⟨s4, rfl⟩, x6, em6, e6, hk6⟩ hnx5 hct5 hbk5 hrt5
        rw [List.getElem?_map] at hi
        obtain ⟨c, hc, rfl⟩ := Option.map_eq_some_iff.mp hi
        have et : a.flds.take (i + 1) = a.flds.take i ++ [c] := by rw [List.take_succ, hc]; rfl
        have hC6 := hC.keep (XT.trans x1 x6)
        walk_at "g"
        refine ⟨L, cs, c, rfl, hC6, hl, ?_⟩
        cases hkc : knd cs c with
        | none =>
          walk_at "g"
          rw [hrt5, hrt]
          have h := k H6 (XT.trans x1 x6)
          rw [no (At.fits_no (List.mem_of_getElem? hc) fun h => by
            obtain ⟨_, _, _, _, e⟩ := knd_some h
            rw [hkc] at e; cases e)] at h
          exact h
        | some kd =>
          walk_at "g"
          rw [decide_eq_false (show ¬ kV (some kd) = V.non from fun h => nomatch h)]
          walk_at "g"
          refine ⟨L, cs, c, rfl, hC6, hl, ?_⟩
          rw [hkc]
          walk_at "g"
          refine g_app e6 (by rw [List.length_map, List.length_take]; omega) ?_
          refine hnx5 _ _ ⟨⟨_, rfl⟩, x6.late hDk1, by rw [upd_ne hmD]; exact em6, by rw [upd_same, et, List.map_append, List.map_singleton, hkc], fun d hd => ?_⟩
          rw [et] at hd
          rcases List.mem_append.mp hd with hd | hd
          · exact hk6 d hd
          · rw [List.mem_singleton.mp hd, hkc]; exact fun h => nomatch h
      · rintro σ' H6 ⟨⟨s4, rfl⟩, x6, em6, e6, hk6⟩
        rw [List.length_map, List.take_length] at e6 hk6
        have A := A0.keep (H' := H6) fun q o h => x6 _ _ (x1 _ _ h)
        have kk : ∀ c ∈ a.flds, ∃ kd, knd cs c = some kd := fun c hc => by
          cases e : knd cs c with
          | none => exact absurd e (hk6 c hc)
          | some kd => exact ⟨kd, rfl⟩
        have xx : XT H H6 := XT.trans x1 x6
        clear em6 hk6 em e5
        walk_at "g"
        cases a with
        | always =>
          have hA : H6 p = some (.tup [.str "always"]) := A
          refine g_ixT (SqT.of hA) (v := .str "always") (by rfl) ?_
          walk_at "g"
          refine g_dec (fun h => absurd h (show ("always" : Str) ≠ "compare" by decide +kernel)) (fun _ => ?_)
          walk_at "g"
          refine g_ixT (SqT.of hA) (v := .str "always") (by rfl) ?_
          walk_at "g"
          refine g_dec (fun h => absurd h (show ("always" : Str) ≠ "among" by decide +kernel)) (fun _ => ?_)
          walk_at "g"
          refine g_ixT (SqT.of hA) (v := .str "always") (by rfl) ?_
          walk_at "g"
          refine g_dec (fun h => absurd h (show ("always" : Str) ≠ "begins" by decide +kernel)) (fun _ => ?_)
          walk_at "g"
          refine g_ixT (SqT.of hA) (v := .str "always") (by rfl) ?_
          walk_at "g"
          refine g_dec (fun h => absurd h (show ("always" : Str) ≠ "against" by decide +kernel)) (fun _ => ?_)
          walk_at "g"
          exact hnx _ _ ⟨⟨_, _, _, _, rfl⟩, x6, yes rfl⟩
        | never =>
          have hA : H6 p = some (.tup [.str "never"]) := A
          refine g_ixT (SqT.of hA) (v := .str "never") (by rfl) ?_
          walk_at "g"
          refine g_dec (fun h => absurd h (show ("never" : Str) ≠ "compare" by decide +kernel)) (fun _ => ?_)
          walk_at "g"
          refine g_ixT (SqT.of hA) (v := .str "never") (by rfl) ?_
          walk_at "g"
          refine g_dec (fun h => absurd h (show ("never" : Str) ≠ "among" by decide +kernel)) (fun _ => ?_)
          walk_at "g"
          refine g_ixT (SqT.of hA) (v := .str "never") (by rfl) ?_
          walk_at "g"
          refine g_dec (fun h => absurd h (show ("never" : Str) ≠ "begins" by decide +kernel)) (fun _ => ?_)
          walk_at "g"
          refine g_ixT (SqT.of hA) (v := .str "never") (by rfl) ?_
          walk_at "g"
          refine g_dec (fun h => absurd h (show ("never" : Str) ≠ "against" by decide +kernel)) (fun _ => ?_)
          walk_at "g"
          exact hnx _ _ ⟨⟨_, _, _, _, rfl⟩, x6, yes rfl⟩
        | empty c =>
          have hA : H6 p = some (.tup [.str "empty", .str c]) := A
          obtain ⟨kd, hkc⟩ := kk c List.mem_cons_self
          refine g_ixT (SqT.of hA) (v := .str "empty") (by rfl) ?_
          walk_at "g"
          refine g_dec (fun h => absurd h (show ("empty" : Str) ≠ "compare" by decide +kernel)) (fun _ => ?_)
          walk_at "g"
          refine g_ixT (SqT.of hA) (v := .str "empty") (by rfl) ?_
          walk_at "g"
          refine g_dec (fun h => absurd h (show ("empty" : Str) ≠ "among" by decide +kernel)) (fun _ => ?_)
          walk_at "g"
          refine g_ixT (SqT.of hA) (v := .str "empty") (by rfl) ?_
          walk_at "g"
          refine g_dec (fun h => absurd h (show ("empty" : Str) ≠ "begins" by decide +kernel)) (fun _ => ?_)
          walk_at "g"
          refine g_ixT (SqT.of hA) (v := .str "empty") (by rfl) ?_
          walk_at "g"
          refine g_dec (fun h => absurd h (show ("empty" : Str) ≠ "against" by decide +kernel)) (fun _ => ?_)
          walk_at "g"
          exact hnx _ _ ⟨⟨_, _, _, _, rfl⟩, x6, yes (by show (knd cs c).isSome = true; rw [hkc]; rfl)⟩
        | begins c z =>
          have hA : H6 p = some (.tup [.str "begins", .str c, .str z]) := A
          obtain ⟨kd, hkc⟩ := kk c List.mem_cons_self
          have e6 : H6 Dk = some (.lst [kV (knd cs c)]) := e6
          rw [hkc] at e6
          have e6 : H6 Dk = some (.lst [.str (kS kd)]) := e6
          refine g_ixT (SqT.of hA) (v := .str "begins") (by rfl) ?_
          walk_at "g"
          refine g_dec (fun h => absurd h (show ("begins" : Str) ≠ "compare" by decide +kernel)) (fun _ => ?_)
          walk_at "g"
          refine g_ixT (SqT.of hA) (v := .str "begins") (by rfl) ?_
          walk_at "g"
          refine g_dec (fun h => absurd h (show ("begins" : Str) ≠ "among" by decide +kernel)) (fun _ => ?_)
          walk_at "g"
          refine g_ixT (SqT.of hA) (v := .str "begins") (by rfl) ?_
          walk_at "g"
          refine g_dec (fun _ => ?_) (fun h => absurd rfl h)
          walk_at "g"
          cases kd with
          | false =>
            refine g_ndec (fun _ => ?_) (fun h => absurd h (show ("number" : Str) ≠ "text" by decide +kernel))
            walk_at "g"
            rw [hrt]
            have h := k H6 xx
            rw [no (by show decide (knd cs c = some true) = false; rw [hkc]; rfl)] at h
            exact h
          | true =>
            refine g_ndec (fun h => absurd rfl h) (fun _ => ?_)
            walk_at "g"
            refine g_ixT (SqT.of hA) (v := .str "begins") (by rfl) ?_
            walk_at "g"
            refine g_dec (fun h => absurd h (show ("begins" : Str) ≠ "against" by decide +kernel)) (fun _ => ?_)
            walk_at "g"
            exact hnx _ _ ⟨⟨_, _, _, _, rfl⟩, x6, yes (by show decide (knd cs c = some true) = true; rw [hkc]; rfl)⟩
        | compare c op v =>
          have hA : H6 p = some (.tup [.str "compare", .str c, .str op, v]) := A
          obtain ⟨kd, hkc⟩ := kk c List.mem_cons_self
          obtain ⟨_, _, k2, _, hvv⟩ := aw
          have e6 : H6 Dk = some (.lst [kV (knd cs c)]) := e6
          rw [hkc] at e6
          have e6 : H6 Dk = some (.lst [.str (kS kd)]) := e6
          have fe : (At.compare c op v).fits cs = decide (kB v = kd) := by
            show decide (knd cs c = some (kB v)) = _
            rw [hkc]
            exact decide_eq_decide.mpr ⟨fun h => by injection h with h; exact h.symm, fun h => by rw [h]⟩
          refine g_ixT (SqT.of hA) (v := .str "compare") (by rfl) ?_
          walk_at "g"
          refine g_dec (fun _ => ?_) (fun h => absurd rfl h)
          walk_at "g"
          refine g_ixT (SqT.of hA) (v := v) (by rfl) ?_
          walk_at "g"
          refine ⟨kd, k2, v, rfl, hvv, fun H7 x7 => ?_⟩
          rw [← fe]
          have hA := x7 _ _ hA
          cases e : (At.compare c op v).fits cs with
          | false =>
            walk_at "g"
            rw [hrt]
            have h := k H7 (XT.trans xx x7)
            rw [no e] at h
            exact h
          | true =>
            walk_at "g"
            refine g_ixT (SqT.of hA) (v := .str "compare") (by rfl) ?_
            walk_at "g"
            refine g_dec (fun h => absurd h (show ("compare" : Str) ≠ "among" by decide +kernel)) (fun _ => ?_)
            walk_at "g"
            refine g_ixT (SqT.of hA) (v := .str "compare") (by rfl) ?_
            walk_at "g"
            refine g_dec (fun h => absurd h (show ("compare" : Str) ≠ "begins" by decide +kernel)) (fun _ => ?_)
            walk_at "g"
            refine g_ixT (SqT.of hA) (v := .str "compare") (by rfl) ?_
            walk_at "g"
            refine g_dec (fun h => absurd h (show ("compare" : Str) ≠ "against" by decide +kernel)) (fun _ => ?_)
            walk_at "g"
            exact hnx _ _ ⟨⟨_, _, _, _, rfl⟩, XT.trans x6 x7, yes e⟩
        | among c vs =>
          obtain ⟨lv, k0, hA, hlv, hne, _⟩ := A
          obtain ⟨kd, hkc⟩ := kk c List.mem_cons_self
          obtain ⟨_, _, h8, k2, _, hvv⟩ := aw
          have e6 : H6 Dk = some (.lst [kV (knd cs c)]) := e6
          rw [hkc] at e6
          have e6 : H6 Dk = some (.lst [.str (kS kd)]) := e6
          have fe : (At.among c vs).fits cs = vs.all fun v => decide (kB v = kd) := by
            show amF (knd cs c) vs = _
            rw [hkc]; rfl
          refine g_ixT (SqT.of hA) (v := .str "among") (by rfl) ?_
          walk_at "g"
          refine g_dec (fun h => absurd h (show ("among" : Str) ≠ "compare" by decide +kernel)) (fun _ => ?_)
          walk_at "g"
          refine g_ixT (SqT.of hA) (v := .str "among") (by rfl) ?_
          walk_at "g"
          refine g_dec (fun _ => ?_) (fun h => absurd rfl h)
          walk_at "g"
          refine g_ixT (SqT.of hA) (v := .ref lv) (by rfl) ?_
          refine ⟨lv, rfl, ⟨_, SqL.of hlv⟩, fun Dl hDl => ?_⟩
          refine lc_filt2 vs (fun v => !decide (kB v = kd)) hDl (fun H7 k7 => fits_l (SqL.of (k7 _ _ hlv))) (by omega) (fun v Hh R S hv kh hR hS => ?_) (fun H7 x7 hW => ?_)
          · walk_at "g"
            refine ⟨rfl, ?_⟩
            walk_at "g"
            refine g_ixL (SqL.of (kh _ _ e6)) (v := .str (kS kd)) (show atI [V.str (kS kd)] 0 = some (V.str (kS kd)) from rfl) ?_
            walk_at "g"
            refine ⟨kd, k2, v, rfl, hvv v hv, fun H8 x8 => ?_⟩
            cases e : decide (kB v = kd) with
            | true =>
              walk_at "g"
              exact hS (by rw [e]; rfl) H8 x8
            | false =>
              walk_at "g"
              exact hR (by rw [e]; rfl) H8 x8
          · have hA := x7 _ _ hA
            walk_at "g"
            cases e : (At.among c vs).fits cs with
            | false =>
              have hpos : 0 < (vs.filter fun v => !decide (kB v = kd)).length := by
                rw [fe, List.all_eq_false] at e
                obtain ⟨v, hv, hn⟩ := e
                exact List.length_pos_iff.mpr (List.ne_nil_of_mem (List.mem_filter.mpr ⟨hv, by simpa using hn⟩))
              refine g_dec (fun _ => ?_) (fun h => absurd (by omega) h)
              walk_at "g"
              rw [hrt]
              have h := k H7 (XT.trans xx x7)
              rw [no e] at h
              exact h
            | true =>
              have hzero : (vs.filter fun v => !decide (kB v = kd)).length = 0 := by
                rw [fe, List.all_eq_true] at e
                rw [List.length_eq_zero_iff, List.filter_eq_nil_iff]
                intro v hv
                rw [e v hv]
                exact Bool.false_ne_true
              refine g_dec (fun h => absurd h (by omega)) (fun _ => ?_)
              walk_at "g"
              refine g_ixT (SqT.of hA) (v := .str "among") (by rfl) ?_
              walk_at "g"
              refine g_dec (fun h => absurd h (show ("among" : Str) ≠ "begins" by decide +kernel)) (fun _ => ?_)
              walk_at "g"
              refine g_ixT (SqT.of hA) (v := .str "among") (by rfl) ?_
              walk_at "g"
              refine g_dec (fun h => absurd h (show ("among" : Str) ≠ "against" by decide +kernel)) (fun _ => ?_)
              walk_at "g"
              exact hnx _ _ ⟨⟨_, _, _, _, rfl⟩, XT.trans x6 x7, yes e⟩
        | against c op d n =>
          have hA : H6 p = some (.tup [.str "against", .str c, .str op, .str d, .int n]) := A
          obtain ⟨kc, hkc⟩ := kk c List.mem_cons_self
          obtain ⟨kd, hkd⟩ := kk d (List.mem_cons_of_mem _ List.mem_cons_self)
          have e6 : H6 Dk = some (.lst [kV (knd cs c), kV (knd cs d)]) := e6
          rw [hkc, hkd] at e6
          have e6 : H6 Dk = some (.lst [.str (kS kc), .str (kS kd)]) := e6
          have fe : (At.against c op d n).fits cs = (decide (kc = kd) && (!kc || decide (n = 0))) := by
            show agF (knd cs c) (knd cs d) n = _
            rw [hkc, hkd]; rfl
          refine g_ixT (SqT.of hA) (v := .str "against") (by rfl) ?_
          walk_at "g"
          refine g_dec (fun h => absurd h (show ("against" : Str) ≠ "compare" by decide +kernel)) (fun _ => ?_)
          walk_at "g"
          refine g_ixT (SqT.of hA) (v := .str "against") (by rfl) ?_
          walk_at "g"
          refine g_dec (fun h => absurd h (show ("against" : Str) ≠ "among" by decide +kernel)) (fun _ => ?_)
          walk_at "g"
          refine g_ixT (SqT.of hA) (v := .str "against") (by rfl) ?_
          walk_at "g"
          refine g_dec (fun h => absurd h (show ("against" : Str) ≠ "begins" by decide +kernel)) (fun _ => ?_)
          walk_at "g"
          refine g_ixT (SqT.of hA) (v := .str "against") (by rfl) ?_
          walk_at "g"
          refine g_dec (fun _ => ?_) (fun h => absurd rfl h)
          walk_at "g"
          by_cases hkk : kc = kd
          · subst hkk
            refine g_ndec (fun h => absurd rfl h) (fun _ => ?_)
            walk_at "g"
            cases kc with
            | false =>
              refine g_dec (fun h => absurd h (show ("number" : Str) ≠ "text" by decide +kernel)) (fun _ => ?_)
              walk_at "g"
              exact hnx _ _ ⟨⟨_, _, _, _, rfl⟩, x6, yes (by rw [fe]; rfl)⟩
            | true =>
              refine g_dec (fun _ => ?_) (fun h => absurd rfl h)
              walk_at "g"
              refine g_ixT (SqT.of hA) (v := .int n) (by rfl) ?_
              walk_at "g"
              refine g_ndec (fun hn => ?_) (fun hn => ?_)
              · walk_at "g"
                rw [hrt]
                have h := k H6 xx
                rw [no (by rw [fe, decide_eq_false hn]; rfl)] at h
                exact h
              · walk_at "g"
                exact hnx _ _ ⟨⟨_, _, _, _, rfl⟩, x6, yes (by rw [fe, hn]; rfl)⟩
          · refine g_ndec (fun _ => ?_) (fun h => absurd (kS_inj h) hkk)
            walk_at "g"
            rw [hrt]
            have h := k H6 xx
            rw [no (by rw [fe, decide_eq_false hkk]; rfl)] at h
            exact h
    · rintro σ' H6 ⟨⟨s2, s3, s4, s5, rfl⟩, x6, hfit⟩
      rw [List.length_map, hlen, ← Fm.ats_len, List.take_length] at hfit
      walk_at "g"
      have h := k H6 (XT.trans x1 x6)
      rw [show ff.fits cs = true from List.all_eq_true.mpr hfit] at h
      exact h
end
def k2 (cs : List Col) : List (Str × Bool) := cs.map fun c => (c.1, c.2.1)
theorem LAt.cols {H : Hp} {L : Addr} {cs : List Col} (h : LAt H L (cs.map ct)) : ColsAt H L (k2 cs) := by
  obtain ⟨qs, h1, h2, h3⟩ := h
  refine ⟨qs, h1, by rw [h2, List.length_map]; unfold k2; rw [List.length_map], fun i q c hq hc => ?_⟩
  unfold k2 at hc
  rw [List.getElem?_map] at hc
  obtain ⟨y, hy, rfl⟩ := Option.map_eq_some_iff.mp hc
  exact ⟨y.2.2, h3 i q (ct y) hq (by rw [List.getElem?_map, hy]; rfl)⟩
theorem ColsAt.lat {H : Hp} {L : Addr} {cs : List (Str × Bool)} (h : ColsAt H L cs) : ∃ ds : List Col, k2 ds = cs ∧ LAt H L (ds.map ct) := by
  obtain ⟨qs, h1, h2, h3⟩ := h
  have key : ∀ (cs : List (Str × Bool)) (qs : List Addr), qs.length = cs.length → (∀ (i : Nat) q c, qs[i]? = some q → cs[i]? = some c → ColAt H q c) → ∃ ds : List Col, k2 ds = cs ∧ ∀ (i : Nat) q d, qs[i]? = some q → ds[i]? = some d → H q = some (.tup (ct d)) := by
    intro cs
    induction cs with
    | nil => exact fun qs _ _ => ⟨[], rfl, fun i q d _ hd => by simp at hd⟩
    | cons c r ih =>
      intro qs hl hc
      cases qs with
      | nil => simp at hl
      | cons q qs =>
        obtain ⟨ds, e, hd⟩ := ih qs (by simpa using hl) fun i q' c' hq hc' => hc (i + 1) q' c' (by simpa using hq) (by simpa using hc')
        obtain ⟨fl, hf⟩ := hc 0 q c rfl rfl
        refine ⟨(c.1, c.2, fl) :: ds, by unfold k2 at e ⊢; rw [List.map_cons, e], fun i q' d' hq hd' => ?_⟩
        cases i with
        | zero =>
          obtain rfl : q = q' := by simpa using hq
          obtain rfl : (c.1, c.2, fl) = d' := by simpa using hd'
          exact hf
        | succ i => exact hd i q' d' (by simpa using hq) (by simpa using hd')
  obtain ⟨ds, e, hd⟩ := key cs qs h2 h3
  refine ⟨ds, e, qs, h1, by rw [h2, ← e]; unfold k2; rw [List.length_map, List.length_map], fun i q t hq ht => ?_⟩
  rw [List.getElem?_map] at ht
  obtain ⟨y, hy, rfl⟩ := Option.map_eq_some_iff.mp ht
  exact hd i q y hq hy
theorem kept_short : ∀ z ∈ keptWords, z.length ≤ 6 := by decide +kernel
theorem name7 {z : Str} (h : nameP z) : nameP (cutS z none (some 7)) := by
  have h7 : (cutS z none (some 7)).cps.toList = z.cps.toList.take 7 := by
    show ((z.cps.toList.drop 0).take (HT.sIx z.length z.length (some ((7 : Nat) : Int)) - 0)) = _
    rw [HT.sIx_nat]
    have : z.cps.toList.length = z.length := Array.length_toList
    rw [List.drop_zero, Nat.sub_zero]
    by_cases h : 7 ≤ z.length
    · rw [Nat.min_eq_left h]
    · rw [Nat.min_eq_right (by omega), ← this, List.take_length, List.take_of_length_le (by omega)]
  have hl7 : (cutS z none (some 7)).length = min 7 z.length := by
    show (cutS z none (some 7)).cps.size = _
    have : z.cps.toList.length = z.length := Array.length_toList
    rw [← Array.length_toList, h7, List.length_take, this]
  obtain ⟨a, b, c, d, e⟩ := h
  refine ⟨by omega, by omega, fun x r hx => ?_, fun hk => ?_, fun x hx => e x (List.mem_of_mem_take (by rw [← h7]; exact hx))⟩
  · rw [h7] at hx
    cases e2 : z.cps.toList with
    | nil => rw [e2] at hx; cases hx
    | cons y s =>
      rw [e2] at hx
      injection hx with h1 _
      rw [← h1]
      exact c y s e2
  · have := kept_short _ hk
    have hz : z.length ≤ 6 := by omega
    have : cutS z none (some 7) = z := by
      have hh : z.cps.toList.length = z.length := Array.length_toList
      have e3 : (cutS z none (some 7)).cps.toList = z.cps.toList := by rw [h7, List.take_of_length_le (by omega)]
      cases z with
      | mk zc =>
        cases hq : cutS ⟨zc⟩ none (some 7) with
        | mk qc =>
          rw [hq] at e3
          have e3 : qc.toList = zc.toList := e3
          rw [show qc = zc from by cases qc; cases zc; simpa using e3]
    rw [this] at hk
    exact d hk
theorem nameX : nameP "x" := by
  have h1 : ∀ a ∈ (Str.ofString "x").cps.toList, a ∈ letters := by decide +kernel
  have h2 : ∀ a ∈ (Str.ofString "x").cps.toList, a ∈ nameSigns := by decide +kernel
  have h3 : Str.ofString "x" ∉ keptWords := by decide +kernel
  have h4 : (Str.ofString "x").length = 1 := by decide +kernel
  refine ⟨?_, ?_, ?_, h3, h2⟩
  · show (Str.ofString "x").length ≠ 0
    rw [h4]; decide
  · show (Str.ofString "x").length ≤ 8
    rw [h4]; decide
  · intro c r h
    exact h1 c (by rw [show (Str.ofString "x").cps.toList = c :: r from h]; exact List.mem_cons_self)
def spOdd : Sp := fun vs H Q _ => ∃ (d sc : Addr) (ns : List Int) (L : Addr) (cs : List Col), vs = [.ref d, .ref L] ∧ Dr H d sc ns ∧ GoodCols (k2 cs) ∧ LAt H L (cs.map ct) ∧ L ≠ d ∧ ∀ q a κ H', AtomForm H' q a → a.Wf κ → DK d sc ns H H' → Q (.ref q) H'
theorem LAt.draw {H H' : Hp} {L d sc : Addr} {ns : List Int} {cs : List Col} (h : LAt H L (cs.map ct)) (D : Dr H d sc ns) (k : Keep d H H') (hL : L ≠ d) : LAt H' L (cs.map ct) := h.keepP hL D.at k
section
variable {P : Program} {w : World} {K : PySem.W.Frag} {mg : Str → Option Value} {base : Heap}
theorem ok__law_odd_atom (T : Txt K mg) : Def P w K mg base 4 "_law_odd_atom" ["_law_draw", "_law_columns_here"] spOdd := by
  obtain ⟨f, fd, h⟩ := T.d__law_odd_atom
  refine h.def (Fun.okM h.fn sc__law_odd_atom (fun vs H Q E h => ?_) (fun cdv A outer s H vs Q E hr h => ?_))
  · obtain ⟨d, sc, ns, L, cs, rfl, _⟩ := h
    rfl
  · obtain ⟨d, sc, ns, L, cs, rfl, hD, hG, hC, hLd, k⟩ := h
    refine ⟨_, (pss_cons (ps_set (i := 2) sc__law_odd_atom.nd rfl (Or.inl rfl) (pe_ix (ix_seqG (K := K) rfl) (pe_ix (ix_seqG (K := K) rfl) (pv 1) (pe_def (ok__law_take T) hr rfl (pa_cons (pv 0) (pa_cons (pe_callB (call_lenG (K := K) rfl) (by rfl) T.h_len (by decide +kernel) (pa_cons (pv 1) pa_nil)) pa_nil))) (fun _ _ => rfl)) pe_int (fun _ _ => rfl)))
  (pss_cons (ps_set (i := 3) sc__law_odd_atom.nd rfl (Or.inl rfl) (pe_ix (ix_seqG (K := K) rfl) (pe_ix (ix_seqG (K := K) rfl) (pv 1) (pe_def (ok__law_take T) hr rfl (pa_cons (pv 0) (pa_cons (pe_callB (call_lenG (K := K) rfl) (by rfl) T.h_len (by decide +kernel) (pa_cons (pv 1) pa_nil)) pa_nil))) (fun _ _ => rfl)) pe_int (fun _ _ => rfl)))
  (pss_cons (ps_set (i := 4) sc__law_odd_atom.nd rfl (Or.inl rfl) (pe_slice (sl_G (K := K) rfl) (pe_def (ok__law_name T) hr rfl (pa_cons (pv 0) (pa_cons (pe_lc (own := [("_law_column", 7)]) rfl sc__law_odd_atom.nd (pi_list (pv 1)) (blkOk_by (N := N__law_odd_atom) (sc := defScope S__law_odd_atom) (by decide +kernel)) (fun _ _ _ _ _ => pg_name (i := 7) sc__law_odd_atom.nd rfl (Or.inl rfl)) (fun _ _ _ _ _ => pts_nil) (fun _ _ _ _ _ => (pe_ix (ix_seqG (K := K) rfl) (pv 7) pe_int (fun _ _ => rfl)))) pa_nil))) po_none (po_some pe_int)))
  (Evl.pss_cut (ps_if (pt_cmpR op_notNG (pe_def (ok__law_kind T) hr rfl (pa_cons (pv 1) (pa_cons (pv 4) pa_nil))) pe_non (nomark _))
  (pss_one (ps_set (i := 4) sc__law_odd_atom.nd rfl (Or.inl rfl) pe_str))
  pss_nil)
  (pss_cons (ps_set (i := 5) sc__law_odd_atom.nd rfl (Or.inl rfl) (pe_def (ok__law_take T) hr rfl (pa_cons (pv 0) (pa_cons pe_int pa_nil))))
  (pss_cons (ps_set (i := 6) sc__law_odd_atom.nd rfl (Or.inl rfl) (pe_ix (ix_seqG (K := K) rfl) (pe_lst (pa_cons pe_str (pa_cons pe_str pa_nil))) (pe_def (ok__law_take T) hr rfl (pa_cons (pv 0) (pa_cons pe_int pa_nil))) (fun _ _ => rfl)))
  (pss_cons (ps_if (pt_cmpR op_eq (pv 5) pe_int (nomark _))
  (pss_one (ps_ret (pe_tup (pa_cons pe_str (pa_cons (pv 2) (pa_cons (pe_def (ok__law_op T) hr rfl (pa_cons (pv 0) pa_nil)) (pa_cons (pe_def (ok__law_value T) hr rfl (pa_cons (pv 0) (pa_cons (pv 6) pa_nil))) pa_nil)))))))
  pss_nil)
  (pss_cons (ps_if (pt_cmpR op_eq (pv 5) pe_int (nomark _))
  (pss_one (ps_ret (pe_tup (pa_cons pe_str (pa_cons (pv 2) (pa_cons (pe_def (ok__law_text T) hr rfl (pa_cons (pv 0) pa_nil)) pa_nil))))))
  pss_nil)
  (pss_cons (ps_if (pt_cmpR op_eq (pv 5) pe_int (nomark _))
  (pss_one (ps_ret (pe_tup (pa_cons pe_str (pa_cons (pv 2) (pa_cons (pe_lst (pa_cons (pe_def (ok__law_value T) hr rfl (pa_cons (pv 0) (pa_cons pe_str pa_nil))) (pa_cons (pe_def (ok__law_value T) hr rfl (pa_cons (pv 0) (pa_cons (pv 6) pa_nil))) pa_nil))) pa_nil))))))
  pss_nil)
  (Evl.pss_cut (ps_if (PW.pt (pw_and (pt_cmpR op_eq (pv 5) pe_int (nomark _)) (pw_and1 (pt_cmpR op_ne (pv 3) (pv 2) (nomark _)))))
  (pss_one (ps_ret (pe_tup (pa_cons pe_str (pa_cons (pv 2) (pa_cons (pe_def (ok__law_op T) hr rfl (pa_cons (pv 0) pa_nil)) (pa_cons (pv 3) (pa_cons (pe_op op_subG (pe_def (ok__law_take T) hr rfl (pa_cons (pv 0) (pa_cons pe_int pa_nil))) pe_int) pa_nil))))))))
  pss_nil)
  (pss_cons (ps_if (pt_cmpR op_eq (pv 5) pe_int (nomark _))
  (pss_one (ps_ret (pe_tup (pa_cons pe_str (pa_cons (pv 4) pa_nil)))))
  pss_nil)
  (pss_cons (ps_if (pt_cmpR op_eq (pv 2) (pv 4) (nomark _))
  (pss_one (ps_ret (pe_tup (pa_cons pe_str (pa_cons (pv 4) pa_nil)))))
  pss_nil)
  (pss_one (ps_ret (pe_tup (pa_cons pe_str (pa_cons (pv 2) (pa_cons (pe_def (ok__law_op T) hr rfl (pa_cons (pv 0) pa_nil)) (pa_cons (pv 4) (pa_cons pe_int pa_nil)))))))))))))))))))), ?_⟩
    obtain ⟨qs, hL, hlen, hcol⟩ := id hC
    rw [List.length_map] at hlen
    have hk2 : (k2 cs).length = cs.length := by unfold k2; rw [List.length_map]
    have hne : 0 < cs.length := by rw [← hk2]; exact List.length_pos_iff.mpr hG.ne
    have hfew : cs.length ≤ 12 := by rw [← hk2]; exact hG.few
    have nmc : ∀ c ∈ cs, nameP c.1 := fun c hc => hG.nm (c.1, c.2.1) (by unfold k2; exact List.mem_map.mpr ⟨c, hc, rfl⟩)
    have hlog : ((qs.map V.ref).length : Int).natAbs.log2 < 9000 := by
      have : (((qs.map V.ref).length : Nat) : Int).natAbs < 2 ^ 64 := by rw [List.length_map]; omega
      exact Nat.lt_of_lt_of_le (PySem.Flt.log2_lt_of (by decide) this) (by decide)
    walk_at "g"
    refine ⟨_, _, _, _, rfl, hD, by rw [List.length_map]; omega, hlog, fun r H1 r0 r1 D1 K1 => ?_⟩
    have B1 : DK d sc ns H H1 := ⟨D1, K1⟩
    rw [List.length_map] at r1
    obtain ⟨j, rfl⟩ := Int.eq_ofNat_of_zero_le r0
    obtain ⟨q, hq⟩ : ∃ q, qs[j]? = some q := ⟨_, List.getElem?_eq_getElem (by omega)⟩
    obtain ⟨c, hc⟩ : ∃ c, cs[j]? = some c := ⟨_, List.getElem?_eq_getElem (by omega)⟩
    have hcn := nmc c (List.mem_of_getElem? hc)
    have hC1 := hC.draw hD K1 hLd
    have hL1 := K1 _ _ hLd hL
    have e1 := hcol j q (ct c) hq (by rw [List.getElem?_map, hc]; rfl)
    have e1 := K1 _ _ (hD.tne e1) e1
    refine g_ixL (SqL.of hL1) (v := .ref q) (atI_nat (by rw [List.getElem?_map, hq]; rfl)) ?_
    walk_at "g"
    refine g_ixT (SqT.of e1) (v := .str c.1) (show atI (ct c) 0 = some (.str c.1) from rfl) ?_
    walk_at "g"
    refine ⟨_, _, _, _, rfl, D1, by rw [List.length_map]; omega, hlog, fun r2 H2 r20 r21 D2 K2 => ?_⟩
    have B2 := B1.step D2 K2
    rw [List.length_map] at r21
    obtain ⟨j2, rfl⟩ := Int.eq_ofNat_of_zero_le r20
    obtain ⟨q2, hq2⟩ : ∃ q, qs[j2]? = some q := ⟨_, List.getElem?_eq_getElem (by omega)⟩
    obtain ⟨o, ho⟩ : ∃ c, cs[j2]? = some c := ⟨_, List.getElem?_eq_getElem (by omega)⟩
    have hon := nmc o (List.mem_of_getElem? ho)
    have hC2 := hC1.draw D1 K2 hLd
    have hL2 := K2 _ _ hLd hL1
    have e2 := hcol j2 q2 (ct o) hq2 (by rw [List.getElem?_map, ho]; rfl)
    have e2 := B2.K _ _ (hD.tne e2) e2
    refine g_ixL (SqL.of hL2) (v := .ref q2) (atI_nat (by rw [List.getElem?_map, hq2]; rfl)) ?_
    walk_at "g"
    refine g_ixT (SqT.of e2) (v := .str o.1) (show atI (ct o) 0 = some (.str o.1) from rfl) ?_
    walk_at "g"
    clear hC1 hL1 e1 e2 B1 D1 K2 K1
    refine ⟨L, rfl, ⟨_, SqL.of hL2⟩, fun De hDe => ?_⟩
    refine lc_new (qs.map V.ref) (fun i y _ => ∃ x, cs[i]? = some x ∧ y = .str x.1) hDe (fun H5 k5 => fits_l (SqL.of (k5 _ _ hL2))) (by rw [List.length_map]; omega) (fun i y Ha Hb _ h _ => h) (fun i y Hh R S hy kh _ hR => ?_) (fun H3 ys x3 hW hyl hys => ?_)
    · rw [List.getElem?_map] at hy
      obtain ⟨q5, hq5, rfl⟩ := Option.map_eq_some_iff.mp hy
      obtain ⟨x, hx⟩ : ∃ x, cs[i]? = some x := ⟨_, List.getElem?_eq_getElem (by have := (List.getElem?_eq_some_iff.mp hq5).1; omega)⟩
      have e5 := hcol i q5 (ct x) hq5 (by rw [List.getElem?_map, hx]; rfl)
      have e5 := kh _ _ (B2.K _ _ (hD.tne e5) e5)
      walk_at "g"
      refine ⟨rfl, ?_⟩
      walk_at "g"
      refine g_ixT (SqT.of e5) (v := .str x.1) (show atI (ct x) 0 = some (.str x.1) from rfl) ?_
      exact hR _ _ (fun _ _ h => h) ⟨x, hx, rfl⟩
    obtain rfl : ys = (cs.map (·.1)).map V.str := by
      refine List.ext_getElem (by rw [hyl, List.length_map, List.length_map, List.length_map, hlen]) fun i g1 g2 => ?_
      obtain ⟨x, hx, e⟩ := hys i _ (List.getElem?_eq_getElem g1)
      rw [e, List.getElem_map, List.getElem_map]
      obtain ⟨h3, h4⟩ := List.getElem?_eq_some_iff.mp hx
      rw [h4]
    have B3 := B2.ext x3
    have hC3 := hC2.keep x3
    have hDd : De ≠ d := (B2.D.ne hDe).1
    clear hys hyl hC2 hL2 B2
    walk_at "g"
    refine ⟨d, sc, ns, De, cs.map (·.1), rfl, B3.D, hDd, hW, by rw [List.length_map]; omega, fun z H4 hz hnz D4 K4 => ?_⟩
    have B4 := B3.step D4 K4
    have hC4 := hC3.draw B3.D K4 hLd
    have hz7 := name7 hz
    walk_at "g"
    refine g_slS (by have := hz.2.1; rw [sizeLine_eq]; omega) ?_
    walk_at "g"
    generalize cutS z none (some 7) = fz at hz7
    clear hW hnz hz B3 hC3
    refine g_cutA (M := fun σ' H' => ∃ fz, nameP fz ∧ σ' = [some (.ref d), some (.ref L), some (.str c.1), some (.str o.1), some (.str fz), none, none, none] ∧ H' = H4) (fun D1' hn1 hr1 _ _ => ?_) ?_
    · walk_at "g"
      refine ⟨L, cs, fz, rfl, hC4, hfew, ?_⟩
      cases knd cs fz with
      | none =>
        walk_at "g"
        rw [decide_eq_true (show kV none = V.non from rfl)]
        walk_at "g"
        exact hn1 _ _ ⟨fz, hz7, rfl, rfl⟩
      | some b =>
        walk_at "g"
        rw [decide_eq_false (show ¬ kV (some b) = V.non from fun h => nomatch h)]
        walk_at "g"
        exact hn1 _ _ ⟨"x", nameX, rfl, rfl⟩
    clear hz7
    rintro σ' H5 ⟨fz, hz7, rfl, rfl⟩
    walk_at "g"
    refine ⟨_, _, _, _, rfl, B4.D, by decide, by decide +kernel, fun rc H6 rc0 rc1 D6 K6 => ?_⟩
    have B6 := B4.step D6 K6
    clear hC4 B4
    walk_at "g"
    refine ⟨by show 2 ≤ sizeLine; decide, fun p hp => ?_⟩
    have B7 := B6.new (o := .lst [.str (Str.ofString "number"), .str (Str.ofString "text")]) hp
    have hp7 : (upd H6 p (.lst [.str (Str.ofString "number"), .str (Str.ofString "text")])) p = some (.lst [.str (Str.ofString "number"), .str (Str.ofString "text")]) := upd_same
    have hpd := (B6.D.ne hp).1
    generalize upd H6 p (.lst [.str (Str.ofString "number"), .str (Str.ofString "text")]) = H7 at B7 hp7
    walk_at "g"
    refine ⟨_, _, _, _, rfl, B7.D, by decide, by decide +kernel, fun rk H8 rk0 rk1 D8 K8 => ?_⟩
    have B8 := B7.step D8 K8
    obtain ⟨kd, hkd⟩ : ∃ kd, atI [V.str (Str.ofString "number"), V.str (Str.ofString "text")] rk = some (.str (kS kd)) := by
      have : rk = 0 ∨ rk = 1 := by omega
      rcases this with rfl | rfl
      · exact ⟨false, rfl⟩
      · exact ⟨true, rfl⟩
    refine g_ixL (SqL.of (K8 _ _ hpd hp7)) hkd ?_
    clear B6 B7
    walk_at "g"
    refine g_dec (fun h0 => ?_) (fun h0 => ?_)
    · walk_at "g"
      refine ⟨d, sc, ns, rfl, B8.D, fun op H9 hop B9 => ?_⟩
      have B9 : DK d sc ns H H9 := B8.step B9.D B9.K
      walk_at "g"
      refine ⟨d, sc, ns, kd, rfl, B9.D, fun v H10 hv D10 K10 => ?_⟩
      have B10 := B9.step D10 K10
      walk_at "g"
      refine ⟨by show 4 ≤ sizeLine; decide, fun t ht => ?_⟩
      walk_at "g"
      exact k t (.compare c.1 op v) [(c.1, kd)] _ upd_same ⟨hcn, hop, kd, List.mem_cons_self, hv⟩ (B10.new ht)
    walk_at "g"
    refine g_dec (fun h1 => ?_) (fun h1 => ?_)
    · walk_at "g"
      refine ⟨d, sc, ns, rfl, B8.D, fun v H9 hv D9 K9 => ?_⟩
      have B9 := B8.step D9 K9
      obtain ⟨y, rfl, hy⟩ := hv
      walk_at "g"
      refine ⟨by show 3 ≤ sizeLine; decide, fun t ht => ?_⟩
      walk_at "g"
      exact k t (.begins c.1 y) [(c.1, true)] _ upd_same ⟨hcn, List.mem_cons_self, y, rfl, hy⟩ (B9.new ht)
    walk_at "g"
    refine g_dec (fun h2 => ?_) (fun h2 => ?_)
    · walk_at "g"
      refine ⟨d, sc, ns, false, rfl, B8.D, fun v1 H9 hv1 D9 K9 => ?_⟩
      have B9 := B8.step D9 K9
      walk_at "g"
      refine ⟨d, sc, ns, kd, rfl, B9.D, fun v2 H10 hv2 D10 K10 => ?_⟩
      have B10 := B9.step D10 K10
      walk_at "g"
      refine ⟨by show 2 ≤ sizeLine; decide, fun lv hlv => ?_⟩
      have B11 := B10.new (o := .lst [v1, v2]) hlv
      walk_at "g"
      refine ⟨by show 3 ≤ sizeLine; decide, fun t ht => ?_⟩
      have hvs : ∀ v ∈ [v1, v2], isV kd v := fun v hv => by
        rcases List.mem_cons.mp hv with rfl | hv
        · exact hv1
        · rw [List.mem_singleton.mp hv]; exact hv2
      walk_at "g"
      exact k t (.among c.1 [v1, v2]) [(c.1, kd)] _ ⟨lv, kd, upd_same, ext_new ht _ _ upd_same, List.cons_ne_nil _ _, hvs⟩ ⟨hcn, List.cons_ne_nil _ _, by show 2 ≤ 8; decide, kd, List.mem_cons_self, hvs⟩ (B11.new ht)
    walk_at "g"
    refine g_cutA (M := fun σ' H' => σ' = [some (.ref d), some (.ref L), some (.str c.1), some (.str o.1), some (.str fz), some (.int rc), some (.str (kS kd)), none] ∧ H' = H8) (fun D1' hn1 hr1 _ _ => ?_) ?_
    · walk_at "g"
      refine g_dec (fun h3 => ?_) (fun h3 => ?_)
      · walk_at "g"
        refine g_ndec (fun hno => ?_) (fun hno => ?_)
        · walk_at "g"
          refine ⟨d, sc, ns, rfl, B8.D, fun op H9 hop B9 => ?_⟩
          have B9 : DK d sc ns H H9 := B8.step B9.D B9.K
          walk_at "g"
          refine ⟨_, _, _, _, rfl, B9.D, by decide, by decide +kernel, fun r9 H10 r90 r91 D10 K10 => ?_⟩
          have B10 := B9.step D10 K10
          walk_at "g"
          refine ⟨by show 5 ≤ sizeLine; decide, fun t ht => ?_⟩
          walk_at "g"
          rw [hr1]
          exact k t (.against c.1 op o.1 (r9 - 1)) [(c.1, false), (o.1, false)] _ upd_same ⟨hcn, hon, hno, hop, false, List.mem_cons_self, List.mem_cons_of_mem _ List.mem_cons_self, fun h => nomatch h⟩ (B10.new ht)
        · walk_at "g"
          exact hn1 _ _ ⟨rfl, rfl⟩
      · walk_at "g"
        exact hn1 _ _ ⟨rfl, rfl⟩
    rintro σ' H9 ⟨rfl, rfl⟩
    walk_at "g"
    refine g_dec (fun h4 => ?_) (fun h4 => ?_)
    · walk_at "g"
      refine ⟨by show 2 ≤ sizeLine; decide, fun t ht => ?_⟩
      walk_at "g"
      exact k t (.empty fz) [(fz, true)] _ upd_same ⟨hz7, true, List.mem_cons_self⟩ (B8.new ht)
    walk_at "g"
    refine g_dec (fun h5 => ?_) (fun h5 => ?_)
    · walk_at "g"
      refine ⟨by show 2 ≤ sizeLine; decide, fun t ht => ?_⟩
      walk_at "g"
      exact k t (.empty fz) [(fz, true)] _ upd_same ⟨hz7, true, List.mem_cons_self⟩ (B8.new ht)
    walk_at "g"
    refine ⟨d, sc, ns, rfl, B8.D, fun op H10 hop B10 => ?_⟩
    have B10 : DK d sc ns H H10 := B8.step B10.D B10.K
    walk_at "g"
    refine ⟨by show 5 ≤ sizeLine; decide, fun t ht => ?_⟩
    walk_at "g"
    exact k t (.against c.1 op fz 0) [(c.1, false), (fz, false)] _ upd_same ⟨hcn, hz7, fun h => h5 h.symm, hop, false, List.mem_cons_self, List.mem_cons_of_mem _ List.mem_cons_self, fun h => nomatch h⟩ (B10.new ht)
end
theorem At.wf_mono {κ κ' : List (Str × Bool)} (h : ∀ x ∈ κ, x ∈ κ') : ∀ {a : At}, a.Wf κ → a.Wf κ'
  | .always, _ => True.intro
  | .never, _ => True.intro
  | .empty _, ⟨a, k, m⟩ => ⟨a, k, h _ m⟩
  | .among _ _, ⟨a, b, c, k, m, v⟩ => ⟨a, b, c, k, h _ m, v⟩
  | .begins _ _, ⟨a, m, z⟩ => ⟨a, h _ m, z⟩
  | .compare _ _ _, ⟨a, b, k, m, v⟩ => ⟨a, b, k, h _ m, v⟩
  | .against _ _ _ _, ⟨a, b, c, e, k, m1, m2, n⟩ => ⟨a, b, c, e, k, h _ m1, h _ m2, n⟩
theorem Fm.wf_mono {κ κ' : List (Str × Bool)} (h : ∀ x ∈ κ, x ∈ κ') : ∀ {f : Fm}, f.Wf κ → f.Wf κ'
  | .at _, w => At.wf_mono h w
  | .un _ f, ⟨a, w⟩ => ⟨a, Fm.wf_mono h (f := f) w⟩
  | .bi _ f g, ⟨a, w, v⟩ => ⟨a, Fm.wf_mono h (f := f) w, Fm.wf_mono h (f := g) v⟩
def spMaybe : Sp := fun vs H Q _ => ∃ (d sc : Addr) (ns : List Int) (L : Addr) (cs : List Col), vs = [.ref d, .ref L, .int 3] ∧ Dr H d sc ns ∧ GoodCols (k2 cs) ∧ LAt H L (cs.map ct) ∧ L ≠ d ∧ ∀ q f κ H', FormAt H' f q → f.Wf κ → f.ts.depth ≤ 12 → f.ts.size ≤ 24 → DK d sc ns H H' → Q (.ref q) H'
def spNeeded (CS C : Addr) : Sp := fun vs H Q _ => ∃ (x : Addr) (y : V) (cs : List Col), vs = [.ref x, y] ∧ ShapeAt CS H cs x ∧
  ((∃ (p : Addr) (f : Fm) (κ : List (Str × Bool)), y = .ref p ∧ TestAt C H f.ts p ∧ f.Wf κ ∧ f.ts.depth ≤ 12 ∧ f.ts.size ≤ 24 ∧ ∀ H', XT H H' → Q (if f.fits cs = true then .non else .str "column") H') ∨
   ((∃ T, T ∈ kinds7 ∧ TyOf7 H y T) ∧ ∀ H', XT H H' → Q (.str "part") H'))
section
variable {P : Program} {w : World} {K : PySem.W.Frag} {mg : Str → Option Value} {base : Heap}
theorem ok__law_maybe_odd (T : Txt K mg) : Def P w K mg base 6 "_law_maybe_odd" ["_law_draw", "_law_columns_here", "_law_most"] spMaybe := by
  obtain ⟨f, fd, h⟩ := T.d__law_maybe_odd
  refine h.def (Fun.okM h.fn sc__law_maybe_odd (fun vs H Q E h => ?_) (fun cdv A outer s H vs Q E hr h => ?_))
  · obtain ⟨d, sc, ns, L, cs, rfl, _⟩ := h
    rfl
  · obtain ⟨d, sc, ns, L, cs, rfl, hD, hG, hC, hLd, k⟩ := h
    refine ⟨_, (pss_cons (ps_set (i := 3) sc__law_maybe_odd.nd rfl (Or.inl rfl) (pe_def (ok__law_form T) hr rfl (pa_cons (pv 0) (pa_cons (pv 1) (pa_cons (pv 2) pa_nil)))))
  (pss_cons (ps_if (pt_cmpR op_eq (pe_def (ok__law_take T) hr rfl (pa_cons (pv 0) (pa_cons pe_int pa_nil))) pe_int (nomark _))
  (pss_cons (ps_set (i := 4) sc__law_maybe_odd.nd rfl (Or.inl rfl) (pe_def (ok__law_odd_atom T) hr rfl (pa_cons (pv 0) (pa_cons (pv 1) pa_nil))))
  (pss_one (ps_ret (pe_ix (ix_seqG (K := K) rfl) (pe_lst (pa_cons (pe_tup (pa_cons pe_str (pa_cons (pv 3) (pa_cons (pv 4) pa_nil)))) (pa_cons (pe_tup (pa_cons pe_str (pa_cons (pv 4) (pa_cons (pv 3) pa_nil)))) (pa_cons (pv 4) pa_nil)))) (pe_def (ok__law_take T) hr rfl (pa_cons (pv 0) (pa_cons pe_int pa_nil))) (fun _ _ => rfl)))))
  pss_nil)
  (pss_one (ps_ret (pv 3))))), ?_⟩
    walk_at "g"
    refine ⟨d, sc, ns, L, k2 cs, 3, rfl, hD, hG, hC.cols, hLd, by decide, by decide, fun q f H1 hF hgood hsz B1 => ?_⟩
    obtain ⟨hwf, hdep⟩ := hgood
    have hd11 : f.ts.depth ≤ 11 := by omega
    have hC1 := hC.draw hD B1.K hLd
    walk_at "g"
    refine ⟨_, _, _, _, rfl, B1.D, by decide, by decide +kernel, fun r H2 r0 r1 D2 K2 => ?_⟩
    have B2 := B1.step D2 K2
    have hF2 := hF.draw B1.D K2
    have hC2 := hC1.draw B1.D K2 hLd
    walk_at "g"
    refine g_dec (fun h0 => ?_) (fun h0 => ?_)
    · walk_at "g"
      refine ⟨d, sc, ns, L, cs, rfl, B2.D, hG, hC2, hLd, fun qo a κ H3 hA hw B3 => ?_⟩
      have hF3 := hF2.draw B2.D B3.K
      have B3 := B2.step B3.D B3.K
      walk_at "g"
      refine ⟨by show 3 ≤ sizeLine; decide, fun t1 ht1 => ?_⟩
      have B4 := B3.new (o := .tup [.str (Str.ofString "and"), .ref q, .ref qo]) ht1
      have x4 := ext_new (o := .tup [.str (Str.ofString "and"), .ref q, .ref qo]) ht1
      have e4 : (upd H3 t1 (.tup [.str (Str.ofString "and"), .ref q, .ref qo])) t1 = some (.tup [.str (Str.ofString "and"), .ref q, .ref qo]) := upd_same
      have hF4 := FormAt.keep x4 hF3
      have hA4 := AtomForm.keep hA x4
      generalize upd H3 t1 (.tup [.str (Str.ofString "and"), .ref q, .ref qo]) = H4 at B4 e4 hF4 hA4
      walk_at "g"
      refine ⟨by show 3 ≤ sizeLine; decide, fun t2 ht2 => ?_⟩
      have B5 := B4.new (o := .tup [.str (Str.ofString "or"), .ref qo, .ref q]) ht2
      have x5 := ext_new (o := .tup [.str (Str.ofString "or"), .ref qo, .ref q]) ht2
      have e5 : (upd H4 t2 (.tup [.str (Str.ofString "or"), .ref qo, .ref q])) t2 = some (.tup [.str (Str.ofString "or"), .ref qo, .ref q]) := upd_same
      have e45 := x5 _ _ e4
      have hF5 := FormAt.keep x5 hF4
      have hA5 := AtomForm.keep hA4 x5
      generalize upd H4 t2 (.tup [.str (Str.ofString "or"), .ref qo, .ref q]) = H5 at B5 e5 e45 hF5 hA5
      walk_at "g"
      refine ⟨by show 3 ≤ sizeLine; decide, fun l hl => ?_⟩
      have B6 := B5.new (o := .lst [.ref t1, .ref t2, .ref qo]) hl
      have x6 := ext_new (o := .lst [.ref t1, .ref t2, .ref qo]) hl
      have e6 : (upd H5 l (.lst [.ref t1, .ref t2, .ref qo])) l = some (.lst [.ref t1, .ref t2, .ref qo]) := upd_same
      have e46 := x6 _ _ e45
      have e56 := x6 _ _ e5
      have hF6 := FormAt.keep x6 hF5
      have hA6 := AtomForm.keep hA5 x6
      have hld := (B5.D.ne hl).1
      generalize upd H5 l (.lst [.ref t1, .ref t2, .ref qo]) = H6 at B6 e6 e46 e56 hF6 hA6
      walk_at "g"
      refine ⟨_, _, _, _, rfl, B6.D, by decide, by decide +kernel, fun r2 H7 r20 r21 D7 K7 => ?_⟩
      have B7 := B6.step D7 K7
      have e7 := K7 _ _ hld e6
      have e47 := K7 _ _ (B6.D.tne e46) e46
      have e57 := K7 _ _ (B6.D.tne e56) e56
      have hF7 := hF6.draw B6.D K7
      have hA7 : AtomForm H7 qo a := FormAt.draw (f := .at a) hA6 B6.D K7
      have w1 : f.Wf (k2 cs ++ κ) := Fm.wf_mono (fun x hx => List.mem_append.mpr (.inl hx)) hwf
      have w2 : a.Wf (k2 cs ++ κ) := At.wf_mono (fun x hx => List.mem_append.mpr (.inr hx)) hw
      have : r2 = 0 ∨ r2 = 1 ∨ r2 = 2 := by omega
      rcases this with rfl | rfl | rfl
      · refine g_ixL (SqL.of e7) (v := .ref t1) (by rfl) ?_
        walk_at "g"
        exact k t1 (.bi "and" f (.at a)) _ _ ⟨q, qo, e47, hF7, hA7⟩ ⟨.inl rfl, w1, w2⟩ (by show max f.ts.depth 0 + 1 ≤ 12; omega) (by show f.ts.size + 1 ≤ 24; omega) B7
      · refine g_ixL (SqL.of e7) (v := .ref t2) (by rfl) ?_
        walk_at "g"
        exact k t2 (.bi "or" (.at a) f) _ _ ⟨qo, q, e57, hA7, hF7⟩ ⟨.inr rfl, w2, w1⟩ (by show max 0 f.ts.depth + 1 ≤ 12; omega) (by show 1 + f.ts.size ≤ 24; omega) B7
      · refine g_ixL (SqL.of e7) (v := .ref qo) (by rfl) ?_
        walk_at "g"
        exact k qo (.at a) κ _ hA7 hw (Nat.zero_le _) (by show 1 ≤ 24; decide) B7
    · walk_at "g"
      exact k q f (k2 cs) _ hF2 hwf (by omega) (by omega) B2
theorem ok__law_needed (T : Txt K mg) : Def P w K mg base 17 "_law_needed" ["_law_shape", "_law_thing_here"] (spNeeded (cadr mg "Shape") (cadr mg "Test")) := by
  obtain ⟨f, fd, h⟩ := T.d__law_needed
  obtain ⟨fE_BadTest, EB_BadTest⟩ := T.x_BadTest
  refine h.def (Fun.okM h.fn sc__law_needed (fun vs H Q E h => ?_) (fun cdv A outer s H vs Q E hr h => ?_))
  · obtain ⟨x, y, cs, rfl, _⟩ := h
    rfl
  · obtain ⟨x, y, cs, rfl, hx, h⟩ := h
    refine ⟨_, (pss_cons (ps_try_as (i := 3) (Wout := fun _ _ _ _ => False) rfl rfl sc__law_needed.nd rfl rfl ⟨rfl, by decide, Or.inl EB_BadTest.gC⟩ takes0 (fun W pn xe tk _ =>
  (pss_one (ps_set (i := 2) sc__law_needed.nd rfl (Or.inl rfl) (pe_defX tk (ok_need_test T) hr rfl (pa_cons (pv 0) (pa_cons (pv 1) pa_nil))))))
  (fun a oe cls d pn hz hf => (pss_one (ps_ret (pe_byBadTest EB_BadTest hz hf (pv 3))))))
  (pss_one (ps_ret (pv 2)))), ?_⟩
    have caught : ∀ (D : Ends) (z : Str) (d : Addr) (H' : Hp), D.rt = Q → H' d = some (xwhy z) → Q (.str z) H' →
        wAs K (.ref (cadr mg "BadTest")) 3 (fun a cls d => tRet (tByBadTest (cadr mg "BadTest") a cls d (tVar 3))) (fun _ _ _ _ => False) D (.ref (cadr mg "BadTest")) (some d) (L2.start N__law_needed [.ref x, y]) H' := by
      intro D z d H' hD hd k
      refine ⟨true, EB_BadTest.te, fun _ a0 ha0 => ?_, fun q => Bool.noConfusion q⟩
      walk_at "g"
      refine ⟨_, rfl, rfl, rfl, d, _, rfl, hd, ?_⟩
      show D.rt _ _
      rw [hD]
      exact k
    walk_at "g"
    rcases h with ⟨p, f, κ, rfl, hA, hw, hd, hz, k⟩ | ⟨hT, k⟩
    · refine ⟨x, .ref p, cs, rfl, hx, .inl ⟨p, f, κ, rfl, hA, hw, hd, hz, fun e H' x' => ?_, fun e d H' x' ed => ?_⟩⟩
      · have h := k H' x'
        rw [if_pos e] at h
        walk_at "g"
        exact h
      · have h := k H' x'
        rw [if_neg (by rw [e]; exact Bool.false_ne_true)] at h
        exact caught _ _ d H' rfl ed h
    · exact ⟨x, y, cs, rfl, hx, .inr ⟨hT, fun d H' x' ed => caught _ _ d H' rfl ed (k H' x')⟩⟩
end
section
variable {P : Program} {w : World} {K : PySem.W.Frag} {mg : Str → Option Value} {base : Heap}
def spThing : Sp := fun vs H Q _ => ∃ d sc ns, vs = [.ref d] ∧ Dr H d sc ns ∧ ∀ v H', thing H' v → Dr H' d sc ns → Keep d H H' → Q v H'
theorem thI {H : Hp} {v : V} (h : isI v) : thing H v := .inr (.inr (.inl h))
theorem thS {H : Hp} {v : V} (h : isS v) : thing H v := let ⟨z, e, l, _⟩ := h; .inr (.inr (.inr (.inl ⟨z, e, l⟩)))
theorem thR {H : Hp} {p : Addr} (h : isRef H p) : thing H (.ref p) := .inr (.inr (.inr (.inr ⟨p, rfl, h⟩)))
theorem ok__law_thing (T : Txt K mg) : Def P w K mg base 3 "_law_thing" ["_law_draw"] spThing := by
  obtain ⟨f, fd, h⟩ := T.d__law_thing
  refine h.def (Fun.okM h.fn sc__law_thing (fun vs H Q E h => ?_) (fun cdv A outer s H vs Q E hr h => ?_))
  · obtain ⟨d, sc, ns, rfl, _⟩ := h
    rfl
  · obtain ⟨d, sc, ns, rfl, hD, k⟩ := h
    refine ⟨_, (pss_cons (ps_set (i := 1) sc__law_thing.nd rfl (Or.inl rfl) (pe_def (ok__law_take T) hr rfl (pa_cons (pv 0) (pa_cons pe_int pa_nil))))
  (pss_cons (ps_if (pt_cmpR op_eq (pv 1) pe_int (nomark _))
  (pss_one (ps_ret (pe_def (ok__law_number T) hr rfl (pa_cons (pv 0) pa_nil))))
  pss_nil)
  (pss_cons (ps_if (PW.pt (pw_or (pt_cmpR op_eq (pv 1) pe_int (nomark _)) (pw_or1 (pt_cmpR op_eq (pv 1) pe_int (nomark _)))))
  (pss_one (ps_ret (pe_def (ok__law_text T) hr rfl (pa_cons (pv 0) pa_nil))))
  pss_nil)
  (pss_cons (ps_if (pt_cmpR op_eq (pv 1) pe_int (nomark _))
  (pss_one (ps_ret (pe_lst (pa_cons (pe_def (ok__law_number T) hr rfl (pa_cons (pv 0) pa_nil)) (pa_cons (pe_def (ok__law_text T) hr rfl (pa_cons (pv 0) pa_nil)) pa_nil)))))
  pss_nil)
  (pss_cons (ps_if (pt_cmpR op_eq (pv 1) pe_int (nomark _))
  (pss_one (ps_ret (pe_tup (pa_cons (pe_def (ok__law_text T) hr rfl (pa_cons (pv 0) pa_nil)) (pa_cons (pe_def (ok__law_number T) hr rfl (pa_cons (pv 0) pa_nil)) (pa_cons pe_non pa_nil))))))
  pss_nil)
  (pss_cons (ps_if (pt_cmpR op_eq (pv 1) pe_int (nomark _))
  (pss_one (ps_ret (pe_disp (pps_cons (pe_def (ok__law_text T) hr rfl (pa_cons (pv 0) pa_nil)) (pe_lst (pa_cons (pe_def (ok__law_number T) hr rfl (pa_cons (pv 0) pa_nil)) pa_nil)) pps_nil) (by rfl) (by rfl) (fun z => by cases z) (by decide))))
  pss_nil)
  (pss_cons (ps_if (pt_cmpR op_eq (pv 1) pe_int (nomark _))
  (pss_one (ps_ret pe_dnewK))
  pss_nil)
  (pss_one (ps_ret (pe_ix (ix_seqG (K := K) rfl) (pe_lst (pa_cons pe_non (pa_cons pe_bl (pa_cons pe_bl (pa_cons pe_int (pa_cons pe_int (pa_cons pe_int (pa_cons pe_int (pa_cons pe_int (pa_cons pe_int (pa_cons pe_int (pa_cons (pe_lst pa_nil) (pa_cons (pe_tup pa_nil) pa_nil))))))))))))) (pv 1) (fun _ _ => rfl))))))))))), ?_⟩
    walk_at "g"
    refine ⟨_, _, _, _, rfl, hD, by decide, by decide +kernel, fun r H1 r0 r1 D1 K1 => ?_⟩
    walk_at "G"
    · refine ⟨_, _, _, rfl, D1, fun v H2 hv D2 K2 => ?_⟩
      walk_at "g"
      exact k _ _ (thI hv) D2 (K1.trans K2)
    · refine ⟨_, _, _, rfl, D1, fun v H2 hv D2 K2 => ?_⟩
      walk_at "g"
      exact k _ _ (thS hv) D2 (K1.trans K2)
    · refine ⟨_, _, _, rfl, D1, fun v H2 hv D2 K2 => ?_⟩
      walk_at "g"
      exact k _ _ (thS hv) D2 (K1.trans K2)
    · refine ⟨_, _, _, rfl, D1, fun v H2 hv D2 K2 => ?_⟩
      walk_at "g"
      refine ⟨_, _, _, rfl, D2, fun v3 H3 hv3 D3 K3 => ?_⟩
      walk_at "g"
      refine ⟨by show 2 ≤ sizeLine; decide, fun p hp => ?_⟩
      walk_at "g"
      have KK := (K1.trans K2).trans K3
      exact k _ _ (thR (.inl ⟨_, upd_same⟩)) (D3.new hp) (KK.new (KK.back (D3.ne hp).1 hp))
    · refine ⟨_, _, _, rfl, D1, fun v H2 hv D2 K2 => ?_⟩
      walk_at "g"
      refine ⟨_, _, _, rfl, D2, fun v3 H3 hv3 D3 K3 => ?_⟩
      walk_at "g"
      refine ⟨by show 3 ≤ sizeLine; decide, fun p hp => ?_⟩
      walk_at "g"
      have KK := (K1.trans K2).trans K3
      exact k _ _ (thR (.inr (.inl ⟨_, upd_same⟩))) (D3.new hp) (KK.new (KK.back (D3.ne hp).1 hp))
    · intro p hp
      obtain ⟨hpd, hps⟩ := D1.ne hp
      refine g_def ?_
      walk_at "g"
      refine ⟨_, _, _, rfl, D1.new hp, fun v H2 hv D2 K2 => ?_⟩
      walk_at "g"
      refine ⟨_, _, _, rfl, D2, fun v3 H3 hv3 D3 K3 => ?_⟩
      have hp3 : H3 p = some (.dK []) := K3 p _ hpd (K2 p _ hpd upd_same)
      obtain ⟨z, rfl, hz, _⟩ := hv
      walk_at "g"
      refine ⟨by show 1 ≤ sizeLine; decide, fun q hq => ?_⟩
      have hqp : p ≠ q := ne_of_none hp3 hq
      refine ⟨by rw [upd_ne hqp]; exact hp3, [(Sum.inr z, .ref q)], rfl, by show 1 ≤ 15; decide, ?_⟩
      walk_at "g"
      have hp0 := K1.back hpd hp
      have KK := (((K1.new (o := .dK []) hp0).trans K2).trans K3)
      have hq0 := KK.back (D3.ne hq).1 hq
      have K5 := KK.new (o := .lst [v3]) hq0
      exact k _ _ (thR (.inr (.inr ⟨_, upd_same⟩))) ((D3.new hq).other hpd hps) (K5.new hp0)
    · intro p hp
      obtain ⟨hpd, hps⟩ := D1.ne hp
      walk_at "g"
      have hp0 := K1.back hpd hp
      exact k _ _ (thR (.inr (.inr ⟨_, upd_same⟩))) (D1.new hp) (K1.new hp0)
    · refine ⟨by show 0 ≤ sizeLine; decide, fun p hp => ?_⟩
      walk_at "g"
      refine ⟨by show 0 ≤ sizeLine; decide, fun q hq => ?_⟩
      walk_at "g"
      refine ⟨by show 12 ≤ sizeLine; decide, fun L hL => ?_⟩
      have n1 : p ≠ q := ne_of_none upd_same hq
      have n2 : q ≠ L := ne_of_none upd_same hL
      have n3 : p ≠ L := fun e => by rw [← e, upd_ne n1, upd_same] at hL; cases hL
      have DD := ((D1.new (o := .lst []) hp).new (o := .tup []) hq).new (o := .lst [.non, .bl true, .bl false, .int 0, .int 0, .int 0, .int 0, .int 0, .int 0, .int 0, .ref p, .ref q]) hL
      have hp0 := K1.back (D1.ne hp).1 hp
      have Kp := K1.new (o := .lst []) hp0
      have hq0 := Kp.back ((D1.new (o := .lst []) hp).ne hq).1 hq
      have Kq := Kp.new (o := .tup []) hq0
      have hL0 := Kq.back (((D1.new (o := .lst []) hp).new (o := .tup []) hq).ne hL).1 hL
      have KK := Kq.new (o := .lst [.non, .bl true, .bl false, .int 0, .int 0, .int 0, .int 0, .int 0, .int 0, .int 0, .ref p, .ref q]) hL0
      walk_at "g"
      have hcases : r = 0 ∨ r = 1 ∨ r = 2 ∨ r = 3 ∨ r = 4 ∨ r = 5 ∨ r = 6 ∨ r = 7 ∨ r = 8 ∨ r = 9 ∨ r = 10 ∨ r = 11 := by omega
      rcases hcases with rfl | rfl | rfl | rfl | rfl | rfl | rfl | rfl | rfl | rfl | rfl | rfl
      all_goals (walk_at "g"; refine k _ _ ?_ DD KK)
      · exact .inl rfl
      · exact .inr (.inl ⟨_, rfl⟩)
      · exact .inr (.inl ⟨_, rfl⟩)
      all_goals first | exact thI ⟨_, rfl⟩ | exact thR (.inl ⟨_, by rw [upd_ne n3, upd_ne n1, upd_same]⟩) | exact thR (.inr (.inl ⟨_, by rw [upd_ne n2, upd_same]⟩))
end
theorem thing_kind {H : Hp} {v : V} (h : thing H v) : ∃ T, T ∈ kinds7 ∧ TyOf7 H v T := by
  rcases h with rfl | ⟨b, rfl⟩ | ⟨i, rfl⟩ | ⟨z, rfl, _⟩ | ⟨p, rfl, ⟨xs, e⟩ | ⟨xs, e⟩ | ⟨kvs, e⟩⟩
  · exact ⟨_, by decide, .non⟩
  · exact ⟨_, by decide, .bl b⟩
  · exact ⟨_, by decide, .int i⟩
  · exact ⟨_, by decide, .str z⟩
  · exact ⟨_, by decide, .lst e⟩
  · exact ⟨_, by decide, .tup e⟩
  · exact ⟨_, by decide, .dct e⟩
section
variable {X : Cx} {K : PySem.W.Frag} {H : Hp} {Q : VK}
theorem hu64_of {A : Around} {k : Nat} (hr : Room k A) : A.units + 64 < cLine := by
  have := hr.un
  omega
theorem op_neDu (h : X.K = K) (hu : X.A.units + 64 < cLine) : OpR X (compareOp .NotEq) (rNeD K) := by subst h; exact op_neD hu
theorem op_eqDu (h : X.K = K) (hu : X.A.units + 64 < cLine) : OpR X (compareOp .Eq) (rEqD K) := by subst h; exact op_eqD hu
/-- two tuples of the same two texts -/
theorem g_neSame {p q : Addr} {a b : Str} (h1 : H p = some (.tup [.str a, .str b])) (h2 : H q = some (.tup [.str a, .str b])) (hs : SeqAt.shaped (.tuple [.str a, .str b]) = true) (he : PyData.eqv (.tuple [.str a, .str b]) (.tuple [.str a, .str b]) = true) (k : Q (.bl false) H) : rNeD K (.ref p) (.ref q) H Q :=
  ⟨.tuple [.str a, .str b], .tuple [.str a, .str b], .tup (SqT.of h1) (.cons (.str a) (.cons (.str b) .nil)), .tup (SqT.of h2) (.cons (.str a) (.cons (.str b) .nil)), hs, hs, by rw [he]; exact k⟩
end
theorem hu0_of {A : Around} {k : Nat} (hr : Room k A) : A.units < cLine := by
  have := hr.un
  omega
theorem call_sortedSG {X : Cx} {K : PySem.W.Frag} (h : X.K = K) : CallR X (.builtin "sorted") (rSortedS K) := by subst h; exact cr_sortedS
def spLaw (K : PySem.W.Frag) : Sp := fun vs H Q _ => ∃ (a : Addr) (ns : List Int), vs = [.ref a] ∧ SqL K H a (ns.map V.int) ∧ ns.length ≤ 63 ∧ ∀ H', Q (.bl true) H'
theorem ShapeAt.keepP {C x p : Addr} {H H' : Hp} {cs : List Col} (h : ShapeAt C H cs x) (hp : ∃ xs, H p = some (.lst xs)) (k : Keep p H H') : ShapeAt C H' cs x := by
  obtain ⟨xs, e⟩ := hp
  obtain ⟨dx, fs, D, kvs, h1, h2, h3, h4, h5⟩ := h
  exact ⟨dx, fs, D, kvs, k _ _ (fun z => by rw [z, e] at h1; cases h1) h1, h2, k _ _ (fun z => by rw [z, e] at h3; cases h3) h3, h4, h5.keepN e (fun l h => nomatch h) k⟩
theorem colsOk_of {cs : List Col} (h : GoodCols (k2 cs)) : ColsOk cs := by
  have hk2 : (k2 cs).length = cs.length := by unfold k2; rw [List.length_map]
  refine ⟨by rw [← hk2]; exact List.length_pos_iff.mpr h.ne, by rw [← hk2]; exact h.few, fun c hc => h.nm (c.1, c.2.1) (by unfold k2; exact List.mem_map.mpr ⟨c, hc, rfl⟩), ?_⟩
  have := h.nd
  unfold k2 at this
  rw [List.map_map] at this
  exact this
section
variable {P : Program} {w : World} {K : PySem.W.Frag} {mg : Str → Option Value} {base : Heap}
theorem ok_law (T : Txt K mg) {f : Addr} {fd : FuncData} (F : Fun K "law" "law" S_law f fd) : FnOk P w K mg base CX0 19 f fd ["_law_script"] (spLaw K) := by
  refine Fun.okM F sc_law (fun vs H Q E h => ?_) (fun cdv A outer s H vs Q E hr h => ?_)
  · obtain ⟨a, ns, rfl, _⟩ := h
    rfl
  · obtain ⟨a, ns, rfl, hS, hlen, k⟩ := h
    refine ⟨_, (pss_cons (ps_set (i := 1) sc_law.nd rfl (Or.inl rfl) (pe_def (ok__law_begin T) hr rfl (pa_cons (pv 0) pa_nil)))
  (pss_cons (ps_set (i := 2) sc_law.nd rfl (Or.inl rfl) (pe_def (ok__law_columns T) hr rfl (pa_cons (pv 1) (pa_cons pe_int pa_nil))))
  (pss_cons (ps_set (i := 3) sc_law.nd rfl (Or.inl rfl) (pe_newD (K := K) rfl (ok_Shape_init T) hr rfl T.e_Shape (pa_cons (pe_callTy (call_listG (K := K) rfl) (by rfl) T.h_list (by decide +kernel) (pa_cons (pv 2) pa_nil)) pa_nil)))
  (pss_cons (ps_for PassesOwn.never rfl (pi_range1 rfl T.h_range (pa_cons (pe_op op_addG pe_int (pe_def (ok__law_take T) hr rfl (pa_cons (pv 1) (pa_cons pe_int pa_nil)))) pa_nil)) (pg_name (i := 4) sc_law.nd rfl (Or.inl rfl))
  (pss_cons (ps_set (i := 5) sc_law.nd rfl (Or.inl rfl) (pe_def (ok__law_maybe_odd T) hr rfl (pa_cons (pv 1) (pa_cons (pv 2) (pa_cons pe_int pa_nil)))))
  (pss_cons (ps_set (i := 6) sc_law.nd rfl (Or.inl rfl) (pe_def (ok__law_make T) hr rfl (pa_cons (pv 5) pa_nil)))
  (pss_cons (ps_set (i := 7) sc_law.nd rfl (Or.inl rfl) (pe_def (ok__law_fits T) hr rfl (pa_cons (pv 2) (pa_cons (pv 5) pa_nil))))
  (pss_cons (ps_if (pt_not (pt_val (pe_def (ok__law_flag T) hr rfl (pa_cons (pe_def (ok_fits T) hr rfl (pa_cons (pv 3) (pa_cons (pv 6) pa_nil))) (pa_cons (pv 7) pa_nil)))))
  (pss_one (ps_ret pe_bl))
  pss_nil)
  (pss_cons (ps_set (i := 8) sc_law.nd rfl (Or.inl rfl) (pe_def (ok__law_needed T) hr rfl (pa_cons (pv 3) (pa_cons (pv 6) pa_nil))))
  (pss_cons (ps_if (PW.pt (pw_or (PW.pt (pw_and (pt_val (pv 7)) (pw_and1 (pt_cmpR op_notNG (pv 8) pe_non (nomark _))))) (pw_or1 (PW.pt (pw_and (pt_not (pt_val (pv 7))) (pw_and1 (pt_cmpR op_ne (pv 8) pe_str (nomark _))))))))
  (pss_one (ps_ret pe_bl))
  pss_nil)
  (pss_one (ps_if (pt_cmpR op_ne (pe_def (ok__law_needed T) hr rfl (pa_cons (pv 3) (pa_cons (pe_def (ok__law_thing T) hr rfl (pa_cons (pv 1) pa_nil)) pa_nil))) pe_str (nomark _))
  (pss_one (ps_ret pe_bl))
  pss_nil)))))))))
  (pss_one (ps_ret pe_bl)))))), ?_⟩
    walk_at "g"
    refine ⟨_, _, rfl, hS, fun d sc ms H1 hd S1 D1 => ?_⟩
    walk_at "g"
    refine ⟨_, _, _, _, rfl, D1, by decide, by decide, fun L cs2 H2 hG hC hLd hLs hL1 D2 K2 => ?_⟩
    obtain ⟨cs, rfl, hC2⟩ := hC.lat
    have hcs := colsOk_of hG
    walk_at "g"
    refine g_newD ?_
    obtain ⟨qs, hL, hql, hqc⟩ := id hC2
    intro d1 d2 hd1 hd2
    walk_at "g"
    refine ⟨L, _, rfl, .inl (SqL.of hL), fun L2 hL2 => ?_⟩
    have D3 := D2.new (o := .lst (qs.map V.ref)) hL2
    have x3 := ext_new (o := .lst (qs.map V.ref)) hL2
    have hC3 := hC2.keep x3
    have hN3 : LAt (upd H2 L2 (.lst (qs.map V.ref))) L2 (cs.map ct) := ⟨qs, upd_same, hql, fun i q t hq ht => x3 _ _ (hqc i q t hq ht)⟩
    generalize upd H2 L2 (.lst (qs.map V.ref)) = H3 at D3 x3 hC3 hN3
    walk_at "g"
    intro x dx hx hdx hne
    have xN : XT H3 (upd (upd H3 dx (.own x)) x (.ins (cadr mg "Shape") dx [])) := fun q o h => by rw [upd_ne (ne_of_none h hx), upd_ne (ne_of_none h hdx)]; exact h
    refine ⟨x, L2, d1, d2, dx, cs, rfl, upd_same, hN3.keep xN, hcs, hd1, hd2, fun H4 k4 hSh => ⟨rfl, ?_⟩⟩
    have x4 : XT H3 H4 := fun q o h => k4 q o (ne_of_none h hx) (xN q o h)
    have D4 := D3.keepAll x4
    have hC4 := hC3.keep x4
    clear xN k4 hx hdx hN3 D3 hC3 x3 hL hqc hL2 hC2 D2 hC K2 D1
    walk_at "g"
    refine ⟨_, _, _, _, rfl, D4, by decide, by decide +kernel, fun r H5 r0 r1 D5 K5 => ?_⟩
    have hC5 := hC4.draw D4 K5 hLd
    have hS5 := hSh.keepP D4.at K5
    walk_at "g"
    refine ⟨_, rfl, by omega, by omega, ?_⟩
    refine for_rangeA (fun i σ' H' => ∃ s4 s5 s6 s7 s8, σ' = [some (.ref a), some (.ref d), some (.ref L), some (.ref x), s4, s5, s6, s7, s8] ∧ Dr H' d sc ms ∧ LAt H' L (cs.map ct) ∧ ShapeAt (cadr mg "Shape") H' cs x) ⟨_, _, _, _, _, rfl, D5, hC5, hS5⟩ ?_ ?_
    · rintro i σ' H6 D' hi ⟨s4, s5, s6, s7, s8, rfl, D6, hC6, hS6⟩ hnx hct hbk hrt
      walk_at "g"
      refine ⟨d, sc, ms, L, cs, rfl, D6, hG, hC6, hLd, fun q fm κ H7 hF hw hdp hsz B7 => ?_⟩
      have D7 := B7.D
      have hC7 := hC6.draw D6 B7.K hLd
      have hS7 := hS6.keepP D6.at B7.K
      walk_at "g"
      refine ⟨q, fm, κ, rfl, hF, hw, hdp, hdp, hsz, fun p H8 x8 A8 => ?_⟩
      have D8 := D7.keepAll x8
      have hC8 := hC7.keep x8
      have hS8 := hS7.keep x8
      have hF8 := FormAt.keep x8 hF
      walk_at "g"
      refine ⟨L, q, cs, fm, κ, rfl, hC8, hcs.le, hF8, hw, hdp, hsz, fun H9 x9 => ?_⟩
      have D9 := D8.keepAll x9
      have hC9 := hC8.keep x9
      have hS9 := hS8.keep x9
      have A9 := A8.keep x9
      walk_at "g"
      refine ⟨x, p, cs, fm, κ, rfl, hS9, A9, hw, hdp, hsz, fun H10 x10 => ?_⟩
      have D10 := D9.keepAll x10
      have hC10 := hC9.keep x10
      have hS10 := hS9.keep x10
      have A10 := A9.keep x10
      walk_at "g"
      refine ⟨fm.fits cs, rfl, ?_⟩
      walk_at "g"
      refine ⟨x, .ref p, cs, rfl, hS10, .inl ⟨p, fm, κ, rfl, A10, hw, hdp, hsz, fun H11 x11 => ?_⟩⟩
      have D11 := D10.keepAll x11
      have hC11 := hC10.keep x11
      have hS11 := hS10.keep x11
      clear hS6 hS7 hS8 hS9 hS10 hC6 hC7 hC8 hC9 hC10 A8 A9 A10 D7 D8 D9 D10 x8 x9 x10 x11 hF hF8 B7
      cases e : fm.fits cs with
      | true =>
        rw [if_pos rfl]
        walk_at "g"
        refine ⟨d, sc, ms, rfl, D11, fun v H12 hv D12 K12 => ?_⟩
        have hC12 := hC11.draw D11 K12 hLd
        have hS12 := hS11.keepP D11.at K12
        walk_at "g"
        refine ⟨x, v, cs, rfl, hS12, .inr ⟨thing_kind hv, fun H13 x13 => ?_⟩⟩
        walk_at "g"
        exact hnx _ _ ⟨_, _, _, _, _, rfl, D12.keepAll x13, hC12.keep x13, hS12.keep x13⟩
      | false =>
        rw [if_neg Bool.false_ne_true]
        walk_at "g"
        rw [decide_eq_true (rfl : Str.ofString "column" = Str.ofString "column")]
        walk_at "g"
        refine ⟨d, sc, ms, rfl, D11, fun v H12 hv D12 K12 => ?_⟩
        have hC12 := hC11.draw D11 K12 hLd
        have hS12 := hS11.keepP D11.at K12
        walk_at "g"
        refine ⟨x, v, cs, rfl, hS12, .inr ⟨thing_kind hv, fun H13 x13 => ?_⟩⟩
        walk_at "g"
        exact hnx _ _ ⟨_, _, _, _, _, rfl, D12.keepAll x13, hC12.keep x13, hS12.keep x13⟩
    · rintro σ' H6 ⟨s4, s5, s6, s7, s8, rfl, _⟩
      walk_at "g"
      exact k _
end
theorem kitSelf {K : PySem.W.Frag} {C : Addr} : PySem.W.kitOne K (.ref C) (.ref C) = some true := by
  unfold PySem.W.kitOne
  rw [if_pos (beq_self_eq_true _)]
theorem kitNo {K : PySem.W.Frag} {C : Addr} {T : String} (h2 : PySem.W.isClsIn K C = true) (h3 : PySem.W.typeIn K (.ref C) = some (.type "type")) (h4 : PySem.W.subIn K (.type T) (.ref C) = some false) : PySem.W.kitOne K (.type T) (.ref C) = some false := by
  have e1 : ¬ (Value.type T == Value.ref C) = true := fun z => nomatch (beq_iff_eq.mp z)
  have e2 : ((PySem.W.clsIn K C).isSome && PySem.W.typeIn K (.ref C) == some (.type "type")) = true := by
    have h2' : (PySem.W.clsIn K C).isSome = true := h2
    rw [h2', h3] <;> rfl
  show (if (Value.type T == Value.ref C) = true then some true else (if ((PySem.W.clsIn K C).isSome && PySem.W.typeIn K (.ref C) == some (.type "type")) = true then PySem.W.subIn K (.type T) (.ref C) else none)) = some false
  rw [if_neg e1, if_pos e2]
  exact h4
theorem kitOwnT {K : PySem.W.Frag} {C R : Addr} (h2 : PySem.W.isClsIn K R = true) (h3 : PySem.W.typeIn K (.ref R) = some (.type "type")) (h4 : PySem.W.subIn K (.ref C) (.ref R) = some true) : PySem.W.kitOne K (.ref C) (.ref R) = some true := by
  have e2 : ((PySem.W.clsIn K R).isSome && PySem.W.typeIn K (.ref R) == some (.type "type")) = true := by
    have h2' : (PySem.W.clsIn K R).isSome = true := h2
    rw [h2', h3] <;> rfl
  show (if (Value.ref C == Value.ref R) = true then some true else (if ((PySem.W.clsIn K R).isSome && PySem.W.typeIn K (.ref R) == some (.type "type")) = true then PySem.W.subIn K (.ref C) (.ref R) else none)) = some true
  by_cases e1 : (Value.ref C == Value.ref R) = true
  · rw [if_pos e1]
  · rw [if_neg e1, if_pos e2]
    exact h4
theorem kitOwn {K : PySem.W.Frag} {C R : Addr} (h1 : PySem.W.subIn K (.ref C) (.ref C) = some true) (h2 : PySem.W.isClsIn K R = true) (h3 : PySem.W.typeIn K (.ref R) = some (.type "type")) (h4 : PySem.W.subIn K (.ref C) (.ref R) = some false) : PySem.W.kitOne K (.ref C) (.ref R) = some false := by
  have e2 : ((PySem.W.clsIn K R).isSome && PySem.W.typeIn K (.ref R) == some (.type "type")) = true := by
    have h2' : (PySem.W.clsIn K R).isSome = true := h2
    rw [h2', h3] <;> rfl
  show (if (Value.ref C == Value.ref R) = true then some true else (if ((PySem.W.clsIn K R).isSome && PySem.W.typeIn K (.ref R) == some (.type "type")) = true then PySem.W.subIn K (.ref C) (.ref R) else none)) = some false
  rw [if_neg (fun e => by
    have e' : C = R := Value.ref.inj (beq_iff_eq.mp e)
    rw [e'] at h1 h4
    rw [h1] at h4
    cases h4), if_pos e2]
  exact h4
theorem exmSelf {K : PySem.W.Frag} {S : Addr} (h1 : PySem.W.subIn K (.ref S) (.type "BaseException") = some true) (h2 : PySem.W.isClsIn K S = true) (h3 : PySem.W.typeIn K (.ref S) = some (.type "type")) (h4 : PySem.W.subIn K (.ref S) (.ref S) = some true) : PySem.W.exmOne K (.ref S) (.ref S) = some true := by
  have e1 : (PySem.W.subIn K (.ref S) (.type "BaseException") == some true) = true := by rw [h1] <;> rfl
  have e2 : ((PySem.W.clsIn K S).isSome && PySem.W.typeIn K (.ref S) == some (.type "type")) = true := by
    have h2' : (PySem.W.clsIn K S).isSome = true := h2
    rw [h2', h3] <;> rfl
  show (if (PySem.W.subIn K (.ref S) (.type "BaseException") == some true) = true then (if ((PySem.W.clsIn K S).isSome && PySem.W.typeIn K (.ref S) == some (.type "type")) = true then PySem.W.subIn K (.ref S) (.ref S) else none) else none) = some true
  rw [if_pos e1, if_pos e2]
  exact h4
theorem all_mk {l : PySem.W.OpenLaw} {w : World} {K : PySem.W.Frag} {h : Heap} {mg : Str → Option Value} {fa f_is_integer f_is_sequence f_is_text f_is_name f_kind_of f_is_value f_Test_init f_Test_atoms f_Test_and f_Test_or f_Test_invert f_size_of f_depth_of f_combined f_need_column f_need_op f_need_values f_compare f_against f_among f_begins f_empty f_always f_never f_sure f_Shape_init f_is_short f_is_column f_need_columns f_need_checks f_need_keys f_is_fitting f_atom_fits f_fits f_need_test f__law_begin f__law_take f__law_is_integer f__law_chars f__law_is_text f__law_is_value f__law_number f__law_text f__law_value f__law_name f__law_columns f__law_atom f__law_wrapped f__law_form f__law_make f__law_atoms f__law_atom_names f__law_kind f__law_thing f__law_op f__law_flag f__law_fits f__law_odd_atom f__law_maybe_odd f__law_needed f_law : Addr} {c_Test c_Shape : Addr} {c_BadTest feBadTest : Addr} (X : K.In h) (G : h.Ns mainGlobals mg) (hfa : mg "law" = some (.ref fa))
    {od_is_integer an_is_integer : Option Addr} {sl_is_integer : Array (Option Value)} {oc_is_integer kV_is_integer dc_is_integer pm_is_integer cd_is_integer ct_is_integer : Value}
    {od_is_sequence an_is_sequence : Option Addr} {sl_is_sequence : Array (Option Value)} {oc_is_sequence kV_is_sequence dc_is_sequence pm_is_sequence cd_is_sequence ct_is_sequence : Value}
    {od_is_text an_is_text : Option Addr} {sl_is_text : Array (Option Value)} {oc_is_text kV_is_text dc_is_text pm_is_text cd_is_text ct_is_text : Value}
    {od_is_name an_is_name : Option Addr} {sl_is_name : Array (Option Value)} {oc_is_name kV_is_name dc_is_name pm_is_name cd_is_name ct_is_name : Value}
    {od_kind_of an_kind_of : Option Addr} {sl_kind_of : Array (Option Value)} {oc_kind_of kV_kind_of dc_kind_of pm_kind_of cd_kind_of ct_kind_of : Value}
    {od_is_value an_is_value : Option Addr} {sl_is_value : Array (Option Value)} {oc_is_value kV_is_value dc_is_value pm_is_value cd_is_value ct_is_value : Value}
    {od_Test_init an_Test_init : Option Addr} {sl_Test_init : Array (Option Value)} {oc_Test_init kV_Test_init dc_Test_init pm_Test_init cd_Test_init ct_Test_init : Value}
    {od_Test_atoms an_Test_atoms : Option Addr} {sl_Test_atoms : Array (Option Value)} {oc_Test_atoms kV_Test_atoms dc_Test_atoms pm_Test_atoms cd_Test_atoms ct_Test_atoms : Value}
    {od_Test_and an_Test_and : Option Addr} {sl_Test_and : Array (Option Value)} {oc_Test_and kV_Test_and dc_Test_and pm_Test_and cd_Test_and ct_Test_and : Value}
    {od_Test_or an_Test_or : Option Addr} {sl_Test_or : Array (Option Value)} {oc_Test_or kV_Test_or dc_Test_or pm_Test_or cd_Test_or ct_Test_or : Value}
    {od_Test_invert an_Test_invert : Option Addr} {sl_Test_invert : Array (Option Value)} {oc_Test_invert kV_Test_invert dc_Test_invert pm_Test_invert cd_Test_invert ct_Test_invert : Value}
    {od_size_of an_size_of : Option Addr} {sl_size_of : Array (Option Value)} {oc_size_of kV_size_of dc_size_of pm_size_of cd_size_of ct_size_of : Value}
    {od_depth_of an_depth_of : Option Addr} {sl_depth_of : Array (Option Value)} {oc_depth_of kV_depth_of dc_depth_of pm_depth_of cd_depth_of ct_depth_of : Value}
    {od_combined an_combined : Option Addr} {sl_combined : Array (Option Value)} {oc_combined kV_combined dc_combined pm_combined cd_combined ct_combined : Value}
    {od_need_column an_need_column : Option Addr} {sl_need_column : Array (Option Value)} {oc_need_column kV_need_column dc_need_column pm_need_column cd_need_column ct_need_column : Value}
    {od_need_op an_need_op : Option Addr} {sl_need_op : Array (Option Value)} {oc_need_op kV_need_op dc_need_op pm_need_op cd_need_op ct_need_op : Value}
    {od_need_values an_need_values : Option Addr} {sl_need_values : Array (Option Value)} {oc_need_values kV_need_values dc_need_values pm_need_values cd_need_values ct_need_values : Value}
    {od_compare an_compare : Option Addr} {sl_compare : Array (Option Value)} {oc_compare kV_compare dc_compare pm_compare cd_compare ct_compare : Value}
    {od_against an_against : Option Addr} {sl_against : Array (Option Value)} {oc_against dc_against pm_against cd_against ct_against : Value}
    {od_among an_among : Option Addr} {sl_among : Array (Option Value)} {oc_among kV_among dc_among pm_among cd_among ct_among : Value}
    {od_begins an_begins : Option Addr} {sl_begins : Array (Option Value)} {oc_begins kV_begins dc_begins pm_begins cd_begins ct_begins : Value}
    {od_empty an_empty : Option Addr} {sl_empty : Array (Option Value)} {oc_empty kV_empty dc_empty pm_empty cd_empty ct_empty : Value}
    {od_always an_always : Option Addr} {sl_always : Array (Option Value)} {oc_always kV_always dc_always pm_always cd_always ct_always : Value}
    {od_never an_never : Option Addr} {sl_never : Array (Option Value)} {oc_never kV_never dc_never pm_never cd_never ct_never : Value}
    {od_sure an_sure : Option Addr} {sl_sure : Array (Option Value)} {oc_sure kV_sure dc_sure pm_sure cd_sure ct_sure : Value}
    {od_Shape_init an_Shape_init : Option Addr} {sl_Shape_init : Array (Option Value)} {oc_Shape_init dc_Shape_init pm_Shape_init cd_Shape_init ct_Shape_init : Value}
    {od_is_short an_is_short : Option Addr} {sl_is_short : Array (Option Value)} {oc_is_short kV_is_short dc_is_short pm_is_short cd_is_short ct_is_short : Value}
    {od_is_column an_is_column : Option Addr} {sl_is_column : Array (Option Value)} {oc_is_column kV_is_column dc_is_column pm_is_column cd_is_column ct_is_column : Value}
    {od_need_columns an_need_columns : Option Addr} {sl_need_columns : Array (Option Value)} {oc_need_columns kV_need_columns dc_need_columns pm_need_columns cd_need_columns ct_need_columns : Value}
    {od_need_checks an_need_checks : Option Addr} {sl_need_checks : Array (Option Value)} {oc_need_checks kV_need_checks dc_need_checks pm_need_checks cd_need_checks ct_need_checks : Value}
    {od_need_keys an_need_keys : Option Addr} {sl_need_keys : Array (Option Value)} {oc_need_keys kV_need_keys dc_need_keys pm_need_keys cd_need_keys ct_need_keys : Value}
    {od_is_fitting an_is_fitting : Option Addr} {sl_is_fitting : Array (Option Value)} {oc_is_fitting kV_is_fitting dc_is_fitting pm_is_fitting cd_is_fitting ct_is_fitting : Value}
    {od_atom_fits an_atom_fits : Option Addr} {sl_atom_fits : Array (Option Value)} {oc_atom_fits kV_atom_fits dc_atom_fits pm_atom_fits cd_atom_fits ct_atom_fits : Value}
    {od_fits an_fits : Option Addr} {sl_fits : Array (Option Value)} {oc_fits kV_fits dc_fits pm_fits cd_fits ct_fits : Value}
    {od_need_test an_need_test : Option Addr} {sl_need_test : Array (Option Value)} {oc_need_test kV_need_test dc_need_test pm_need_test cd_need_test ct_need_test : Value}
    {od__law_begin an__law_begin : Option Addr} {sl__law_begin : Array (Option Value)} {oc__law_begin kV__law_begin dc__law_begin pm__law_begin cd__law_begin ct__law_begin : Value}
    {od__law_take an__law_take : Option Addr} {sl__law_take : Array (Option Value)} {oc__law_take kV__law_take dc__law_take pm__law_take cd__law_take ct__law_take : Value}
    {od__law_is_integer an__law_is_integer : Option Addr} {sl__law_is_integer : Array (Option Value)} {oc__law_is_integer kV__law_is_integer dc__law_is_integer pm__law_is_integer cd__law_is_integer ct__law_is_integer : Value}
    {od__law_chars an__law_chars : Option Addr} {sl__law_chars : Array (Option Value)} {oc__law_chars kV__law_chars dc__law_chars pm__law_chars cd__law_chars ct__law_chars : Value}
    {od__law_is_text an__law_is_text : Option Addr} {sl__law_is_text : Array (Option Value)} {oc__law_is_text kV__law_is_text dc__law_is_text pm__law_is_text cd__law_is_text ct__law_is_text : Value}
    {od__law_is_value an__law_is_value : Option Addr} {sl__law_is_value : Array (Option Value)} {oc__law_is_value kV__law_is_value dc__law_is_value pm__law_is_value cd__law_is_value ct__law_is_value : Value}
    {od__law_number an__law_number : Option Addr} {sl__law_number : Array (Option Value)} {oc__law_number kV__law_number dc__law_number pm__law_number cd__law_number ct__law_number : Value}
    {od__law_text an__law_text : Option Addr} {sl__law_text : Array (Option Value)} {oc__law_text kV__law_text dc__law_text pm__law_text cd__law_text ct__law_text : Value}
    {od__law_value an__law_value : Option Addr} {sl__law_value : Array (Option Value)} {oc__law_value kV__law_value dc__law_value pm__law_value cd__law_value ct__law_value : Value}
    {od__law_name an__law_name : Option Addr} {sl__law_name : Array (Option Value)} {oc__law_name kV__law_name dc__law_name pm__law_name cd__law_name ct__law_name : Value}
    {od__law_columns an__law_columns : Option Addr} {sl__law_columns : Array (Option Value)} {oc__law_columns kV__law_columns dc__law_columns pm__law_columns cd__law_columns ct__law_columns : Value}
    {od__law_atom an__law_atom : Option Addr} {sl__law_atom : Array (Option Value)} {oc__law_atom kV__law_atom dc__law_atom pm__law_atom cd__law_atom ct__law_atom : Value}
    {od__law_wrapped an__law_wrapped : Option Addr} {sl__law_wrapped : Array (Option Value)} {oc__law_wrapped kV__law_wrapped dc__law_wrapped pm__law_wrapped cd__law_wrapped ct__law_wrapped : Value}
    {od__law_form an__law_form : Option Addr} {sl__law_form : Array (Option Value)} {oc__law_form kV__law_form dc__law_form pm__law_form cd__law_form ct__law_form : Value}
    {od__law_make an__law_make : Option Addr} {sl__law_make : Array (Option Value)} {oc__law_make kV__law_make dc__law_make pm__law_make cd__law_make ct__law_make : Value}
    {od__law_atoms an__law_atoms : Option Addr} {sl__law_atoms : Array (Option Value)} {oc__law_atoms kV__law_atoms dc__law_atoms pm__law_atoms cd__law_atoms ct__law_atoms : Value}
    {od__law_atom_names an__law_atom_names : Option Addr} {sl__law_atom_names : Array (Option Value)} {oc__law_atom_names kV__law_atom_names dc__law_atom_names pm__law_atom_names cd__law_atom_names ct__law_atom_names : Value}
    {od__law_kind an__law_kind : Option Addr} {sl__law_kind : Array (Option Value)} {oc__law_kind kV__law_kind dc__law_kind pm__law_kind cd__law_kind ct__law_kind : Value}
    {od__law_thing an__law_thing : Option Addr} {sl__law_thing : Array (Option Value)} {oc__law_thing kV__law_thing dc__law_thing pm__law_thing cd__law_thing ct__law_thing : Value}
    {od__law_op an__law_op : Option Addr} {sl__law_op : Array (Option Value)} {oc__law_op kV__law_op dc__law_op pm__law_op cd__law_op ct__law_op : Value}
    {od__law_flag an__law_flag : Option Addr} {sl__law_flag : Array (Option Value)} {oc__law_flag kV__law_flag dc__law_flag pm__law_flag cd__law_flag ct__law_flag : Value}
    {od__law_fits an__law_fits : Option Addr} {sl__law_fits : Array (Option Value)} {oc__law_fits kV__law_fits dc__law_fits pm__law_fits cd__law_fits ct__law_fits : Value}
    {od__law_odd_atom an__law_odd_atom : Option Addr} {sl__law_odd_atom : Array (Option Value)} {oc__law_odd_atom kV__law_odd_atom dc__law_odd_atom pm__law_odd_atom cd__law_odd_atom ct__law_odd_atom : Value}
    {od__law_maybe_odd an__law_maybe_odd : Option Addr} {sl__law_maybe_odd : Array (Option Value)} {oc__law_maybe_odd kV__law_maybe_odd dc__law_maybe_odd pm__law_maybe_odd cd__law_maybe_odd ct__law_maybe_odd : Value}
    {od__law_needed an__law_needed : Option Addr} {sl__law_needed : Array (Option Value)} {oc__law_needed kV__law_needed dc__law_needed pm__law_needed cd__law_needed ct__law_needed : Value}
    {od_law an_law : Option Addr} {sl_law : Array (Option Value)} {oc_law kV_law dc_law pm_law cd_law ct_law : Value}
    (a_Test : PySem.W.nsIn K mainGlobals "Test" = some (some (.ref c_Test))) (pg_Test : PySem.W.plainGet K c_Test Str.empty = true) (hd_Test : PySem.W.hasDictIn K c_Test = true) (po_Test : PySem.W.plainOver K c_Test = true) (sa_Test : PySem.W.findIn K (.ref c_Test) "__setattr__" = some (some (.builtin "object.__setattr__"))) (mk_Test : PySem.W.makesIn K c_Test = true) (kc_Test : PySem.W.keepIn K (.ref c_Test) = true)
    (sf_Test : PySem.W.selfFirst K c_Test = true)
    (nr_Test_and : PySem.W.findIn K (.ref c_Test) (dunderR "and") = some none)
    (nr_Test_or : PySem.W.findIn K (.ref c_Test) (dunderR "or") = some none)
    (ia_Test : PySem.W.findIn K (.ref c_Test) "__class__" = some (some (.builtin "object.__class__"))) (in_Test : PySem.W.specialIn K (.builtin "object.__class__") "__get__" = some (some (.builtin "getset_descriptor.__get__"))) (it_Test : PySem.W.takesIn K (.builtin "object.__class__") = some true) (im_Test : PySem.W.mroIn K c_Test (.type "object") = some true) (io_Test : PySem.W.isClsIn K c_Test = true) (iy_Test : PySem.W.typeIn K (.ref c_Test) = some (.type "type"))
    (iz_Test_NoneType : PySem.W.subIn K (.type "NoneType") (.ref c_Test) = some false)
    (iz_Test_bool : PySem.W.subIn K (.type "bool") (.ref c_Test) = some false)
    (iz_Test_int : PySem.W.subIn K (.type "int") (.ref c_Test) = some false)
    (iz_Test_str : PySem.W.subIn K (.type "str") (.ref c_Test) = some false)
    (iz_Test_list : PySem.W.subIn K (.type "list") (.ref c_Test) = some false)
    (iz_Test_tuple : PySem.W.subIn K (.type "tuple") (.ref c_Test) = some false)
    (iz_Test_dict : PySem.W.subIn K (.type "dict") (.ref c_Test) = some false)
    (n_Test_word : PySem.W.findIn K (.ref c_Test) "word" = some none)
    (n_Test_inner : PySem.W.findIn K (.ref c_Test) "inner" = some none)
    (n_Test_fields : PySem.W.findIn K (.ref c_Test) "fields" = some none)
    (n_Test_terms : PySem.W.findIn K (.ref c_Test) "terms" = some none)
    (n_Test_size : PySem.W.findIn K (.ref c_Test) "size" = some none)
    (n_Test_depth : PySem.W.findIn K (.ref c_Test) "depth" = some none)
    (a_Shape : PySem.W.nsIn K mainGlobals "Shape" = some (some (.ref c_Shape))) (pg_Shape : PySem.W.plainGet K c_Shape Str.empty = true) (hd_Shape : PySem.W.hasDictIn K c_Shape = true) (po_Shape : PySem.W.plainOver K c_Shape = true) (sa_Shape : PySem.W.findIn K (.ref c_Shape) "__setattr__" = some (some (.builtin "object.__setattr__"))) (mk_Shape : PySem.W.makesIn K c_Shape = true) (kc_Shape : PySem.W.keepIn K (.ref c_Shape) = true)
    (sf_Shape : PySem.W.selfFirst K c_Shape = true)
    (nr_Shape_and : PySem.W.findIn K (.ref c_Shape) (dunderR "and") = some none)
    (nr_Shape_or : PySem.W.findIn K (.ref c_Shape) (dunderR "or") = some none)
    (ia_Shape : PySem.W.findIn K (.ref c_Shape) "__class__" = some (some (.builtin "object.__class__"))) (in_Shape : PySem.W.specialIn K (.builtin "object.__class__") "__get__" = some (some (.builtin "getset_descriptor.__get__"))) (it_Shape : PySem.W.takesIn K (.builtin "object.__class__") = some true) (im_Shape : PySem.W.mroIn K c_Shape (.type "object") = some true) (io_Shape : PySem.W.isClsIn K c_Shape = true) (iy_Shape : PySem.W.typeIn K (.ref c_Shape) = some (.type "type"))
    (iz_Shape_NoneType : PySem.W.subIn K (.type "NoneType") (.ref c_Shape) = some false)
    (iz_Shape_bool : PySem.W.subIn K (.type "bool") (.ref c_Shape) = some false)
    (iz_Shape_int : PySem.W.subIn K (.type "int") (.ref c_Shape) = some false)
    (iz_Shape_str : PySem.W.subIn K (.type "str") (.ref c_Shape) = some false)
    (iz_Shape_list : PySem.W.subIn K (.type "list") (.ref c_Shape) = some false)
    (iz_Shape_tuple : PySem.W.subIn K (.type "tuple") (.ref c_Shape) = some false)
    (iz_Shape_dict : PySem.W.subIn K (.type "dict") (.ref c_Shape) = some false)
    (n_Shape_layout : PySem.W.findIn K (.ref c_Shape) "layout" = some none)
    (n_Shape_spots : PySem.W.findIn K (.ref c_Shape) "spots" = some none)
    (n_Shape_check_tests : PySem.W.findIn K (.ref c_Shape) "check_tests" = some none)
    (n_Shape_key_rules : PySem.W.findIn K (.ref c_Shape) "key_rules" = some none)
    {nm_eBadTest q_eBadTest : Str} {N_eBadTest : Addr} {bs_eBadTest bm_eBadTest : List Value} {sn_eBadTest : List Str} {su_eBadTest : List Value} {ab_eBadTest : Bool} {co_eBadTest : Option Bool} {dd_eBadTest : Option Addr} {m0_eBadTest m1_eBadTest m2_eBadTest m3_eBadTest m5_eBadTest : Option Value} {oc_eBadTest doc_eBadTest pm_eBadTest cd_eBadTest ct_eBadTest : Value} {od_eBadTest an_eBadTest : Option Addr} {sl_eBadTest : Array (Option Value)} {p1_eBadTest p2_eBadTest q1_eBadTest q2_eBadTest q3_eBadTest q4_eBadTest : Pos} {sc_eBadTest : Scope}
    (a_eBadTest : PySem.W.nsIn K mainGlobals "BadTest" = some (some (.ref c_BadTest))) (x_eBadTest : K.lookup c_BadTest = some (excClassObj nm_eBadTest q_eBadTest c_BadTest N_eBadTest bs_eBadTest bm_eBadTest true sn_eBadTest su_eBadTest ab_eBadTest co_eBadTest dd_eBadTest m0_eBadTest m1_eBadTest m2_eBadTest m3_eBadTest m5_eBadTest "Exception.__new__")) (o_eBadTest : PySem.TwX.OwnEx bm_eBadTest) (sa_eBadTest : PySem.W.findIn K (.ref c_BadTest) "__setattr__" = some (some (.builtin "object.__setattr__"))) (ga_eBadTest : PySem.W.findIn K (.ref c_BadTest) "__getattribute__" = some (some (.builtin "BaseException.__getattribute__"))) (gg_eBadTest : PySem.W.findIn K (.ref c_BadTest) "__getattr__" = some none) (nb_eBadTest : PySem.W.findIn K (.ref c_BadTest) "why" = some none) (i_eBadTest : PySem.W.findIn K (.ref c_BadTest) "__init__" = some (some (.ref feBadTest))) (t_eBadTest : PySem.W.typeIn K (.ref feBadTest) = some (.type "function"))
    (l_eBadTest : K.lookup feBadTest = some ⟨oc_eBadTest, od_eBadTest, .func (PySem.W.fnOf "__init__" "BadTest.__init__" (PySem.ErBadTest.inA p1_eBadTest p2_eBadTest) (PySem.ErBadTest.inB q1_eBadTest q2_eBadTest q3_eBadTest q4_eBadTest) sc_eBadTest .none .none doc_eBadTest pm_eBadTest an_eBadTest cd_eBadTest ct_eBadTest), sl_eBadTest⟩) (cc_eBadTest : PySem.W.codeIn K cd_eBadTest "BadTest.__init__" = true) (s1_eBadTest : sc_eBadTest.kind = .function) (s2_eBadTest : sc_eBadTest.names = [(PySem.Str.ofString "self", .local), (PySem.Str.ofString "why", .local)]) (s3_eBadTest : sc_eBadTest.isGenerator = false) (s4_eBadTest : sc_eBadTest.isCoroutine = false)
    (k_eBadTest : PySem.W.keepIn K (.ref c_BadTest) = true) (eC_eBadTest : PySem.W.subIn K (.ref c_BadTest) (.type "BaseException") = some true) (tC_eBadTest : PySem.W.typeIn K (.ref c_BadTest) = some (.type "type")) (hC_eBadTest : PySem.W.hasDictIn K c_BadTest = true) (te_eBadTest : PySem.W.isClsIn K c_BadTest = true) (tf_eBadTest : PySem.W.subIn K (.ref c_BadTest) (.ref c_BadTest) = some true)
    (a_is_integer : PySem.W.nsIn K mainGlobals "is_integer" = some (some (.ref f_is_integer))) (l_is_integer : K.lookup f_is_integer = some ⟨oc_is_integer, od_is_integer, .func (PySem.W.fnOf "is_integer" "is_integer" (defArgs S_is_integer) (defBody S_is_integer) (defScope S_is_integer) .none kV_is_integer dc_is_integer pm_is_integer an_is_integer cd_is_integer ct_is_integer), sl_is_integer⟩) (c_is_integer : PySem.W.codeIn K cd_is_integer "is_integer" = true) (k_is_integer : PySem.W.keepIn K (.ref f_is_integer) = true)
    (a_is_sequence : PySem.W.nsIn K mainGlobals "is_sequence" = some (some (.ref f_is_sequence))) (l_is_sequence : K.lookup f_is_sequence = some ⟨oc_is_sequence, od_is_sequence, .func (PySem.W.fnOf "is_sequence" "is_sequence" (defArgs S_is_sequence) (defBody S_is_sequence) (defScope S_is_sequence) .none kV_is_sequence dc_is_sequence pm_is_sequence an_is_sequence cd_is_sequence ct_is_sequence), sl_is_sequence⟩) (c_is_sequence : PySem.W.codeIn K cd_is_sequence "is_sequence" = true) (k_is_sequence : PySem.W.keepIn K (.ref f_is_sequence) = true)
    (a_is_text : PySem.W.nsIn K mainGlobals "is_text" = some (some (.ref f_is_text))) (l_is_text : K.lookup f_is_text = some ⟨oc_is_text, od_is_text, .func (PySem.W.fnOf "is_text" "is_text" (defArgs S_is_text) (defBody S_is_text) (defScope S_is_text) .none kV_is_text dc_is_text pm_is_text an_is_text cd_is_text ct_is_text), sl_is_text⟩) (c_is_text : PySem.W.codeIn K cd_is_text "is_text" = true) (k_is_text : PySem.W.keepIn K (.ref f_is_text) = true)
    (a_is_name : PySem.W.nsIn K mainGlobals "is_name" = some (some (.ref f_is_name))) (l_is_name : K.lookup f_is_name = some ⟨oc_is_name, od_is_name, .func (PySem.W.fnOf "is_name" "is_name" (defArgs S_is_name) (defBody S_is_name) (defScope S_is_name) .none kV_is_name dc_is_name pm_is_name an_is_name cd_is_name ct_is_name), sl_is_name⟩) (c_is_name : PySem.W.codeIn K cd_is_name "is_name" = true) (k_is_name : PySem.W.keepIn K (.ref f_is_name) = true)
    (a_kind_of : PySem.W.nsIn K mainGlobals "kind_of" = some (some (.ref f_kind_of))) (l_kind_of : K.lookup f_kind_of = some ⟨oc_kind_of, od_kind_of, .func (PySem.W.fnOf "kind_of" "kind_of" (defArgs S_kind_of) (defBody S_kind_of) (defScope S_kind_of) .none kV_kind_of dc_kind_of pm_kind_of an_kind_of cd_kind_of ct_kind_of), sl_kind_of⟩) (c_kind_of : PySem.W.codeIn K cd_kind_of "kind_of" = true) (k_kind_of : PySem.W.keepIn K (.ref f_kind_of) = true)
    (a_is_value : PySem.W.nsIn K mainGlobals "is_value" = some (some (.ref f_is_value))) (l_is_value : K.lookup f_is_value = some ⟨oc_is_value, od_is_value, .func (PySem.W.fnOf "is_value" "is_value" (defArgs S_is_value) (defBody S_is_value) (defScope S_is_value) .none kV_is_value dc_is_value pm_is_value an_is_value cd_is_value ct_is_value), sl_is_value⟩) (c_is_value : PySem.W.codeIn K cd_is_value "is_value" = true) (k_is_value : PySem.W.keepIn K (.ref f_is_value) = true)
    (a_Test_init : PySem.W.findIn K (.ref c_Test) "__init__" = some (some (.ref f_Test_init))) (i_Test_init : PySem.W.isFn K (.ref f_Test_init) = true) (l_Test_init : K.lookup f_Test_init = some ⟨oc_Test_init, od_Test_init, .func (PySem.W.fnOf "__init__" "Test.__init__" (defArgs S_Test_init) (defBody S_Test_init) (defScope S_Test_init) .none kV_Test_init dc_Test_init pm_Test_init an_Test_init cd_Test_init ct_Test_init), sl_Test_init⟩) (c_Test_init : PySem.W.codeIn K cd_Test_init "Test.__init__" = true) (k_Test_init : PySem.W.keepIn K (.ref f_Test_init) = true)
    (a_Test_atoms : PySem.W.findIn K (.ref c_Test) "atoms" = some (some (.ref f_Test_atoms))) (i_Test_atoms : PySem.W.isFn K (.ref f_Test_atoms) = true) (l_Test_atoms : K.lookup f_Test_atoms = some ⟨oc_Test_atoms, od_Test_atoms, .func (PySem.W.fnOf "atoms" "Test.atoms" (defArgs S_Test_atoms) (defBody S_Test_atoms) (defScope S_Test_atoms) .none kV_Test_atoms dc_Test_atoms pm_Test_atoms an_Test_atoms cd_Test_atoms ct_Test_atoms), sl_Test_atoms⟩) (c_Test_atoms : PySem.W.codeIn K cd_Test_atoms "Test.atoms" = true) (k_Test_atoms : PySem.W.keepIn K (.ref f_Test_atoms) = true)
    (a_Test_and : PySem.W.findIn K (.ref c_Test) "__and__" = some (some (.ref f_Test_and))) (i_Test_and : PySem.W.isFn K (.ref f_Test_and) = true) (l_Test_and : K.lookup f_Test_and = some ⟨oc_Test_and, od_Test_and, .func (PySem.W.fnOf "__and__" "Test.__and__" (defArgs S_Test_and) (defBody S_Test_and) (defScope S_Test_and) .none kV_Test_and dc_Test_and pm_Test_and an_Test_and cd_Test_and ct_Test_and), sl_Test_and⟩) (c_Test_and : PySem.W.codeIn K cd_Test_and "Test.__and__" = true) (k_Test_and : PySem.W.keepIn K (.ref f_Test_and) = true)
    (a_Test_or : PySem.W.findIn K (.ref c_Test) "__or__" = some (some (.ref f_Test_or))) (i_Test_or : PySem.W.isFn K (.ref f_Test_or) = true) (l_Test_or : K.lookup f_Test_or = some ⟨oc_Test_or, od_Test_or, .func (PySem.W.fnOf "__or__" "Test.__or__" (defArgs S_Test_or) (defBody S_Test_or) (defScope S_Test_or) .none kV_Test_or dc_Test_or pm_Test_or an_Test_or cd_Test_or ct_Test_or), sl_Test_or⟩) (c_Test_or : PySem.W.codeIn K cd_Test_or "Test.__or__" = true) (k_Test_or : PySem.W.keepIn K (.ref f_Test_or) = true)
    (a_Test_invert : PySem.W.findIn K (.ref c_Test) "__invert__" = some (some (.ref f_Test_invert))) (i_Test_invert : PySem.W.isFn K (.ref f_Test_invert) = true) (l_Test_invert : K.lookup f_Test_invert = some ⟨oc_Test_invert, od_Test_invert, .func (PySem.W.fnOf "__invert__" "Test.__invert__" (defArgs S_Test_invert) (defBody S_Test_invert) (defScope S_Test_invert) .none kV_Test_invert dc_Test_invert pm_Test_invert an_Test_invert cd_Test_invert ct_Test_invert), sl_Test_invert⟩) (c_Test_invert : PySem.W.codeIn K cd_Test_invert "Test.__invert__" = true) (k_Test_invert : PySem.W.keepIn K (.ref f_Test_invert) = true)
    (a_size_of : PySem.W.nsIn K mainGlobals "size_of" = some (some (.ref f_size_of))) (l_size_of : K.lookup f_size_of = some ⟨oc_size_of, od_size_of, .func (PySem.W.fnOf "size_of" "size_of" (defArgs S_size_of) (defBody S_size_of) (defScope S_size_of) .none kV_size_of dc_size_of pm_size_of an_size_of cd_size_of ct_size_of), sl_size_of⟩) (c_size_of : PySem.W.codeIn K cd_size_of "size_of" = true) (k_size_of : PySem.W.keepIn K (.ref f_size_of) = true)
    (a_depth_of : PySem.W.nsIn K mainGlobals "depth_of" = some (some (.ref f_depth_of))) (l_depth_of : K.lookup f_depth_of = some ⟨oc_depth_of, od_depth_of, .func (PySem.W.fnOf "depth_of" "depth_of" (defArgs S_depth_of) (defBody S_depth_of) (defScope S_depth_of) .none kV_depth_of dc_depth_of pm_depth_of an_depth_of cd_depth_of ct_depth_of), sl_depth_of⟩) (c_depth_of : PySem.W.codeIn K cd_depth_of "depth_of" = true) (k_depth_of : PySem.W.keepIn K (.ref f_depth_of) = true)
    (a_combined : PySem.W.nsIn K mainGlobals "combined" = some (some (.ref f_combined))) (l_combined : K.lookup f_combined = some ⟨oc_combined, od_combined, .func (PySem.W.fnOf "combined" "combined" (defArgs S_combined) (defBody S_combined) (defScope S_combined) .none kV_combined dc_combined pm_combined an_combined cd_combined ct_combined), sl_combined⟩) (c_combined : PySem.W.codeIn K cd_combined "combined" = true) (k_combined : PySem.W.keepIn K (.ref f_combined) = true)
    (a_need_column : PySem.W.nsIn K mainGlobals "need_column" = some (some (.ref f_need_column))) (l_need_column : K.lookup f_need_column = some ⟨oc_need_column, od_need_column, .func (PySem.W.fnOf "need_column" "need_column" (defArgs S_need_column) (defBody S_need_column) (defScope S_need_column) .none kV_need_column dc_need_column pm_need_column an_need_column cd_need_column ct_need_column), sl_need_column⟩) (c_need_column : PySem.W.codeIn K cd_need_column "need_column" = true) (k_need_column : PySem.W.keepIn K (.ref f_need_column) = true)
    (a_need_op : PySem.W.nsIn K mainGlobals "need_op" = some (some (.ref f_need_op))) (l_need_op : K.lookup f_need_op = some ⟨oc_need_op, od_need_op, .func (PySem.W.fnOf "need_op" "need_op" (defArgs S_need_op) (defBody S_need_op) (defScope S_need_op) .none kV_need_op dc_need_op pm_need_op an_need_op cd_need_op ct_need_op), sl_need_op⟩) (c_need_op : PySem.W.codeIn K cd_need_op "need_op" = true) (k_need_op : PySem.W.keepIn K (.ref f_need_op) = true)
    (a_need_values : PySem.W.nsIn K mainGlobals "need_values" = some (some (.ref f_need_values))) (l_need_values : K.lookup f_need_values = some ⟨oc_need_values, od_need_values, .func (PySem.W.fnOf "need_values" "need_values" (defArgs S_need_values) (defBody S_need_values) (defScope S_need_values) .none kV_need_values dc_need_values pm_need_values an_need_values cd_need_values ct_need_values), sl_need_values⟩) (c_need_values : PySem.W.codeIn K cd_need_values "need_values" = true) (k_need_values : PySem.W.keepIn K (.ref f_need_values) = true)
    (a_compare : PySem.W.nsIn K mainGlobals "compare" = some (some (.ref f_compare))) (l_compare : K.lookup f_compare = some ⟨oc_compare, od_compare, .func (PySem.W.fnOf "compare" "compare" (defArgs S_compare) (defBody S_compare) (defScope S_compare) .none kV_compare dc_compare pm_compare an_compare cd_compare ct_compare), sl_compare⟩) (c_compare : PySem.W.codeIn K cd_compare "compare" = true) (k_compare : PySem.W.keepIn K (.ref f_compare) = true)
    {kD_against : Addr} {kt_against : Tok}
    (a_against : PySem.W.nsIn K mainGlobals "against" = some (some (.ref f_against))) (l_against : K.lookup f_against = some ⟨oc_against, od_against, .func (PySem.W.fnOf "against" "against" (defArgs S_against) (defBody S_against) (defScope S_against) .none (.ref kD_against) dc_against pm_against an_against cd_against ct_against), sl_against⟩) (c_against : PySem.W.codeIn K cd_against "against" = true) (k_against : PySem.W.keepIn K (.ref f_against) = true)
    (kn_against : PySem.W.nsIn K kD_against "more" = some (some (.int 0 kt_against)))
    (a_among : PySem.W.nsIn K mainGlobals "among" = some (some (.ref f_among))) (l_among : K.lookup f_among = some ⟨oc_among, od_among, .func (PySem.W.fnOf "among" "among" (defArgs S_among) (defBody S_among) (defScope S_among) .none kV_among dc_among pm_among an_among cd_among ct_among), sl_among⟩) (c_among : PySem.W.codeIn K cd_among "among" = true) (k_among : PySem.W.keepIn K (.ref f_among) = true)
    (a_begins : PySem.W.nsIn K mainGlobals "begins" = some (some (.ref f_begins))) (l_begins : K.lookup f_begins = some ⟨oc_begins, od_begins, .func (PySem.W.fnOf "begins" "begins" (defArgs S_begins) (defBody S_begins) (defScope S_begins) .none kV_begins dc_begins pm_begins an_begins cd_begins ct_begins), sl_begins⟩) (c_begins : PySem.W.codeIn K cd_begins "begins" = true) (k_begins : PySem.W.keepIn K (.ref f_begins) = true)
    (a_empty : PySem.W.nsIn K mainGlobals "empty" = some (some (.ref f_empty))) (l_empty : K.lookup f_empty = some ⟨oc_empty, od_empty, .func (PySem.W.fnOf "empty" "empty" (defArgs S_empty) (defBody S_empty) (defScope S_empty) .none kV_empty dc_empty pm_empty an_empty cd_empty ct_empty), sl_empty⟩) (c_empty : PySem.W.codeIn K cd_empty "empty" = true) (k_empty : PySem.W.keepIn K (.ref f_empty) = true)
    (a_always : PySem.W.nsIn K mainGlobals "always" = some (some (.ref f_always))) (l_always : K.lookup f_always = some ⟨oc_always, od_always, .func (PySem.W.fnOf "always" "always" (defArgs S_always) (defBody S_always) (defScope S_always) .none kV_always dc_always pm_always an_always cd_always ct_always), sl_always⟩) (c_always : PySem.W.codeIn K cd_always "always" = true) (k_always : PySem.W.keepIn K (.ref f_always) = true)
    (a_never : PySem.W.nsIn K mainGlobals "never" = some (some (.ref f_never))) (l_never : K.lookup f_never = some ⟨oc_never, od_never, .func (PySem.W.fnOf "never" "never" (defArgs S_never) (defBody S_never) (defScope S_never) .none kV_never dc_never pm_never an_never cd_never ct_never), sl_never⟩) (c_never : PySem.W.codeIn K cd_never "never" = true) (k_never : PySem.W.keepIn K (.ref f_never) = true)
    (a_sure : PySem.W.nsIn K mainGlobals "sure" = some (some (.ref f_sure))) (l_sure : K.lookup f_sure = some ⟨oc_sure, od_sure, .func (PySem.W.fnOf "sure" "sure" (defArgs S_sure) (defBody S_sure) (defScope S_sure) .none kV_sure dc_sure pm_sure an_sure cd_sure ct_sure), sl_sure⟩) (c_sure : PySem.W.codeIn K cd_sure "sure" = true) (k_sure : PySem.W.keepIn K (.ref f_sure) = true)
    {kD_Shape_init da1_Shape_init da2_Shape_init : Addr} {do1_Shape_init do2_Shape_init : Obj} {di1_Shape_init di2_Shape_init : Array Value} {dn1_Shape_init dn2_Shape_init : Nat}
    (a_Shape_init : PySem.W.findIn K (.ref c_Shape) "__init__" = some (some (.ref f_Shape_init))) (i_Shape_init : PySem.W.isFn K (.ref f_Shape_init) = true) (l_Shape_init : K.lookup f_Shape_init = some ⟨oc_Shape_init, od_Shape_init, .func (PySem.W.fnOf "__init__" "Shape.__init__" (defArgs S_Shape_init) (defBody S_Shape_init) (defScope S_Shape_init) .none (.ref kD_Shape_init) dc_Shape_init pm_Shape_init an_Shape_init cd_Shape_init ct_Shape_init), sl_Shape_init⟩) (c_Shape_init : PySem.W.codeIn K cd_Shape_init "Shape.__init__" = true) (k_Shape_init : PySem.W.keepIn K (.ref f_Shape_init) = true)
    (kn1_Shape_init : PySem.W.nsIn K kD_Shape_init "checks" = some (some (.ref da1_Shape_init))) (kl1_Shape_init : K.lookup da1_Shape_init = some do1_Shape_init) (gc_1_Shape_init : do1_Shape_init.cls = .type "tuple") (gd_1_Shape_init : do1_Shape_init.data = .seq di1_Shape_init dn1_Shape_init) (kz1_Shape_init : di1_Shape_init.size = 0)
    (kn2_Shape_init : PySem.W.nsIn K kD_Shape_init "keys" = some (some (.ref da2_Shape_init))) (kl2_Shape_init : K.lookup da2_Shape_init = some do2_Shape_init) (gc_2_Shape_init : do2_Shape_init.cls = .type "tuple") (gd_2_Shape_init : do2_Shape_init.data = .seq di2_Shape_init dn2_Shape_init) (kz2_Shape_init : di2_Shape_init.size = 0)
    (a_is_short : PySem.W.nsIn K mainGlobals "is_short" = some (some (.ref f_is_short))) (l_is_short : K.lookup f_is_short = some ⟨oc_is_short, od_is_short, .func (PySem.W.fnOf "is_short" "is_short" (defArgs S_is_short) (defBody S_is_short) (defScope S_is_short) .none kV_is_short dc_is_short pm_is_short an_is_short cd_is_short ct_is_short), sl_is_short⟩) (c_is_short : PySem.W.codeIn K cd_is_short "is_short" = true) (k_is_short : PySem.W.keepIn K (.ref f_is_short) = true)
    (a_is_column : PySem.W.nsIn K mainGlobals "is_column" = some (some (.ref f_is_column))) (l_is_column : K.lookup f_is_column = some ⟨oc_is_column, od_is_column, .func (PySem.W.fnOf "is_column" "is_column" (defArgs S_is_column) (defBody S_is_column) (defScope S_is_column) .none kV_is_column dc_is_column pm_is_column an_is_column cd_is_column ct_is_column), sl_is_column⟩) (c_is_column : PySem.W.codeIn K cd_is_column "is_column" = true) (k_is_column : PySem.W.keepIn K (.ref f_is_column) = true)
    (a_need_columns : PySem.W.nsIn K mainGlobals "need_columns" = some (some (.ref f_need_columns))) (l_need_columns : K.lookup f_need_columns = some ⟨oc_need_columns, od_need_columns, .func (PySem.W.fnOf "need_columns" "need_columns" (defArgs S_need_columns) (defBody S_need_columns) (defScope S_need_columns) .none kV_need_columns dc_need_columns pm_need_columns an_need_columns cd_need_columns ct_need_columns), sl_need_columns⟩) (c_need_columns : PySem.W.codeIn K cd_need_columns "need_columns" = true) (k_need_columns : PySem.W.keepIn K (.ref f_need_columns) = true)
    (a_need_checks : PySem.W.nsIn K mainGlobals "need_checks" = some (some (.ref f_need_checks))) (l_need_checks : K.lookup f_need_checks = some ⟨oc_need_checks, od_need_checks, .func (PySem.W.fnOf "need_checks" "need_checks" (defArgs S_need_checks) (defBody S_need_checks) (defScope S_need_checks) .none kV_need_checks dc_need_checks pm_need_checks an_need_checks cd_need_checks ct_need_checks), sl_need_checks⟩) (c_need_checks : PySem.W.codeIn K cd_need_checks "need_checks" = true) (k_need_checks : PySem.W.keepIn K (.ref f_need_checks) = true)
    (a_need_keys : PySem.W.nsIn K mainGlobals "need_keys" = some (some (.ref f_need_keys))) (l_need_keys : K.lookup f_need_keys = some ⟨oc_need_keys, od_need_keys, .func (PySem.W.fnOf "need_keys" "need_keys" (defArgs S_need_keys) (defBody S_need_keys) (defScope S_need_keys) .none kV_need_keys dc_need_keys pm_need_keys an_need_keys cd_need_keys ct_need_keys), sl_need_keys⟩) (c_need_keys : PySem.W.codeIn K cd_need_keys "need_keys" = true) (k_need_keys : PySem.W.keepIn K (.ref f_need_keys) = true)
    (a_is_fitting : PySem.W.nsIn K mainGlobals "is_fitting" = some (some (.ref f_is_fitting))) (l_is_fitting : K.lookup f_is_fitting = some ⟨oc_is_fitting, od_is_fitting, .func (PySem.W.fnOf "is_fitting" "is_fitting" (defArgs S_is_fitting) (defBody S_is_fitting) (defScope S_is_fitting) .none kV_is_fitting dc_is_fitting pm_is_fitting an_is_fitting cd_is_fitting ct_is_fitting), sl_is_fitting⟩) (c_is_fitting : PySem.W.codeIn K cd_is_fitting "is_fitting" = true) (k_is_fitting : PySem.W.keepIn K (.ref f_is_fitting) = true)
    (a_atom_fits : PySem.W.nsIn K mainGlobals "atom_fits" = some (some (.ref f_atom_fits))) (l_atom_fits : K.lookup f_atom_fits = some ⟨oc_atom_fits, od_atom_fits, .func (PySem.W.fnOf "atom_fits" "atom_fits" (defArgs S_atom_fits) (defBody S_atom_fits) (defScope S_atom_fits) .none kV_atom_fits dc_atom_fits pm_atom_fits an_atom_fits cd_atom_fits ct_atom_fits), sl_atom_fits⟩) (c_atom_fits : PySem.W.codeIn K cd_atom_fits "atom_fits" = true) (k_atom_fits : PySem.W.keepIn K (.ref f_atom_fits) = true)
    (a_fits : PySem.W.nsIn K mainGlobals "fits" = some (some (.ref f_fits))) (l_fits : K.lookup f_fits = some ⟨oc_fits, od_fits, .func (PySem.W.fnOf "fits" "fits" (defArgs S_fits) (defBody S_fits) (defScope S_fits) .none kV_fits dc_fits pm_fits an_fits cd_fits ct_fits), sl_fits⟩) (c_fits : PySem.W.codeIn K cd_fits "fits" = true) (k_fits : PySem.W.keepIn K (.ref f_fits) = true)
    (a_need_test : PySem.W.nsIn K mainGlobals "need_test" = some (some (.ref f_need_test))) (l_need_test : K.lookup f_need_test = some ⟨oc_need_test, od_need_test, .func (PySem.W.fnOf "need_test" "need_test" (defArgs S_need_test) (defBody S_need_test) (defScope S_need_test) .none kV_need_test dc_need_test pm_need_test an_need_test cd_need_test ct_need_test), sl_need_test⟩) (c_need_test : PySem.W.codeIn K cd_need_test "need_test" = true) (k_need_test : PySem.W.keepIn K (.ref f_need_test) = true)
    (a__law_begin : PySem.W.nsIn K mainGlobals "_law_begin" = some (some (.ref f__law_begin))) (l__law_begin : K.lookup f__law_begin = some ⟨oc__law_begin, od__law_begin, .func (PySem.W.fnOf "_law_begin" "_law_begin" (defArgs S__law_begin) (defBody S__law_begin) (defScope S__law_begin) .none kV__law_begin dc__law_begin pm__law_begin an__law_begin cd__law_begin ct__law_begin), sl__law_begin⟩) (c__law_begin : PySem.W.codeIn K cd__law_begin "_law_begin" = true) (k__law_begin : PySem.W.keepIn K (.ref f__law_begin) = true)
    (a__law_take : PySem.W.nsIn K mainGlobals "_law_take" = some (some (.ref f__law_take))) (l__law_take : K.lookup f__law_take = some ⟨oc__law_take, od__law_take, .func (PySem.W.fnOf "_law_take" "_law_take" (defArgs S__law_take) (defBody S__law_take) (defScope S__law_take) .none kV__law_take dc__law_take pm__law_take an__law_take cd__law_take ct__law_take), sl__law_take⟩) (c__law_take : PySem.W.codeIn K cd__law_take "_law_take" = true) (k__law_take : PySem.W.keepIn K (.ref f__law_take) = true)
    (a__law_is_integer : PySem.W.nsIn K mainGlobals "_law_is_integer" = some (some (.ref f__law_is_integer))) (l__law_is_integer : K.lookup f__law_is_integer = some ⟨oc__law_is_integer, od__law_is_integer, .func (PySem.W.fnOf "_law_is_integer" "_law_is_integer" (defArgs S__law_is_integer) (defBody S__law_is_integer) (defScope S__law_is_integer) .none kV__law_is_integer dc__law_is_integer pm__law_is_integer an__law_is_integer cd__law_is_integer ct__law_is_integer), sl__law_is_integer⟩) (c__law_is_integer : PySem.W.codeIn K cd__law_is_integer "_law_is_integer" = true) (k__law_is_integer : PySem.W.keepIn K (.ref f__law_is_integer) = true)
    (a__law_chars : PySem.W.nsIn K mainGlobals "_law_chars" = some (some (.ref f__law_chars))) (l__law_chars : K.lookup f__law_chars = some ⟨oc__law_chars, od__law_chars, .func (PySem.W.fnOf "_law_chars" "_law_chars" (defArgs S__law_chars) (defBody S__law_chars) (defScope S__law_chars) .none kV__law_chars dc__law_chars pm__law_chars an__law_chars cd__law_chars ct__law_chars), sl__law_chars⟩) (c__law_chars : PySem.W.codeIn K cd__law_chars "_law_chars" = true) (k__law_chars : PySem.W.keepIn K (.ref f__law_chars) = true)
    (a__law_is_text : PySem.W.nsIn K mainGlobals "_law_is_text" = some (some (.ref f__law_is_text))) (l__law_is_text : K.lookup f__law_is_text = some ⟨oc__law_is_text, od__law_is_text, .func (PySem.W.fnOf "_law_is_text" "_law_is_text" (defArgs S__law_is_text) (defBody S__law_is_text) (defScope S__law_is_text) .none kV__law_is_text dc__law_is_text pm__law_is_text an__law_is_text cd__law_is_text ct__law_is_text), sl__law_is_text⟩) (c__law_is_text : PySem.W.codeIn K cd__law_is_text "_law_is_text" = true) (k__law_is_text : PySem.W.keepIn K (.ref f__law_is_text) = true)
    (a__law_is_value : PySem.W.nsIn K mainGlobals "_law_is_value" = some (some (.ref f__law_is_value))) (l__law_is_value : K.lookup f__law_is_value = some ⟨oc__law_is_value, od__law_is_value, .func (PySem.W.fnOf "_law_is_value" "_law_is_value" (defArgs S__law_is_value) (defBody S__law_is_value) (defScope S__law_is_value) .none kV__law_is_value dc__law_is_value pm__law_is_value an__law_is_value cd__law_is_value ct__law_is_value), sl__law_is_value⟩) (c__law_is_value : PySem.W.codeIn K cd__law_is_value "_law_is_value" = true) (k__law_is_value : PySem.W.keepIn K (.ref f__law_is_value) = true)
    (a__law_number : PySem.W.nsIn K mainGlobals "_law_number" = some (some (.ref f__law_number))) (l__law_number : K.lookup f__law_number = some ⟨oc__law_number, od__law_number, .func (PySem.W.fnOf "_law_number" "_law_number" (defArgs S__law_number) (defBody S__law_number) (defScope S__law_number) .none kV__law_number dc__law_number pm__law_number an__law_number cd__law_number ct__law_number), sl__law_number⟩) (c__law_number : PySem.W.codeIn K cd__law_number "_law_number" = true) (k__law_number : PySem.W.keepIn K (.ref f__law_number) = true)
    (a__law_text : PySem.W.nsIn K mainGlobals "_law_text" = some (some (.ref f__law_text))) (l__law_text : K.lookup f__law_text = some ⟨oc__law_text, od__law_text, .func (PySem.W.fnOf "_law_text" "_law_text" (defArgs S__law_text) (defBody S__law_text) (defScope S__law_text) .none kV__law_text dc__law_text pm__law_text an__law_text cd__law_text ct__law_text), sl__law_text⟩) (c__law_text : PySem.W.codeIn K cd__law_text "_law_text" = true) (k__law_text : PySem.W.keepIn K (.ref f__law_text) = true)
    (a__law_value : PySem.W.nsIn K mainGlobals "_law_value" = some (some (.ref f__law_value))) (l__law_value : K.lookup f__law_value = some ⟨oc__law_value, od__law_value, .func (PySem.W.fnOf "_law_value" "_law_value" (defArgs S__law_value) (defBody S__law_value) (defScope S__law_value) .none kV__law_value dc__law_value pm__law_value an__law_value cd__law_value ct__law_value), sl__law_value⟩) (c__law_value : PySem.W.codeIn K cd__law_value "_law_value" = true) (k__law_value : PySem.W.keepIn K (.ref f__law_value) = true)
    (a__law_name : PySem.W.nsIn K mainGlobals "_law_name" = some (some (.ref f__law_name))) (l__law_name : K.lookup f__law_name = some ⟨oc__law_name, od__law_name, .func (PySem.W.fnOf "_law_name" "_law_name" (defArgs S__law_name) (defBody S__law_name) (defScope S__law_name) .none kV__law_name dc__law_name pm__law_name an__law_name cd__law_name ct__law_name), sl__law_name⟩) (c__law_name : PySem.W.codeIn K cd__law_name "_law_name" = true) (k__law_name : PySem.W.keepIn K (.ref f__law_name) = true)
    (a__law_columns : PySem.W.nsIn K mainGlobals "_law_columns" = some (some (.ref f__law_columns))) (l__law_columns : K.lookup f__law_columns = some ⟨oc__law_columns, od__law_columns, .func (PySem.W.fnOf "_law_columns" "_law_columns" (defArgs S__law_columns) (defBody S__law_columns) (defScope S__law_columns) .none kV__law_columns dc__law_columns pm__law_columns an__law_columns cd__law_columns ct__law_columns), sl__law_columns⟩) (c__law_columns : PySem.W.codeIn K cd__law_columns "_law_columns" = true) (k__law_columns : PySem.W.keepIn K (.ref f__law_columns) = true)
    (a__law_atom : PySem.W.nsIn K mainGlobals "_law_atom" = some (some (.ref f__law_atom))) (l__law_atom : K.lookup f__law_atom = some ⟨oc__law_atom, od__law_atom, .func (PySem.W.fnOf "_law_atom" "_law_atom" (defArgs S__law_atom) (defBody S__law_atom) (defScope S__law_atom) .none kV__law_atom dc__law_atom pm__law_atom an__law_atom cd__law_atom ct__law_atom), sl__law_atom⟩) (c__law_atom : PySem.W.codeIn K cd__law_atom "_law_atom" = true) (k__law_atom : PySem.W.keepIn K (.ref f__law_atom) = true)
    (a__law_wrapped : PySem.W.nsIn K mainGlobals "_law_wrapped" = some (some (.ref f__law_wrapped))) (l__law_wrapped : K.lookup f__law_wrapped = some ⟨oc__law_wrapped, od__law_wrapped, .func (PySem.W.fnOf "_law_wrapped" "_law_wrapped" (defArgs S__law_wrapped) (defBody S__law_wrapped) (defScope S__law_wrapped) .none kV__law_wrapped dc__law_wrapped pm__law_wrapped an__law_wrapped cd__law_wrapped ct__law_wrapped), sl__law_wrapped⟩) (c__law_wrapped : PySem.W.codeIn K cd__law_wrapped "_law_wrapped" = true) (k__law_wrapped : PySem.W.keepIn K (.ref f__law_wrapped) = true)
    (a__law_form : PySem.W.nsIn K mainGlobals "_law_form" = some (some (.ref f__law_form))) (l__law_form : K.lookup f__law_form = some ⟨oc__law_form, od__law_form, .func (PySem.W.fnOf "_law_form" "_law_form" (defArgs S__law_form) (defBody S__law_form) (defScope S__law_form) .none kV__law_form dc__law_form pm__law_form an__law_form cd__law_form ct__law_form), sl__law_form⟩) (c__law_form : PySem.W.codeIn K cd__law_form "_law_form" = true) (k__law_form : PySem.W.keepIn K (.ref f__law_form) = true)
    (a__law_make : PySem.W.nsIn K mainGlobals "_law_make" = some (some (.ref f__law_make))) (l__law_make : K.lookup f__law_make = some ⟨oc__law_make, od__law_make, .func (PySem.W.fnOf "_law_make" "_law_make" (defArgs S__law_make) (defBody S__law_make) (defScope S__law_make) .none kV__law_make dc__law_make pm__law_make an__law_make cd__law_make ct__law_make), sl__law_make⟩) (c__law_make : PySem.W.codeIn K cd__law_make "_law_make" = true) (k__law_make : PySem.W.keepIn K (.ref f__law_make) = true)
    (a__law_atoms : PySem.W.nsIn K mainGlobals "_law_atoms" = some (some (.ref f__law_atoms))) (l__law_atoms : K.lookup f__law_atoms = some ⟨oc__law_atoms, od__law_atoms, .func (PySem.W.fnOf "_law_atoms" "_law_atoms" (defArgs S__law_atoms) (defBody S__law_atoms) (defScope S__law_atoms) .none kV__law_atoms dc__law_atoms pm__law_atoms an__law_atoms cd__law_atoms ct__law_atoms), sl__law_atoms⟩) (c__law_atoms : PySem.W.codeIn K cd__law_atoms "_law_atoms" = true) (k__law_atoms : PySem.W.keepIn K (.ref f__law_atoms) = true)
    (a__law_atom_names : PySem.W.nsIn K mainGlobals "_law_atom_names" = some (some (.ref f__law_atom_names))) (l__law_atom_names : K.lookup f__law_atom_names = some ⟨oc__law_atom_names, od__law_atom_names, .func (PySem.W.fnOf "_law_atom_names" "_law_atom_names" (defArgs S__law_atom_names) (defBody S__law_atom_names) (defScope S__law_atom_names) .none kV__law_atom_names dc__law_atom_names pm__law_atom_names an__law_atom_names cd__law_atom_names ct__law_atom_names), sl__law_atom_names⟩) (c__law_atom_names : PySem.W.codeIn K cd__law_atom_names "_law_atom_names" = true) (k__law_atom_names : PySem.W.keepIn K (.ref f__law_atom_names) = true)
    (a__law_kind : PySem.W.nsIn K mainGlobals "_law_kind" = some (some (.ref f__law_kind))) (l__law_kind : K.lookup f__law_kind = some ⟨oc__law_kind, od__law_kind, .func (PySem.W.fnOf "_law_kind" "_law_kind" (defArgs S__law_kind) (defBody S__law_kind) (defScope S__law_kind) .none kV__law_kind dc__law_kind pm__law_kind an__law_kind cd__law_kind ct__law_kind), sl__law_kind⟩) (c__law_kind : PySem.W.codeIn K cd__law_kind "_law_kind" = true) (k__law_kind : PySem.W.keepIn K (.ref f__law_kind) = true)
    (a__law_thing : PySem.W.nsIn K mainGlobals "_law_thing" = some (some (.ref f__law_thing))) (l__law_thing : K.lookup f__law_thing = some ⟨oc__law_thing, od__law_thing, .func (PySem.W.fnOf "_law_thing" "_law_thing" (defArgs S__law_thing) (defBody S__law_thing) (defScope S__law_thing) .none kV__law_thing dc__law_thing pm__law_thing an__law_thing cd__law_thing ct__law_thing), sl__law_thing⟩) (c__law_thing : PySem.W.codeIn K cd__law_thing "_law_thing" = true) (k__law_thing : PySem.W.keepIn K (.ref f__law_thing) = true)
    (a__law_op : PySem.W.nsIn K mainGlobals "_law_op" = some (some (.ref f__law_op))) (l__law_op : K.lookup f__law_op = some ⟨oc__law_op, od__law_op, .func (PySem.W.fnOf "_law_op" "_law_op" (defArgs S__law_op) (defBody S__law_op) (defScope S__law_op) .none kV__law_op dc__law_op pm__law_op an__law_op cd__law_op ct__law_op), sl__law_op⟩) (c__law_op : PySem.W.codeIn K cd__law_op "_law_op" = true) (k__law_op : PySem.W.keepIn K (.ref f__law_op) = true)
    (a__law_flag : PySem.W.nsIn K mainGlobals "_law_flag" = some (some (.ref f__law_flag))) (l__law_flag : K.lookup f__law_flag = some ⟨oc__law_flag, od__law_flag, .func (PySem.W.fnOf "_law_flag" "_law_flag" (defArgs S__law_flag) (defBody S__law_flag) (defScope S__law_flag) .none kV__law_flag dc__law_flag pm__law_flag an__law_flag cd__law_flag ct__law_flag), sl__law_flag⟩) (c__law_flag : PySem.W.codeIn K cd__law_flag "_law_flag" = true) (k__law_flag : PySem.W.keepIn K (.ref f__law_flag) = true)
    (a__law_fits : PySem.W.nsIn K mainGlobals "_law_fits" = some (some (.ref f__law_fits))) (l__law_fits : K.lookup f__law_fits = some ⟨oc__law_fits, od__law_fits, .func (PySem.W.fnOf "_law_fits" "_law_fits" (defArgs S__law_fits) (defBody S__law_fits) (defScope S__law_fits) .none kV__law_fits dc__law_fits pm__law_fits an__law_fits cd__law_fits ct__law_fits), sl__law_fits⟩) (c__law_fits : PySem.W.codeIn K cd__law_fits "_law_fits" = true) (k__law_fits : PySem.W.keepIn K (.ref f__law_fits) = true)
    (a__law_odd_atom : PySem.W.nsIn K mainGlobals "_law_odd_atom" = some (some (.ref f__law_odd_atom))) (l__law_odd_atom : K.lookup f__law_odd_atom = some ⟨oc__law_odd_atom, od__law_odd_atom, .func (PySem.W.fnOf "_law_odd_atom" "_law_odd_atom" (defArgs S__law_odd_atom) (defBody S__law_odd_atom) (defScope S__law_odd_atom) .none kV__law_odd_atom dc__law_odd_atom pm__law_odd_atom an__law_odd_atom cd__law_odd_atom ct__law_odd_atom), sl__law_odd_atom⟩) (c__law_odd_atom : PySem.W.codeIn K cd__law_odd_atom "_law_odd_atom" = true) (k__law_odd_atom : PySem.W.keepIn K (.ref f__law_odd_atom) = true)
    (a__law_maybe_odd : PySem.W.nsIn K mainGlobals "_law_maybe_odd" = some (some (.ref f__law_maybe_odd))) (l__law_maybe_odd : K.lookup f__law_maybe_odd = some ⟨oc__law_maybe_odd, od__law_maybe_odd, .func (PySem.W.fnOf "_law_maybe_odd" "_law_maybe_odd" (defArgs S__law_maybe_odd) (defBody S__law_maybe_odd) (defScope S__law_maybe_odd) .none kV__law_maybe_odd dc__law_maybe_odd pm__law_maybe_odd an__law_maybe_odd cd__law_maybe_odd ct__law_maybe_odd), sl__law_maybe_odd⟩) (c__law_maybe_odd : PySem.W.codeIn K cd__law_maybe_odd "_law_maybe_odd" = true) (k__law_maybe_odd : PySem.W.keepIn K (.ref f__law_maybe_odd) = true)
    (a__law_needed : PySem.W.nsIn K mainGlobals "_law_needed" = some (some (.ref f__law_needed))) (l__law_needed : K.lookup f__law_needed = some ⟨oc__law_needed, od__law_needed, .func (PySem.W.fnOf "_law_needed" "_law_needed" (defArgs S__law_needed) (defBody S__law_needed) (defScope S__law_needed) .none kV__law_needed dc__law_needed pm__law_needed an__law_needed cd__law_needed ct__law_needed), sl__law_needed⟩) (c__law_needed : PySem.W.codeIn K cd__law_needed "_law_needed" = true) (k__law_needed : PySem.W.keepIn K (.ref f__law_needed) = true)
    (a_law : PySem.W.nsIn K mainGlobals "law" = some (some (.ref f_law))) (l_law : K.lookup f_law = some ⟨oc_law, od_law, .func (PySem.W.fnOf "law" "law" (defArgs S_law) (defBody S_law) (defScope S_law) .none kV_law dc_law pm_law an_law cd_law ct_law), sl_law⟩) (c_law : PySem.W.codeIn K cd_law "law" = true) (k_law : PySem.W.keepIn K (.ref f_law) = true)
    (z_isinstance : PySem.W.nsIn K mainGlobals "isinstance" = some none)
    (z_int : PySem.W.nsIn K mainGlobals "int" = some none)
    (z_bool : PySem.W.nsIn K mainGlobals "bool" = some none)
    (z_list : PySem.W.nsIn K mainGlobals "list" = some none)
    (z_tuple : PySem.W.nsIn K mainGlobals "tuple" = some none)
    (z_all : PySem.W.nsIn K mainGlobals "all" = some none)
    (z_str : PySem.W.nsIn K mainGlobals "str" = some none)
    (z_len : PySem.W.nsIn K mainGlobals "len" = some none)
    (z_sum : PySem.W.nsIn K mainGlobals "sum" = some none)
    (z_enumerate : PySem.W.nsIn K mainGlobals "enumerate" = some none)
    (z_range : PySem.W.nsIn K mainGlobals "range" = some none)
    {t_SIGNS : Tok} (g_SIGNS : PySem.W.nsIn K mainGlobals "SIGNS" = some (some (.str C_SIGNS t_SIGNS)))
    {t_LONGEST_NAME : Tok} (g_LONGEST_NAME : PySem.W.nsIn K mainGlobals "LONGEST_NAME" = some (some (.int 8 t_LONGEST_NAME)))
    {t_LETTERS : Tok} (g_LETTERS : PySem.W.nsIn K mainGlobals "LETTERS" = some (some (.str C_LETTERS t_LETTERS)))
    {ca_WORDS : Addr} {co_WORDS : Obj} {ci_WORDS : Array Value} {cn_WORDS : Nat} (g_WORDS : PySem.W.nsIn K mainGlobals "WORDS" = some (some (.ref ca_WORDS))) (gl_WORDS : K.lookup ca_WORDS = some co_WORDS) (gc_WORDS : co_WORDS.cls = .type "tuple") (gd_WORDS : co_WORDS.data = .seq ci_WORDS cn_WORDS) (gs_WORDS : ci_WORDS.size ≤ sizeLine) (gv_WORDS : Vals C_WORDS ci_WORDS.toList)
    {t_NAME_SIGNS : Tok} (g_NAME_SIGNS : PySem.W.nsIn K mainGlobals "NAME_SIGNS" = some (some (.str C_NAME_SIGNS t_NAME_SIGNS)))
    {t_MOST_ATOMS : Tok} (g_MOST_ATOMS : PySem.W.nsIn K mainGlobals "MOST_ATOMS" = some (some (.int 24 t_MOST_ATOMS)))
    {t_MOST_LEVELS : Tok} (g_MOST_LEVELS : PySem.W.nsIn K mainGlobals "MOST_LEVELS" = some (some (.int 12 t_MOST_LEVELS)))
    {ca_OPS : Addr} {co_OPS : Obj} {ci_OPS : Array Value} {cn_OPS : Nat} (g_OPS : PySem.W.nsIn K mainGlobals "OPS" = some (some (.ref ca_OPS))) (gl_OPS : K.lookup ca_OPS = some co_OPS) (gc_OPS : co_OPS.cls = .type "tuple") (gd_OPS : co_OPS.data = .seq ci_OPS cn_OPS) (gs_OPS : ci_OPS.size ≤ sizeLine) (gv_OPS : Vals C_OPS ci_OPS.toList)
    {t_MOST_VALUES : Tok} (g_MOST_VALUES : PySem.W.nsIn K mainGlobals "MOST_VALUES" = some (some (.int 8 t_MOST_VALUES)))
    {ca_KINDS : Addr} {co_KINDS : Obj} {ci_KINDS : Array Value} {cn_KINDS : Nat} (g_KINDS : PySem.W.nsIn K mainGlobals "KINDS" = some (some (.ref ca_KINDS))) (gl_KINDS : K.lookup ca_KINDS = some co_KINDS) (gc_KINDS : co_KINDS.cls = .type "tuple") (gd_KINDS : co_KINDS.data = .seq ci_KINDS cn_KINDS) (gs_KINDS : ci_KINDS.size ≤ sizeLine) (gv_KINDS : Vals C_KINDS ci_KINDS.toList)
    {t_MOST_COLUMNS : Tok} (g_MOST_COLUMNS : PySem.W.nsIn K mainGlobals "MOST_COLUMNS" = some (some (.int 12 t_MOST_COLUMNS)))
    {t_MOST_RULES : Tok} (g_MOST_RULES : PySem.W.nsIn K mainGlobals "MOST_RULES" = some (some (.int 9 t_MOST_RULES)))
    : ∃ fd : FuncData, (∀ (s : Shared) (v : Value), BindsTo s fd ⟨[v], []⟩ [("_law_script", v)]) ∧ ∀ base : Heap, K.In base → base.Ns mainGlobals mg → FnOk l.prog w K mg base CX0 19 fa fd ["_law_script"] (spLaw K) := by
  have e := hfa.symm.trans (PySem.W.mg_of X G a_law)
  cases e
  have hc_Test : cadr mg "Test" = c_Test := cadr_of (PySem.W.mg_of X G a_Test)
  have hc_Shape : cadr mg "Shape" = c_Shape := cadr_of (PySem.W.mg_of X G a_Shape)
  have T : Txt K mg := {
    h_isinstance := PySem.W.mg_none_of X G z_isinstance
    h_int := PySem.W.mg_none_of X G z_int
    h_bool := PySem.W.mg_none_of X G z_bool
    h_list := PySem.W.mg_none_of X G z_list
    h_tuple := PySem.W.mg_none_of X G z_tuple
    h_all := PySem.W.mg_none_of X G z_all
    h_str := PySem.W.mg_none_of X G z_str
    h_len := PySem.W.mg_none_of X G z_len
    h_sum := PySem.W.mg_none_of X G z_sum
    h_enumerate := PySem.W.mg_none_of X G z_enumerate
    h_range := PySem.W.mg_none_of X G z_range
    d_is_integer := ⟨f_is_integer, _, fun_mk (st := S_is_integer) l_is_integer c_is_integer k_is_integer, PySem.W.mg_of X G a_is_integer, (fun_mk (st := S_is_integer) l_is_integer c_is_integer k_is_integer).binds (ps := ["thing"]) fun _ _ _ _ _ _ us hl => match us, hl with | [_], _ => rfl⟩
    d_is_sequence := ⟨f_is_sequence, _, fun_mk (st := S_is_sequence) l_is_sequence c_is_sequence k_is_sequence, PySem.W.mg_of X G a_is_sequence, (fun_mk (st := S_is_sequence) l_is_sequence c_is_sequence k_is_sequence).binds (ps := ["thing"]) fun _ _ _ _ _ _ us hl => match us, hl with | [_], _ => rfl⟩
    d_is_text := ⟨f_is_text, _, fun_mk (st := S_is_text) l_is_text c_is_text k_is_text, PySem.W.mg_of X G a_is_text, (fun_mk (st := S_is_text) l_is_text c_is_text k_is_text).binds (ps := ["thing"]) fun _ _ _ _ _ _ us hl => match us, hl with | [_], _ => rfl⟩
    d_is_name := ⟨f_is_name, _, fun_mk (st := S_is_name) l_is_name c_is_name k_is_name, PySem.W.mg_of X G a_is_name, (fun_mk (st := S_is_name) l_is_name c_is_name k_is_name).binds (ps := ["thing"]) fun _ _ _ _ _ _ us hl => match us, hl with | [_], _ => rfl⟩
    d_kind_of := ⟨f_kind_of, _, fun_mk (st := S_kind_of) l_kind_of c_kind_of k_kind_of, PySem.W.mg_of X G a_kind_of, (fun_mk (st := S_kind_of) l_kind_of c_kind_of k_kind_of).binds (ps := ["value"]) fun _ _ _ _ _ _ us hl => match us, hl with | [_], _ => rfl⟩
    d_is_value := ⟨f_is_value, _, fun_mk (st := S_is_value) l_is_value c_is_value k_is_value, PySem.W.mg_of X G a_is_value, (fun_mk (st := S_is_value) l_is_value c_is_value k_is_value).binds (ps := ["kind", "thing"]) fun _ _ _ _ _ _ us hl => match us, hl with | [_, _], _ => rfl⟩
    d_Test_init := by rw [hc_Test]; exact ⟨f_Test_init, _, fun_mk (st := S_Test_init) l_Test_init c_Test_init k_Test_init, ⟨mk_Test, a_Test_init, i_Test_init, kc_Test⟩, (fun_mk (st := S_Test_init) l_Test_init c_Test_init k_Test_init).binds (ps := ["self", "word", "inner", "fields", "terms"]) fun _ _ _ _ _ _ us hl => match us, hl with | [_, _, _, _, _], _ => rfl⟩
    d_Test_atoms := by rw [hc_Test]; exact ⟨f_Test_atoms, _, fun_mk (st := S_Test_atoms) l_Test_atoms c_Test_atoms k_Test_atoms, ⟨a_Test_atoms, i_Test_atoms, k_Test_atoms⟩, (fun_mk (st := S_Test_atoms) l_Test_atoms c_Test_atoms k_Test_atoms).binds (ps := ["self"]) fun _ _ _ _ _ _ us hl => match us, hl with | [_], _ => rfl⟩
    d_Test_and := by rw [hc_Test]; exact ⟨f_Test_and, _, fun_mk (st := S_Test_and) l_Test_and c_Test_and k_Test_and, ⟨a_Test_and, i_Test_and, k_Test_and⟩, (fun_mk (st := S_Test_and) l_Test_and c_Test_and k_Test_and).binds (ps := ["self", "other"]) fun _ _ _ _ _ _ us hl => match us, hl with | [_, _], _ => rfl⟩
    d_Test_or := by rw [hc_Test]; exact ⟨f_Test_or, _, fun_mk (st := S_Test_or) l_Test_or c_Test_or k_Test_or, ⟨a_Test_or, i_Test_or, k_Test_or⟩, (fun_mk (st := S_Test_or) l_Test_or c_Test_or k_Test_or).binds (ps := ["self", "other"]) fun _ _ _ _ _ _ us hl => match us, hl with | [_, _], _ => rfl⟩
    d_Test_invert := by rw [hc_Test]; exact ⟨f_Test_invert, _, fun_mk (st := S_Test_invert) l_Test_invert c_Test_invert k_Test_invert, ⟨a_Test_invert, i_Test_invert, k_Test_invert⟩, (fun_mk (st := S_Test_invert) l_Test_invert c_Test_invert k_Test_invert).binds (ps := ["self"]) fun _ _ _ _ _ _ us hl => match us, hl with | [_], _ => rfl⟩
    d_size_of := ⟨f_size_of, _, fun_mk (st := S_size_of) l_size_of c_size_of k_size_of, PySem.W.mg_of X G a_size_of, (fun_mk (st := S_size_of) l_size_of c_size_of k_size_of).binds (ps := ["inner"]) fun _ _ _ _ _ _ us hl => match us, hl with | [_], _ => rfl⟩
    d_depth_of := ⟨f_depth_of, _, fun_mk (st := S_depth_of) l_depth_of c_depth_of k_depth_of, PySem.W.mg_of X G a_depth_of, (fun_mk (st := S_depth_of) l_depth_of c_depth_of k_depth_of).binds (ps := ["inner"]) fun _ _ _ _ _ _ us hl => match us, hl with | [_], _ => rfl⟩
    d_combined := ⟨f_combined, _, fun_mk (st := S_combined) l_combined c_combined k_combined, PySem.W.mg_of X G a_combined, (fun_mk (st := S_combined) l_combined c_combined k_combined).binds (ps := ["word", "inner"]) fun _ _ _ _ _ _ us hl => match us, hl with | [_, _], _ => rfl⟩
    d_need_column := ⟨f_need_column, _, fun_mk (st := S_need_column) l_need_column c_need_column k_need_column, PySem.W.mg_of X G a_need_column, (fun_mk (st := S_need_column) l_need_column c_need_column k_need_column).binds (ps := ["thing"]) fun _ _ _ _ _ _ us hl => match us, hl with | [_], _ => rfl⟩
    d_need_op := ⟨f_need_op, _, fun_mk (st := S_need_op) l_need_op c_need_op k_need_op, PySem.W.mg_of X G a_need_op, (fun_mk (st := S_need_op) l_need_op c_need_op k_need_op).binds (ps := ["thing"]) fun _ _ _ _ _ _ us hl => match us, hl with | [_], _ => rfl⟩
    d_need_values := ⟨f_need_values, _, fun_mk (st := S_need_values) l_need_values c_need_values k_need_values, PySem.W.mg_of X G a_need_values, (fun_mk (st := S_need_values) l_need_values c_need_values k_need_values).binds (ps := ["thing"]) fun _ _ _ _ _ _ us hl => match us, hl with | [_], _ => rfl⟩
    d_compare := ⟨f_compare, _, fun_mk (st := S_compare) l_compare c_compare k_compare, PySem.W.mg_of X G a_compare, (fun_mk (st := S_compare) l_compare c_compare k_compare).binds (ps := ["column", "op", "value"]) fun _ _ _ _ _ _ us hl => match us, hl with | [_, _, _], _ => rfl⟩
    d_against := ⟨f_against, _, fun_mk (st := S_against) l_against c_against k_against, PySem.W.mg_of X G a_against, kw_bd rfl kn_against (fun us hl u => match us, hl with | [_, _, _], _ => ⟨_, _, _, _, _, _, rfl, rfl, rfl⟩), kw_kb (fun us hl u => match us, hl with | [_, _, _], _ => rfl)⟩
    d_among := ⟨f_among, _, fun_mk (st := S_among) l_among c_among k_among, PySem.W.mg_of X G a_among, (fun_mk (st := S_among) l_among c_among k_among).binds (ps := ["column", "values"]) fun _ _ _ _ _ _ us hl => match us, hl with | [_, _], _ => rfl⟩
    d_begins := ⟨f_begins, _, fun_mk (st := S_begins) l_begins c_begins k_begins, PySem.W.mg_of X G a_begins, (fun_mk (st := S_begins) l_begins c_begins k_begins).binds (ps := ["column", "prefix"]) fun _ _ _ _ _ _ us hl => match us, hl with | [_, _], _ => rfl⟩
    d_empty := ⟨f_empty, _, fun_mk (st := S_empty) l_empty c_empty k_empty, PySem.W.mg_of X G a_empty, (fun_mk (st := S_empty) l_empty c_empty k_empty).binds (ps := ["column"]) fun _ _ _ _ _ _ us hl => match us, hl with | [_], _ => rfl⟩
    d_always := ⟨f_always, _, fun_mk (st := S_always) l_always c_always k_always, PySem.W.mg_of X G a_always, (fun_mk (st := S_always) l_always c_always k_always).binds (ps := []) fun _ _ _ _ _ _ us hl => match us, hl with | [], _ => rfl⟩
    d_never := ⟨f_never, _, fun_mk (st := S_never) l_never c_never k_never, PySem.W.mg_of X G a_never, (fun_mk (st := S_never) l_never c_never k_never).binds (ps := []) fun _ _ _ _ _ _ us hl => match us, hl with | [], _ => rfl⟩
    d_sure := ⟨f_sure, _, fun_mk (st := S_sure) l_sure c_sure k_sure, PySem.W.mg_of X G a_sure, (fun_mk (st := S_sure) l_sure c_sure k_sure).binds (ps := ["test"]) fun _ _ _ _ _ _ us hl => match us, hl with | [_], _ => rfl⟩
    d_Shape_init := by rw [hc_Shape]; exact ⟨f_Shape_init, _, fun_mk (st := S_Shape_init) l_Shape_init c_Shape_init k_Shape_init, ⟨mk_Shape, a_Shape_init, i_Shape_init, kc_Shape⟩, kw_bd2 rfl kn1_Shape_init kn2_Shape_init kl1_Shape_init gc_1_Shape_init gd_1_Shape_init kz1_Shape_init kl2_Shape_init gc_2_Shape_init gd_2_Shape_init kz2_Shape_init (fun us hl u v => match us, hl with | [_, _], _ => ⟨_, _, _, _, _, _, rfl, rfl, ⟨_, _, _, _, _, _, rfl, rfl, rfl⟩⟩)⟩
    d_is_short := ⟨f_is_short, _, fun_mk (st := S_is_short) l_is_short c_is_short k_is_short, PySem.W.mg_of X G a_is_short, (fun_mk (st := S_is_short) l_is_short c_is_short k_is_short).binds (ps := ["thing", "least", "most"]) fun _ _ _ _ _ _ us hl => match us, hl with | [_, _, _], _ => rfl⟩
    d_is_column := ⟨f_is_column, _, fun_mk (st := S_is_column) l_is_column c_is_column k_is_column, PySem.W.mg_of X G a_is_column, (fun_mk (st := S_is_column) l_is_column c_is_column k_is_column).binds (ps := ["thing"]) fun _ _ _ _ _ _ us hl => match us, hl with | [_], _ => rfl⟩
    d_need_columns := ⟨f_need_columns, _, fun_mk (st := S_need_columns) l_need_columns c_need_columns k_need_columns, PySem.W.mg_of X G a_need_columns, (fun_mk (st := S_need_columns) l_need_columns c_need_columns k_need_columns).binds (ps := ["columns"]) fun _ _ _ _ _ _ us hl => match us, hl with | [_], _ => rfl⟩
    d_need_checks := ⟨f_need_checks, _, fun_mk (st := S_need_checks) l_need_checks c_need_checks k_need_checks, PySem.W.mg_of X G a_need_checks, (fun_mk (st := S_need_checks) l_need_checks c_need_checks k_need_checks).binds (ps := ["spots", "checks"]) fun _ _ _ _ _ _ us hl => match us, hl with | [_, _], _ => rfl⟩
    d_need_keys := ⟨f_need_keys, _, fun_mk (st := S_need_keys) l_need_keys c_need_keys k_need_keys, PySem.W.mg_of X G a_need_keys, (fun_mk (st := S_need_keys) l_need_keys c_need_keys k_need_keys).binds (ps := ["spots", "keys"]) fun _ _ _ _ _ _ us hl => match us, hl with | [_, _], _ => rfl⟩
    d_is_fitting := ⟨f_is_fitting, _, fun_mk (st := S_is_fitting) l_is_fitting c_is_fitting k_is_fitting, PySem.W.mg_of X G a_is_fitting, (fun_mk (st := S_is_fitting) l_is_fitting c_is_fitting k_is_fitting).binds (ps := ["spots", "thing"]) fun _ _ _ _ _ _ us hl => match us, hl with | [_, _], _ => rfl⟩
    d_atom_fits := ⟨f_atom_fits, _, fun_mk (st := S_atom_fits) l_atom_fits c_atom_fits k_atom_fits, PySem.W.mg_of X G a_atom_fits, (fun_mk (st := S_atom_fits) l_atom_fits c_atom_fits k_atom_fits).binds (ps := ["spots", "atom"]) fun _ _ _ _ _ _ us hl => match us, hl with | [_, _], _ => rfl⟩
    d_fits := ⟨f_fits, _, fun_mk (st := S_fits) l_fits c_fits k_fits, PySem.W.mg_of X G a_fits, (fun_mk (st := S_fits) l_fits c_fits k_fits).binds (ps := ["shape", "test"]) fun _ _ _ _ _ _ us hl => match us, hl with | [_, _], _ => rfl⟩
    d_need_test := ⟨f_need_test, _, fun_mk (st := S_need_test) l_need_test c_need_test k_need_test, PySem.W.mg_of X G a_need_test, (fun_mk (st := S_need_test) l_need_test c_need_test k_need_test).binds (ps := ["shape", "thing"]) fun _ _ _ _ _ _ us hl => match us, hl with | [_, _], _ => rfl⟩
    d__law_begin := ⟨f__law_begin, _, fun_mk (st := S__law_begin) l__law_begin c__law_begin k__law_begin, PySem.W.mg_of X G a__law_begin, (fun_mk (st := S__law_begin) l__law_begin c__law_begin k__law_begin).binds (ps := ["_law_script"]) fun _ _ _ _ _ _ us hl => match us, hl with | [_], _ => rfl⟩
    d__law_take := ⟨f__law_take, _, fun_mk (st := S__law_take) l__law_take c__law_take k__law_take, PySem.W.mg_of X G a__law_take, (fun_mk (st := S__law_take) l__law_take c__law_take k__law_take).binds (ps := ["_law_draw", "_law_many"]) fun _ _ _ _ _ _ us hl => match us, hl with | [_, _], _ => rfl⟩
    d__law_is_integer := ⟨f__law_is_integer, _, fun_mk (st := S__law_is_integer) l__law_is_integer c__law_is_integer k__law_is_integer, PySem.W.mg_of X G a__law_is_integer, (fun_mk (st := S__law_is_integer) l__law_is_integer c__law_is_integer k__law_is_integer).binds (ps := ["_law_thing_here"]) fun _ _ _ _ _ _ us hl => match us, hl with | [_], _ => rfl⟩
    d__law_chars := ⟨f__law_chars, _, fun_mk (st := S__law_chars) l__law_chars c__law_chars k__law_chars, PySem.W.mg_of X G a__law_chars, (fun_mk (st := S__law_chars) l__law_chars c__law_chars k__law_chars).binds (ps := []) fun _ _ _ _ _ _ us hl => match us, hl with | [], _ => rfl⟩
    d__law_is_text := ⟨f__law_is_text, _, fun_mk (st := S__law_is_text) l__law_is_text c__law_is_text k__law_is_text, PySem.W.mg_of X G a__law_is_text, (fun_mk (st := S__law_is_text) l__law_is_text c__law_is_text k__law_is_text).binds (ps := ["_law_thing_here"]) fun _ _ _ _ _ _ us hl => match us, hl with | [_], _ => rfl⟩
    d__law_is_value := ⟨f__law_is_value, _, fun_mk (st := S__law_is_value) l__law_is_value c__law_is_value k__law_is_value, PySem.W.mg_of X G a__law_is_value, (fun_mk (st := S__law_is_value) l__law_is_value c__law_is_value k__law_is_value).binds (ps := ["_law_kind_here", "_law_thing_here"]) fun _ _ _ _ _ _ us hl => match us, hl with | [_, _], _ => rfl⟩
    d__law_number := ⟨f__law_number, _, fun_mk (st := S__law_number) l__law_number c__law_number k__law_number, PySem.W.mg_of X G a__law_number, (fun_mk (st := S__law_number) l__law_number c__law_number k__law_number).binds (ps := ["_law_draw"]) fun _ _ _ _ _ _ us hl => match us, hl with | [_], _ => rfl⟩
    d__law_text := ⟨f__law_text, _, fun_mk (st := S__law_text) l__law_text c__law_text k__law_text, PySem.W.mg_of X G a__law_text, (fun_mk (st := S__law_text) l__law_text c__law_text k__law_text).binds (ps := ["_law_draw"]) fun _ _ _ _ _ _ us hl => match us, hl with | [_], _ => rfl⟩
    d__law_value := ⟨f__law_value, _, fun_mk (st := S__law_value) l__law_value c__law_value k__law_value, PySem.W.mg_of X G a__law_value, (fun_mk (st := S__law_value) l__law_value c__law_value k__law_value).binds (ps := ["_law_draw", "_law_kind_here"]) fun _ _ _ _ _ _ us hl => match us, hl with | [_, _], _ => rfl⟩
    d__law_name := ⟨f__law_name, _, fun_mk (st := S__law_name) l__law_name c__law_name k__law_name, PySem.W.mg_of X G a__law_name, (fun_mk (st := S__law_name) l__law_name c__law_name k__law_name).binds (ps := ["_law_draw", "_law_taken"]) fun _ _ _ _ _ _ us hl => match us, hl with | [_, _], _ => rfl⟩
    d__law_columns := ⟨f__law_columns, _, fun_mk (st := S__law_columns) l__law_columns c__law_columns k__law_columns, PySem.W.mg_of X G a__law_columns, (fun_mk (st := S__law_columns) l__law_columns c__law_columns k__law_columns).binds (ps := ["_law_draw", "_law_most"]) fun _ _ _ _ _ _ us hl => match us, hl with | [_, _], _ => rfl⟩
    d__law_atom := ⟨f__law_atom, _, fun_mk (st := S__law_atom) l__law_atom c__law_atom k__law_atom, PySem.W.mg_of X G a__law_atom, (fun_mk (st := S__law_atom) l__law_atom c__law_atom k__law_atom).binds (ps := ["_law_draw", "_law_columns_here"]) fun _ _ _ _ _ _ us hl => match us, hl with | [_, _], _ => rfl⟩
    d__law_wrapped := ⟨f__law_wrapped, _, fun_mk (st := S__law_wrapped) l__law_wrapped c__law_wrapped k__law_wrapped, PySem.W.mg_of X G a__law_wrapped, (fun_mk (st := S__law_wrapped) l__law_wrapped c__law_wrapped k__law_wrapped).binds (ps := ["_law_form_here", "_law_choice"]) fun _ _ _ _ _ _ us hl => match us, hl with | [_, _], _ => rfl⟩
    d__law_form := ⟨f__law_form, _, fun_mk (st := S__law_form) l__law_form c__law_form k__law_form, PySem.W.mg_of X G a__law_form, (fun_mk (st := S__law_form) l__law_form c__law_form k__law_form).binds (ps := ["_law_draw", "_law_columns_here", "_law_most"]) fun _ _ _ _ _ _ us hl => match us, hl with | [_, _, _], _ => rfl⟩
    d__law_make := ⟨f__law_make, _, fun_mk (st := S__law_make) l__law_make c__law_make k__law_make, PySem.W.mg_of X G a__law_make, (fun_mk (st := S__law_make) l__law_make c__law_make k__law_make).binds (ps := ["_law_form_here"]) fun _ _ _ _ _ _ us hl => match us, hl with | [_], _ => rfl⟩
    d__law_atoms := ⟨f__law_atoms, _, fun_mk (st := S__law_atoms) l__law_atoms c__law_atoms k__law_atoms, PySem.W.mg_of X G a__law_atoms, (fun_mk (st := S__law_atoms) l__law_atoms c__law_atoms k__law_atoms).binds (ps := ["_law_form_here"]) fun _ _ _ _ _ _ us hl => match us, hl with | [_], _ => rfl⟩
    d__law_atom_names := ⟨f__law_atom_names, _, fun_mk (st := S__law_atom_names) l__law_atom_names c__law_atom_names k__law_atom_names, PySem.W.mg_of X G a__law_atom_names, (fun_mk (st := S__law_atom_names) l__law_atom_names c__law_atom_names k__law_atom_names).binds (ps := ["_law_atom_here"]) fun _ _ _ _ _ _ us hl => match us, hl with | [_], _ => rfl⟩
    d__law_kind := ⟨f__law_kind, _, fun_mk (st := S__law_kind) l__law_kind c__law_kind k__law_kind, PySem.W.mg_of X G a__law_kind, (fun_mk (st := S__law_kind) l__law_kind c__law_kind k__law_kind).binds (ps := ["_law_columns_here", "_law_name_here"]) fun _ _ _ _ _ _ us hl => match us, hl with | [_, _], _ => rfl⟩
    d__law_thing := ⟨f__law_thing, _, fun_mk (st := S__law_thing) l__law_thing c__law_thing k__law_thing, PySem.W.mg_of X G a__law_thing, (fun_mk (st := S__law_thing) l__law_thing c__law_thing k__law_thing).binds (ps := ["_law_draw"]) fun _ _ _ _ _ _ us hl => match us, hl with | [_], _ => rfl⟩
    d__law_op := ⟨f__law_op, _, fun_mk (st := S__law_op) l__law_op c__law_op k__law_op, PySem.W.mg_of X G a__law_op, (fun_mk (st := S__law_op) l__law_op c__law_op k__law_op).binds (ps := ["_law_draw"]) fun _ _ _ _ _ _ us hl => match us, hl with | [_], _ => rfl⟩
    d__law_flag := ⟨f__law_flag, _, fun_mk (st := S__law_flag) l__law_flag c__law_flag k__law_flag, PySem.W.mg_of X G a__law_flag, (fun_mk (st := S__law_flag) l__law_flag c__law_flag k__law_flag).binds (ps := ["_law_thing_here", "_law_due"]) fun _ _ _ _ _ _ us hl => match us, hl with | [_, _], _ => rfl⟩
    d__law_fits := ⟨f__law_fits, _, fun_mk (st := S__law_fits) l__law_fits c__law_fits k__law_fits, PySem.W.mg_of X G a__law_fits, (fun_mk (st := S__law_fits) l__law_fits c__law_fits k__law_fits).binds (ps := ["_law_columns_here", "_law_form_here"]) fun _ _ _ _ _ _ us hl => match us, hl with | [_, _], _ => rfl⟩
    d__law_odd_atom := ⟨f__law_odd_atom, _, fun_mk (st := S__law_odd_atom) l__law_odd_atom c__law_odd_atom k__law_odd_atom, PySem.W.mg_of X G a__law_odd_atom, (fun_mk (st := S__law_odd_atom) l__law_odd_atom c__law_odd_atom k__law_odd_atom).binds (ps := ["_law_draw", "_law_columns_here"]) fun _ _ _ _ _ _ us hl => match us, hl with | [_, _], _ => rfl⟩
    d__law_maybe_odd := ⟨f__law_maybe_odd, _, fun_mk (st := S__law_maybe_odd) l__law_maybe_odd c__law_maybe_odd k__law_maybe_odd, PySem.W.mg_of X G a__law_maybe_odd, (fun_mk (st := S__law_maybe_odd) l__law_maybe_odd c__law_maybe_odd k__law_maybe_odd).binds (ps := ["_law_draw", "_law_columns_here", "_law_most"]) fun _ _ _ _ _ _ us hl => match us, hl with | [_, _, _], _ => rfl⟩
    d__law_needed := ⟨f__law_needed, _, fun_mk (st := S__law_needed) l__law_needed c__law_needed k__law_needed, PySem.W.mg_of X G a__law_needed, (fun_mk (st := S__law_needed) l__law_needed c__law_needed k__law_needed).binds (ps := ["_law_shape", "_law_thing_here"]) fun _ _ _ _ _ _ us hl => match us, hl with | [_, _], _ => rfl⟩
    x_BadTest := by rw [show cadr mg "BadTest" = c_BadTest from cadr_of (PySem.W.mg_of X G a_eBadTest)]; exact ⟨feBadTest, { gC := PySem.W.mg_of X G a_eBadTest, cls := ⟨_, _, _, _, _, _, _, _, _, _, _, _, _, _, _, x_eBadTest, o_eBadTest⟩, sa := sa_eBadTest, ga := ga_eBadTest, gg := gg_eBadTest, noF := nb_eBadTest, ini := i_eBadTest, tyI := t_eBadTest, kC := k_eBadTest, exC := eC_eBadTest, tyC := tC_eBadTest, hdC := hC_eBadTest, te := exmSelf eC_eBadTest te_eBadTest tC_eBadTest tf_eBadTest, fn := ⟨_, _, _, _, _, _, _, _, _, _, _, _, _, _, _, l_eBadTest, cc_eBadTest, s1_eBadTest, s2_eBadTest, s3_eBadTest, s4_eBadTest⟩ }⟩
    e_Test := by rw [hc_Test]; exact PySem.W.mg_of X G a_Test
    sf_Test := by rw [hc_Test]; exact sf_Test
    nr_Test_and := by rw [hc_Test]; exact nr_Test_and
    nr_Test_or := by rw [hc_Test]; exact nr_Test_or
    is_Test := by rw [hc_Test]; exact ⟨ia_Test, in_Test, it_Test, im_Test, kitSelf, fun T h => kitNo io_Test iy_Test (by unfold kinds7 at h; simp only [List.mem_cons, List.not_mem_nil, or_false] at h; rcases h with rfl | rfl | rfl | rfl | rfl | rfl | rfl <;> assumption)⟩
    cl_Test := by rw [hc_Test]; exact ⟨pg_Test, hd_Test, po_Test, sa_Test⟩
    n_Test_word := by rw [hc_Test]; exact n_Test_word
    n_Test_inner := by rw [hc_Test]; exact n_Test_inner
    n_Test_fields := by rw [hc_Test]; exact n_Test_fields
    n_Test_terms := by rw [hc_Test]; exact n_Test_terms
    n_Test_size := by rw [hc_Test]; exact n_Test_size
    n_Test_depth := by rw [hc_Test]; exact n_Test_depth
    e_Shape := by rw [hc_Shape]; exact PySem.W.mg_of X G a_Shape
    sf_Shape := by rw [hc_Shape]; exact sf_Shape
    nr_Shape_and := by rw [hc_Shape]; exact nr_Shape_and
    nr_Shape_or := by rw [hc_Shape]; exact nr_Shape_or
    is_Shape := by rw [hc_Shape]; exact ⟨ia_Shape, in_Shape, it_Shape, im_Shape, kitSelf, fun T h => kitNo io_Shape iy_Shape (by unfold kinds7 at h; simp only [List.mem_cons, List.not_mem_nil, or_false] at h; rcases h with rfl | rfl | rfl | rfl | rfl | rfl | rfl <;> assumption)⟩
    cl_Shape := by rw [hc_Shape]; exact ⟨pg_Shape, hd_Shape, po_Shape, sa_Shape⟩
    n_Shape_layout := by rw [hc_Shape]; exact n_Shape_layout
    n_Shape_spots := by rw [hc_Shape]; exact n_Shape_spots
    n_Shape_check_tests := by rw [hc_Shape]; exact n_Shape_check_tests
    n_Shape_key_rules := by rw [hc_Shape]; exact n_Shape_key_rules
    k_SIGNS := ⟨t_SIGNS, PySem.W.mg_of X G g_SIGNS⟩
    k_LONGEST_NAME := ⟨t_LONGEST_NAME, PySem.W.mg_of X G g_LONGEST_NAME⟩
    k_LETTERS := ⟨t_LETTERS, PySem.W.mg_of X G g_LETTERS⟩
    k_WORDS := ⟨ca_WORDS, PySem.W.mg_of X G g_WORDS, fun _ => Or.inr ⟨co_WORDS, ci_WORDS, cn_WORDS, gl_WORDS, gc_WORDS, gd_WORDS, gs_WORDS, gv_WORDS⟩⟩
    k_NAME_SIGNS := ⟨t_NAME_SIGNS, PySem.W.mg_of X G g_NAME_SIGNS⟩
    k_MOST_ATOMS := ⟨t_MOST_ATOMS, PySem.W.mg_of X G g_MOST_ATOMS⟩
    k_MOST_LEVELS := ⟨t_MOST_LEVELS, PySem.W.mg_of X G g_MOST_LEVELS⟩
    k_OPS := ⟨ca_OPS, PySem.W.mg_of X G g_OPS, fun _ => Or.inr ⟨co_OPS, ci_OPS, cn_OPS, gl_OPS, gc_OPS, gd_OPS, gs_OPS, gv_OPS⟩⟩
    k_MOST_VALUES := ⟨t_MOST_VALUES, PySem.W.mg_of X G g_MOST_VALUES⟩
    k_KINDS := ⟨ca_KINDS, PySem.W.mg_of X G g_KINDS, fun _ => Or.inr ⟨co_KINDS, ci_KINDS, cn_KINDS, gl_KINDS, gc_KINDS, gd_KINDS, gs_KINDS, gv_KINDS⟩⟩
    k_MOST_COLUMNS := ⟨t_MOST_COLUMNS, PySem.W.mg_of X G g_MOST_COLUMNS⟩
    k_MOST_RULES := ⟨t_MOST_RULES, PySem.W.mg_of X G g_MOST_RULES⟩ }
  exact ⟨PySem.W.fnOf "law" "law" (defArgs S_law) (defBody S_law) (defScope S_law) .none kV_law dc_law pm_law an_law cd_law ct_law, fun s v => .of_eq rfl, fun base _ _ => ok_law T (fun_mk (st := S_law) l_law c_law k_law)⟩
theorem walk {l : PySem.W.OpenLaw} {q : Program} {loose : List Str} {XP : (Str → Option Value) → Heap → Prop} {YP : World → Heap → Prop} {d : DefRec} {K : Params → PySem.W.Frag} (hn : l.most = some 63) (hdf : d.params.defaults = [])
    (hY : ∀ (w : World) (h : Heap), YP w h → (K w.params).In h)
    (F : ∀ (w : World) (mg : Str → Option Value) (fa : Addr) (h : Heap), (K w.params).In h → h.Ns mainGlobals mg → mg d.name = some (.ref fa) →
      ∃ fd : FuncData, (∀ (s : Shared) (u : Value), BindsTo s fd ⟨[u], []⟩ [("_law_script", u)]) ∧ ∀ base : Heap, (K w.params).In base → base.Ns mainGlobals mg → FnOk l.prog w (K w.params) mg base CX0 19 fa fd ["_law_script"] (spLaw (K w.params))) :
    PySem.W.WalkO q loose XP YP l.row.toRowW d [] (fun f vs => PySem.call f vs) :=
  L2.walk_of (n := 63) (k := 19) (x := "_law_script") (CX := fun _ => CX0) (sp := fun w => spLaw (K w.params)) hn (by decide) hdf ⟨rfl, by decide, by decide⟩ hY F (fun _ _ a ns hl _ hS => ⟨a, ns, rfl, hS, hl, fun _ => rfl⟩) fun _ _ _ _ _ z => z
end L
open PySem PySem.W PyProof.Rows
set_option maxRecDepth 100000 in
set_option maxHeartbeats 0 in
theorem PySem.Challenge.cw_tworows_k13_fitting_tests_holds : PySem.Challenge.rw_tworows_k13_fitting_tests.Holds := by
  w_on; o_law; k_head; (case hw => w_witness2)
  k_fill
  refine L.walk (l := PySem.Challenge.rw_tworows_k13_fitting_tests) rfl rfl (fun w h Y => PySem.W.kIn_of Y) ?F
  case F =>
    intro w mg fa h KX G hmg
    refine' L.all_mk KX G hmg ?a_Test ?pg_Test ?hd_Test ?po_Test ?sa_Test ?mk_Test ?kc_Test ?sf_Test ?nr_Test_and ?nr_Test_or ?ia_Test ?in_Test ?it_Test ?im_Test ?io_Test ?iy_Test ?iz_Test_NoneType ?iz_Test_bool ?iz_Test_int ?iz_Test_str ?iz_Test_list ?iz_Test_tuple ?iz_Test_dict ?n_Test_word ?n_Test_inner ?n_Test_fields ?n_Test_terms ?n_Test_size ?n_Test_depth ?a_Shape ?pg_Shape ?hd_Shape ?po_Shape ?sa_Shape ?mk_Shape ?kc_Shape ?sf_Shape ?nr_Shape_and ?nr_Shape_or ?ia_Shape ?in_Shape ?it_Shape ?im_Shape ?io_Shape ?iy_Shape ?iz_Shape_NoneType ?iz_Shape_bool ?iz_Shape_int ?iz_Shape_str ?iz_Shape_list ?iz_Shape_tuple ?iz_Shape_dict ?n_Shape_layout ?n_Shape_spots ?n_Shape_check_tests ?n_Shape_key_rules ?a_eBadTest ?x_eBadTest ?o_eBadTest ?sa_eBadTest ?ga_eBadTest ?gg_eBadTest ?nb_eBadTest ?i_eBadTest ?t_eBadTest ?l_eBadTest ?cc_eBadTest ?s1_eBadTest ?s2_eBadTest ?s3_eBadTest ?s4_eBadTest ?k_eBadTest ?eC_eBadTest ?tC_eBadTest ?hC_eBadTest ?te_eBadTest ?tf_eBadTest ?a_is_integer ?l_is_integer ?c_is_integer ?k_is_integer ?a_is_sequence ?l_is_sequence ?c_is_sequence ?k_is_sequence ?a_is_text ?l_is_text ?c_is_text ?k_is_text ?a_is_name ?l_is_name ?c_is_name ?k_is_name ?a_kind_of ?l_kind_of ?c_kind_of ?k_kind_of ?a_is_value ?l_is_value ?c_is_value ?k_is_value ?a_Test_init ?i_Test_init ?l_Test_init ?c_Test_init ?k_Test_init ?a_Test_atoms ?i_Test_atoms ?l_Test_atoms ?c_Test_atoms ?k_Test_atoms ?a_Test_and ?i_Test_and ?l_Test_and ?c_Test_and ?k_Test_and ?a_Test_or ?i_Test_or ?l_Test_or ?c_Test_or ?k_Test_or ?a_Test_invert ?i_Test_invert ?l_Test_invert ?c_Test_invert ?k_Test_invert ?a_size_of ?l_size_of ?c_size_of ?k_size_of ?a_depth_of ?l_depth_of ?c_depth_of ?k_depth_of ?a_combined ?l_combined ?c_combined ?k_combined ?a_need_column ?l_need_column ?c_need_column ?k_need_column ?a_need_op ?l_need_op ?c_need_op ?k_need_op ?a_need_values ?l_need_values ?c_need_values ?k_need_values ?a_compare ?l_compare ?c_compare ?k_compare ?a_against ?l_against ?c_against ?k_against ?kn_against ?a_among ?l_among ?c_among ?k_among ?a_begins ?l_begins ?c_begins ?k_begins ?a_empty ?l_empty ?c_empty ?k_empty ?a_always ?l_always ?c_always ?k_always ?a_never ?l_never ?c_never ?k_never ?a_sure ?l_sure ?c_sure ?k_sure ?a_Shape_init ?i_Shape_init ?l_Shape_init ?c_Shape_init ?k_Shape_init ?kn1_Shape_init ?kl1_Shape_init ?gc_1_Shape_init ?gd_1_Shape_init ?kz1_Shape_init ?kn2_Shape_init ?kl2_Shape_init ?gc_2_Shape_init ?gd_2_Shape_init ?kz2_Shape_init ?a_is_short ?l_is_short ?c_is_short ?k_is_short ?a_is_column ?l_is_column ?c_is_column ?k_is_column ?a_need_columns ?l_need_columns ?c_need_columns ?k_need_columns ?a_need_checks ?l_need_checks ?c_need_checks ?k_need_checks ?a_need_keys ?l_need_keys ?c_need_keys ?k_need_keys ?a_is_fitting ?l_is_fitting ?c_is_fitting ?k_is_fitting ?a_atom_fits ?l_atom_fits ?c_atom_fits ?k_atom_fits ?a_fits ?l_fits ?c_fits ?k_fits ?a_need_test ?l_need_test ?c_need_test ?k_need_test ?a__law_begin ?l__law_begin ?c__law_begin ?k__law_begin ?a__law_take ?l__law_take ?c__law_take ?k__law_take ?a__law_is_integer ?l__law_is_integer ?c__law_is_integer ?k__law_is_integer ?a__law_chars ?l__law_chars ?c__law_chars ?k__law_chars ?a__law_is_text ?l__law_is_text ?c__law_is_text ?k__law_is_text ?a__law_is_value ?l__law_is_value ?c__law_is_value ?k__law_is_value ?a__law_number ?l__law_number ?c__law_number ?k__law_number ?a__law_text ?l__law_text ?c__law_text ?k__law_text ?a__law_value ?l__law_value ?c__law_value ?k__law_value ?a__law_name ?l__law_name ?c__law_name ?k__law_name ?a__law_columns ?l__law_columns ?c__law_columns ?k__law_columns ?a__law_atom ?l__law_atom ?c__law_atom ?k__law_atom ?a__law_wrapped ?l__law_wrapped ?c__law_wrapped ?k__law_wrapped ?a__law_form ?l__law_form ?c__law_form ?k__law_form ?a__law_make ?l__law_make ?c__law_make ?k__law_make ?a__law_atoms ?l__law_atoms ?c__law_atoms ?k__law_atoms ?a__law_atom_names ?l__law_atom_names ?c__law_atom_names ?k__law_atom_names ?a__law_kind ?l__law_kind ?c__law_kind ?k__law_kind ?a__law_thing ?l__law_thing ?c__law_thing ?k__law_thing ?a__law_op ?l__law_op ?c__law_op ?k__law_op ?a__law_flag ?l__law_flag ?c__law_flag ?k__law_flag ?a__law_fits ?l__law_fits ?c__law_fits ?k__law_fits ?a__law_odd_atom ?l__law_odd_atom ?c__law_odd_atom ?k__law_odd_atom ?a__law_maybe_odd ?l__law_maybe_odd ?c__law_maybe_odd ?k__law_maybe_odd ?a__law_needed ?l__law_needed ?c__law_needed ?k__law_needed ?a_law ?l_law ?c_law ?k_law ?z_isinstance ?z_int ?z_bool ?z_list ?z_tuple ?z_all ?z_str ?z_len ?z_sum ?z_enumerate ?z_range ?g_SIGNS ?g_LONGEST_NAME ?g_LETTERS ?g_WORDS ?gl_WORDS ?gc_WORDS ?gd_WORDS ?gs_WORDS ?gv_WORDS ?g_NAME_SIGNS ?g_MOST_ATOMS ?g_MOST_LEVELS ?g_OPS ?gl_OPS ?gc_OPS ?gd_OPS ?gs_OPS ?gv_OPS ?g_MOST_VALUES ?g_KINDS ?gl_KINDS ?gc_KINDS ?gd_KINDS ?gs_KINDS ?gv_KINDS ?g_MOST_COLUMNS ?g_MOST_RULES
    (case a_Test => k_is)
    (case pg_Test => k_is)
    (case hd_Test => k_is)
    (case po_Test => k_is)
    (case sa_Test => k_is)
    (case mk_Test => k_is)
    (case kc_Test => k_is)
    (case sf_Test => k_is)
    (case nr_Test_and => k_is)
    (case nr_Test_or => k_is)
    (case ia_Test => k_is)
    (case in_Test => k_is)
    (case it_Test => k_is)
    (case im_Test => k_is)
    (case io_Test => k_is)
    (case iy_Test => k_is)
    (case iz_Test_NoneType => k_is)
    (case iz_Test_bool => k_is)
    (case iz_Test_int => k_is)
    (case iz_Test_str => k_is)
    (case iz_Test_list => k_is)
    (case iz_Test_tuple => k_is)
    (case iz_Test_dict => k_is)
    (case n_Test_word => k_is)
    (case n_Test_inner => k_is)
    (case n_Test_fields => k_is)
    (case n_Test_terms => k_is)
    (case n_Test_size => k_is)
    (case n_Test_depth => k_is)
    (case a_Shape => k_is)
    (case pg_Shape => k_is)
    (case hd_Shape => k_is)
    (case po_Shape => k_is)
    (case sa_Shape => k_is)
    (case mk_Shape => k_is)
    (case kc_Shape => k_is)
    (case sf_Shape => k_is)
    (case nr_Shape_and => k_is)
    (case nr_Shape_or => k_is)
    (case ia_Shape => k_is)
    (case in_Shape => k_is)
    (case it_Shape => k_is)
    (case im_Shape => k_is)
    (case io_Shape => k_is)
    (case iy_Shape => k_is)
    (case iz_Shape_NoneType => k_is)
    (case iz_Shape_bool => k_is)
    (case iz_Shape_int => k_is)
    (case iz_Shape_str => k_is)
    (case iz_Shape_list => k_is)
    (case iz_Shape_tuple => k_is)
    (case iz_Shape_dict => k_is)
    (case n_Shape_layout => k_is)
    (case n_Shape_spots => k_is)
    (case n_Shape_check_tests => k_is)
    (case n_Shape_key_rules => k_is)
    (case a_eBadTest => k_is)
    (case x_eBadTest => k_is)
    (case o_eBadTest => (repeat (first | exact PySem.TwX.OwnEx.tail | refine PySem.TwX.OwnEx.own _ ?_)))
    (case sa_eBadTest => k_is)
    (case ga_eBadTest => k_is)
    (case gg_eBadTest => k_is)
    (case nb_eBadTest => k_is)
    (case i_eBadTest => k_is)
    (case t_eBadTest => k_is)
    (case l_eBadTest => k_is)
    (case cc_eBadTest => k_is)
    (case s1_eBadTest => rfl)
    (case s2_eBadTest => rfl)
    (case s3_eBadTest => rfl)
    (case s4_eBadTest => rfl)
    (case k_eBadTest => k_is)
    (case eC_eBadTest => k_is)
    (case tC_eBadTest => k_is)
    (case hC_eBadTest => k_is)
    (case te_eBadTest => k_is)
    (case tf_eBadTest => k_is)
    (case a_is_integer => k_is)
    (case l_is_integer => k_is)
    (case c_is_integer => k_is)
    (case k_is_integer => k_is)
    (case a_is_sequence => k_is)
    (case l_is_sequence => k_is)
    (case c_is_sequence => k_is)
    (case k_is_sequence => k_is)
    (case a_is_text => k_is)
    (case l_is_text => k_is)
    (case c_is_text => k_is)
    (case k_is_text => k_is)
    (case a_is_name => k_is)
    (case l_is_name => k_is)
    (case c_is_name => k_is)
    (case k_is_name => k_is)
    (case a_kind_of => k_is)
    (case l_kind_of => k_is)
    (case c_kind_of => k_is)
    (case k_kind_of => k_is)
    (case a_is_value => k_is)
    (case l_is_value => k_is)
    (case c_is_value => k_is)
    (case k_is_value => k_is)
    (case a_Test_init => k_is)
    (case i_Test_init => k_is)
    (case l_Test_init => k_is)
    (case c_Test_init => k_is)
    (case k_Test_init => k_is)
    (case a_Test_atoms => k_is)
    (case i_Test_atoms => k_is)
    (case l_Test_atoms => k_is)
    (case c_Test_atoms => k_is)
    (case k_Test_atoms => k_is)
    (case a_Test_and => k_is)
    (case i_Test_and => k_is)
    (case l_Test_and => k_is)
    (case c_Test_and => k_is)
    (case k_Test_and => k_is)
    (case a_Test_or => k_is)
    (case i_Test_or => k_is)
    (case l_Test_or => k_is)
    (case c_Test_or => k_is)
    (case k_Test_or => k_is)
    (case a_Test_invert => k_is)
    (case i_Test_invert => k_is)
    (case l_Test_invert => k_is)
    (case c_Test_invert => k_is)
    (case k_Test_invert => k_is)
    (case a_size_of => k_is)
    (case l_size_of => k_is)
    (case c_size_of => k_is)
    (case k_size_of => k_is)
    (case a_depth_of => k_is)
    (case l_depth_of => k_is)
    (case c_depth_of => k_is)
    (case k_depth_of => k_is)
    (case a_combined => k_is)
    (case l_combined => k_is)
    (case c_combined => k_is)
    (case k_combined => k_is)
    (case a_need_column => k_is)
    (case l_need_column => k_is)
    (case c_need_column => k_is)
    (case k_need_column => k_is)
    (case a_need_op => k_is)
    (case l_need_op => k_is)
    (case c_need_op => k_is)
    (case k_need_op => k_is)
    (case a_need_values => k_is)
    (case l_need_values => k_is)
    (case c_need_values => k_is)
    (case k_need_values => k_is)
    (case a_compare => k_is)
    (case l_compare => k_is)
    (case c_compare => k_is)
    (case k_compare => k_is)
    (case a_against => k_is)
    (case l_against => k_is)
    (case c_against => k_is)
    (case k_against => k_is)
    (case kn_against => k_is)
    (case a_among => k_is)
    (case l_among => k_is)
    (case c_among => k_is)
    (case k_among => k_is)
    (case a_begins => k_is)
    (case l_begins => k_is)
    (case c_begins => k_is)
    (case k_begins => k_is)
    (case a_empty => k_is)
    (case l_empty => k_is)
    (case c_empty => k_is)
    (case k_empty => k_is)
    (case a_always => k_is)
    (case l_always => k_is)
    (case c_always => k_is)
    (case k_always => k_is)
    (case a_never => k_is)
    (case l_never => k_is)
    (case c_never => k_is)
    (case k_never => k_is)
    (case a_sure => k_is)
    (case l_sure => k_is)
    (case c_sure => k_is)
    (case k_sure => k_is)
    (case a_Shape_init => k_is)
    (case i_Shape_init => k_is)
    (case l_Shape_init => k_is)
    (case c_Shape_init => k_is)
    (case k_Shape_init => k_is)
    (case kn1_Shape_init => k_is)
    (case kl1_Shape_init => k_is)
    (case gc_1_Shape_init => rfl)
    (case gd_1_Shape_init => rfl)
    (case kz1_Shape_init => rfl)
    (case kn2_Shape_init => k_is)
    (case kl2_Shape_init => k_is)
    (case gc_2_Shape_init => rfl)
    (case gd_2_Shape_init => rfl)
    (case kz2_Shape_init => rfl)
    (case a_is_short => k_is)
    (case l_is_short => k_is)
    (case c_is_short => k_is)
    (case k_is_short => k_is)
    (case a_is_column => k_is)
    (case l_is_column => k_is)
    (case c_is_column => k_is)
    (case k_is_column => k_is)
    (case a_need_columns => k_is)
    (case l_need_columns => k_is)
    (case c_need_columns => k_is)
    (case k_need_columns => k_is)
    (case a_need_checks => k_is)
    (case l_need_checks => k_is)
    (case c_need_checks => k_is)
    (case k_need_checks => k_is)
    (case a_need_keys => k_is)
    (case l_need_keys => k_is)
    (case c_need_keys => k_is)
    (case k_need_keys => k_is)
    (case a_is_fitting => k_is)
    (case l_is_fitting => k_is)
    (case c_is_fitting => k_is)
    (case k_is_fitting => k_is)
    (case a_atom_fits => k_is)
    (case l_atom_fits => k_is)
    (case c_atom_fits => k_is)
    (case k_atom_fits => k_is)
    (case a_fits => k_is)
    (case l_fits => k_is)
    (case c_fits => k_is)
    (case k_fits => k_is)
    (case a_need_test => k_is)
    (case l_need_test => k_is)
    (case c_need_test => k_is)
    (case k_need_test => k_is)
    (case a__law_begin => k_is)
    (case l__law_begin => k_is)
    (case c__law_begin => k_is)
    (case k__law_begin => k_is)
    (case a__law_take => k_is)
    (case l__law_take => k_is)
    (case c__law_take => k_is)
    (case k__law_take => k_is)
    (case a__law_is_integer => k_is)
    (case l__law_is_integer => k_is)
    (case c__law_is_integer => k_is)
    (case k__law_is_integer => k_is)
    (case a__law_chars => k_is)
    (case l__law_chars => k_is)
    (case c__law_chars => k_is)
    (case k__law_chars => k_is)
    (case a__law_is_text => k_is)
    (case l__law_is_text => k_is)
    (case c__law_is_text => k_is)
    (case k__law_is_text => k_is)
    (case a__law_is_value => k_is)
    (case l__law_is_value => k_is)
    (case c__law_is_value => k_is)
    (case k__law_is_value => k_is)
    (case a__law_number => k_is)
    (case l__law_number => k_is)
    (case c__law_number => k_is)
    (case k__law_number => k_is)
    (case a__law_text => k_is)
    (case l__law_text => k_is)
    (case c__law_text => k_is)
    (case k__law_text => k_is)
    (case a__law_value => k_is)
    (case l__law_value => k_is)
    (case c__law_value => k_is)
    (case k__law_value => k_is)
    (case a__law_name => k_is)
    (case l__law_name => k_is)
    (case c__law_name => k_is)
    (case k__law_name => k_is)
    (case a__law_columns => k_is)
    (case l__law_columns => k_is)
    (case c__law_columns => k_is)
    (case k__law_columns => k_is)
    (case a__law_atom => k_is)
    (case l__law_atom => k_is)
    (case c__law_atom => k_is)
    (case k__law_atom => k_is)
    (case a__law_wrapped => k_is)
    (case l__law_wrapped => k_is)
    (case c__law_wrapped => k_is)
    (case k__law_wrapped => k_is)
    (case a__law_form => k_is)
    (case l__law_form => k_is)
    (case c__law_form => k_is)
    (case k__law_form => k_is)
    (case a__law_make => k_is)
    (case l__law_make => k_is)
    (case c__law_make => k_is)
    (case k__law_make => k_is)
    (case a__law_atoms => k_is)
    (case l__law_atoms => k_is)
    (case c__law_atoms => k_is)
    (case k__law_atoms => k_is)
    (case a__law_atom_names => k_is)
    (case l__law_atom_names => k_is)
    (case c__law_atom_names => k_is)
    (case k__law_atom_names => k_is)
    (case a__law_kind => k_is)
    (case l__law_kind => k_is)
    (case c__law_kind => k_is)
    (case k__law_kind => k_is)
    (case a__law_thing => k_is)
    (case l__law_thing => k_is)
    (case c__law_thing => k_is)
    (case k__law_thing => k_is)
    (case a__law_op => k_is)
    (case l__law_op => k_is)
    (case c__law_op => k_is)
    (case k__law_op => k_is)
    (case a__law_flag => k_is)
    (case l__law_flag => k_is)
    (case c__law_flag => k_is)
    (case k__law_flag => k_is)
    (case a__law_fits => k_is)
    (case l__law_fits => k_is)
    (case c__law_fits => k_is)
    (case k__law_fits => k_is)
    (case a__law_odd_atom => k_is)
    (case l__law_odd_atom => k_is)
    (case c__law_odd_atom => k_is)
    (case k__law_odd_atom => k_is)
    (case a__law_maybe_odd => k_is)
    (case l__law_maybe_odd => k_is)
    (case c__law_maybe_odd => k_is)
    (case k__law_maybe_odd => k_is)
    (case a__law_needed => k_is)
    (case l__law_needed => k_is)
    (case c__law_needed => k_is)
    (case k__law_needed => k_is)
    (case a_law => k_is)
    (case l_law => k_is)
    (case c_law => k_is)
    (case k_law => k_is)
    (case z_isinstance => k_is)
    (case z_int => k_is)
    (case z_bool => k_is)
    (case z_list => k_is)
    (case z_tuple => k_is)
    (case z_all => k_is)
    (case z_str => k_is)
    (case z_len => k_is)
    (case z_sum => k_is)
    (case z_enumerate => k_is)
    (case z_range => k_is)
    (case g_SIGNS => k_is)
    (case g_LONGEST_NAME => k_is)
    (case g_LETTERS => k_is)
    (case g_WORDS => k_is)
    (case gl_WORDS => k_is)
    (case gc_WORDS => rfl)
    (case gd_WORDS => rfl)
    (case gs_WORDS => decide)
    (case gv_WORDS => (repeat (first | exact .nil | refine .cons ⟨_, rfl⟩ ?_)))
    (case g_NAME_SIGNS => k_is)
    (case g_MOST_ATOMS => k_is)
    (case g_MOST_LEVELS => k_is)
    (case g_OPS => k_is)
    (case gl_OPS => k_is)
    (case gc_OPS => rfl)
    (case gd_OPS => rfl)
    (case gs_OPS => decide)
    (case gv_OPS => (repeat (first | exact .nil | refine .cons ⟨_, rfl⟩ ?_)))
    (case g_MOST_VALUES => k_is)
    (case g_KINDS => k_is)
    (case gl_KINDS => k_is)
    (case gc_KINDS => rfl)
    (case gd_KINDS => rfl)
    (case gs_KINDS => decide)
    (case gv_KINDS => (repeat (first | exact .nil | refine .cons ⟨_, rfl⟩ ?_)))
    (case g_MOST_COLUMNS => k_is)
    (case g_MOST_RULES => k_is)
#print axioms PySem.Challenge.cw_tworows_k13_fitting_tests_holds
