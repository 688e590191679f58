import PyProof.Rows.All
import Wide.All
import OpenK.AllK
import Wide.FinOn
import HandS.ForMost
import HandS.Wide
import HandS.IsInst
import HandS.Flow
import HandS.TupLe
import HandS.StrMore
import HandS.Evl
import HandS.Walk
import KE.KxText
import HandS.Set
import HandS.Strs
import HandS.SetFor
import PyProof.Rows.SortShellAny
import HandS.Replace
import HandS.ListEq
import HandS.DeepEq
import HandS.DictComp
import PySem.Challenge.RW_tworows_k44_orders_sort
set_option Elab.async false
set_option linter.all false
set_option maxRecDepth 100000
set_option maxHeartbeats 4000000
namespace Tw
open PySem L2

/-! ### a def of the text with its promise -/
structure Def (P : Program) (w : World) (K : PySem.W.Frag) (mg : Str → Option Value) (base : Heap) (k : Nat) (x : Str) (ps : List Str) (sp : Sp) : Prop where
  ex : ∃ (f : Addr) (fd : FuncData), FnOk P w K mg base CX0 k f fd ps sp ∧ mg x = some (.ref f) ∧ PySem.W.keepIn K (.ref f) = true ∧ Binds K fd ps []
/-- where a def of the text stands -/
structure Here (K : PySem.W.Frag) (mg : Str → Option Value) (x : Str) (st : Stmt) (ps : List Str) (f : Addr) (fd : FuncData) : Prop where
  fn : Fun K x x st f fd
  mg : mg x = some (.ref f)
  bd : Binds K fd ps []
section
variable {X : Cx} {k j : Nat} {x : Str} {p pos : Pos} {e : Expr} {es : List Expr} {ps : List Str} {sp : Sp} {t : TA}
theorem Here.def {P : Program} {w : World} {K : PySem.W.Frag} {mg : Str → Option Value} {base : Heap} {st : Stmt} {f : Addr} {fd : FuncData} (h : Here K mg x st ps f fd) (F : FnOk P w K mg base CX0 k f fd ps sp) : Def P w K mg base k x ps sp :=
  ⟨f, fd, F, h.mg, h.fn.kp, h.bd⟩
def tDef (sp : Sp) (t : TA) : TE := fun σ H Q => t σ H fun vs H1 => sp vs H1 Q E0
theorem tDef_eq {sp : Sp} {t : TA} : tCall sp [] E0 t = tDef sp t := by
  funext σ H Q
  unfold tCall tDef
  simp only [List.append_nil]
theorem pe_def (D : Def X.prog X.w X.K X.mg X.base k x ps sp) (hr : Room j X.A) (hg : Gl X x) (ha : PA X (e :: es) t) (hk : k ≤ j := by decide) (hdb : (x == ("__debug__" : Str)) = false := by decide)
    (he : starEach (e :: es) X.env = (false, eval e X.env) :: starEach es X.env := by rfl) (hpl : (backTo pos (starEach es X.env)).any (·.1) = false := by rfl) : PE X (.Call (.Name x p) (e :: es) [] pos) (tDef sp t) := by
  obtain ⟨f, fd, F, hm, hkp, hb⟩ := D.ex
  rw [← tDef_eq]
  exact pe_call F (hr.mono hk) hg hm hkp hb .nil pass0 ha hdb he hpl
theorem pe_def0 (D : Def X.prog X.w X.K X.mg X.base k x ps sp) (hr : Room j X.A) (hg : Gl X x) (hk : k ≤ j := by decide) (hdb : (x == ("__debug__" : Str)) = false := by decide) : PE X (.Call (.Name x p) [] [] pos) (tDef sp tNil) := by
  obtain ⟨f, fd, F, hm, hkp, hb⟩ := D.ex
  rw [← tDef_eq]
  exact pe_call0 F (hr.mono hk) hg hm hkp hb .nil pass0 hdb
end

/-! ### operators for values of any kind -/
def rStr2 (C : Str → Str → Prop) (g : Str → Str → V) : R2 := fun x y H Q => ∃ i j, x = .str i ∧ y = .str j ∧ C i j ∧ Q (g i j) H
def rAddG : R2 := fun x y H Q => (∃ i j, x = .int i ∧ y = .int j ∧ Q (.int (i + j)) H) ∨ (∃ i j, x = .str i ∧ y = .str j ∧ i.length + j.length ≤ sizeLine ∧ Q (.str (i ++ j)) H) ∨ rCat x y H Q
def rLtG : R2 := fun x y H Q => (∃ i j, x = .int i ∧ y = .int j ∧ Q (.bl (decide (i < j))) H) ∨ ∃ i j, x = .str i ∧ y = .str j ∧ Q (.bl (decide (i.cps.toList < j.cps.toList))) H
def CPowG (i j : Int) : Prop := 0 ≤ j ∧ (Builtin.Int.intBits i : Int) * j ≤ 2 ^ 27
section
variable {X : Cx} {H : Hp} {Q : VK}
theorem op_addG : OpR X (binaryOp .Add) rAddG := op_add.or (op_add_str.or op_cat)
theorem op_ltG : OpR X (compareOp .Lt) rLtG := op_lt.or op_lt_str
theorem op_powG : OpR X (binaryOp .Pow) (rI CPowG fun i j => .int (i ^ j.toNat)) := opI fun _ _ _ _ _ _ _ hc q => PyProof.Rows.pow_int hc.1 hc.2 q
def rFdG : R2 := rI CDivW fun i j => .int (i / j)
theorem op_fdG : OpR X (binaryOp .FloorDiv) rFdG := op_fdivW
def rModG : R2 := rI (fun _ j => 0 < j) fun i j => .int (i % j)
theorem op_modG : OpR X (binaryOp .Mod) rModG := op_mod
def rSubG : R2 := rI0 fun i j => .int (i - j)
theorem op_subG : OpR X (binaryOp .Sub) rSubG := op_sub
def rMulG : R2 := rI CMul fun i j => .int (i * j)
theorem op_mulG : OpR X (binaryOp .Mult) rMulG := op_mul
def rPowG : R2 := rI CPowG fun i j => .int (i ^ j.toNat)
theorem op_powG' : OpR X (binaryOp .Pow) rPowG := op_powG
def rLeG : R2 := rI0 fun i j => .bl (decide (i ≤ j))
theorem op_leG : OpR X (compareOp .LtE) rLeG := op_le
def rGtG : R2 := rI0 fun i j => .bl (decide (j < i))
theorem op_gtG : OpR X (compareOp .Gt) rGtG := op_gt
def rGeG : R2 := fun x y H Q => (rI0 fun i j => .bl (decide (j ≤ i))) x y H Q ∨ ∃ i j, x = .str i ∧ y = .str j ∧ Q (.bl (!decide (i.cps.toList < j.cps.toList))) H
theorem op_geG : OpR X (compareOp .GtE) rGeG := op_ge.or op_ge_str
def rIsNG : R2 := fun x y H Q => y = .non ∧ Q (.bl (decide (x = .non))) H
theorem op_isNG : OpR X (compareOp .Is) rIsNG := op_isN
def rNotNG : R2 := fun x y H Q => y = .non ∧ Q (.bl (!decide (x = .non))) H
theorem op_notNG : OpR X (compareOp .IsNot) rNotNG := op_notN
def rNegG : V → Hp → VK → Prop := rU fun i => .int (-i)
theorem un_negG : UnR X (unaryOp .USub) rNegG := un_neg
/-! rules that hang on the written part, the part told by a letter (so that they stand in a comprehension's block, too) -/
def rLenG (K : PySem.W.Frag) : List V → Hp → VK → Prop := fun xs H Q => ∃ x n, xs = [x] ∧ LenV K x H n ∧ Q (.int n) H
theorem call_lenG {K : PySem.W.Frag} (h : X.K = K) : CallR X (.builtin "len") (rLenG K) := by subst h; exact call_len
theorem ix_seqG {K : PySem.W.Frag} (h : X.K = K) : IxR X (rIx K) := by subst h; exact ix_seq
theorem call_isiG {K : PySem.W.Frag} (h : X.K = K) : CallR X (.builtin "isinstance") (rIsi K) := by subst h; exact call_isi
theorem sl_listG {K : PySem.W.Frag} (h : X.K = K) : SlR X (rSlL K) := by subst h; exact sl_list
def rSlG (K : PySem.W.Frag) : V → Option Int → Option Int → Hp → VK → Prop := fun x lo hi H Q => rSlL K x lo hi H Q ∨ (L2.rSlS x lo hi H Q ∨ rSlT K x lo hi H Q)
theorem sl_G {K : PySem.W.Frag} (h : X.K = K) : SlR X (rSlG K) := by subst h; exact sl_list.or (sl_str.or sl_tup)
def rInSign : R2 := fun x y H Q => ∃ (c : Nat) (z : Str), x = .str ⟨#[c]⟩ ∧ y = .str z ∧ Q (.bl (decide (c ∈ z.cps.toList))) H
def rNotInSign : R2 := fun x y H Q => ∃ (c : Nat) (z : Str), x = .str ⟨#[c]⟩ ∧ y = .str z ∧ Q (.bl (!decide (c ∈ z.cps.toList))) H
def rInG (K : PySem.W.Frag) : R2 := fun x y H Q => rInSign x y H Q ∨ rIn K false x y H Q
def rNotInG (K : PySem.W.Frag) : R2 := fun x y H Q => rNotInSign x y H Q ∨ rIn K true x y H Q
theorem op_inG {K : PySem.W.Frag} (h : X.K = K) : OpR X (compareOp .In) (rInG K) := by subst h; exact (show OpR X (compareOp .In) rInSign from op_in_sign).or op_in_seq
theorem op_notInG {K : PySem.W.Frag} (h : X.K = K) : OpR X (compareOp .NotIn) (rNotInG K) := by subst h; exact (show OpR X (compareOp .NotIn) rNotInSign from op_notIn_sign).or op_notIn_seq
def rMax2 : List V → Hp → VK → Prop := fun xs H Q => ∃ i j, xs = [.int i, .int j] ∧ Q (.int (if j > i then j else i)) H
theorem call_max2G (h : X.calm = true) : CallR X (.builtin "max") rMax2 := call_max2 h
def rGeS : R2 := fun x y H Q => ∃ i j, x = .str i ∧ y = .str j ∧ Q (.bl (!decide (i.cps.toList < j.cps.toList))) H
def rIsBl : R2 := fun x y H Q => ∃ a b, x = .bl a ∧ y = .bl b ∧ Q (.bl (decide (a = b))) H
def rNotBl : R2 := fun x y H Q => ∃ a b, x = .bl a ∧ y = .bl b ∧ Q (.bl (!decide (a = b))) H
theorem op_isBl : OpR X (compareOp .Is) rIsBl := op_is_bl
theorem op_notBl : OpR X (compareOp .IsNot) rNotBl := op_isnot_bl
def rListG (K : PySem.W.Frag) : List V → Hp → VK → Prop := fun xs H Q => ∃ p ys, xs = [.ref p] ∧ (SqL K H p ys ∨ SqT K H p ys) ∧ ∀ l, H l = none → Q (.ref l) (upd H l (.lst ys))
theorem call_listG {K : PySem.W.Frag} (h : X.K = K) : CallR X (.type "list") (rListG K) := by subst h; exact call_list_of
def rIntG : List V → Hp → VK → Prop := fun xs H Q => (∃ i, xs = [.int i] ∧ Q (.int i) H) ∨ ∃ k, xs = [.bl k] ∧ Q (.int (if k then 1 else 0)) H
theorem call_intG : CallR X (.type "int") rIntG := call_int1
def rBoolG : List V → Hp → VK → Prop := fun xs H Q => (∃ i, xs = [.int i] ∧ Q (.bl (i != 0)) H) ∨ ∃ k, xs = [.bl k] ∧ Q (.bl k) H
theorem call_boolG : CallR X (.type "bool") rBoolG := call_bool1
def rJoinG (K : PySem.W.Frag) : V → List V → Hp → VK → Prop := fun x xs H Q => ∃ a p, ∃ ys : List Str, x = .str a ∧ xs = [.ref p] ∧ (SqL K H p (ys.map V.str) ∨ SqT K H p (ys.map V.str)) ∧
    (ys.map (·.length)).sum + ys.length * a.length ≤ 16777216 ∧ Q (.str (PySem.Txt.join a ys)) H
theorem mt_joinG {K : PySem.W.Frag} (h : X.K = K) : MtR X "str.join" (rJoinG K) := by subst h; exact mt_join
/-- is True, is False: of bools -/
def rIsB : R2 := fun x y H Q => ∃ i j, x = .bl i ∧ y = .bl j ∧ Q (.bl (decide (i = j))) H
end

/-- what is wanted behind a statement, in a word that is no constructor -/
def mkE (nx : L2.St → Hp → Prop) (rt : VK) (bk ct : L2.St → Hp → Prop) : Ends := ⟨nx, rt, bk, ct⟩
theorem Fun.okM {P : Program} {w : World} {K : PySem.W.Frag} {mg : Str → Option Value} {base : Heap} {x qual : Str} {st : Stmt} {f : Addr} {fd : FuncData} {N ps : List Str} {k : Nat} {sp : Sp} (F : Fun K x qual st f fd) (S : FnScope N ps (defScope st)) (len : ∀ vs H Q E, sp vs H Q E → vs.length = ps.length)
    (hbody : ∀ (cdv : Value) (A : Around) (outer : List Env) (s : Shared) (H : Hp) (vs : List V) (Q : VK) (E : XK), Room k (A.deeper (PyProof.Rows.envOfC qual (defScope st) s.heap.objs.size f cdv)) → sp vs H Q E →
      ∃ t, PSs (cxOf CX0 P w K mg base N qual (defScope st) f cdv A outer s H E).nox (defBody st) t ∧ t (mkE (fun _ H' => Q .non H') Q (fun _ _ => False) (fun _ _ => False)) (L2.start N vs) H) : FnOk P w K mg base CX0 (k + 1) f fd ps sp := F.ok S len hbody
/-! ### readings, step by step -/
section
variable {K : PySem.W.Frag} {σ : L2.St} {H : Hp} {Q : VK} {QT : Bool → Hp → Prop} {QA : List V → Hp → Prop} {D : Ends} {ta tb te : TE} {tr t : TA} {u c : TT} {ts tz : TS} {x y v : V} {a b : Bool} {i j : Int}
theorem g_var {n : Nat} (h : σ[n]? = some (some v)) (q : Q v H) : tVar n σ H Q := ⟨v, h, q⟩
theorem g_var0 {n : Nat} (q : ∃ v, σ[n]? = some (some v) ∧ Q v H) : tVar n σ H Q := q
theorem g_c (q : Q v H) : tC v σ H Q := q
theorem g_op {r : R2} (q : ta σ H fun x H1 => tb σ H1 fun y H2 => r x y H2 Q) : tOp r ta tb σ H Q := q
theorem g_un {r : V → Hp → VK → Prop} (q : ta σ H fun x H1 => r x H1 Q) : tUn r ta σ H Q := q
theorem g_nil (q : QA [] H) : tNil σ H QA := q
theorem g_cons (q : ta σ H fun x H1 => tr σ H1 fun xs H2 => QA (x :: xs) H2) : tCons ta tr σ H QA := q
theorem g_def {sp : Sp} (q : t σ H fun vs H1 => sp vs H1 Q E0) : tDef sp t σ H Q := q
theorem g_cb {r : List V → Hp → VK → Prop} (q : t σ H fun vs H1 => r vs H1 Q) : tCB r t σ H Q := q
theorem g_tup (q : t σ H fun xs H1 => xs.length ≤ sizeLine ∧ ∀ p, H1 p = none → Q (.ref p) (upd H1 p (.tup xs))) : tTup t σ H Q := q
theorem g_lst (q : t σ H fun xs H1 => xs.length ≤ sizeLine ∧ ∀ p, H1 p = none → Q (.ref p) (upd H1 p (.lst xs))) : tLst t σ H Q := q
theorem g_addI (q : Q (.int (i + j)) H) : rAddG (.int i) (.int j) H Q := .inl ⟨i, j, rfl, rfl, q⟩
theorem g_addS {z w : Str} (h : z.length + w.length ≤ sizeLine) (q : Q (.str (z ++ w)) H) : rAddG (.str z) (.str w) H Q := .inr (.inl ⟨z, w, rfl, rfl, h, q⟩)
theorem g_subI (q : Q (.int (i - j)) H) : rSubG (.int i) (.int j) H Q := ⟨i, j, rfl, rfl, q⟩
theorem g_mulI (h : CMul i j) (q : Q (.int (i * j)) H) : rMulG (.int i) (.int j) H Q := ⟨i, j, rfl, rfl, h, q⟩
theorem g_powI (h : CPowG i j) (q : Q (.int (i ^ j.toNat)) H) : rPowG (.int i) (.int j) H Q := ⟨i, j, rfl, rfl, h, q⟩
theorem g_modI (h : 0 < j) (q : Q (.int (i % j)) H) : rModG (.int i) (.int j) H Q := ⟨i, j, rfl, rfl, h, q⟩
theorem g_fdI (h : CDivW i j) (q : Q (.int (i / j)) H) : rFdG (.int i) (.int j) H Q := ⟨i, j, rfl, rfl, h, q⟩
theorem g_negI (q : Q (.int (-i)) H) : rNegG (.int i) H Q := ⟨i, rfl, q⟩
theorem g_ltI (q : Q (.bl (decide (i < j))) H) : rLtG (.int i) (.int j) H Q := .inl ⟨i, j, rfl, rfl, q⟩
theorem g_ltS {z w : Str} (q : Q (.bl (decide (z.cps.toList < w.cps.toList))) H) : rLtG (.str z) (.str w) H Q := .inr ⟨z, w, rfl, rfl, q⟩
theorem g_leI (q : Q (.bl (decide (i ≤ j))) H) : rLeG (.int i) (.int j) H Q := ⟨i, j, rfl, rfl, q⟩
theorem g_gtI (q : Q (.bl (decide (j < i))) H) : rGtG (.int i) (.int j) H Q := ⟨i, j, rfl, rfl, q⟩
theorem g_geI (q : Q (.bl (decide (j ≤ i))) H) : rGeG (.int i) (.int j) H Q := .inl ⟨i, j, rfl, rfl, q⟩
theorem g_geS {z w : Str} (q : Q (.bl (!decide (z.cps.toList < w.cps.toList))) H) : rGeG (.str z) (.str w) H Q := .inr ⟨z, w, rfl, rfl, q⟩
theorem g_slL {p : Addr} {xs : List V} {lo hi : Option Int} (h : SqL K H p xs) (q : ∀ l, H l = none → Q (.ref l) (upd H l (.lst (cutV xs lo hi)))) : rSlG K (.ref p) lo hi H Q := .inl ⟨p, xs, rfl, h, q⟩
theorem g_slS {z : Str} {lo hi : Option Int} (h : z.length ≤ sizeLine) (q : Q (.str (cutS z lo hi)) H) : rSlG K (.str z) lo hi H Q := .inr (.inl ⟨z, rfl, h, q⟩)
theorem g_inS {n : Nat} {z : Str} (q : Q (.bl (decide (n ∈ z.cps.toList))) H) : rInG K (.str ⟨#[n]⟩) (.str z) H Q := .inl ⟨n, z, rfl, rfl, q⟩
theorem g_notInS {n : Nat} {z : Str} (q : Q (.bl (!decide (n ∈ z.cps.toList))) H) : rNotInG K (.str ⟨#[n]⟩) (.str z) H Q := .inl ⟨n, z, rfl, rfl, q⟩
theorem g_max2 (q : Q (.int (if j > i then j else i)) H) : rMax2 [.int i, .int j] H Q := ⟨i, j, rfl, q⟩
theorem g_isBl_tt (q : Q (.bl true) H) : rIsBl (.bl true) (.bl true) H Q := ⟨true, true, rfl, rfl, q⟩
theorem g_notBl_tt (q : Q (.bl false) H) : rNotBl (.bl true) (.bl true) H Q := ⟨true, true, rfl, rfl, q⟩
theorem g_isBl_tf (q : Q (.bl false) H) : rIsBl (.bl true) (.bl false) H Q := ⟨true, false, rfl, rfl, q⟩
theorem g_notBl_tf (q : Q (.bl true) H) : rNotBl (.bl true) (.bl false) H Q := ⟨true, false, rfl, rfl, q⟩
theorem g_isBl_ft (q : Q (.bl false) H) : rIsBl (.bl false) (.bl true) H Q := ⟨false, true, rfl, rfl, q⟩
theorem g_notBl_ft (q : Q (.bl true) H) : rNotBl (.bl false) (.bl true) H Q := ⟨false, true, rfl, rfl, q⟩
theorem g_isBl_ff (q : Q (.bl true) H) : rIsBl (.bl false) (.bl false) H Q := ⟨false, false, rfl, rfl, q⟩
theorem g_notBl_ff (q : Q (.bl false) H) : rNotBl (.bl false) (.bl false) H Q := ⟨false, false, rfl, rfl, q⟩
theorem g_isBl (q : Q (.bl (decide (a = b))) H) : rIsBl (.bl a) (.bl b) H Q := ⟨a, b, rfl, rfl, q⟩
theorem g_notBl (q : Q (.bl (!decide (a = b))) H) : rNotBl (.bl a) (.bl b) H Q := ⟨a, b, rfl, rfl, q⟩
theorem g_istr {R : It → Hp → Prop} (q : ta σ H fun v H1 => ∃ x, v = .str x ∧ R (Its x) H1) : iStr ta σ H R := q
theorem g_str1 {p : Str → Prop} {z : Str} (q : p z) : ∃ x, V.str z = .str x ∧ p x := ⟨z, rfl, q⟩
theorem g_strE {z : Str} {R : Prop} (q : R) : (∃ a, V.str z = .str a) ∧ R := ⟨⟨z, rfl⟩, q⟩
theorem g_isN (q : Q (.bl (decide (x = .non))) H) : rIsNG x .non H Q := ⟨rfl, q⟩
theorem g_notN (q : Q (.bl (!decide (x = .non))) H) : rNotNG x .non H Q := ⟨rfl, q⟩
theorem g_isN_non (q : Q (.bl true) H) : rIsNG .non .non H Q := ⟨rfl, by rw [decide_eq_true rfl]; exact q⟩
theorem g_isN_int (q : Q (.bl false) H) : rIsNG (.int i) .non H Q := ⟨rfl, by rw [decide_eq_false (fun z => nomatch z)]; exact q⟩
theorem g_isN_str {z : Str} (q : Q (.bl false) H) : rIsNG (.str z) .non H Q := ⟨rfl, by rw [decide_eq_false (fun z => nomatch z)]; exact q⟩
theorem g_isN_bl (q : Q (.bl false) H) : rIsNG (.bl a) .non H Q := ⟨rfl, by rw [decide_eq_false (fun z => nomatch z)]; exact q⟩
theorem g_isN_ref {p : Addr} (q : Q (.bl false) H) : rIsNG (.ref p) .non H Q := ⟨rfl, by rw [decide_eq_false (fun z => nomatch z)]; exact q⟩
theorem g_notN_non (q : Q (.bl false) H) : rNotNG .non .non H Q := ⟨rfl, by rw [decide_eq_true rfl]; exact q⟩
theorem g_notN_int (q : Q (.bl true) H) : rNotNG (.int i) .non H Q := ⟨rfl, by rw [decide_eq_false (fun z => nomatch z)]; exact q⟩
theorem g_notN_str {z : Str} (q : Q (.bl true) H) : rNotNG (.str z) .non H Q := ⟨rfl, by rw [decide_eq_false (fun z => nomatch z)]; exact q⟩
theorem g_notN_bl (q : Q (.bl true) H) : rNotNG (.bl a) .non H Q := ⟨rfl, by rw [decide_eq_false (fun z => nomatch z)]; exact q⟩
theorem g_notN_ref {p : Addr} (q : Q (.bl true) H) : rNotNG (.ref p) .non H Q := ⟨rfl, by rw [decide_eq_false (fun z => nomatch z)]; exact q⟩
theorem g_Tn {A B : Prop} (h : B) : if (!true) = true then A else B := by rw [if_neg (by decide)]; exact h
theorem g_Fn {A B : Prop} (h : A) : if (!false) = true then A else B := by rw [if_pos (by decide)]; exact h
theorem dI (i j : Int) : decide (V.int i = V.int j) = decide (i = j) := by
  by_cases h : i = j
  · subst h; simp
  · rw [decide_eq_false h]; exact decide_eq_false fun z => h (V.int.inj z)
theorem dS (i j : Str) : decide (V.str i = V.str j) = decide (i = j) := by
  by_cases h : i = j
  · subst h; simp
  · rw [decide_eq_false h]; exact decide_eq_false fun z => h (V.str.inj z)
theorem dB (i j : Bool) : decide (V.bl i = V.bl j) = decide (i = j) := by
  by_cases h : i = j
  · subst h; simp
  · rw [decide_eq_false h]; exact decide_eq_false fun z => h (V.bl.inj z)
theorem g_eqI (q : Q (.bl (decide (i = j))) H) : rEq (.int i) (.int j) H Q := ⟨rfl, by rw [dI]; exact q⟩
theorem g_eqS {z w : Str} (q : Q (.bl (decide (z = w))) H) : rEq (.str z) (.str w) H Q := ⟨rfl, by rw [dS]; exact q⟩
theorem g_eqB (q : Q (.bl (decide (a = b))) H) : rEq (.bl a) (.bl b) H Q := ⟨rfl, by rw [dB]; exact q⟩
theorem g_neI (q : Q (.bl (!decide (i = j))) H) : rNe (.int i) (.int j) H Q := ⟨rfl, by rw [dI]; exact q⟩
theorem g_neS {z w : Str} (q : Q (.bl (!decide (z = w))) H) : rNe (.str z) (.str w) H Q := ⟨rfl, by rw [dS]; exact q⟩
theorem g_int1 (q : Q (.int i) H) : rIntG [V.int i] H Q := .inl ⟨i, rfl, q⟩
theorem g_int1B (q : Q (.int (if a then 1 else 0)) H) : rIntG [V.bl a] H Q := .inr ⟨a, rfl, q⟩
theorem g_bool1B (q : Q (.bl a) H) : rBoolG [V.bl a] H Q := .inr ⟨a, rfl, q⟩
theorem g_bool1I (q : Q (.bl (i != 0)) H) : rBoolG [V.int i] H Q := .inl ⟨i, rfl, q⟩
theorem g_ixL {p : Addr} {xs : List V} (h : SqL K H p xs) (e : atI xs i = some v) (q : Q v H) : rIx K (.ref p) (.int i) H Q := .inl ⟨p, xs, i, v, rfl, rfl, h, e, q⟩
theorem g_ixL0 {p : Addr} (q : ∃ xs v, H p = some (.lst xs) ∧ atI xs i = some v ∧ Q v H) : rIx K (.ref p) (.int i) H Q := by
  obtain ⟨xs, v, h, e, q⟩ := q
  exact g_ixL (SqL.of h) e q
theorem g_lenL0 {p : Addr} (q : ∃ xs, H p = some (.lst xs) ∧ Q (.int (xs.length : Int)) H) : rLenG K [.ref p] H Q := by
  obtain ⟨xs, h, q⟩ := q
  exact ⟨_, _, rfl, .inl ⟨xs, SqL.of h, rfl⟩, q⟩
theorem g_setL0 {p : Addr} {QH : Hp → Prop} (q : ∃ xs n, H p = some (.lst xs) ∧ ixN xs.length i = some n ∧ QH (upd H p (.lst (xs.set n v)))) : rSetL (.ref p) (.int i) v H QH := by
  obtain ⟨xs, n, h, e, q⟩ := q
  exact ⟨p, xs, i, n, rfl, rfl, h, e, q⟩
theorem g_ixT {p : Addr} {xs : List V} (h : SqT K H p xs) (e : atI xs i = some v) (q : Q v H) : rIx K (.ref p) (.int i) H Q := .inr (.inl ⟨p, xs, i, v, rfl, rfl, h, e, q⟩)
theorem g_ixS {z : Str} {n : Nat} (h : z.length ≤ sizeLine) (e : atI z.cps.toList i = some n) (q : Q (.str ⟨#[n]⟩) H) : rIx K (.str z) (.int i) H Q := .inr (.inr ⟨z, i, n, rfl, rfl, h, e, q⟩)
theorem g_lenL {p : Addr} {xs : List V} (h : SqL K H p xs) (q : Q (.int (xs.length : Int)) H) : rLenG K [.ref p] H Q := ⟨_, _, rfl, .inl ⟨xs, h, rfl⟩, q⟩
theorem g_lenT {p : Addr} {xs : List V} (h : SqT K H p xs) (q : Q (.int (xs.length : Int)) H) : rLenG K [.ref p] H Q := ⟨_, _, rfl, .inr ⟨xs, h, rfl⟩, q⟩
theorem g_lenS {z : Str} (h : z.length ≤ sizeLine) (q : Q (.int (z.length : Int)) H) : rLenG K [.str z] H Q := ⟨_, _, rfl, ⟨h, rfl⟩, q⟩
theorem g_list {p : Addr} {xs : List V} (h : SqL K H p xs) (q : ∀ l, H l = none → Q (.ref l) (upd H l (.lst xs))) : rListG K [.ref p] H Q := ⟨p, xs, rfl, .inl h, q⟩
theorem g_join {z : Str} {p : Addr} {ys : List Str} (h : SqL K H p (ys.map V.str)) (hz : (ys.map (·.length)).sum + ys.length * z.length ≤ 16777216) (q : Q (.str (PySem.Txt.join z ys)) H) : rJoinG K (.str z) [.ref p] H Q :=
  ⟨z, p, ys, rfl, rfl, .inl h, hz, q⟩
/-- the kind of a value, by its form -/
def kindS : V → String
  | .non => "NoneType" | .bl _ => "bool" | .int _ => "int" | .str _ => "str" | .flt _ => "float" | _ => ""
theorem g_isi {c : String} (ty : TyX K H x (.type n)) (h : kitB n c = some b) (q : Q (.bl b) H) : rIsi K [x, .ty c] H Q := ⟨x, .ty c, .type n, .type c, b, rfl, .ty c, ty, kit_ty h, q⟩
theorem g_isiI {c : String} (h : kitB "int" c = some b) (q : Q (.bl b) H) : rIsi K [.int i, .ty c] H Q := g_isi (.base (.int i)) h q
theorem g_isiS {c : String} {z : Str} (h : kitB "str" c = some b) (q : Q (.bl b) H) : rIsi K [.str z, .ty c] H Q := g_isi (.base (.str z)) h q
theorem g_isiB {c : String} (h : kitB "bool" c = some b) (q : Q (.bl b) H) : rIsi K [.bl a, .ty c] H Q := g_isi (.base (.bl a)) h q
theorem g_isiN {c : String} (h : kitB "NoneType" c = some b) (q : Q (.bl b) H) : rIsi K [.non, .ty c] H Q := g_isi (.base .non) h q
theorem kb_ii : kitB "int" "int" = some true := by decide +kernel
theorem kb_is : kitB "int" "str" = some false := by decide +kernel
theorem kb_ib : kitB "int" "bool" = some false := by decide +kernel
theorem kb_si : kitB "str" "int" = some false := by decide +kernel
theorem kb_ss : kitB "str" "str" = some true := by decide +kernel
theorem kb_sb : kitB "str" "bool" = some false := by decide +kernel
theorem kb_bi : kitB "bool" "int" = some true := by decide +kernel
theorem kb_bs : kitB "bool" "str" = some false := by decide +kernel
theorem kb_bb : kitB "bool" "bool" = some true := by decide +kernel
theorem kb_ni : kitB "NoneType" "int" = some false := by decide +kernel
theorem kb_ns : kitB "NoneType" "str" = some false := by decide +kernel
theorem kb_nb : kitB "NoneType" "bool" = some false := by decide +kernel
theorem g_sl {r : V → Option Int → Option Int → Hp → VK → Prop} {tl th : TO} (q : te σ H fun x H1 => tl σ H1 fun l H2 => th σ H2 fun u H3 => r x l u H3 Q) : tSl r te tl th σ H Q := q
theorem g_noPart {QO : Option Int → Hp → Prop} (q : QO none H) : tNoPart σ H QO := q
theorem g_part {QO : Option Int → Hp → Prop} (q : te σ H fun x H1 => ∃ i, x = .int i ∧ QO (some i) H1) : tPart te σ H QO := q
theorem g_int {p : Int → Prop} (q : p i) : ∃ k, V.int i = .int k ∧ p k := ⟨i, rfl, q⟩
theorem g_m1 {r : V → List V → Hp → VK → Prop} (q : ta σ H fun x H1 => (∃ a, x = .str a) ∧ tb σ H1 fun y H2 => r x [y] H2 Q) : tM1 r ta tb σ H Q := q
theorem g_m0 {r : V → List V → Hp → VK → Prop} (q : ta σ H fun x H1 => (∃ a, x = .str a) ∧ r x [] H1 Q) : tM0 r ta σ H Q := q
theorem g_lc {wi : TI} {g : TG} {tt : TT} {vs : List Nat} (q : wi σ H fun J H1 => ∀ D, H1 D = none → ∃ W : Nat → Nat → Hp → Prop, (∃ m, W 0 m (upd H1 D (.lst []))) ∧ ∀ i m H, W i m H →
  (J.stop i H ∧ Q (.ref D) H) ∨ (J.go i H ∧ ∃ Nx : Hp → Prop, (∀ H', Nx H' → ∃ m', m' < m ∧ W (i + 1) m' H') ∧ ∀ x H', J.yld i H x H' → g x (wipe σ vs) H' fun σ2 H2 => wipe σ2 vs = wipe σ vs ∧ tt σ2 H2 fun b H3 =>
    if b = true then te σ2 H3 fun y H4 => ∃ acc, H4 D = some (.lst acc) ∧ acc.length < sizeLine ∧ Nx (upd H4 D (.lst (acc ++ [y]))) else Nx H3)) : tLc wi g tt te vs σ H Q := q
theorem g_rng1 {R : It → Hp → Prop} (q : t σ H fun vs H1 => ∃ j : Int, vs = [.int j] ∧ -(2 ^ 62) ≤ j ∧ j < 2 ^ 62 ∧ R (Itr 0 j.toNat) H1) : iRng1 t σ H R := q
theorem g_ilist {R : It → Hp → Prop} (q : ta σ H fun x H1 => ∃ a, x = .ref a ∧ (∃ xs, SqL K H1 a xs) ∧ R (Itl K a) H1) : iList K ta σ H R := q
theorem g_for {wi : TI} {g : TG} (q : wi σ H fun J H1 => ∃ W : Nat → Nat → L2.St → Hp → Prop, (∃ m, W 0 m σ H1) ∧ ∀ i m σ H, W i m σ H →
  (J.stop i H ∧ D.nx σ H) ∨ (J.go i H ∧ ∃ N : L2.St → Hp → Prop, (∀ σ' H', N σ' H' → ∃ m', m' < m ∧ W (i + 1) m' σ' H') ∧ ∀ x H', J.yld i H x H' → g x σ H' fun σ2 H2 => ts { D with nx := N, ct := N, bk := D.nx } σ2 H2)) : tFor wi g ts D σ H := q
theorem g_cut {M : L2.St → Hp → Prop} (h : ts (mkE M D.rt D.bk D.ct) σ H) (k : ∀ σ' H', M σ' H' → tz D σ' H') : Evl.tCut ts tz D σ H := ⟨M, h, k⟩
theorem g_yes (q : QT true H) : tYes σ H QT := q
/-- a comprehension over a text whose turns leave the heap -/
theorem lc_text {z : Str} {g : TG} {tt : TT} {vs : List Nat} {H1 : Hp} {Dl : Addr} {Qd : Hp → Prop} (f : Nat → Bool) (v : Nat → V) (hz : z.length ≤ 1000000)
    (hs : ∀ (n : Nat) (Hh : Hp) (R : V → Hp → Prop) (S : Hp → Prop), n ∈ z.cps.toList → (∀ p o, p ≠ Dl → H1 p = some o → Hh p = some o) → (f n = true → R (v n) Hh) → (f n = false → S Hh) →
      g (.str ⟨#[n]⟩) (wipe σ vs) Hh fun σ2 H2 => wipe σ2 vs = wipe σ vs ∧ tt σ2 H2 fun b H3 => if b = true then te σ2 H3 R else S H3)
    (hd : ∀ H, (∀ p o, p ≠ Dl → H1 p = some o → H p = some o) → H Dl = some (.lst ((z.cps.toList.filter f).map v)) → Qd H) :
    ∃ W : Nat → Nat → Hp → Prop, (∃ m, W 0 m (upd H1 Dl (.lst []))) ∧ ∀ i m H, W i m H →
      ((Its z).stop i H ∧ Qd H) ∨ ((Its z).go i H ∧ ∃ Nx : Hp → Prop, (∀ H', Nx H' → ∃ m', m' < m ∧ W (i + 1) m' H') ∧ ∀ x H', (Its z).yld i H x H' → g x (wipe σ vs) H' fun σ2 H2 => wipe σ2 vs = wipe σ vs ∧ tt σ2 H2 fun b H3 =>
        if b = true then te σ2 H3 fun y H4 => ∃ acc, H4 Dl = some (.lst acc) ∧ acc.length < sizeLine ∧ Nx (upd H4 Dl (.lst (acc ++ [y]))) else Nx H3) := by
  have hsz : z.cps.size = z.cps.toList.length := Array.length_toList.symm
  refine ⟨fun i m H => m = z.cps.size - i ∧ i ≤ z.cps.size ∧ H Dl = some (.lst (((z.cps.toList.take i).filter f).map v)) ∧ ∀ p o, p ≠ Dl → H1 p = some o → H p = some o, ⟨z.cps.size, by simp, Nat.zero_le _, upd_same, fun p o n h => by rw [upd_ne n]; exact h⟩, ?_⟩
  rintro i m H ⟨rfl, hi, hD, hK⟩
  by_cases hlt : i < z.cps.size
  · refine .inr ⟨hlt, fun H' => H' Dl = some (.lst (((z.cps.toList.take (i + 1)).filter f).map v)) ∧ ∀ p o, p ≠ Dl → H1 p = some o → H' p = some o, fun H' w => ⟨z.cps.size - (i + 1), by omega, rfl, hlt, w⟩, ?_⟩
    rintro x H' ⟨rfl, n, hn, rfl⟩
    have hn' : z.cps.toList[i]? = some n := by rw [Array.getElem?_toList]; exact hn
    have e1 : z.cps.toList.take (i + 1) = z.cps.toList.take i ++ [n] := by rw [List.take_succ, hn']; rfl
    refine hs n H' _ _ (List.mem_of_getElem? hn') hK (fun hf => ?_) (fun hf => ?_)
    · refine ⟨_, hD, ?_, ?_, fun p o n h => by rw [upd_ne n]; exact hK p o n h⟩
      · rw [List.length_map, sizeLine_eq]
        have h1 := List.length_filter_le f (z.cps.toList.take i)
        have h2 : (z.cps.toList.take i).length ≤ z.cps.toList.length := by rw [List.length_take]; omega
        have h3 : z.cps.toList.length ≤ 1000000 := by rw [← hsz]; exact hz
        omega
      · rw [upd_same, e1, List.filter_append, List.filter_cons, if_pos hf, List.map_append]; rfl
    · refine ⟨?_, hK⟩
      rw [hD, e1, List.filter_append, List.filter_cons, if_neg (by rw [hf]; exact Bool.false_ne_true)]
      simp
  · have e : i = z.cps.size := by omega
    subst e
    refine .inl ⟨Nat.le_refl _, hd H hK ?_⟩
    rw [hD, hsz, List.take_length]
theorem join_cps (ys : List Str) : (PySem.Txt.join (Str.ofString "") ys).cps.toList = ys.flatMap fun y => y.cps.toList := by
  show (Builtin.Str.glued (Str.ofString "") ys).cps.toList = _
  rw [StrLaws.glued_eq_join]
  induction ys with
  | nil => rfl
  | cons y r ih =>
    cases r with
    | nil => show y.cps.toList = y.cps.toList ++ []; rw [List.append_nil]
    | cons z r =>
      show ((y ++ Str.ofString "") ++ Str.join (Str.ofString "") (z :: r)).cps.toList = _
      rw [PySem.W.KT.app_list, PySem.W.KT.app_list, ih, show (Str.ofString "").cps.toList = [] by decide +kernel, List.append_nil]
      rfl
theorem g_name {n : Nat} {QS : L2.St → Hp → Prop} (q : QS (σ.set n (some v)) H) : gName n v σ H QS := q
theorem g_inr {R : It → Hp → Prop} {p : Addr} {J : Addr → It} (q : (∃ xs, SqL K H p xs) ∧ R (J p) H) : ∃ a, V.ref p = .ref a ∧ (∃ xs, SqL K H a xs) ∧ R (J a) H := ⟨p, rfl, q⟩
theorem lex_trans {a b c : List Nat} (h : a < b) (k : b < c) : a < c := List.lt_trans h k
theorem lex_asymm {a b : List Nat} (h : a < b) : ¬ b < a := List.lt_asymm h
theorem lex_irrefl (a : List Nat) : ¬ a < a := List.lt_irrefl a
theorem lex_total {a b : List Nat} (h : ¬ a < b) (k : ¬ b < a) : a = b := List.le_antisymm (List.not_lt.mp k) (List.not_lt.mp h)
theorem str_ext {a b : Str} (h : a.cps.toList = b.cps.toList) : a = b := congrArg Str.mk (Array.toList_inj.mp h)
/-- a list, a tuple, a dict -/
def isRef (H : Hp) (p : Addr) : Prop := (∃ xs, H p = some (.lst xs)) ∨ (∃ xs, H p = some (.tup xs)) ∨ ∃ kvs, H p = some (.dK kvs)
theorem isRef.keep {H H' : Hp} {p : Addr} (h : isRef H p) (k : ∀ p o, H p = some o → H' p = some o) : isRef H' p := by
  rcases h with ⟨xs, h⟩ | ⟨xs, h⟩ | ⟨xs, h⟩
  · exact .inl ⟨xs, k _ _ h⟩
  · exact .inr (.inl ⟨xs, k _ _ h⟩)
  · exact .inr (.inr ⟨xs, k _ _ h⟩)
theorem g_isiR {p : Addr} {c : String} (h : isRef H p) (hc : c = "int" ∨ c = "str" ∨ c = "bool") (q : Q (.bl false) H) : rIsi K [.ref p, .ty c] H Q := by
  rcases h with ⟨xs, h⟩ | ⟨xs, h⟩ | ⟨xs, h⟩
  · exact g_isi (.base (.lst h)) (by rcases hc with rfl | rfl | rfl <;> decide +kernel) q
  · exact g_isi (.base (.tup h)) (by rcases hc with rfl | rfl | rfl <;> decide +kernel) q
  · exact g_isi (.base (.dK h)) (by rcases hc with rfl | rfl | rfl <;> decide +kernel) q
/-- a thing of any kind that a law draws -/
def thing (H : Hp) (v : V) : Prop := v = .non ∨ (∃ b, v = .bl b) ∨ (∃ i, v = .int i) ∨ (∃ z : Str, v = .str z ∧ z.length ≤ 100) ∨ ∃ p, v = .ref p ∧ isRef H p
theorem thing.keep {H H' : Hp} {v : V} (h : thing H v) (k : ∀ p o, H p = some o → H' p = some o) : thing H' v := by
  rcases h with h | h | h | h | ⟨p, e, h⟩
  · exact .inl h
  · exact .inr (.inl h)
  · exact .inr (.inr (.inl h))
  · exact .inr (.inr (.inr (.inl h)))
  · exact .inr (.inr (.inr (.inr ⟨p, e, h.keep k⟩)))
def isIntB : V → Bool
  | .int _ => true
  | _ => false
theorem inV_strs {z : Str} {ws : List Str} : inV (.str z) (ws.map V.str) = decide (z ∈ ws) := by
  unfold inV
  rw [List.any_map]
  rw [Bool.eq_iff_iff, decide_eq_true_eq, List.any_eq_true]
  constructor
  · rintro ⟨y, hy, h⟩
    have : y = z := by simpa [eqV] using h
    rw [← this]; exact hy
  · intro h
    exact ⟨z, h, by simp [eqV]⟩
theorem flat_strs (ws : List Str) : (ws.map V.str).all flatV = true := by
  rw [List.all_map, List.all_eq_true]
  intro x _
  rfl
theorem atI_strs {ws : List Str} {i : Int} (h0 : 0 ≤ i) (h1 : i < ws.length) : ∃ z, z ∈ ws ∧ atI (ws.map V.str) i = some (.str z) := by
  obtain ⟨k, rfl⟩ := Int.eq_ofNat_of_zero_le h0
  have hk : k < ws.length := by omega
  refine ⟨ws[k], List.getElem_mem hk, atI_nat ?_⟩
  rw [List.getElem?_map, List.getElem?_eq_getElem hk]; rfl
theorem g_tupE {p : Addr} {R : Prop} (q : R) : R := q
theorem g_test (q : ta σ H fun x H' => ∃ k, x = .bl k ∧ QT k H') : tTest ta σ H QT := q
theorem g_B (q : ta σ H fun x H' => ∃ k, x = .bl k ∧ QT k H') : tB ta σ H QT := q
theorem g_bl {p : Bool → Prop} (q : p a) : ∃ k, V.bl a = .bl k ∧ p k := ⟨a, rfl, q⟩
theorem g_tand (q : c σ H fun d H1 => if d = true then u σ H1 QT else QT false H1) : tAnd c u σ H QT := q
theorem g_tor (q : c σ H fun d H1 => if d = true then QT true H1 else u σ H1 QT) : tOr c u σ H QT := q
theorem g_tnot (q : c σ H fun d H1 => QT (!d) H1) : tNot c σ H QT := q
theorem g_vand (q : ta σ H fun x H1 => ∃ c, x = .bl c ∧ if c = true then tb σ H1 Q else Q (.bl false) H1) : tAndV ta tb σ H Q := q
theorem g_vor (q : ta σ H fun x H1 => ∃ c, x = .bl c ∧ if c = true then Q (.bl true) H1 else tb σ H1 Q) : tOrV ta tb σ H Q := q
theorem g_vnot (q : ta σ H fun x H1 => ∃ c, x = .bl c ∧ Q (.bl (!c)) H1) : tNotV ta σ H Q := q
theorem g_eif (q : c σ H fun d H1 => if d = true then ta σ H1 Q else tb σ H1 Q) : tIf c ta tb σ H Q := q
theorem g_seq (q : ts (mkE (tz D) D.rt D.bk D.ct) σ H) : tSeq ts tz D σ H := q
theorem g_asg {n : Nat} (q : te σ H fun x H1 => D.nx (σ.set n (some x)) H1) : tAsg te (gName n) D σ H := q
theorem g_asgSub {to ti : TE} {s : TSet} (q : te σ H fun x H1 => to σ H1 fun o H2 => ti σ H2 fun i H3 => s o i x H3 fun H4 => D.nx σ H4) : tAsg te (gSub to ti s) D σ H := q
theorem g_ret (q : te σ H D.rt) : tRet te D σ H := q
theorem g_drop (q : te σ H fun _ H1 => D.nx σ H1) : tDrop te D σ H := q
theorem g_if {t1 t2 : TS} (q : c σ H fun d H1 => if d = true then t1 D σ H1 else t2 D σ H1) : tIfS c t1 t2 D σ H := q
theorem g_next (q : D.nx σ H) : tNext D σ H := q
variable {nx : L2.St → Hp → Prop} {rt : VK} {bk ct : L2.St → Hp → Prop}
theorem g_nx (q : nx σ H) : (mkE nx rt bk ct).nx σ H := q
theorem g_rt (q : rt v H) : (mkE nx rt bk ct).rt v H := q
theorem g_bk (q : bk σ H) : (mkE nx rt bk ct).bk σ H := q
theorem g_ct (q : ct σ H) : (mkE nx rt bk ct).ct σ H := q
theorem g_ctS (q : D.ct σ H) : tCont D σ H := q
theorem g_bkS (q : D.bk σ H) : tBreak D σ H := q
/-! sizes, places -/
theorem cpow_small (h0 : 0 ≤ j) (h1 : j ≤ 1000000) (h2 : -(2 ^ 64) < i) (h3 : i < 2 ^ 64) : CPowG i j := by
  have h := PySem.intBits_le_64 h2 h3
  have h4 : ((Builtin.Int.intBits i : Nat) : Int) ≤ 64 := by omega
  refine ⟨h0, ?_⟩
  have h5 : ((Builtin.Int.intBits i : Nat) : Int) * j ≤ 64 * j := Int.mul_le_mul_of_nonneg_right h4 h0
  omega
theorem atI_map {ns : List Int} {n : Int} (h : 0 ≤ n ∧ n < ((ns.map V.int).length : Nat)) : atI (ns.map V.int) n = some (.int (ns.getD n.toNat 0)) := by
  rw [List.length_map] at h
  obtain ⟨h0, h⟩ := h
  obtain ⟨k, rfl⟩ := Int.eq_ofNat_of_zero_le h0
  refine atI_nat ?_
  rw [List.getElem?_map, List.getD_eq_getElem?_getD, Int.toNat_natCast, List.getElem?_eq_getElem (by omega)]
  rfl
theorem atI_get {α : Type} {xs : List α} {n : Nat} {v : α} (h : xs[n]? = some v) : atI xs (n : Int) = some v := atI_nat h
/-! tests -/
theorem g_T {A B : Prop} (h : A) : if true = true then A else B := by rw [if_pos rfl]; exact h
theorem g_F {A B : Prop} (h : B) : if false = true then A else B := by rw [if_neg Bool.false_ne_true]; exact h
theorem g_split {A B : Prop} {k : Bool} (h1 : k = true → A) (h2 : k = false → B) : if k = true then A else B := by
  cases k
  · exact g_F (h2 rfl)
  · exact g_T (h1 rfl)
theorem g_dec {A B p : Prop} [Decidable p] (h1 : p → A) (h2 : ¬ p → B) : if decide p = true then A else B :=
  g_split (fun h => h1 (of_decide_eq_true h)) (fun h => h2 (of_decide_eq_false h))
theorem g_ndec {A B p : Prop} [Decidable p] (h1 : ¬ p → A) (h2 : p → B) : if (!decide p) = true then A else B := by
  by_cases h : p
  · rw [decide_eq_true h]; exact g_F (h2 h)
  · rw [decide_eq_false h]; exact g_T (h1 h)
theorem g_nsplit {A B : Prop} {k : Bool} (h1 : k = false → A) (h2 : k = true → B) : if (!k) = true then A else B := by
  cases k
  · exact g_Fn (h1 rfl)
  · exact g_Tn (h2 rfl)
/-! loops whose turns don't see what follows -/
theorem for_rangeA {lo : Int} {n : Nat} {g : TG} {tb : TS} (Pv : Nat → L2.St → Hp → Prop) (h0 : Pv 0 σ H)
    (hs : ∀ i σ H (D' : Ends), i < n → Pv i σ H → (∀ σ H, Pv (i + 1) σ H → D'.nx σ H) → (∀ σ H, Pv (i + 1) σ H → D'.ct σ H) → (∀ σ H, D.nx σ H → D'.bk σ H) → D'.rt = D.rt → g (.int (lo + i)) σ H fun σ2 H2 => tb D' σ2 H2) (hd : ∀ σ H, Pv n σ H → D.nx σ H) :
    ∃ W : Nat → Nat → L2.St → Hp → Prop, (∃ m, W 0 m σ H) ∧ ∀ i m σ H, W i m σ H →
      ((Itr lo n).stop i H ∧ D.nx σ H) ∨ ((Itr lo n).go i H ∧ ∃ N : L2.St → Hp → Prop, (∀ σ' H', N σ' H' → ∃ m', m' < m ∧ W (i + 1) m' σ' H') ∧ ∀ x H', (Itr lo n).yld i H x H' → g x σ H' fun σ2 H2 => tb { D with nx := N, ct := N, bk := D.nx } σ2 H2) :=
  for_range Pv h0 (fun i σ H hi p => hs i σ H _ hi p (fun _ _ h => h) (fun _ _ h => h) (fun _ _ h => h) rfl) hd
theorem for_listA {p : Addr} {xs : List V} {g : TG} {tb : TS} (Pv : Nat → L2.St → Hp → Prop) (h0 : Pv 0 σ H) (hl : ∀ i σ H, i ≤ xs.length → Pv i σ H → SqL K H p xs)
    (hs : ∀ i x σ H (D' : Ends), xs[i]? = some x → Pv i σ H → (∀ σ H, Pv (i + 1) σ H → D'.nx σ H) → (∀ σ H, Pv (i + 1) σ H → D'.ct σ H) → (∀ σ H, D.nx σ H → D'.bk σ H) → D'.rt = D.rt → g x σ H fun σ2 H2 => tb D' σ2 H2) (hd : ∀ σ H, Pv xs.length σ H → D.nx σ H) :
    ∃ W : Nat → Nat → L2.St → Hp → Prop, (∃ m, W 0 m σ H) ∧ ∀ i m σ H, W i m σ H →
      ((Itl K p).stop i H ∧ D.nx σ H) ∨ ((Itl K p).go i H ∧ ∃ N : L2.St → Hp → Prop, (∀ σ' H', N σ' H' → ∃ m', m' < m ∧ W (i + 1) m' σ' H') ∧ ∀ x H', (Itl K p).yld i H x H' → g x σ H' fun σ2 H2 => tb { D with nx := N, ct := N, bk := D.nx } σ2 H2) :=
  for_list Pv h0 hl (fun i x σ H hi p => hs i x σ H _ hi p (fun _ _ h => h) (fun _ _ h => h) (fun _ _ h => h) rfl) hd
theorem g_cutA {M : L2.St → Hp → Prop} (h : ∀ D' : Ends, (∀ σ H, M σ H → D'.nx σ H) → D'.rt = D.rt → D'.bk = D.bk → D'.ct = D.ct → ts D' σ H) (k : ∀ σ' H', M σ' H' → tz D σ' H') : Evl.tCut ts tz D σ H :=
  ⟨M, h _ (fun _ _ h => h) rfl rfl rfl, k⟩
/-! stores -/
theorem g_setL {p : Addr} {xs : List V} {n : Nat} {QH : Hp → Prop} (h : H p = some (.lst xs)) (e : ixN xs.length i = some n) (q : QH (upd H p (.lst (xs.set n v)))) : rSetL (.ref p) (.int i) v H QH := ⟨p, xs, i, n, rfl, rfl, h, e, q⟩
theorem g_app {p : Addr} {xs : List V} (h : H p = some (.lst xs)) (hz : xs.length < 10000000) (q : Q .non (upd H p (.lst (xs ++ [v])))) : rAppend (.ref p) [v] H Q := ⟨p, xs, v, rfl, rfl, h, by rw [sizeLine_eq]; omega, q⟩
theorem g_bm {r : V → List V → Hp → VK → Prop} {T : String} (q : ta σ H fun x H1 => tyV K T x H1 ∧ t σ H1 fun xs H2 => r x xs H2 Q) : tBM K T r ta t σ H Q := q
theorem tyL {p : Addr} {xs : List V} (h : H p = some (.lst xs)) : tyV K "list" (.ref p) H := .inl ⟨rfl, xs, SqL.of h⟩
theorem g_tyL {p : Addr} {R : Prop} (q : (∃ xs, H p = some (.lst xs)) ∧ R) : tyV K "list" (.ref p) H ∧ R := ⟨let ⟨_, h⟩ := q.1; tyL h, q.2⟩
end
end Tw

set_option Elab.async false
set_option linter.all false
set_option maxRecDepth 100000
namespace Tw
open PySem L2 PySem.Spec
/-- an iterator that goes through xs -/
structure Fits (J : It) (xs : List V) (H : Hp) : Prop where
  go : ∀ i, i < xs.length → J.go i H
  stop : ∀ i, xs.length ≤ i → J.stop i H
  yld : ∀ i x H', J.yld i H x H' → H' = H ∧ xs[i]? = some x
theorem fits_l {K : PySem.W.Frag} {H : Hp} {a : Addr} {xs : List V} (h : SqL K H a xs) : Fits (Itl K a) xs H :=
  ⟨fun i hi => ⟨xs, xs[i], h, by simp [hi]⟩, fun i hi => ⟨xs, h, hi⟩, fun i x H' y => ⟨y.1, y.2 xs h⟩⟩
theorem fits_t {K : PySem.W.Frag} {H : Hp} {a : Addr} {xs : List V} (h : SqT K H a xs) : Fits (Itt K a) xs H :=
  ⟨fun i hi => ⟨xs, xs[i], h, by simp [hi]⟩, fun i hi => ⟨xs, h, hi⟩, fun i x H' y => ⟨y.1, y.2 xs h⟩⟩
theorem take_flat {F : V → List V} {xs : List V} {i : Nat} {x : V} (h : xs[i]? = some x) : (xs.take (i + 1)).flatMap F = (xs.take i).flatMap F ++ F x := by
  rw [List.take_succ, h, List.flatMap_append]
  simp
theorem flat_le {F : V → List V} {xs : List V} {i : Nat} {x : V} (h : xs[i]? = some x) : ((xs.take i).flatMap F ++ F x).length ≤ (xs.flatMap F).length := by
  rw [← take_flat h]
  conv => rhs; rw [← List.take_append_drop (i + 1) xs]
  rw [List.flatMap_append, List.length_append]
  omega
theorem rng_le {F : Nat → List V} {n : Nat} : ∀ {i : Nat}, i < n → ((List.range i).flatMap F ++ F i).length ≤ ((List.range n).flatMap F).length := by
  intro i h
  have e : (List.range (i + 1)).flatMap F = (List.range i).flatMap F ++ F i := by rw [List.range_succ, List.flatMap_append]; simp
  rw [← e]
  obtain ⟨m, rfl⟩ : ∃ m, n = (i + 1) + m := ⟨n - (i + 1), by omega⟩
  have e2 : List.range (i + 1 + m) = List.range (i + 1) ++ (List.range m).map (i + 1 + ·) := List.range_add
  rw [e2, List.flatMap_append, List.length_append]
  omega
section
variable {J : It} {g g1 : TG} {tt tt1 : TT} {wi1 : TI} {te : TE} {vs vs1 : List Nat} {σ : L2.St} {H1 : Hp} {D : Addr} {Qd : Hp → Prop}
/-- a comprehension with two fors and no ifs: what the inner ones hold, one behind the other -/
theorem lc2_flat (xs : List V) (F : V → List V) (hD : H1 D = none) (hJ : ∀ H, (∀ q o, H1 q = some o → H q = some o) → Fits J xs H) (hlen : (xs.flatMap F).length ≤ 1000000)
    (hs : ∀ x Hh (R : L2.St → It → Hp → Prop) (S : Hp → Prop), x ∈ xs → (∀ q o, H1 q = some o → Hh q = some o) →
      (∀ σ2 J1 H', (∀ q o, Hh q = some o → H' q = some o) → (∀ H'', (∀ q o, q ≠ D → H' q = some o → H'' q = some o) → Fits J1 (F x) H'') →
        (∀ y Hk (R1 : V → Hp → Prop) (S1 : Hp → Prop), y ∈ F x → R1 y Hk → g1 y (wipe σ2 vs1) Hk fun σ3 H5 => wipe σ3 vs1 = wipe σ2 vs1 ∧ tt1 σ3 H5 fun b H6 => if b = true then te σ3 H6 R1 else S1 H6) → R σ2 J1 H') →
      g x (wipe σ vs) Hh fun σ2 H2 => wipe σ2 vs = wipe σ vs ∧ tt σ2 H2 fun b H3 => if b = true then wi1 σ2 H3 (R σ2) else S H3)
    (hd : ∀ H, (∀ q o, H1 q = some o → H q = some o) → H D = some (.lst (xs.flatMap F)) → Qd H) :
    ∃ W : Nat → Nat → Hp → Prop, (∃ m, W 0 m (upd H1 D (.lst []))) ∧ ∀ i m H, W i m H →
      (J.stop i H ∧ Qd H) ∨ (J.go i H ∧ ∃ Nx : Hp → Prop, (∀ H', Nx H' → ∃ m', m' < m ∧ W (i + 1) m' H') ∧ ∀ x H', J.yld i H x H' → g x (wipe σ vs) H' fun σ2 H2 => wipe σ2 vs = wipe σ vs ∧ tt σ2 H2 fun b H3 =>
        if b = true then wi1 σ2 H3 fun J1 H4 => ∃ W1 : Nat → Nat → Hp → Prop, (∃ m, W1 0 m H4) ∧ ∀ j k H, W1 j k H →
          (J1.stop j H ∧ Nx H) ∨ (J1.go j H ∧ ∃ Nx1 : Hp → Prop, (∀ H', Nx1 H' → ∃ k', k' < k ∧ W1 (j + 1) k' H') ∧ ∀ x H', J1.yld j H x H' → g1 x (wipe σ2 vs1) H' fun σ3 H5 => wipe σ3 vs1 = wipe σ2 vs1 ∧ tt1 σ3 H5 fun b H6 =>
            if b = true then te σ3 H6 fun y H7 => ∃ acc, H7 D = some (.lst acc) ∧ acc.length < sizeLine ∧ Nx1 (upd H7 D (.lst (acc ++ [y]))) else Nx1 H6)
        else Nx H3) := by
  refine ⟨fun i m H => m = xs.length - i ∧ i ≤ xs.length ∧ H D = some (.lst ((xs.take i).flatMap F)) ∧ ∀ q o, H1 q = some o → H q = some o, ⟨xs.length, by simp, Nat.zero_le _, upd_same, fun q o h => by rw [upd_ne (ne_of_none h hD)]; exact h⟩, ?_⟩
  rintro i m H ⟨rfl, hi, hDl, hK⟩
  have fi := hJ H hK
  by_cases hlt : i < xs.length
  · refine .inr ⟨fi.go i hlt, fun H' => H' D = some (.lst ((xs.take (i + 1)).flatMap F)) ∧ ∀ q o, H1 q = some o → H' q = some o, fun H' w => ⟨xs.length - (i + 1), by omega, rfl, hlt, w⟩, ?_⟩
    intro x H' hy
    obtain ⟨rfl, hx⟩ := fi.yld i x H' hy
    refine hs x H' (fun σ2 J1 H4 => _) (fun H3 => _) (List.mem_of_getElem? hx) hK fun σ2 J1 H4 ext f1 turn => ?_
    have e1 := take_flat (F := F) hx
    have l1 := flat_le (F := F) hx
    refine ⟨fun j k H => k = (F x).length - j ∧ j ≤ (F x).length ∧ H D = some (.lst ((xs.take i).flatMap F ++ (F x).take j)) ∧ ∀ q o, q ≠ D → H4 q = some o → H q = some o, ⟨(F x).length, by simp, Nat.zero_le _, by rw [ext _ _ hDl, List.take_zero, List.append_nil], fun q o _ h => h⟩, ?_⟩
    rintro j k Hj ⟨rfl, hj, hDj, hKj⟩
    have fj := f1 Hj hKj
    by_cases hjl : j < (F x).length
    · refine .inr ⟨fj.go j hjl, fun H' => H' D = some (.lst ((xs.take i).flatMap F ++ (F x).take (j + 1))) ∧ ∀ q o, q ≠ D → H4 q = some o → H' q = some o, fun H' w => ⟨(F x).length - (j + 1), by omega, rfl, hjl, w⟩, ?_⟩
      intro y Hy hyy
      obtain ⟨rfl, hyx⟩ := fj.yld j y Hy hyy
      refine turn y Hy (fun y H7 => _) (fun H6 => _) (List.mem_of_getElem? hyx) ⟨_, hDj, ?_, ?_, fun q o n h => by rw [upd_ne n]; exact hKj q o n h⟩
      · rw [List.length_append] at l1 ⊢
        have : ((F x).take j).length ≤ (F x).length := by rw [List.length_take]; omega
        rw [sizeLine_eq]
        omega
      · rw [upd_same, List.take_succ, hyx, List.append_assoc]
        rfl
    · have e : j = (F x).length := by omega
      subst e
      refine .inl ⟨fj.stop _ (Nat.le_refl _), ?_, fun q o h => hKj q o (ne_of_none h hD) (ext q o (hK q o h))⟩
      rw [hDj, List.take_length, e1]
  · have e : i = xs.length := by omega
    subst e
    refine .inl ⟨fi.stop _ (Nat.le_refl _), hd H hK ?_⟩
    rw [hDl, List.take_length]
/-- the same, the inner ones told by their places: what the inner ones hold, one behind the other -/
theorem lc2_flatI (xs : List V) (F : Nat → List V) (hD : H1 D = none) (hJ : ∀ H, (∀ q o, H1 q = some o → H q = some o) → Fits J xs H) (hlen : ((List.range xs.length).flatMap F).length ≤ 1000000)
    (hs : ∀ i x Hh (R : L2.St → It → Hp → Prop) (S : Hp → Prop), xs[i]? = some x → Hh D ≠ none → (∀ q o, H1 q = some o → Hh q = some o) →
      (∀ σ2 J1 H', (∀ q o, Hh q = some o → H' q = some o) → (∀ H'', (∀ q o, q ≠ D → H' q = some o → H'' q = some o) → Fits J1 (F i) H'') →
        (∀ y Hk (R1 : V → Hp → Prop) (S1 : Hp → Prop), y ∈ F i → R1 y Hk → g1 y (wipe σ2 vs1) Hk fun σ3 H5 => wipe σ3 vs1 = wipe σ2 vs1 ∧ tt1 σ3 H5 fun b H6 => if b = true then te σ3 H6 R1 else S1 H6) → R σ2 J1 H') →
      g x (wipe σ vs) Hh fun σ2 H2 => wipe σ2 vs = wipe σ vs ∧ tt σ2 H2 fun b H3 => if b = true then wi1 σ2 H3 (R σ2) else S H3)
    (hd : ∀ H, (∀ q o, H1 q = some o → H q = some o) → H D = some (.lst ((List.range xs.length).flatMap F)) → Qd H) :
    ∃ W : Nat → Nat → Hp → Prop, (∃ m, W 0 m (upd H1 D (.lst []))) ∧ ∀ i m H, W i m H →
      (J.stop i H ∧ Qd H) ∨ (J.go i H ∧ ∃ Nx : Hp → Prop, (∀ H', Nx H' → ∃ m', m' < m ∧ W (i + 1) m' H') ∧ ∀ x H', J.yld i H x H' → g x (wipe σ vs) H' fun σ2 H2 => wipe σ2 vs = wipe σ vs ∧ tt σ2 H2 fun b H3 =>
        if b = true then wi1 σ2 H3 fun J1 H4 => ∃ W1 : Nat → Nat → Hp → Prop, (∃ m, W1 0 m H4) ∧ ∀ j k H, W1 j k H →
          (J1.stop j H ∧ Nx H) ∨ (J1.go j H ∧ ∃ Nx1 : Hp → Prop, (∀ H', Nx1 H' → ∃ k', k' < k ∧ W1 (j + 1) k' H') ∧ ∀ x H', J1.yld j H x H' → g1 x (wipe σ2 vs1) H' fun σ3 H5 => wipe σ3 vs1 = wipe σ2 vs1 ∧ tt1 σ3 H5 fun b H6 =>
            if b = true then te σ3 H6 fun y H7 => ∃ acc, H7 D = some (.lst acc) ∧ acc.length < sizeLine ∧ Nx1 (upd H7 D (.lst (acc ++ [y]))) else Nx1 H6)
        else Nx H3) := by
  refine ⟨fun i m H => m = xs.length - i ∧ i ≤ xs.length ∧ H D = some (.lst ((List.range i).flatMap F)) ∧ ∀ q o, H1 q = some o → H q = some o, ⟨xs.length, by simp, Nat.zero_le _, upd_same, fun q o h => by rw [upd_ne (ne_of_none h hD)]; exact h⟩, ?_⟩
  rintro i m H ⟨rfl, hi, hDl, hK⟩
  have fi := hJ H hK
  by_cases hlt : i < xs.length
  · refine .inr ⟨fi.go i hlt, fun H' => H' D = some (.lst ((List.range (i + 1)).flatMap F)) ∧ ∀ q o, H1 q = some o → H' q = some o, fun H' w => ⟨xs.length - (i + 1), by omega, rfl, hlt, w⟩, ?_⟩
    intro x H' hy
    obtain ⟨rfl, hx⟩ := fi.yld i x H' hy
    refine hs i x H' (fun σ2 J1 H4 => _) (fun H3 => _) hx (by rw [hDl]; exact nofun) hK fun σ2 J1 H4 ext f1 turn => ?_
    have e1 : (List.range (i + 1)).flatMap F = (List.range i).flatMap F ++ F i := by rw [List.range_succ, List.flatMap_append]; simp
    have l1 : ((List.range i).flatMap F ++ F i).length ≤ ((List.range xs.length).flatMap F).length := rng_le hlt
    refine ⟨fun j k H => k = (F i).length - j ∧ j ≤ (F i).length ∧ H D = some (.lst ((List.range i).flatMap F ++ (F i).take j)) ∧ ∀ q o, q ≠ D → H4 q = some o → H q = some o, ⟨(F i).length, by simp, Nat.zero_le _, by rw [ext _ _ hDl, List.take_zero, List.append_nil], fun q o _ h => h⟩, ?_⟩
    rintro j k Hj ⟨rfl, hj, hDj, hKj⟩
    have fj := f1 Hj hKj
    by_cases hjl : j < (F i).length
    · refine .inr ⟨fj.go j hjl, fun H' => H' D = some (.lst ((List.range i).flatMap F ++ (F i).take (j + 1))) ∧ ∀ q o, q ≠ D → H4 q = some o → H' q = some o, fun H' w => ⟨(F i).length - (j + 1), by omega, rfl, hjl, w⟩, ?_⟩
      intro y Hy hyy
      obtain ⟨rfl, hyx⟩ := fj.yld j y Hy hyy
      refine turn y Hy (fun y H7 => _) (fun H6 => _) (List.mem_of_getElem? hyx) ⟨_, hDj, ?_, ?_, fun q o n h => by rw [upd_ne n]; exact hKj q o n h⟩
      · rw [List.length_append] at l1 ⊢
        have : ((F i).take j).length ≤ (F i).length := by rw [List.length_take]; omega
        rw [sizeLine_eq]
        omega
      · rw [upd_same, List.take_succ, hyx, List.append_assoc]
        rfl
    · have e : j = (F i).length := by omega
      subst e
      refine .inl ⟨fj.stop _ (Nat.le_refl _), ?_, fun q o h => hKj q o (ne_of_none h hD) (ext q o (hK q o h))⟩
      rw [hDj, List.take_length, e1]
  · have e : i = xs.length := by omega
    subst e
    refine .inl ⟨fi.stop _ (Nat.le_refl _), hd H hK ?_⟩
    exact hDl
/-- a comprehension whose turns leave the heap -/
theorem lc_map (xs : List V) (v : V → V) (hD : H1 D = none) (hJ : ∀ H, (∀ q o, H1 q = some o → H q = some o) → Fits J xs H) (hlen : xs.length ≤ 1000000)
    (hs : ∀ x Hh (R : V → Hp → Prop) (S : Hp → Prop), x ∈ xs → (∀ q o, H1 q = some o → Hh q = some o) → R (v x) Hh →
      g x (wipe σ vs) Hh fun σ2 H2 => wipe σ2 vs = wipe σ vs ∧ tt σ2 H2 fun b H3 => if b = true then te σ2 H3 R else S H3)
    (hd : ∀ H, (∀ q o, H1 q = some o → H q = some o) → H D = some (.lst (xs.map v)) → Qd H) :
    ∃ W : Nat → Nat → Hp → Prop, (∃ m, W 0 m (upd H1 D (.lst []))) ∧ ∀ i m H, W i m H →
      (J.stop i H ∧ Qd H) ∨ (J.go i H ∧ ∃ Nx : Hp → Prop, (∀ H', Nx H' → ∃ m', m' < m ∧ W (i + 1) m' H') ∧ ∀ x H', J.yld i H x H' → g x (wipe σ vs) H' fun σ2 H2 => wipe σ2 vs = wipe σ vs ∧ tt σ2 H2 fun b H3 =>
        if b = true then te σ2 H3 fun y H4 => ∃ acc, H4 D = some (.lst acc) ∧ acc.length < sizeLine ∧ Nx (upd H4 D (.lst (acc ++ [y]))) else Nx H3) := by
  refine ⟨fun i m H => m = xs.length - i ∧ i ≤ xs.length ∧ H D = some (.lst ((xs.take i).map v)) ∧ ∀ q o, H1 q = some o → H q = some o, ⟨xs.length, by simp, Nat.zero_le _, upd_same, fun q o h => by rw [upd_ne (ne_of_none h hD)]; exact h⟩, ?_⟩
  rintro i m H ⟨rfl, hi, hDl, hK⟩
  have fi := hJ H hK
  by_cases hlt : i < xs.length
  · refine .inr ⟨fi.go i hlt, fun H' => H' D = some (.lst ((xs.take (i + 1)).map v)) ∧ ∀ q o, H1 q = some o → H' q = some o, fun H' w => ⟨xs.length - (i + 1), by omega, rfl, hlt, w⟩, ?_⟩
    intro x H' hy
    obtain ⟨rfl, hx⟩ := fi.yld i x H' hy
    refine hs x H' (fun y H4 => _) (fun H3 => _) (List.mem_of_getElem? hx) hK ⟨_, hDl, ?_, ?_, fun q o h => by rw [upd_ne (ne_of_none h hD)]; exact hK q o h⟩
    · rw [List.length_map, List.length_take, sizeLine_eq]
      omega
    · rw [upd_same, List.take_succ, hx, List.map_append]
      rfl
  · have e : i = xs.length := by omega
    subst e
    refine .inl ⟨fi.stop _ (Nat.le_refl _), hd H hK ?_⟩
    rw [hDl, List.take_length]
variable {K : PySem.W.Frag} {Q : VK}
theorem g_lc2 {wi : TI} (q : wi σ H1 fun J H1 => ∀ D, H1 D = none → ∃ W : Nat → Nat → Hp → Prop, (∃ m, W 0 m (upd H1 D (.lst []))) ∧ ∀ i m H, W i m H →
      (J.stop i H ∧ Q (.ref D) H) ∨ (J.go i H ∧ ∃ Nx : Hp → Prop, (∀ H', Nx H' → ∃ m', m' < m ∧ W (i + 1) m' H') ∧ ∀ x H', J.yld i H x H' → g x (wipe σ vs) H' fun σ2 H2 => wipe σ2 vs = wipe σ vs ∧ tt σ2 H2 fun b H3 =>
        if b = true then wi1 σ2 H3 fun J1 H4 => ∃ W1 : Nat → Nat → Hp → Prop, (∃ m, W1 0 m H4) ∧ ∀ j k H, W1 j k H →
          (J1.stop j H ∧ Nx H) ∨ (J1.go j H ∧ ∃ Nx1 : Hp → Prop, (∀ H', Nx1 H' → ∃ k', k' < k ∧ W1 (j + 1) k' H') ∧ ∀ x H', J1.yld j H x H' → g1 x (wipe σ2 vs1) H' fun σ3 H5 => wipe σ3 vs1 = wipe σ2 vs1 ∧ tt1 σ3 H5 fun b H6 =>
            if b = true then te σ3 H6 fun y H7 => ∃ acc, H7 D = some (.lst acc) ∧ acc.length < sizeLine ∧ Nx1 (upd H7 D (.lst (acc ++ [y]))) else Nx1 H6)
        else Nx H3)) : tLc2 wi g tt wi1 g1 tt1 te vs vs1 σ H1 Q := q
end
end Tw

set_option Elab.async false
set_option linter.all false
set_option maxRecDepth 100000
set_option maxHeartbeats 4000000
/-! sets of values of one kind, by the list of their members: made of a list, sorted -/
namespace Tw
open PySem L2 PySem.Spec PyProof.Rows
/-- a list that is an arrangement of mapped things is mapped of an arrangement -/
theorem perm_unmap {α β : Type} {f : α → β} {l : List β} {xs : List α} (p : l.Perm (xs.map f)) : ∃ ys : List α, l = ys.map f ∧ ys.Perm xs := by
  generalize hm : xs.map f = m at p
  induction p generalizing xs with
  | nil =>
    have : xs = [] := List.map_eq_nil_iff.mp hm
    exact ⟨[], rfl, by rw [this]⟩
  | cons b _ ih =>
    cases xs with
    | nil => cases hm
    | cons x xs =>
      injection hm with h1 h2
      obtain ⟨ys, e, p⟩ := ih h2
      exact ⟨x :: ys, by rw [List.map_cons, ← e, h1], p.cons x⟩
  | swap b c l =>
    match xs, hm with
    | x :: y :: r, hm =>
      injection hm with h1 h2
      injection h2 with h2 h3
      exact ⟨y :: x :: r, by rw [List.map_cons, List.map_cons, h1, h2, h3], List.Perm.swap x y r⟩
  | trans _ _ ih1 ih2 =>
    obtain ⟨ys, e, p⟩ := ih2 hm
    obtain ⟨zs, e2, p2⟩ := ih1 e.symm
    exact ⟨zs, e2, p2.trans p⟩
section
variable {P : Program} {w : World} {κ : Type} [DecidableEq κ] {knd : PySem.KeyKind P w κ}
/-- the set at a: its members by key and value, in the order in which its table keeps them -/
def SetL (knd : PySem.KeyKind P w κ) (h : Heap) (a : Addr) (L : List (κ × Value)) : Prop :=
  ∃ o es ep t, h.get? a = some o ∧ o.ExactSet ∧ o.data = .set es ep t ∧ es.toList = L.map (fun p => (knd.hash p.1, p.2)) ∧ (∀ p ∈ L, knd.is p.1 p.2 = true ∧ p.2.scannable = true) ∧ (L.map (·.1)).Nodup ∧
    es.size < scanBound ∧ t.fits es.size = true ∧ Ris t.place.toList ∧ (w.params.followText "set-order" = true ∨ t.led = true)
theorem SetL.at {h h' : Heap} {a : Addr} {L : List (κ × Value)} (S : SetL knd h a L) (k : ∀ o, h.get? a = some o → h'.get? a = some o) : SetL knd h' a L := by
  obtain ⟨o, es, ep, t, g, r⟩ := S
  exact ⟨o, es, ep, t, k o g, r⟩
theorem SetL.len {h : Heap} {a : Addr} {L : List (κ × Value)} (S : SetL knd h a L) : L.length < scanBound := by
  obtain ⟨o, es, ep, t, g, gx, gd, ge, gi, gn, gb, _⟩ := S
  have : es.toList.length = L.length := by rw [ge, List.length_map]
  rw [Array.length_toList] at this
  omega
theorem elems_of {L : List (κ × Value)} (gi : ∀ p ∈ L, knd.is p.1 p.2 = true ∧ p.2.scannable = true) : ElemsOf knd (L.map fun p => (knd.hash p.1, p.2)) := fun e he => by
  obtain ⟨p, hp, rfl⟩ := List.mem_map.mp he
  exact ⟨⟨p.1, (gi p hp).1, rfl⟩, (gi p hp).2⟩
variable {A : Around} {E : Value → Shared → Prop} {s : Shared} {a : Addr}
/-- the table laid anew and kept -/
theorem keep_laid {o : Obj} {es : Array (Int × Value)} {ep : Nat} {t : SetTable} (g : s.heap.get? a = some o) (gx : o.ExactSet) (gd : o.data = .set es ep t) {es2 : Array (Int × Value)} {t2 : SetTable} {L2' : List (κ × Value)}
    (ge : es2.toList = L2'.map (fun p => (knd.hash p.1, p.2))) (gi : ∀ p ∈ L2', knd.is p.1 p.2 = true ∧ p.2.scannable = true) (gn : (L2'.map (·.1)).Nodup) (gb : es2.size < scanBound) (gf : t2.fits es2.size = true) (gr : Ris t2.place.toList)
    (gl : w.params.followText "set-order" = true ∨ t2.led = true) {Q : Unit → Shared → Prop} (hQ : ∀ h', Heap.SameBut a s.heap h' → (∃ o', h'.get? a = some o' ∧ o'.ExactSet ∧ o'.data = .set es2 (ep + 1) t2) → SetL knd h' a L2' → Q () { s with heap := h' }) :
    wpAny (model P w) A (storeSet a es2 t2) Q E s := by
  refine wpAny_storeSet_of g gd ?_ (fits_of_scanBound gb)
  have g2 := store_at (es' := es2) (t' := t2) g gd
  exact hQ _ (Heap.SameBut.update s.heap a (Obj.putSet es2 t2)) ⟨_, g2, gx, rfl⟩ ⟨_, es2, _, t2, g2, gx, rfl, ge, gi, gn, gb, gf, gr, gl⟩
/-- a table that has been laid is kept, and laid out wider where it is too full -/
theorem keep_wide {o : Obj} {es : Array (Int × Value)} {ep : Nat} {t : SetTable} (g : s.heap.get? a = some o) (gx : o.ExactSet) (gd : o.data = .set es ep t) {es2 : Array (Int × Value)} {t2 : SetTable} {M : List (κ × Value)}
    (ge : es2.toList = M.map (fun p => (knd.hash p.1, p.2))) (gi : ∀ p ∈ M, knd.is p.1 p.2 = true ∧ p.2.scannable = true) (gn : (M.map (·.1)).Nodup) (gb : es2.size < scanBound) (gf : t2.fits es2.size = true) (gr : Ris t2.place.toList)
    (gl : w.params.followText "set-order" = true ∨ t2.led = true) {was : Bool} {told : Bool → Sem Unit} (ht : ∀ (b : Bool) (s1 : Shared) (Q1 : Unit → Shared → Prop), Q1 () s1 → wpAny (model P w) A (told b) Q1 E s1) {Q : Option Bool → Shared → Prop}
    (hQ : ∀ h' M', Heap.SameBut a s.heap h' → SetL knd h' a M' → M'.Perm M → Q (some true) { s with heap := h' }) :
    wpAny (model P w) A (storeSet a es2 t2 >>= fun _ => if (!was && t2.tooFull) = true then told (relayAll t2 es2 (SetTable.grown es2.size)).2.2 >>= fun _ => storeSet a (relayAll t2 es2 (SetTable.grown es2.size)).1 (relayAll t2 es2 (SetTable.grown es2.size)).2.1 >>= fun _ => pure (some true) else pure (some true)) Q E s := by
  refine wpAny_bind (keep_laid g gx gd ge gi gn gb gf gr gl fun h1 sb1 ⟨o1, g1, gx1, gd1⟩ S1 => ?_)
  by_cases full : (!was && t2.tooFull) = true
  · rw [if_pos full]
    have p1 := relayAll_perm t2 es2 (SetTable.grown es2.size)
    have p2 := relayAll_fits t2 es2 (SetTable.grown es2.size)
    have p3 := relayAll_ris t2 es2 (SetTable.grown es2.size)
    have p4 := relayAll_led t2 es2 (SetTable.grown es2.size)
    rw [ge] at p1
    obtain ⟨M', e', pm⟩ := perm_unmap p1
    have sz : (relayAll t2 es2 (SetTable.grown es2.size)).1.size < scanBound := by
      have q := congrArg List.length e'
      rw [Array.length_toList, List.length_map, pm.length_eq] at q
      have q2 := congrArg List.length ge
      rw [Array.length_toList, List.length_map] at q2
      omega
    refine wpAny_bind (ht _ _ _ ?_)
    refine wpAny_bind (keep_laid (s := { s with heap := h1 }) g1 gx1 gd1 e' (fun p hp => gi p (pm.mem_iff.mp hp)) ((pm.map _).nodup_iff.mpr gn) sz p2 p3 (gl.imp id fun z => by rw [p4]; exact z) fun h2 sb2 _ S2 => ?_)
    exact wpAny_pure (hQ h2 M' (sb1.trans sb2) S2 pm)
  · rw [if_neg full]
    exact wpAny_pure (hQ h1 M sb1 S1 (List.Perm.refl M))
/-- one more member -/
theorem set_one_more {L : List (κ × Value)} (S : SetL knd s.heap a L) {k : κ} {v : Value} (hk : knd.is k v = true) (hv : v.scannable = true) (room : L.length + 1 < scanBound) {Q : Bool → Shared → Prop}
    (hQ : ∀ h' L' b, Heap.SameBut a s.heap h' → SetL knd h' a L' → (∀ j, j ∈ L'.map (·.1) ↔ j ∈ L.map (·.1) ∨ j = k) → L'.length ≤ L.length + 1 → Q b { s with heap := h' }) :
    wpAny (model P w) A (setAddHashed a v (knd.hash k)) Q E s := by
  obtain ⟨o, es, ep, t, g, gx, gd, ge, gi, gn, gb, gf, gr, gl⟩ := id S
  have el : ElemsOf knd es.toList := by rw [ge]; exact elems_of gi
  unfold setAddHashed setAddHashedIn
  refine wpAny_holding ?_
  refine wpAny_bind (wpAny_setState_of g gd gf ?_)
  dsimp only
  rw [byScan_of hv gb el, if_pos rfl]
  refine wpAny_bind ?_
  unfold setAddByScan
  refine wpAny_bind (wpAny_rule ?_)
  refine wpAny_bind (wpAny_setScan_of hk g gd gf el ?_)
  cases hf : es.toList.findIdx? (fun e => knd.is k e.2) with
  | some j =>
    dsimp only
    have hin : k ∈ L.map (·.1) := by
      obtain ⟨hj, pj, _⟩ := List.findIdx?_eq_some_iff_getElem.mp hf
      have hm : es.toList[j] ∈ L.map (fun p => (knd.hash p.1, p.2)) := by rw [← ge]; exact List.getElem_mem hj
      obtain ⟨p, hp, e⟩ := List.mem_map.mp hm
      have pj' : knd.is k p.2 = true := by rw [← e] at pj; exact pj
      exact List.mem_map.mpr ⟨p, hp, knd.inj p.2 _ _ (gi p hp).1 pj'⟩
    exact wpAny_pure (wpAny_pure (hQ s.heap L false (Heap.SameBut.refl a s.heap) S (fun i => ⟨.inl, fun z => z.elim id fun e => by rw [e]; exact hin⟩) (Nat.le_succ _)))
  | none =>
    dsimp only
    have out : k ∉ L.map (·.1) := fun z => by
      obtain ⟨p, hp, e⟩ := List.mem_map.mp z
      have c := List.findIdx?_eq_none_iff.mp hf (knd.hash p.1, p.2) (by rw [ge]; exact List.mem_map.mpr ⟨p, hp, rfl⟩)
      have c' : knd.is k p.2 = false := c
      rw [← e, (gi p hp).1] at c'
      cases c'
    have gave : ∀ (b : Bool) (s1 : Shared) (Q1 : Unit → Shared → Prop), Q1 () s1 → wpAny (model P w) A (match b with | true => rule "set.scan.the-table-gave-way" | false => pure ()) Q1 E s1 := by
      intro b s1 Q1 q
      cases b
      · exact wpAny_pure q
      · exact wpAny_rule q
    have l1 := layNew_perm t es (knd.hash k) v
    have l2 := layNew_fits t es (knd.hash k) v
    have l3 := layNew_ris t es (knd.hash k) v gr
    have l4 := layNew_led t es (knd.hash k) v
    generalize layNew t es (knd.hash k) v = Z at l1 l2 l3 l4 ⊢
    obtain ⟨es1, t1, was, gv⟩ := Z
    dsimp only at l1 l2 l3 l4 ⊢
    have l1' : es1.toList.Perm (((k, v) :: L).map fun p => (knd.hash p.1, p.2)) := by
      rw [Array.toList_push, ge] at l1
      exact l1.trans (List.perm_append_singleton _ _)
    obtain ⟨M, em, pm⟩ := perm_unmap l1'
    have gi1 : ∀ p ∈ M, knd.is p.1 p.2 = true ∧ p.2.scannable = true := fun p hp => by
      rcases List.mem_cons.mp (pm.mem_iff.mp hp) with z | z
      · rw [z]; exact ⟨hk, hv⟩
      · exact gi p z
    have gn1 : (M.map (·.1)).Nodup := (pm.map _).nodup_iff.mpr (List.nodup_cons.mpr ⟨out, gn⟩)
    have sz : es1.size = L.length + 1 := by
      have q := congrArg List.length em
      rw [Array.length_toList, List.length_map, pm.length_eq] at q
      exact q
    have ld : w.params.followText "set-order" = true ∨ t1.led = true := gl.imp id fun z => by rw [l4]; exact z
    have fin : ∀ h' M', Heap.SameBut a s.heap h' → SetL knd h' a M' → M'.Perm M → Q true { s with heap := h' } := fun h' M' sb S' pm' => by
      refine hQ h' M' true sb S' (fun j => ?_) ?_
      · rw [((pm'.trans pm).map (·.1)).mem_iff, List.map_cons, List.mem_cons]
        exact Or.comm
      · rw [(pm'.trans pm).length_eq]; exact Nat.le_refl _
    refine wpAny_bind (gave _ _ _ ?_)
    have told : ∀ (b : Bool) (s1 : Shared) (Q1 : Unit → Shared → Prop), Q1 () s1 → wpAny (model P w) A (match b with | true => rule "set.scan.the-table-gave-way" | false => pure ()) Q1 E s1 := gave
    by_cases pl : t1.plain = true
    · rw [if_pos pl]
      refine wpAny_bind ?_
      rw [hashByValue_scannable 8 hv]
      refine wpAny_pure ?_
      cases plainKind v with
      | true => exact keep_wide g gx gd em gi1 gn1 (by rw [sz]; exact room) l2 l3 ld told fun h' M' sb S' pm' => wpAny_pure (fin h' M' sb S' pm')
      | false => exact keep_wide g gx gd em gi1 gn1 (by rw [sz]; exact room) (SetTable.fits_plain_off l2) l3 ld told fun h' M' sb S' pm' => wpAny_pure (fin h' M' sb S' pm')
    · rw [if_neg pl]
      refine wpAny_bind (wpAny_pure ?_)
      exact keep_wide g gx gd em gi1 gn1 (by rw [sz]; exact room) l2 l3 ld told fun h' M' sb S' pm' => wpAny_pure (fin h' M' sb S' pm')
end
end Tw

set_option Elab.async false
set_option linter.all false
set_option maxRecDepth 100000
set_option maxHeartbeats 4000000
namespace Tw
open PySem L2 PySem.Spec PyProof.Rows
section
variable {prog : Program} {w : World} {A : Around} {R : Result → Shared → Prop} {I : Addr} {fp wr : List Addr} {G : Array GenState → Array GenState → Prop} {n : Nat} {Pw : Nat → Value → Prop} {St : Nat → Shared → Prop}
/-- the set at a holds just these texts -/
def Holds (prog : Program) (w : World) (h : Heap) (a : Addr) (xs : List Str) : Prop := ∃ L, SetL (PySem.strKind prog w) h a L ∧ (∀ j, j ∈ L.map (·.1) ↔ j ∈ xs) ∧ L.length ≤ xs.length
/-- the texts that are walked all come in -/
theorem all_come_in (W : WalksS prog w A.in1 I fp wr G n Pw St) (S : Addr) (off : S ∉ fp) (xs : List Str) (hn : xs.length = n) (few : n + 1 < scanBound) (gives : ∀ i v, Pw i v → ∃ t, v = .str (xs.getD i Str.empty) t) :
    ∀ (m i : Nat) (s : Shared), i + m = n → St i s → Holds prog w s.heap S (xs.take i) → (∀ s', Moved (S :: wr) G s s' → Holds prog w s'.heap S xs → R (.ok (.ret .none)) s') →
      codeAny (model prog w) A (.builtin "set.update.loop" ⟨[.ref S, .ref I], []⟩) R s := by
  have offw : S ∉ wr := fun z => off (W.sub _ z)
  have more : ∀ b ∈ wr, b ∈ S :: wr := fun b z => List.mem_cons_of_mem _ z
  intro m
  induction m with
  | zero =>
    intro i s him st hS fin
    have e : i = n := by omega
    subst e
    refine codeAny_builtin PyProof.Rows.F.entry_set_update_loop ?_
    rw [Around.under_plainId PyProof.Rows.F.plain_set_update_loop _]
    show wpAny _ A.in1 (pyNext (.ref I) >>= _) _ _ s
    refine wpAny_bind (W.done s _ _ st fun s1 mv => ?_)
    show wpAny _ A.in1 (ret Value.none) _ _ s1
    obtain ⟨L, hL, mem, len⟩ := hS
    rw [← hn, List.take_length] at mem len
    exact wpAny_pure (fin s1 (mv.mono more) ⟨L, hL.at fun o g => mv.heap S o offw g, mem, len⟩)
  | succ m ih =>
    intro i s him st hS fin
    refine codeAny_builtin PyProof.Rows.F.entry_set_update_loop ?_
    rw [Around.under_plainId PyProof.Rows.F.plain_set_update_loop _]
    show wpAny _ A.in1 (pyNext (.ref I) >>= _) _ _ s
    refine wpAny_bind (W.item i s _ _ (by omega) st fun v s1 hv st1 mv => ?_)
    obtain ⟨t, rfl⟩ := gives i v hv
    obtain ⟨L, hL, mem, len⟩ := hS
    have hL1 : SetL (PySem.strKind prog w) s1.heap S L := hL.at fun o g => mv.heap S o offw g
    have hx : xs[i]? = some (xs.getD i Str.empty) := by rw [List.getD_eq_getElem?_getD, List.getElem?_eq_getElem (show i < xs.length by omega)]; rfl
    generalize hz : xs.getD i Str.empty = z at hx ⊢
    have tk : xs.take (i + 1) = xs.take i ++ [z] := by rw [List.take_succ, hx]; rfl
    have lt : (xs.take i).length = i := by rw [List.length_take]; omega
    show wpAny _ A.in1 (holding [Value.str z t] (setAdd S (.str z t)) >>= _) _ _ s1
    refine wpAny_bind (wpAny_holding ?_)
    unfold setAdd
    refine wpAny_holding (wpAny_bind ((PySem.strKind prog w).pyHash (k := z) (strKind_is _ _ _ _) ?_))
    refine set_one_more (s := { s1 with toks := s1.toks + 1 }) hL1 (k := z) (strKind_is _ _ _ _) rfl (by omega) fun h2 L2' b sb hL2 mem2 len2 => ?_
    have go : ∀ s2 : Shared, s2 = { s1 with toks := s1.toks + 1, heap := h2 } → codeAny (model prog w) A (.builtin "set.update.loop" ⟨[.ref S, .ref I], []⟩) R s2 := fun s2 e => by
      subst e
      refine ih (i + 1) _ (by omega) (W.frame _ s1 _ _ st1 (Nat.le_succ _) fun b hb o g => ?_) ⟨L2', hL2, fun j => ?_, ?_⟩ fun s3 mv3 hS3 => ?_
      · exact (sb.2 b (fun z => off (by rw [← z]; exact hb))).trans g
      · rw [mem2, mem, tk, List.mem_append, List.mem_singleton]
      · rw [tk, List.length_append, List.length_singleton, lt]; rw [lt] at len; omega
      · refine fin s3 (Moved.trans W.gtrans ((mv.mono more).then_heap (Nat.le_succ _) fun b o hb g => ?_) mv3) hS3
        exact (sb.2 b (fun z => hb (by rw [z]; exact List.mem_cons_self))).trans g
    exact wpAny_pure ⟨plainId_quiet PyProof.Rows.F.plain_set_update_loop _, go _ rfl⟩
end
section
variable {prog : Program} {w : World} {A : Around} {E : Value → Shared → Prop} {s : Shared}
/-- an empty set just laid -/
abbrev bareSet (w : World) : Obj := { cls := .type "set", dict := none, data := .set #[] 0 (.fresh 0 0 (!w.params.followText "set-order")) }
theorem bare_holds {h : Heap} {a : Addr} (g : h.get? a = some (bareSet w)) : Holds prog w h a [] := by
  refine ⟨[], ⟨_, #[], 0, _, g, ⟨rfl, rfl, rfl⟩, rfl, rfl, (fun p hp => nomatch hp), List.nodup_nil, by decide, by rfl, List.Pairwise.nil, ?_⟩, fun j => Iff.rfl, Nat.le_refl _⟩
  show _ ∨ (!w.params.followText "set-order") = true
  cases w.params.followText "set-order"
  · exact .inr rfl
  · exact .inl rfl
/-- set.__init__(S, xs) on a bare set -/
theorem init_from_list {S l : Addr} {items : Array Value} {xs : List Str} (hh : A.handled = none) (hS : s.heap.get? S = some (bareSet w)) (hl : s.heap.IsList l items) (ne : S ≠ l) (hi : PyProof.Rows.StrsAre items.toList xs) (few : xs.length + 1 < scanBound) {Q : Value → Shared → Prop}
    (h : ∀ (h' : Heap) (tk : Nat), Holds prog w h' S xs → (∀ b o, b ≠ S → s.heap.get? b = some o → h'.get? b = some o) → Q .none { s with heap := h', toks := tk }) :
    codeAny (model prog w) A (.call (.builtin "set.__init__") ⟨[.ref S, .ref l], []⟩) (wants Q E) s := by
  have tS : s.TypeIs (.ref S) "set" := ⟨_, hS, rfl⟩
  refine codeAny_call_builtin PySem.F.called_set.init.plain PySem.F.entry_set_init (check_set_init_1 tS ?_)
  obtain ⟨ol, hol, hcl, nl, hdl⟩ := id hl
  obtain ⟨ocls, odict, odata, oslots⟩ := ol
  simp only at hcl hdl
  subst hcl; subst hdl
  have f1 := PySem.F.sub_list_set
  have f2 := PySem.F.sub_list_frozenset
  have f3 : (Value.type "list" == Value.type "dict") = false := by decide
  unfold Builtin.«set.__init__» noKeywords Builtin.Frozenset.updateFrom
  generalize hPI : pyIter = PI
  wp_walk
  subst hPI
  refine wpAny_pyIter_list hl ?_
  refine wpAny_bind (wpAny_runValue ?_)
  have lS : l < s.heap.objs.size := Heap.lt_size hol
  have sS : S < s.heap.objs.size := Heap.lt_size hS
  have quiet : A.in1.in1.handled = none := by simp [hh]
  have sz : xs.length = items.size := by rw [← StrsAre.len_eq hi, Array.length_toList]
  have gv : ∀ (i : Nat) (v : Value), items[i]? = some v → ∃ t, v = .str (xs.getD i Str.empty) t := fun i v hv => SS.strs_at hi i v (by rw [Array.getElem?_toList]; exact hv)
  refine all_come_in ((Walks.list quiet s.heap.objs.size l (Nat.ne_of_lt lS) items).toS) S ?_ xs sz (by omega) gv items.size 0 _ (by omega) ?_ ?_ fun s1 mv hH => ?_
  · intro z
    rcases List.mem_cons.mp z with z | z
    · exact absurd z (Nat.ne_of_lt sS)
    · exact ne (List.mem_singleton.mp z)
  · exact ⟨⟨_, Heap.get?_push_size _ rfl, rfl, rfl⟩, hl.push _⟩
  · exact bare_holds (Heap.get?_push_of_some _ hS)
  · obtain ⟨h1, g1, d1, k1, o1⟩ := s1
    have e1 : g1 = s.gens := mv.gens
    have e2 : d1 = s.drawn := mv.drawn
    have e3 : o1 = s.os := mv.os
    subst e1; subst e2; subst e3
    refine wpAny_pure ?_
    show wpAny _ _ (ret Value.none) _ _ _
    refine wpAny_pure (h h1 k1 hH fun b o nb g => mv.heap b o ?_ (Heap.get?_push_of_some _ g))
    intro z
    rcases List.mem_cons.mp z with z | z
    · exact nb z
    · exact absurd (List.mem_singleton.mp z) (Nat.ne_of_lt (Heap.lt_size g))
/-- set(xs), xs a list of texts -/
theorem set_of_texts {l : Addr} {items : Array Value} {xs : List Str} {Q : Value → Shared → Prop} (hh : A.handled = none) (hl : s.heap.IsList l items) (hi : PyProof.Rows.StrsAre items.toList xs) (few : xs.length + 1 < scanBound)
    (h : ∀ (h' : Heap) (tk : Nat), Holds prog w h' s.heap.objs.size xs → (∀ b o, s.heap.get? b = some o → h'.get? b = some o) → Q (.ref s.heap.objs.size) { s with heap := h', toks := tk }) :
    wpAny (model prog w) A (call (.type "set") [.ref l]) Q E s := by
  obtain ⟨c, tl, hmro⟩ := PySem.F.called_set.mro
  have made := PySem.F.called_set.made
  have subs := PySem.F.called_set.sub
  have noTy := PySem.F.called_set.notType
  have canC := PySem.F.called_set.canCreate
  have tcal := PySem.F.typeCall_set_1 (.ref l)
  refine wpAny_call (codeAny_of_tree ?_)
  show wpAny _ _ (callAny (.type "set") _) _ _ _
  refine wpAny_pure ⟨Code.quiet_builtin _ (by decide +kernel), codeAny_builtin PySem.F.entry_type_call ?_⟩
  rw [Around.under_plain (weight_type_call_type "set" [.ref l] []) rfl]
  repeat (any_goals (first | assumption | wp_step))
  refine codeAny_mono (code_set_led1 (.ref l) (E := E) (Q₁ := fun ob s1 => ob = .ref s.heap.objs.size ∧ s1 = { s with heap := s.heap.push (bareSet w) }) ⟨rfl, rfl⟩) fun r s1 hr => ?_
  cases r with
  | error e => exact hr
  | ok fl =>
    cases fl with
    | ret ob =>
      obtain ⟨rfl, rfl⟩ := hr
      have gS : (s.heap.push (bareSet w)).get? s.heap.objs.size = some (bareSet w) := Heap.get?_push_size _ rfl
      have tS : Shared.TypeIs { s with heap := s.heap.push (bareSet w) } (.ref s.heap.objs.size) "set" := ⟨_, gS, rfl⟩
      have il := PySem.F.called_set.init.lookup
      have ib := PySem.F.called_set.init.bind (.ref s.heap.objs.size)
      repeat (any_goals (first | assumption | wp_step))
      obtain ⟨ol, hol, _⟩ := id hl
      have lS : l < s.heap.objs.size := Heap.lt_size hol
      refine codeAny_mono (init_from_list (prog := prog) (w := w) (E := E) (s := { s with heap := s.heap.push (bareSet w) }) (xs := xs) (Q := fun r s2 => r = .none ∧ ∃ h' tk, s2 = { s with heap := h', toks := tk } ∧ Holds prog w h' s.heap.objs.size xs ∧ ∀ b o, s.heap.get? b = some o → h'.get? b = some o) ?_ gS (hl.push _) (Nat.ne_of_gt lS) hi few fun h' tk hH k => ⟨rfl, h', tk, rfl, hH, fun b o g => k b o (Nat.ne_of_lt (Heap.lt_size g)) (Heap.get?_push_of_some _ g)⟩) fun r2 s2 hr2 => ?_
      · simp [hh]
      · cases r2 with
        | error e => exact hr2
        | ok fl2 =>
          cases fl2 with
          | ret r =>
            obtain ⟨rfl, h', tk, rfl, hH, k⟩ := hr2
            repeat (any_goals (first | assumption | wp_step))
            exact h _ _ hH k
          | _ => exact hr2.elim
    | _ => exact hr.elim
end
end Tw

set_option Elab.async false
set_option linter.all false
set_option maxRecDepth 100000
set_option maxHeartbeats 4000000
namespace Tw
open PySem L2 PySem.Spec PyProof.Rows
section
variable {prog : Program} {w : World} {A : Around} {E : Value → Shared → Prop} {s : Shared}
theorem list_sort_texts {a : Addr} {vs : List Value} {ss : List Str} {n : Nat} {P : Fin → Shared → Prop} (ho : s.heap.get? a = some (seqObj "list" vs.toArray n)) (hS : StrsAre vs ss) (hL : vs.length ≤ sizeLine)
    (h : ∀ (out : Array Value) (ss' : List Str), StrsAre out.toList ss' → ss'.Perm ss → sortedS ss' = true → P (.done (.ret .none)) { s with heap := sortedHeap s.heap a vs out }) :
    wpAny (model prog w) A (Builtin.«list.sort» ⟨[.ref a], []⟩) P E s := by
  refine list_sort_treeKAny strKind_oneLt ho hS.keysOf (fun v₁ v₂ rest e => keyKind_strs (by rw [← e]; exact hS)) hL fun st' hp hs => ?_
  obtain ⟨ss', h1, h2, h3⟩ := sorted_out_str hS hp hs
  exact h _ ss' h1 h2 h3
theorem strs_of_keys : ∀ {M : List (Str × Value)}, (∀ p ∈ M, (PySem.strKind prog w).is p.1 p.2 = true) → StrsAre (M.map (·.2)) (M.map (·.1))
  | [], _ => .nil
  | p :: M, h => by
    have hp := h p List.mem_cons_self
    obtain ⟨x, v⟩ := p
    have : ∃ t, v = .str x t := Value.isStrOf_shape hp
    obtain ⟨t, rfl⟩ := this
    exact .cons x t (strs_of_keys fun q hq => h q (List.mem_cons_of_mem _ hq))
/-- sorted(a), a a set of texts -/
theorem sorted_of_texts {a : Addr} {xs : List Str} {Q : Value → Shared → Prop} (hH : Holds prog w s.heap a xs) (hh : A.handled = none)
    (hQ : ∀ s' p (out : Array Value) (c : Nat) (zs : List Str), (∀ b o, s.heap.get? b = some o → s'.heap.get? b = some o) → s'.gens = s.gens → s'.os = s.os → s.heap.objs.size ≤ p →
      s'.heap.get? p = some (seqObj "list" out c) → StrsAre out.toList zs → sortedS zs = true → zs.Nodup → (∀ k, k ∈ zs ↔ k ∈ xs) → zs.length ≤ sizeLine → Q (.ref p) s') :
    wpAny (model prog w) A (call (.builtin "sorted") [.ref a]) Q E s := by
  obtain ⟨L, ⟨o, es, ep, t, ho, hex, hd, ge, gi, nd, hb, hf, hr, hl⟩, hm, hn⟩ := hH
  refine Calls.call_function_entry kind_sorted plain_sorted entry_sorted (args_sorted1 _) ?_
  unfold Builtin.«sorted»
  refine wpAny_bind (m := checkCount "sorted" 1 1 _) (wpAny_pure ?_)
  refine wpAny_bind (collect_set (A := A.in1) hh ⟨o, ho, hex.1, hd⟩ hf hb hr hl fun s1 vs k1 hz g1 o1 pm => ?_)
  have ge2 : es.toList.map (·.2) = L.map (·.2) := by rw [ge, List.map_map]; rfl
  rw [ge2] at pm
  obtain ⟨M, rfl, pM⟩ := perm_unmap pm
  have kM : ∀ p ∈ M, (PySem.strKind prog w).is p.1 p.2 = true := fun p hp => (gi p (pM.mem_iff.mp hp)).1
  have hS := strs_of_keys kM
  have hlen : M.length = es.size := by rw [pM.length_eq, ← Array.length_toList, ge, List.length_map]
  have hsl : (M.map (·.2)).length ≤ sizeLine := by
    rw [List.length_map, hlen]
    exact Nat.le_of_lt (Nat.lt_of_lt_of_le hb (by decide))
  refine wpAny_bind (wpAny_newList ?_ hsl)
  have hoL : (s1.heap.push (seqObj "list" (M.map (·.2)).toArray 0)).get? s1.heap.objs.size = some (seqObj "list" (M.map (·.2)).toArray 0) := Heap.get?_push_size _ rfl
  refine wpAny_bind (wpAny_holding (wpAny_call_entry slot_list_sort ⟨_, hoL, rfl⟩ entry_list_sort (list_sort_texts hoL hS hsl fun out zs a1 a2 a3 => ⟨_, rfl, ?_⟩) (args_list_sort _)))
  obtain ⟨c, hc⟩ := sortedHeap_at (vs := M.map (·.2)) (out := out) hoL
  have pn : zs.Perm (L.map (·.1)) := a2.trans (pM.map _)
  refine wpAny_pure ⟨_, rfl, hQ _ s1.heap.objs.size out c zs (fun b u e => ?_) g1 o1 hz hc a1 a3 (pn.nodup_iff.mpr nd) (fun k => by rw [pn.mem_iff, hm k]) ?_⟩
  · have q := k1 b u e
    have hlt := Heap.lt_size q
    show (sortedHeap (s1.heap.push (seqObj "list" (M.map (·.2)).toArray 0)) s1.heap.objs.size (M.map (·.2)) out).get? b = some u
    rw [sortedHeap_old (Nat.ne_of_lt hlt) (by rw [size_push']; exact Nat.lt_succ_of_lt hlt)]
    exact Heap.get?_push_of_some _ q
  · rw [pn.length_eq, List.length_map]
    rw [List.length_map, pM.length_eq] at hsl
    exact hsl
end
section
variable {X : Cx}
/-- sorted(set(xs)), xs a list of texts: a new list, each text once, in order -/
def tSortedSet (K : PySem.W.Frag) (ta : TE) : TE := fun σ H Q => ta σ H fun x H1 => ∃ (l : Addr) (xs : List Str), x = .ref l ∧ SqL K H1 l (xs.map V.str) ∧ xs.length + 1 < scanBound ∧
  ∀ (zs : List Str) (p : Addr), sortedS zs = true → zs.Nodup → (∀ k, k ∈ zs ↔ k ∈ xs) → H1 p = none → Q (.ref p) (upd H1 p (.lst (zs.map V.str)))
theorem pe_sortedSet {K : PySem.W.Frag} {a : Expr} {ta : TE} {p p2 q pos : Pos} (hK : X.K = K) (hc : X.calm = true) (hg : Gl X "sorted") (hm : X.mg "sorted" = none) (hg2 : Gl X "set") (hm2 : X.mg "set" = none) (ha : PE X a ta)
    (na : starEach [a] X.env = (false, eval a X.env) :: starEach [] X.env := by rfl) : PE X (.Call (.Name "sorted" p) [.Call (.Name "set" p2) [a] [] q] [] pos) (tSortedSet K ta) := by
  subst hK
  refine ⟨fun pins s σ H Q I h => ?_⟩
  refine Call_ (ld_blt I hg hm boot_sorted ?_)
  refine PyProof.Rows.callWith_builtin1 (PyProof.Rows.args_cons ?_ rfl) rfl rfl
  refine Call_ (ld_blt I hg2 hm2 boot_set ?_)
  refine PyProof.Rows.callWith_type1 (PyProof.Rows.args_cons (thn (ha.run pins s σ H _ I h) fun v s1 ⟨x, H1, I1, r1, q1⟩ => PyProof.Rows.args_nil ?_) na) na rfl
  obtain ⟨l, xs, rfl, hq, h1, q1⟩ := q1
  cases r1
  obtain ⟨its, r, pl, hz⟩ := I1.list hq
  refine set_of_texts (I1.ok.hd hc) pl.isList (by simpa using strsAre_of r) h1 fun h' tk hS hk => ?_
  refine PyProof.Rows.args_nil ?_
  have I2 : Inv X pins σ H1 { s1 with heap := h', toks := tk } := I1.kept fun b o e => hk b o e
  refine sorted_of_texts hS (I2.ok.hd hc) fun s' p out c zs k g o hp hg so ord nd hm hl => ?_
  have hlen : (zs.map V.str).length ≤ sizeLine := by rw [List.length_map]; exact hl
  have hn : H1 p = none := I2.hok.fresh hp
  have J : Inv X pins σ (upd H1 p (.lst (zs.map V.str))) { ({ s1 with heap := h', toks := tk } : Shared) with heap := s'.heap, gens := s'.gens, drawn := s'.drawn, toks := s'.toks } :=
    I2.call (ch := []) (Un.laid k hp hn) (I2.hok.laid k hp ⟨hlen, out.toList, c, vals_of_strs so, hg⟩) (by rw [g]; exact I2.bare) (fun _ z => nomatch z)
  have e : s' = { ({ s1 with heap := h', toks := tk } : Shared) with heap := s'.heap, gens := s'.gens, drawn := s'.drawn, toks := s'.toks } := by
    cases s'
    cases s1
    cases o
    rfl
  rw [e]
  exact ⟨.ref p, _, J, rfl, q1 zs p ord nd hm hn⟩
end
end Tw

set_option Elab.async false
set_option linter.all false
set_option maxRecDepth 100000
namespace Tw
open PySem L2 PySem.Spec
/-- the address that a name of the text stands for -/
def cadr (mg : Str → Option Value) (x : Str) : Addr := match mg x with
  | some (.ref a) => a
  | _ => 0
theorem cadr_of {mg : Str → Option Value} {x : Str} {a : Addr} (h : mg x = some (.ref a)) : cadr mg x = a := by
  unfold cadr
  rw [h]
/-- a method of a class of the text with its promise -/
structure DefM (P : Program) (w : World) (K : PySem.W.Frag) (mg : Str → Option Value) (base : Heap) (k : Nat) (C : Addr) (m : Str) (ps : List Str) (sp : Sp) : Prop where
  ex : ∃ (f : Addr) (fd : FuncData), FnOk P w K mg base CX0 k f fd ps sp ∧ Meth K C m f ∧ Binds K fd ps []
/-- where a method of the text stands -/
structure HereM (K : PySem.W.Frag) (C : Addr) (m qual : Str) (st : Stmt) (ps : List Str) (f : Addr) (fd : FuncData) : Prop where
  fn : Fun K m qual st f fd
  me : Meth K C m f
  bd : Binds K fd ps []
/-- a maker of a class of the text with its promise -/
structure DefC (P : Program) (w : World) (K : PySem.W.Frag) (mg : Str → Option Value) (base : Heap) (k : Nat) (C : Addr) (ps : List Str) (sp : Sp) : Prop where
  ex : ∃ (f : Addr) (fd : FuncData), FnOk P w K mg base CX0 k f fd ps sp ∧ Mk K C f ∧ Binds K fd ps []
structure HereC (K : PySem.W.Frag) (C : Addr) (qual : Str) (st : Stmt) (ps : List Str) (f : Addr) (fd : FuncData) : Prop where
  fn : Fun K "__init__" qual st f fd
  mkr : Mk K C f
  bd : Binds K fd ps []
theorem HereM.def {P : Program} {w : World} {K : PySem.W.Frag} {mg : Str → Option Value} {base : Heap} {k : Nat} {C : Addr} {m qual : Str} {st : Stmt} {ps : List Str} {sp : Sp} {f : Addr} {fd : FuncData} (h : HereM K C m qual st ps f fd) (F : FnOk P w K mg base CX0 k f fd ps sp) : DefM P w K mg base k C m ps sp :=
  ⟨f, fd, F, h.me, h.bd⟩
theorem HereC.def {P : Program} {w : World} {K : PySem.W.Frag} {mg : Str → Option Value} {base : Heap} {k : Nat} {C : Addr} {qual : Str} {st : Stmt} {ps : List Str} {sp : Sp} {f : Addr} {fd : FuncData} (h : HereC K C qual st ps f fd) (F : FnOk P w K mg base CX0 k f fd ps sp) : DefC P w K mg base k C ps sp :=
  ⟨f, fd, F, h.mkr, h.bd⟩
section
variable {X : Cx} {k j : Nat} {C : Addr} {x m : Str} {p pos apos : Pos} {o e : Expr} {es : List Expr} {ps : List Str} {sp : Sp} {ta : TE} {t : TA}
def tMe (C : Addr) (m : Str) (sp : Sp) (ta : TE) (t : TA) : TE := fun σ H Q => ta σ H fun x H1 => ∃ a dx fs, x = .ref a ∧ H1 a = some (.ins C dx fs) ∧ fs.lookup m = none ∧ t σ H1 fun vs H2 => sp (x :: vs) H2 Q E0
theorem tMe_eq : tMeth C m sp [] E0 ta t = tMe C m sp ta t := by
  funext σ H Q
  unfold tMeth tMe
  simp only [List.append_nil]
def tNew (C : Addr) (sp : Sp) (t : TA) : TE := fun σ H Q => t σ H fun vs H1 => ∀ x dx, H1 x = none → H1 dx = none → dx ≠ x → sp (.ref x :: vs) (upd (upd H1 dx (.own x)) x (.ins C dx [])) (fun v H2 => v = .non ∧ Q (.ref x) H2) E0
theorem tNew_eq : tMake C sp [] E0 t = tNew C sp t := by
  funext σ H Q
  unfold tMake tNew
  simp only [List.append_nil]
theorem pe_never : PE X e (fun _ _ _ => False) := ⟨fun _ _ _ _ _ _ h => h.elim⟩
theorem pe_fldG {K : PySem.W.Frag} {f : Str} (hK : X.K = K) (he : PE X e ta) (hb : attributeBase e f X.env (eval e X.env) = eval e X.env) : PE X (.Attribute e f pos) (tFld K ta f) := by
  subst hK
  exact pe_fld he hb
theorem pi_tupG {K : PySem.W.Frag} {tg : Expr} (hK : X.K = K) (he : PE X e ta) : PI X tg e (iTup K ta) := by
  subst hK
  exact pi_tup he
theorem pi_listG {K : PySem.W.Frag} {tg : Expr} (hK : X.K = K) (he : PE X e ta) : PI X tg e (iList K ta) := by
  subst hK
  exact pi_list he
theorem pe_me {pl : Sem Bool} (he : PE X o ta) (c : Cls X.K C) (D : DefM X.prog X.w X.K X.mg X.base k C m ps sp) (hr : Room j X.A) (ha : PA X (e :: es) t) (hk : k ≤ j := by decide)
    (hst : starEach (e :: es) X.env = (false, eval e X.env) :: starEach es X.env := by rfl) (hpl : (backTo pos (starEach es X.env)).any (·.1) = false := by rfl)
    (ht : eval (.Call (.Attribute o m apos) (e :: es) [] pos) X.env = (do
      let ov ← eval o X.env
      standAt apos.atName
      let (f, first) ← holding [ov] (getMethod ov m pl)
      callWith pos f first (backTo pos (starEach (e :: es) X.env)) (backToKw pos (keywordEach [] X.env))) := by rfl) : PE X (.Call (.Attribute o m apos) (e :: es) [] pos) (tMe C m sp ta t) := by
  obtain ⟨f, fd, F, hm, hb⟩ := D.ex
  rw [← tMe_eq]
  exact pe_meth he c hm F (hr.mono hk) hb .nil pass0 ha hst hpl ht
theorem pe_me0 {pl : Sem Bool} (he : PE X o ta) (c : Cls X.K C) (D : DefM X.prog X.w X.K X.mg X.base k C m ps sp) (hr : Room j X.A) (hk : k ≤ j := by decide)
    (ht : eval (.Call (.Attribute o m apos) [] [] pos) X.env = (do
      let ov ← eval o X.env
      standAt apos.atName
      let (f, first) ← holding [ov] (getMethod ov m pl)
      callWith pos f first (backTo pos (starEach [] X.env)) (backToKw pos (keywordEach [] X.env))) := by rfl) : PE X (.Call (.Attribute o m apos) [] [] pos) (tMe C m sp ta tNil) := by
  obtain ⟨f, fd, F, hm, hb⟩ := D.ex
  rw [← tMe_eq]
  exact pe_meth0 he c hm F (hr.mono hk) hb .nil pass0 ht
theorem pe_new (D : DefC X.prog X.w X.K X.mg X.base k C ps sp) (hr : Room j X.A) (hg : Gl X x) (hm : X.mg x = some (.ref C)) (ha : PA X (e :: es) t) (hk : k + 1 ≤ j := by decide) (hdb : (x == ("__debug__" : Str)) = false := by decide)
    (he : starEach (e :: es) X.env = (false, eval e X.env) :: starEach es X.env := by rfl) (hpl : (backTo pos (starEach es X.env)).any (·.1) = false := by rfl) : PE X (.Call (.Name x p) (e :: es) [] pos) (tNew C sp t) := by
  obtain ⟨f, fd, F, mk, hb⟩ := D.ex
  rw [← tNew_eq]
  exact pe_make mk F (hr.mono hk) hg hm hb .nil pass0 ha hdb he hpl
end
section
variable {K : PySem.W.Frag} {σ : L2.St} {H : Hp} {Q : VK} {QT : Bool → Hp → Prop} {QA : List V → Hp → Prop} {D : Ends} {ta tv te : TE} {t : TA} {sp : Sp} {C : Addr} {f m : Str}
theorem g_sortedSet (q : ta σ H fun x H1 => ∃ (l : Addr) (xs : List Str), x = .ref l ∧ SqL K H1 l (xs.map V.str) ∧ xs.length + 1 < scanBound ∧
  ∀ (zs : List Str) (p : Addr), PyProof.Rows.sortedS zs = true → zs.Nodup → (∀ k, k ∈ zs ↔ k ∈ xs) → H1 p = none → Q (.ref p) (upd H1 p (.lst (zs.map V.str)))) : tSortedSet K ta σ H Q := q
theorem g_dget {td ty : TE} (q : td σ H fun x H1 => ty σ H1 fun y H2 => ∃ a v, x = .ref a ∧ DGet H2 a y (some v) ∧ Q v H2) : tDGet td ty σ H Q := q
theorem g_din {td ty : TE} (q : ty σ H fun y H1 => td σ H1 fun x H2 => ∃ a o, x = .ref a ∧ DGet H2 a y o ∧ Q (.bl o.isSome) H2) : tDIn ty td σ H Q := q
theorem g_dnotin {td ty : TE} (q : ty σ H fun y H1 => td σ H1 fun x H2 => ∃ a o, x = .ref a ∧ DGet H2 a y o ∧ Q (.bl (!o.isSome)) H2) : tDNotIn ty td σ H Q := q
theorem g_neB {a b : Bool} (q : Q (.bl (!decide (a = b))) H) : rNe (.bl a) (.bl b) H Q := ⟨rfl, by rw [dB]; exact q⟩
theorem g_itup {R : It → Hp → Prop} (q : ta σ H fun x H1 => ∃ a, x = .ref a ∧ (∃ xs, SqT K H1 a xs) ∧ R (Itt K a) H1) : iTup K ta σ H R := q
theorem for_tupA {p : Addr} {xs : List V} {g : TG} {tb : TS} (Pv : Nat → L2.St → Hp → Prop) (h0 : Pv 0 σ H) (hl : ∀ i σ H, i ≤ xs.length → Pv i σ H → SqT K H p xs)
    (hs : ∀ i x σ H (D' : Ends), xs[i]? = some x → Pv i σ H → (∀ σ H, Pv (i + 1) σ H → D'.nx σ H) → (∀ σ H, Pv (i + 1) σ H → D'.ct σ H) → (∀ σ H, D.nx σ H → D'.bk σ H) → D'.rt = D.rt → g x σ H fun σ2 H2 => tb D' σ2 H2) (hd : ∀ σ H, Pv xs.length σ H → D.nx σ H) :
    ∃ W : Nat → Nat → L2.St → Hp → Prop, (∃ m, W 0 m σ H) ∧ ∀ i m σ H, W i m σ H →
      ((Itt K p).stop i H ∧ D.nx σ H) ∨ ((Itt K p).go i H ∧ ∃ N : L2.St → Hp → Prop, (∀ σ' H', N σ' H' → ∃ m', m' < m ∧ W (i + 1) m' σ' H') ∧ ∀ x H', (Itt K p).yld i H x H' → g x σ H' fun σ2 H2 => tb { D with nx := N, ct := N, bk := D.nx } σ2 H2) :=
  for_tup Pv h0 hl (fun i x σ H hi p => hs i x σ H _ hi p (fun _ _ h => h) (fun _ _ h => h) (fun _ _ h => h) rfl) hd
theorem g_me (q : ta σ H fun x H1 => ∃ a dx fs, x = .ref a ∧ H1 a = some (.ins C dx fs) ∧ fs.lookup m = none ∧ t σ H1 fun vs H2 => sp (x :: vs) H2 Q E0) : tMe C m sp ta t σ H Q := q
theorem g_new (q : t σ H fun vs H1 => ∀ x dx, H1 x = none → H1 dx = none → dx ≠ x → sp (.ref x :: vs) (upd (upd H1 dx (.own x)) x (.ins C dx [])) (fun v H2 => v = .non ∧ Q (.ref x) H2) E0) : tNew C sp t σ H Q := q
theorem g_fld (q : ta σ H fun x H1 => ∃ a C dx fs v, x = .ref a ∧ H1 a = some (.ins C dx fs) ∧ Cls K C ∧ NoAttr K C f ∧ fs.lookup f = some v ∧ Q v H1) : tFld K ta f σ H Q := q
theorem g_sfld (q : tv σ H fun y H1 => ta σ H1 fun x H2 => ∃ a C dx fs, x = .ref a ∧ H2 a = some (.ins C dx fs) ∧ Cls K C ∧ NoAttr K C f ∧ fs.length < 1000 ∧ D.nx σ (upd H2 a (.ins C dx (putF f y fs)))) : sFld K ta tv f D σ H := q
end
end Tw


set_option Elab.async false
set_option linter.all false
set_option maxRecDepth 100000
namespace Tw
open PySem L2 PySem.Spec
section
variable {J : It} {g : TG} {tt : TT} {te : TE} {vs : List Nat} {σ : L2.St} {H1 : Hp} {D : Addr} {Qd : Hp → Prop}
/-- a comprehension whose turns leave the heap: what is kept has a property -/
theorem lc_any (xs : List V) (P : V → Prop) (hD : H1 D = none) (hJ : ∀ H, (∀ q o, H1 q = some o → H q = some o) → Fits J xs H) (hlen : xs.length ≤ 1000000)
    (hs : ∀ x Hh (R : V → Hp → Prop) (S : Hp → Prop), x ∈ xs → (∀ q o, H1 q = some o → Hh q = some o) → (∀ y, P y → R y Hh) → S Hh →
      g x (wipe σ vs) Hh fun σ2 H2 => wipe σ2 vs = wipe σ vs ∧ tt σ2 H2 fun b H3 => if b = true then te σ2 H3 R else S H3)
    (hd : ∀ H ys, (∀ q o, H1 q = some o → H q = some o) → H D = some (.lst ys) → (∀ y ∈ ys, P y) → ys.length ≤ xs.length → Qd H) :
    ∃ W : Nat → Nat → Hp → Prop, (∃ m, W 0 m (upd H1 D (.lst []))) ∧ ∀ i m H, W i m H →
      (J.stop i H ∧ Qd H) ∨ (J.go i H ∧ ∃ Nx : Hp → Prop, (∀ H', Nx H' → ∃ m', m' < m ∧ W (i + 1) m' H') ∧ ∀ x H', J.yld i H x H' → g x (wipe σ vs) H' fun σ2 H2 => wipe σ2 vs = wipe σ vs ∧ tt σ2 H2 fun b H3 =>
        if b = true then te σ2 H3 fun y H4 => ∃ acc, H4 D = some (.lst acc) ∧ acc.length < sizeLine ∧ Nx (upd H4 D (.lst (acc ++ [y]))) else Nx H3) := by
  refine ⟨fun i m H => m = xs.length - i ∧ i ≤ xs.length ∧ (∃ ys, H D = some (.lst ys) ∧ (∀ y ∈ ys, P y) ∧ ys.length ≤ i) ∧ ∀ q o, H1 q = some o → H q = some o, ⟨xs.length, by simp, Nat.zero_le _, ⟨[], upd_same, (fun y hy => nomatch hy), Nat.zero_le _⟩, fun q o h => by rw [upd_ne (ne_of_none h hD)]; exact h⟩, ?_⟩
  rintro i m H ⟨rfl, hi, ⟨ys, hDl, hP, hl⟩, hK⟩
  have fi := hJ H hK
  by_cases hlt : i < xs.length
  · refine .inr ⟨fi.go i hlt, fun H' => (∃ ys, H' D = some (.lst ys) ∧ (∀ y ∈ ys, P y) ∧ ys.length ≤ i + 1) ∧ ∀ q o, H1 q = some o → H' q = some o, fun H' w => ⟨xs.length - (i + 1), by omega, rfl, hlt, w⟩, ?_⟩
    intro x H' hy
    obtain ⟨rfl, hx⟩ := fi.yld i x H' hy
    refine hs x H' (fun y H4 => _) (fun H3 => _) (List.mem_of_getElem? hx) hK (fun y hy => ⟨_, hDl, ?_, ⟨_, upd_same, fun z hz => ?_, ?_⟩, fun q o h => by rw [upd_ne (ne_of_none h hD)]; exact hK q o h⟩) ⟨⟨ys, hDl, hP, by omega⟩, hK⟩
    · rw [sizeLine_eq]
      omega
    · rcases List.mem_append.mp hz with hz | hz
      · exact hP z hz
      · rw [List.mem_singleton.mp hz]; exact hy
    · rw [List.length_append]
      show ys.length + 1 ≤ _
      omega
  · have e : i = xs.length := by omega
    subst e
    exact .inl ⟨fi.stop _ (Nat.le_refl _), hd H ys hK hDl hP hl⟩
/-- a comprehension whose turns leave the heap, with an if -/
theorem lc_filt (xs : List V) (f : V → Bool) (v : V → V) (hD : H1 D = none) (hJ : ∀ H, (∀ q o, H1 q = some o → H q = some o) → Fits J xs H) (hlen : xs.length ≤ 1000000)
    (hs : ∀ x Hh (R : V → Hp → Prop) (S : Hp → Prop), x ∈ xs → (∀ q o, H1 q = some o → Hh q = some o) → (f x = true → R (v x) Hh) → (f x = false → S Hh) →
      g x (wipe σ vs) Hh fun σ2 H2 => wipe σ2 vs = wipe σ vs ∧ tt σ2 H2 fun b H3 => if b = true then te σ2 H3 R else S H3)
    (hd : ∀ H, (∀ q o, H1 q = some o → H q = some o) → H D = some (.lst ((xs.filter f).map v)) → Qd H) :
    ∃ W : Nat → Nat → Hp → Prop, (∃ m, W 0 m (upd H1 D (.lst []))) ∧ ∀ i m H, W i m H →
      (J.stop i H ∧ Qd H) ∨ (J.go i H ∧ ∃ Nx : Hp → Prop, (∀ H', Nx H' → ∃ m', m' < m ∧ W (i + 1) m' H') ∧ ∀ x H', J.yld i H x H' → g x (wipe σ vs) H' fun σ2 H2 => wipe σ2 vs = wipe σ vs ∧ tt σ2 H2 fun b H3 =>
        if b = true then te σ2 H3 fun y H4 => ∃ acc, H4 D = some (.lst acc) ∧ acc.length < sizeLine ∧ Nx (upd H4 D (.lst (acc ++ [y]))) else Nx H3) := by
  refine ⟨fun i m H => m = xs.length - i ∧ i ≤ xs.length ∧ H D = some (.lst (((xs.take i).filter f).map v)) ∧ ∀ q o, H1 q = some o → H q = some o, ⟨xs.length, by simp, Nat.zero_le _, upd_same, fun q o h => by rw [upd_ne (ne_of_none h hD)]; exact h⟩, ?_⟩
  rintro i m H ⟨rfl, hi, hDl, hK⟩
  have fi := hJ H hK
  by_cases hlt : i < xs.length
  · refine .inr ⟨fi.go i hlt, fun H' => H' D = some (.lst (((xs.take (i + 1)).filter f).map v)) ∧ ∀ q o, H1 q = some o → H' q = some o, fun H' w => ⟨xs.length - (i + 1), by omega, rfl, hlt, w⟩, ?_⟩
    intro x H' hy
    obtain ⟨rfl, hx⟩ := fi.yld i x H' hy
    have e1 : xs.take (i + 1) = xs.take i ++ [x] := by rw [List.take_succ, hx]; rfl
    refine hs x H' (fun y H4 => _) (fun H3 => _) (List.mem_of_getElem? hx) hK (fun hf => ⟨_, hDl, ?_, ?_, fun q o h => by rw [upd_ne (ne_of_none h hD)]; exact hK q o h⟩) (fun hf => ⟨?_, hK⟩)
    · have h1 := List.length_filter_le f (xs.take i)
      rw [List.length_take] at h1
      rw [List.length_map, sizeLine_eq]
      omega
    · rw [upd_same, e1, List.filter_append, List.filter_cons, if_pos hf, List.map_append]; rfl
    · rw [hDl, e1, List.filter_append, List.filter_cons, if_neg (by rw [hf]; exact Bool.false_ne_true)]
      simp
  · have e : i = xs.length := by omega
    subst e
    refine .inl ⟨fi.stop _ (Nat.le_refl _), hd H hK ?_⟩
    rw [hDl, List.take_length]
end
end Tw

set_option Elab.async false
set_option linter.all false
set_option maxRecDepth 100000
set_option maxHeartbeats 4000000
/-! != of lists that are equal item by item -/
namespace PySem.SeqAt
open AutoSeq1 (wpAny_loadPart')
open MeetsSeq MeetsSeq2 MeetsSeq3 SeqRoads2
section
variable {prog : Program} {w : World}
theorem tw_ne_loop (l b : Addr) (items items2 : Array Value) (n n2 : Nat) (dd dd2 : Option Addr) (sl sl2 : Array (Option Value)) (hsz : items.size = items2.size) (k : Nat) :
    ∀ i : Nat, items.size - i = k → MeetsIn prog w (Builtin.«list.__eq__.loop» ⟨[.ref l, .ref b, rawInt i, rawInt 3], []⟩)
      (fun A R s => s.heap.get? l = some { cls := .type "list", dict := dd, data := .seq items n, slots := sl } ∧ s.heap.get? b = some { cls := .type "list", dict := dd2, data := .seq items2 n2, slots := sl2 } ∧
        (∀ j (h1 : j < items.size) (h2 : j < items2.size), EqP prog w A.in1 s items[j] items2[j] true) ∧
        R (.ok (.ret (.bool false))) s) := by
  induction k with
  | zero =>
    intro i hk A R s h
    obtain ⟨hp, g, d, tk, os⟩ := s; obtain ⟨hl, hb, he, h⟩ := h
    wp_walk using wpAny_loadPart' hl, wpAny_loadPart' hb
    have hi1 : items[((i : Nat) : Int).toNat]? = none := by simp; omega
    have hi2 : items2[((i : Nat) : Int).toNat]? = none := by simp; omega
    rw [hi1, hi2]
    wp_walk using wpAny_loadPart' hl, wpAny_loadPart' hb
    show R (.ok (.ret (.bool (items.size != items2.size)))) _
    rw [hsz]
    simpa using h
  | succ k ih =>
    intro i hk A R s h
    obtain ⟨hp, g, d, tk, os⟩ := s; obtain ⟨hl, hb, he, h⟩ := h
    wp_walk using wpAny_loadPart' hl, wpAny_loadPart' hb
    have hlt : i < items.size := by omega
    have hlt2 : i < items2.size := by omega
    have hi1 : items[((i : Nat) : Int).toNat]? = some items[i] := by simp [hlt]
    have hi2 : items2[((i : Nat) : Int).toNat]? = some items2[i] := by simp [hlt2]
    have hc : ((i : Int) + 1) = ((i + 1 : Nat) : Int) := by push_cast; rfl
    rw [hi1, hi2]
    refine wpAny_bind (he i hlt hlt2 _ _ ?_)
    wp_walk
    rw [hc]
    exact ⟨plainId_quiet plain_eq_loop _, codeAny_builtin entry_eq_loop (by
      rw [Around.under_plainId plain_eq_loop _]
      exact ih (i + 1) (by omega) A R _ ⟨hl, hb, he, h⟩)⟩
theorem tw_list_ne (l b : Addr) (items items2 : Array Value) (n n2 : Nat) (dd dd2 : Option Addr) (sl sl2 : Array (Option Value)) (hsz : items.size = items2.size) :
    MeetsIn prog w (Builtin.«list.__ne__» ⟨[.ref l, .ref b], []⟩)
      (fun A R s => s.heap.get? l = some { cls := .type "list", dict := dd, data := .seq items n, slots := sl } ∧ s.heap.get? b = some { cls := .type "list", dict := dd2, data := .seq items2 n2, slots := sl2 } ∧
        (∀ j (h1 : j < items.size) (h2 : j < items2.size), EqP prog w A.in1 s items[j] items2[j] true) ∧
        R (.ok (.ret (.bool false))) s) := by
  intro A R s h
  obtain ⟨hp, g, d, tk, os⟩ := s; obtain ⟨hl, hb, he, h⟩ := h
  have f3 := AutoSeq1.sub_list_list
  have hne : ¬ (items.size != items2.size) = true := by simp [hsz]
  wp_walk using wpAny_loadPart' hl, wpAny_loadPart' hb
  exact ⟨plainId_quiet plain_eq_loop _, codeAny_builtin entry_eq_loop (by
    rw [Around.under_plainId plain_eq_loop _]
    exact tw_ne_loop l b items items2 n n2 dd dd2 sl sl2 hsz _ 0 rfl A R _ ⟨hl, hb, he, h⟩)⟩
theorem tw_ne_lists {A : Around} {s : Shared} {l b : Addr} {items items2 : Array Value} (hl : s.heap.IsList l items) (hb : s.heap.IsList b items2) (hsz : items.size = items2.size) (hu : A.units < cLine)
    (he : ∀ j (h1 : j < items.size) (h2 : j < items2.size), EqP prog w A.in1 s items[j] items2[j] true) (E Q : Value → Shared → Prop) (h : Q (.bool false) s) : wpAny (model prog w) A (richCompare .NotEq (.ref l) (.ref b)) Q E s := by
  obtain ⟨⟨cls, dd, data, sl⟩, ho, hc, n, hd⟩ := id hl
  obtain ⟨⟨cls2, dd2, data2, sl2⟩, ho2, hc2, n2, hd2⟩ := id hb
  simp only at hc hd hc2 hd2
  subst hc hd hc2 hd2
  have ta : s.TypeIs (.ref l) "list" := ⟨_, ho, rfl⟩
  have tb : s.TypeIs (.ref b) "list" := ⟨_, ho2, rfl⟩
  exact wpAny_richCompare_same_room (op := .NotEq) ta tb F.slot_list_ne (call_meetsIn F.slot_list_ne ta F.entry_list_ne (F.args_list_ne_2 _ _) (tw_list_ne l b items items2 n n2 dd dd2 sl sl2 hsz)
    ⟨ho, ho2, he, show Value.bool false ≠ Value.notImplemented ∧ Q (.bool false) s from ⟨(fun x => nomatch x), h⟩⟩) hu
end
end PySem.SeqAt
namespace L2
open PySem PySem.Spec PyProof.Rows
section
variable {X : Cx}
/-- a != b, two lists whose items are equal -/
def rNeV (K : PySem.W.Frag) : R2 := fun x y H Q => ∃ n a b xs ys, n ≤ 60 ∧ x = .ref a ∧ y = .ref b ∧ SqL K H a xs ∧ SqL K H b ys ∧ Paired (EqV K H n) xs ys ∧ Q (.bl false) H
theorem op_neV (hu : X.A.units + 64 < cLine) : OpR X (compareOp .NotEq) (rNeV X.K) := by
  intro pins s σ H x y v u Q I rx ry h
  obtain ⟨n, a, b, xs, ys, hn, rfl, rfl, ha, hb, hp, q⟩ := h
  cases (show v = Value.ref a from rx)
  cases (show u = Value.ref b from ry)
  obtain ⟨us, r1, p1, _⟩ := I.list ha
  obtain ⟨ws, r2, p2, _⟩ := I.list hb
  have hsz : us.toArray.size = ws.toArray.size := by
    rw [List.size_toArray, List.size_toArray, ← r1.length, ← r2.length]
    exact Paired.length hp
  refine SeqAt.tw_ne_lists p1.isList p2.isList hsz (by omega) (fun j h1 h2 => ?_) _ _ ⟨.bl false, H, I, rfl, q⟩
  have k := items_run (eqV_run I n X.A.in1 (by show X.A.units + 1 + n < cLine; omega)) hp r1 r2 j (by simpa using h1) (by simpa using h2)
  simpa using k
theorem op_neVu {K : PySem.W.Frag} (h : X.K = K) (hu : X.A.units + 64 < cLine) : OpR X (compareOp .NotEq) (rNeV K) := by subst h; exact op_neV hu
theorem op_eqVu {K : PySem.W.Frag} (h : X.K = K) (hu : X.A.units + 64 < cLine) : OpR X (compareOp .Eq) (rEqV K) := by subst h; exact op_eqV hu
end
end L2
namespace Tw
open PySem L2
def rMin2 : List V → Hp → VK → Prop := fun xs H Q => ∃ i j, xs = [.int i, .int j] ∧ Q (.int (if j < i then j else i)) H
def rInsert : V → List V → Hp → VK → Prop := fun x vs H Q => ∃ (l : Addr) (xs : List V) (i : Int) (y : V), x = .ref l ∧ vs = [.int i, y] ∧ H l = some (.lst xs) ∧ xs.length < sizeLine ∧ 0 ≤ i ∧ i < 2 ^ 63 ∧ Q .non (upd H l (.lst (xs.take i.toNat ++ [y] ++ xs.drop i.toNat)))
section
variable {X : Cx}
theorem call_min2G (h : X.calm = true) : CallR X (.builtin "min") rMin2 := call_min2 h
theorem pg_tupG {K : PySem.W.Frag} {es : List Expr} {k : Nat} {t : TGs} {n : Nat} {pos : Pos} (hK : X.K = K) (hc : X.calm = true) (h : PGs X es t)
    (hn : (assignEach es X.env).length = n := by rfl) (hst : (assignEach es X.env).findIdx? (·.1) = none := by rfl) : PG X (.Tuple es k pos) (gTup K n t) := by subst hK; exact pg_tup hc h hn hst
theorem mt_insertG : MtR X "list.insert" rInsert := mt_insert
end
section
variable {K : PySem.W.Frag} {σ : L2.St} {H : Hp} {Q : VK} {D : Ends} {t : TA} {c : TT} {tb : TS} {i j : Int}
theorem g_min2 (q : Q (.int (if j < i then j else i)) H) : rMin2 [.int i, .int j] H Q := ⟨i, j, rfl, q⟩
theorem g_rng2 {R : It → Hp → Prop} (q : t σ H fun vs H1 => ∃ i j : Int, vs = [.int i, .int j] ∧ (-(2 ^ 62) ≤ i ∧ i < 2 ^ 62 ∧ -(2 ^ 62) ≤ j ∧ j < 2 ^ 62) ∧ R (Itr i (j - i).toNat) H1) : iRng2 t σ H R := q
theorem g_gtup {n : Nat} {u : TGs} {p : Addr} {xs : List V} {QS : L2.St → Hp → Prop} (h : H p = some (.tup xs)) (hl : xs.length = n) (q : u xs σ H QS) : gTup K n u (.ref p) σ H QS := ⟨p, xs, rfl, SqT.of h, hl, q⟩
theorem g_gcons {g : TG} {u : TGs} {v : V} {r : List V} {QS : L2.St → Hp → Prop} (q : g v σ H fun σ' H' => u r σ' H' QS) : gCons g u (v :: r) σ H QS := ⟨v, r, rfl, q⟩
theorem g_gnil {QS : L2.St → Hp → Prop} (q : QS σ H) : gNil [] σ H QS := ⟨rfl, q⟩
theorem g_while (q : ∃ W : Nat → L2.St → Hp → Prop, (∃ m, W m σ H) ∧ ∀ m σ H, W m σ H →
  c σ H fun b H1 => if b = true then ∃ N : L2.St → Hp → Prop, (∀ σ' H', N σ' H' → ∃ m', m' < m ∧ W m' σ' H') ∧ tb { D with nx := N, ct := N, bk := D.nx } σ H1 else D.nx σ H1) : tWhile c tb D σ H := q
theorem g_ins {p : Addr} {xs : List V} {v : V} (h : H p = some (.lst xs)) (hz : xs.length < 10000000) (h0 : 0 ≤ i) (h1 : i < 10000000) (q : Q .non (upd H p (.lst (xs.take i.toNat ++ [v] ++ xs.drop i.toNat)))) : rInsert (.ref p) [.int i, v] H Q := ⟨p, xs, i, v, rfl, rfl, h, by rw [sizeLine_eq]; omega, h0, by omega, q⟩
end
end Tw
namespace Tw
open PySem L2
section
variable {σ : L2.St} {g : TG} {tt : TT} {te : TE} {vs : List Nat} {J : It} {H1 : Hp} {D : Addr} {Qd : Hp → Prop}
/-- a comprehension whose turns make new things -/
theorem lc_new (xs : List V) (Rel : Nat → V → Hp → Prop) (hD : H1 D = none) (hJ : ∀ H, (∀ q o, H1 q = some o → H q = some o) → Fits J xs H) (hlen : xs.length ≤ 1000000)
    (hmono : ∀ i y H H', (∃ ys, H D = some (.lst ys)) → Rel i y H → (∀ q o, q ≠ D → H q = some o → H' q = some o) → Rel i y H')
    (hs : ∀ i x Hh (R : V → Hp → Prop) (S : Hp → Prop), xs[i]? = some x → (∀ q o, H1 q = some o → Hh q = some o) → (∃ ys, Hh D = some (.lst ys)) → (∀ y H4, (∀ q o, Hh q = some o → H4 q = some o) → Rel i y H4 → R y H4) →
      g x (wipe σ vs) Hh fun σ2 H2 => wipe σ2 vs = wipe σ vs ∧ tt σ2 H2 fun b H3 => if b = true then te σ2 H3 R else S H3)
    (hd : ∀ H ys, (∀ q o, H1 q = some o → H q = some o) → H D = some (.lst ys) → ys.length = xs.length → (∀ i y, ys[i]? = some y → Rel i y H) → Qd H) :
    ∃ W : Nat → Nat → Hp → Prop, (∃ m, W 0 m (upd H1 D (.lst []))) ∧ ∀ i m H, W i m H →
      (J.stop i H ∧ Qd H) ∨ (J.go i H ∧ ∃ Nx : Hp → Prop, (∀ H', Nx H' → ∃ m', m' < m ∧ W (i + 1) m' H') ∧ ∀ x H', J.yld i H x H' → g x (wipe σ vs) H' fun σ2 H2 => wipe σ2 vs = wipe σ vs ∧ tt σ2 H2 fun b H3 =>
        if b = true then te σ2 H3 fun y H4 => ∃ acc, H4 D = some (.lst acc) ∧ acc.length < sizeLine ∧ Nx (upd H4 D (.lst (acc ++ [y]))) else Nx H3) := by
  refine ⟨fun i m H => m = xs.length - i ∧ i ≤ xs.length ∧ (∀ q o, H1 q = some o → H q = some o) ∧ ∃ ys, H D = some (.lst ys) ∧ ys.length = i ∧ ∀ j y, ys[j]? = some y → Rel j y H, ⟨xs.length, by simp, Nat.zero_le _, fun q o h => by rw [upd_ne (ne_of_none h hD)]; exact h, [], upd_same, rfl, fun j y h => by simp at h⟩, ?_⟩
  rintro i m H ⟨rfl, hi, hK, ys, hDl, hyl, hR⟩
  have fi := hJ H hK
  by_cases hlt : i < xs.length
  · refine .inr ⟨fi.go i hlt, fun H' => (∀ q o, H1 q = some o → H' q = some o) ∧ ∃ ys, H' D = some (.lst ys) ∧ ys.length = i + 1 ∧ ∀ j y, ys[j]? = some y → Rel j y H', fun H' w => ⟨xs.length - (i + 1), by omega, rfl, hlt, w⟩, ?_⟩
    intro x H' hy
    obtain ⟨rfl, hx⟩ := fi.yld i x H' hy
    refine hs i x H' (fun y H4 => _) (fun H3 => _) hx hK ⟨_, hDl⟩ fun y H4 k4 r4 => ⟨ys, k4 _ _ hDl, by rw [sizeLine_eq]; omega, fun q o h => by rw [upd_ne (ne_of_none h hD)]; exact k4 _ _ (hK q o h), ys ++ [y], upd_same, by rw [List.length_append, hyl]; rfl, fun j z hz => ?_⟩
    have ku : ∀ q o, q ≠ D → H4 q = some o → (upd H4 D (.lst (ys ++ [y]))) q = some o := fun q o n h => by rw [upd_ne n]; exact h
    by_cases hj : j < ys.length
    · rw [List.getElem?_append_left hj] at hz
      exact hmono j z _ _ ⟨ys, k4 _ _ hDl⟩ (hmono j z _ _ ⟨ys, hDl⟩ (hR j z hz) fun q o _ h => k4 q o h) ku
    · rw [List.getElem?_append_right (by omega)] at hz
      obtain ⟨h0, _⟩ := List.getElem?_eq_some_iff.mp hz
      have e : j - ys.length = 0 := by simpa using h0
      rw [e] at hz
      obtain rfl : y = z := by simpa using hz
      obtain rfl : j = i := by omega
      exact hmono _ _ _ _ ⟨ys, k4 _ _ hDl⟩ r4 ku
  · have e : i = xs.length := by omega
    subst e
    exact .inl ⟨fi.stop _ (Nat.le_refl _), hd H ys hK hDl hyl hR⟩
end
end Tw


set_option Elab.async false
set_option linter.all false
set_option maxRecDepth 100000
set_option maxHeartbeats 4000000
namespace L
open PySem L2 Tw
local macro_rules | `(tactic| walk_at "hp") => `(tactic| first
  | assumption
  | exact upd_same
  | (refine Eq.trans (upd_ne ?hn) ?hr; (case hn => first | assumption | exact Ne.symm (by assumption)); (case hr => walk_at "hp")))
local macro_rules | `(tactic| walk_at "g1") => `(tactic| first
  | with_reducible refine g_nx ?_
  | with_reducible refine g_rt ?_
  | with_reducible refine g_seq ?_
  | with_reducible refine g_ret ?_
  | with_reducible refine g_if ?_
  | with_reducible refine g_asg ?_
  | with_reducible refine g_drop ?_
  | with_reducible refine g_asgSub ?_
  | with_reducible refine g_next ?_
  | with_reducible refine g_op ?_
  | ((with_reducible refine g_var0 ?_); refine ⟨_, rfl, ?_⟩)
  | with_reducible refine g_c ?_
  | with_reducible refine g_cons ?_
  | with_reducible refine g_nil ?_
  | with_reducible refine g_def ?_
  | with_reducible refine g_cb ?_
  | with_reducible refine g_test ?_
  | with_reducible refine g_B ?_
  | with_reducible refine g_bl ?_
  | with_reducible refine g_sl ?_
  | with_reducible refine g_name ?_
  | with_reducible refine g_lc ?_
  | with_reducible refine g_rng1 ?_
  | with_reducible refine g_for ?_
  | with_reducible refine g_yes ?_
  | with_reducible refine g_ilist ?_
  | ((with_reducible refine g_m1 ?_))
  | with_reducible refine g_m0 ?_
  | with_reducible refine g_noPart ?_
  | with_reducible refine g_part ?_
  | with_reducible refine g_int ?_
  | with_reducible refine g_tand ?_
  | with_reducible refine g_tor ?_
  | with_reducible refine g_tnot ?_
  | with_reducible refine g_vand ?_
  | with_reducible refine g_vor ?_
  | with_reducible refine g_vnot ?_
  | with_reducible refine g_eif ?_
  | with_reducible refine g_un ?_
  | with_reducible refine g_addI ?_
  | with_reducible refine g_subI ?_
  | with_reducible refine g_negI ?_
  | with_reducible refine g_ltI ?_
  | with_reducible refine g_ltS ?_
  | with_reducible refine g_leI ?_
  | with_reducible refine g_geS ?_
  | with_reducible refine g_inS ?_
  | with_reducible refine g_notInS ?_
  | with_reducible refine g_max2 ?_
  | with_reducible refine g_isiR (by assumption) (by decide) ?_
  | with_reducible refine g_isBl_tt ?_
  | with_reducible refine g_notBl_tt ?_
  | with_reducible refine g_isBl_tf ?_
  | with_reducible refine g_notBl_tf ?_
  | with_reducible refine g_isBl_ft ?_
  | with_reducible refine g_notBl_ft ?_
  | with_reducible refine g_isBl_ff ?_
  | with_reducible refine g_notBl_ff ?_
  | with_reducible refine g_isBl ?_
  | with_reducible refine g_notBl ?_
  | with_reducible refine g_istr ?_
  | with_reducible refine g_str1 ?_
  | with_reducible refine g_strE ?_
  | with_reducible refine g_gtI ?_
  | with_reducible refine g_geI ?_
  | with_reducible refine g_isN_non ?_
  | with_reducible refine g_isN_int ?_
  | with_reducible refine g_isN_str ?_
  | with_reducible refine g_isN_bl ?_
  | with_reducible refine g_isN_ref ?_
  | with_reducible refine g_notN_non ?_
  | with_reducible refine g_notN_int ?_
  | with_reducible refine g_notN_str ?_
  | with_reducible refine g_notN_bl ?_
  | with_reducible refine g_notN_ref ?_
  | with_reducible refine g_isN ?_
  | with_reducible refine g_notN ?_
  | with_reducible refine g_isiI kb_ii ?_
  | with_reducible refine g_isiI kb_is ?_
  | with_reducible refine g_isiI kb_ib ?_
  | with_reducible refine g_isiS kb_si ?_
  | with_reducible refine g_isiS kb_ss ?_
  | with_reducible refine g_isiS kb_sb ?_
  | with_reducible refine g_isiB kb_bi ?_
  | with_reducible refine g_isiB kb_bs ?_
  | with_reducible refine g_isiB kb_bb ?_
  | with_reducible refine g_isiN kb_ni ?_
  | with_reducible refine g_isiN kb_ns ?_
  | with_reducible refine g_isiN kb_nb ?_
  | with_reducible refine g_eqI ?_
  | with_reducible refine g_eqS ?_
  | with_reducible refine g_eqB ?_
  | with_reducible refine g_neI ?_
  | with_reducible refine g_neS ?_
  | with_reducible refine g_int1 ?_
  | with_reducible refine g_int1B ?_
  | with_reducible refine g_bool1B ?_
  | with_reducible refine g_bool1I ?_
  | ((with_reducible refine g_modI ?gm ?_); (case gm => first | assumption | decide | omega))
  | ((with_reducible refine g_mulI ?gm ?_); (case gm => first | exact Or.inl ⟨by decide, by decide⟩ | exact Or.inr ⟨by decide, by decide⟩ | (unfold CMul; omega)))
  | with_reducible refine g_tup ?_
  | with_reducible refine g_lst ?_
  | with_reducible refine g_bm ?_
  | ((with_reducible refine g_tyL ?_); refine ⟨⟨_, by walk_at "hp"⟩, ?_⟩)
  | (with_reducible refine g_app (by walk_at "hp") (by first | assumption | (simp only [List.length_map, List.length_append, List.length_cons, List.length_nil]; omega) | omega) ?_)
  | ((with_reducible refine g_ixL0 ?_); (refine' ⟨_, _, ?ga, ?gb, ?_⟩; (case ga => walk_at "hp"); (case gb => exact rfl)))
  | ((with_reducible refine g_ixL0 ?_); (refine' ⟨_, _, ?ga, atI_map ?gb, ?_⟩; (case ga => walk_at "hp"); (case gb => omega)))
  | ((with_reducible refine g_powI ?gm ?_); (case gm => first | exact ⟨by decide, by decide +kernel⟩ | exact cpow_small (by decide) (by decide) (by omega) (by omega)))
  | ((with_reducible refine g_fdI ?gm ?_); (case gm => first | exact ⟨by assumption, by assumption⟩ | exact ⟨by decide, by decide +kernel⟩))
  | ((with_reducible refine g_lenL0 ?_); (refine' ⟨_, ?ga, ?_⟩; (case ga => walk_at "hp")))
  | ((with_reducible refine g_setL0 ?_); (refine' ⟨_, _, ?ga, ?gb, ?_⟩; (case ga => walk_at "hp"); (case gb => exact rfl)))
  | with_reducible refine g_itup ?_
  | with_reducible refine g_lc2 ?_
  | with_reducible refine g_sortedSet ?_
  | with_reducible refine g_dget ?_
  | with_reducible refine g_din ?_
  | with_reducible refine g_dnotin ?_
  | with_reducible refine g_neB ?_
  | with_reducible refine g_me ?_
  | with_reducible refine g_new ?_
  | with_reducible refine g_sfld ?_
  | with_reducible refine g_fld ?_
  | with_reducible refine g_T ?_
  | with_reducible refine g_F ?_
  | with_reducible refine g_Tn ?_
  | with_reducible refine g_Fn ?_
  | with_reducible refine g_bk ?_
  | with_reducible refine g_ct ?_
  | with_reducible refine g_ctS ?_
  | with_reducible refine g_bkS ?_)
local macro_rules | `(tactic| walk_at "g") => `(tactic| repeat walk_at "g1")
local macro_rules | `(tactic| walk_at "G") => `(tactic| (walk_at "g"; try ((first | with_reducible refine g_dec (fun _ => ?_) (fun _ => ?_) | with_reducible refine g_ndec (fun _ => ?_) (fun _ => ?_)) <;> walk_at "G")))

def top (i : Nat) : Stmt := PySem.Challenge.pw_tworows_k44_orders_sort.main.body.getD i (.Pass ⟨0, 0, 0, 0⟩)
abbrev S_is_ahead : Stmt := top 1
abbrev N_is_ahead : List Str := ["one", "other"]
theorem sc_is_ahead : FnScope N_is_ahead ["one", "other"] (defScope S_is_ahead) := ⟨rfl, rfl, rfl, by decide +kernel, rfl, by decide +kernel, by decide +kernel⟩
abbrev S_turned : Stmt := top 3
abbrev N_turned : List Str := ["order", "name", "direction"]
theorem sc_turned : FnScope N_turned ["order"] (defScope S_turned) := ⟨rfl, rfl, rfl, by decide +kernel, rfl, by decide +kernel, by decide +kernel⟩
abbrev S_alike_in : Stmt := top 4
abbrev N_alike_in : List Str := ["names", "row", "other", "name"]
theorem sc_alike_in : FnScope N_alike_in ["names", "row", "other"] (defScope S_alike_in) := ⟨rfl, rfl, rfl, by decide +kernel, rfl, by decide +kernel, by decide +kernel⟩
abbrev S_comes_ahead : Stmt := top 5
abbrev N_comes_ahead : List Str := ["order", "row", "other", "name", "direction"]
theorem sc_comes_ahead : FnScope N_comes_ahead ["order", "row", "other"] (defScope S_comes_ahead) := ⟨rfl, rfl, rfl, by decide +kernel, rfl, by decide +kernel, by decide +kernel⟩
abbrev S_merged : Stmt := top 6
abbrev N_merged : List Str := ["order", "rows", "others", "found", "at", "row"]
theorem sc_merged : FnScope N_merged ["order", "rows", "others"] (defScope S_merged) := ⟨rfl, rfl, rfl, by decide +kernel, rfl, by decide +kernel, by decide +kernel⟩
abbrev S_sort_rows : Stmt := top 7
abbrev N_sort_rows : List Str := ["order", "rows", "half", "row"]
theorem sc_sort_rows : FnScope N_sort_rows ["order", "rows"] (defScope S_sort_rows) := ⟨rfl, rfl, rfl, by decide +kernel, rfl, by decide +kernel, by decide +kernel⟩
abbrev S__law_is : Stmt := top 9
abbrev N__law_is : List Str := ["_law_thing", "_law_due"]
theorem sc__law_is : FnScope N__law_is ["_law_thing", "_law_due"] (defScope S__law_is) := ⟨rfl, rfl, rfl, by decide +kernel, rfl, by decide +kernel, by decide +kernel⟩
abbrev S__law_pool : Stmt := top 10
abbrev N__law_pool : List Str := ["_law_script", "_law_place", "_law_cell"]
theorem sc__law_pool : FnScope N__law_pool ["_law_script", "_law_place"] (defScope S__law_pool) := ⟨rfl, rfl, rfl, by decide +kernel, rfl, by decide +kernel, by decide +kernel⟩
abbrev S__law_draw : Stmt := top 11
abbrev N__law_draw : List Str := ["_law_pool_here", "_law_many", "_law_digit", "_law_one"]
theorem sc__law_draw : FnScope N__law_draw ["_law_pool_here", "_law_many"] (defScope S__law_draw) := ⟨rfl, rfl, rfl, by decide +kernel, rfl, by decide +kernel, by decide +kernel⟩
abbrev S__law_value : Stmt := top 12
abbrev N__law_value : List Str := ["_law_pool_here", "_law_kind", "_law_wide", "_law_chars", "_law_many", "_law_text", "_law_k"]
theorem sc__law_value : FnScope N__law_value ["_law_pool_here", "_law_kind"] (defScope S__law_value) := ⟨rfl, rfl, rfl, by decide +kernel, rfl, by decide +kernel, by decide +kernel⟩
abbrev S__law_name : Stmt := top 13
abbrev N__law_name : List Str := ["_law_pool_here", "_law_taken", "_law_letters", "_law_name_here", "_law_many", "_law_k"]
theorem sc__law_name : FnScope N__law_name ["_law_pool_here", "_law_taken"] (defScope S__law_name) := ⟨rfl, rfl, rfl, by decide +kernel, rfl, by decide +kernel, by decide +kernel⟩
abbrev S__law_columns : Stmt := top 14
abbrev N__law_columns : List Str := ["_law_pool_here", "_law_most", "_law_columns_here", "_law_k", "_law_name_here", "_law_column"]
theorem sc__law_columns : FnScope N__law_columns ["_law_pool_here", "_law_most"] (defScope S__law_columns) := ⟨rfl, rfl, rfl, by decide +kernel, rfl, by decide +kernel, by decide +kernel⟩
abbrev S__law_order : Stmt := top 15
abbrev N__law_order : List Str := ["_law_pool_here", "_law_columns_here", "_law_parts", "_law_k", "_law_name_here", "_law_part"]
theorem sc__law_order : FnScope N__law_order ["_law_pool_here", "_law_columns_here"] (defScope S__law_order) := ⟨rfl, rfl, rfl, by decide +kernel, rfl, by decide +kernel, by decide +kernel⟩
abbrev S__law_ahead : Stmt := top 16
abbrev N__law_ahead : List Str := ["_law_order_here", "_law_one", "_law_other", "_law_part", "_law_first", "_law_second"]
theorem sc__law_ahead : FnScope N__law_ahead ["_law_order_here", "_law_one", "_law_other"] (defScope S__law_ahead) := ⟨rfl, rfl, rfl, by decide +kernel, rfl, by decide +kernel, by decide +kernel⟩
abbrev S__law_sort : Stmt := top 17
abbrev N__law_sort : List Str := ["_law_order_here", "_law_rows", "_law_result", "_law_row_here", "_law_at"]
theorem sc__law_sort : FnScope N__law_sort ["_law_order_here", "_law_rows"] (defScope S__law_sort) := ⟨rfl, rfl, rfl, by decide +kernel, rfl, by decide +kernel, by decide +kernel⟩
abbrev S__law_alike : Stmt := top 18
abbrev N__law_alike : List Str := ["_law_names", "_law_one", "_law_other", "_law_name_here"]
theorem sc__law_alike : FnScope N__law_alike ["_law_names", "_law_one", "_law_other"] (defScope S__law_alike) := ⟨rfl, rfl, rfl, by decide +kernel, rfl, by decide +kernel, by decide +kernel⟩
abbrev S__law_row : Stmt := top 19
abbrev N__law_row : List Str := ["_law_pool_here", "_law_columns_here", "_law_row_here", "_law_column"]
theorem sc__law_row : FnScope N__law_row ["_law_pool_here", "_law_columns_here"] (defScope S__law_row) := ⟨rfl, rfl, rfl, by decide +kernel, rfl, by decide +kernel, by decide +kernel⟩
abbrev S_law : Stmt := top 20
abbrev N_law : List Str := ["_law_script", "_law_columns_here", "_law_order_here", "_law_rows", "_law_place", "_law_pool_here", "_law_ways", "_law_back", "_law_names", "_law_one", "_law_other", "_law_due", "_law_kept", "_law_told", "_law_due_rows", "_law_row_here", "_law_part"]
theorem sc_law : FnScope N_law ["_law_script"] (defScope S_law) := ⟨rfl, rfl, rfl, by decide +kernel, rfl, by decide +kernel, by decide +kernel⟩
structure Txt (K : PySem.W.Frag) (mg : Str → Option Value) : Prop where
  h_tuple : mg "tuple" = none
  h_all : mg "all" = none
  h_len : mg "len" = none
  h_dict : mg "dict" = none
  h_isinstance : mg "isinstance" = none
  h_bool : mg "bool" = none
  h_int : mg "int" = none
  h_range : mg "range" = none
  h_str : mg "str" = none
  h_min : mg "min" = none
  h_list : mg "list" = none
  d_is_ahead : ∃ f fd, Here K mg "is_ahead" S_is_ahead ["one", "other"] f fd
  d_turned : ∃ f fd, Here K mg "turned" S_turned ["order"] f fd
  d_alike_in : ∃ f fd, Here K mg "alike_in" S_alike_in ["names", "row", "other"] f fd
  d_comes_ahead : ∃ f fd, Here K mg "comes_ahead" S_comes_ahead ["order", "row", "other"] f fd
  d_merged : ∃ f fd, Here K mg "merged" S_merged ["order", "rows", "others"] f fd
  d_sort_rows : ∃ f fd, Here K mg "sort_rows" S_sort_rows ["order", "rows"] f fd
  d__law_is : ∃ f fd, Here K mg "_law_is" S__law_is ["_law_thing", "_law_due"] f fd
  d__law_pool : ∃ f fd, Here K mg "_law_pool" S__law_pool ["_law_script", "_law_place"] f fd
  d__law_draw : ∃ f fd, Here K mg "_law_draw" S__law_draw ["_law_pool_here", "_law_many"] f fd
  d__law_value : ∃ f fd, Here K mg "_law_value" S__law_value ["_law_pool_here", "_law_kind"] f fd
  d__law_name : ∃ f fd, Here K mg "_law_name" S__law_name ["_law_pool_here", "_law_taken"] f fd
  d__law_columns : ∃ f fd, Here K mg "_law_columns" S__law_columns ["_law_pool_here", "_law_most"] f fd
  d__law_order : ∃ f fd, Here K mg "_law_order" S__law_order ["_law_pool_here", "_law_columns_here"] f fd
  d__law_ahead : ∃ f fd, Here K mg "_law_ahead" S__law_ahead ["_law_order_here", "_law_one", "_law_other"] f fd
  d__law_sort : ∃ f fd, Here K mg "_law_sort" S__law_sort ["_law_order_here", "_law_rows"] f fd
  d__law_alike : ∃ f fd, Here K mg "_law_alike" S__law_alike ["_law_names", "_law_one", "_law_other"] f fd
  d__law_row : ∃ f fd, Here K mg "_law_row" S__law_row ["_law_pool_here", "_law_columns_here"] f fd
def signs : Str := Str.ofString " !\"#$&'()*+,-./0123456789:;<=>?@ABCDEFGHIJKLMNOPQRSTUVWXYZ[\\]^_`abcdefghijklmnopqrstuvwxyz{|}~"
/-! draws from a pool -/
def PD (H : Hp) (p : Addr) (n : Nat) : Prop := ∃ a b c : Int, H p = some (.lst [.int a, .int b, .int c]) ∧ 0 ≤ b ∧ b < 2147483648 ∧ 0 ≤ c ∧ c ≤ n
def Keep (d : Addr) (H H' : Hp) : Prop := ∀ p o, p ≠ d → H p = some o → H' p = some o
theorem Keep.refl (d : Addr) (H : Hp) : Keep d H H := fun _ _ _ h => h
theorem Keep.trans {d : Addr} {H H1 H2 : Hp} (a : Keep d H H1) (b : Keep d H1 H2) : Keep d H H2 := fun p o n h => b p o n (a p o n h)
theorem Keep.upd {d : Addr} {H H1 : Hp} {o : HO} (a : Keep d H H1) : Keep d H (L2.upd H1 d o) := fun p u n h => by rw [upd_ne n]; exact a p u n h
theorem Keep.new {d p : Addr} {H H1 : Hp} {o : HO} (a : Keep d H H1) (hp : H p = none) : Keep d H (L2.upd H1 p o) := fun q u n h => by rw [upd_ne (ne_of_none h hp)]; exact a q u n h
theorem Keep.back {d p : Addr} {H H1 : Hp} (a : Keep d H H1) (n : p ≠ d) (h : H1 p = none) : H p = none := by
  cases hh : H p with
  | none => rfl
  | some o => rw [a p o n hh] at h; cases h
theorem PD.other {H : Hp} {p q : Addr} {n : Nat} {o : HO} (D : PD H p n) (h : q ≠ p) : PD (upd H q o) p n := by
  obtain ⟨a, b, c, e, r⟩ := D
  exact ⟨a, b, c, by rw [upd_ne (Ne.symm h)]; exact e, r⟩
theorem PD.ne {H : Hp} {p q : Addr} {n : Nat} (D : PD H p n) (h : H q = none) : q ≠ p := by
  obtain ⟨a, b, c, e, r⟩ := D
  exact Ne.symm (ne_of_none e h)
theorem PD.new {H : Hp} {p q : Addr} {n : Nat} {o : HO} (D : PD H p n) (h : H q = none) : PD (upd H q o) p n := D.other (D.ne h)
theorem PD.mono {H : Hp} {p : Addr} {n m : Nat} (D : PD H p n) (h : n ≤ m) : PD H p m := by
  obtain ⟨a, b, c, e, h1, h2, h3, h4⟩ := D
  exact ⟨a, b, c, e, h1, h2, h3, by omega⟩
theorem PD.at {H : Hp} {p : Addr} {n : Nat} (D : PD H p n) : ∃ xs, H p = some (.lst xs) := by
  obtain ⟨a, b, c, e, r⟩ := D
  exact ⟨_, e⟩
def spPool (K : PySem.W.Frag) : Sp := fun vs H Q _ => ∃ (a : Addr) (ns : List Int) (k : Nat), vs = [.ref a, .int k] ∧ SqL K H a (ns.map V.int) ∧ ns.length ≤ 63 ∧ k < 100 ∧ ∀ p H', H p = none → Same H H' → PD H' p 200000 → Q (.ref p) H'
def spDrawP : Sp := fun vs H Q _ => ∃ (p : Addr) (m : Int) (n : Nat), vs = [.ref p, .int m] ∧ PD H p n ∧ n ≤ 1000000 ∧ 0 < m ∧ m.natAbs.log2 < 9000 ∧ ∀ r H', 0 ≤ r → r < m → PD H' p (n + 1) → Keep p H H' → Q (.int r) H'
section
variable {P : Program} {w : World} {K : PySem.W.Frag} {mg : Str → Option Value} {base : Heap}
theorem ok__law_pool (T : Txt K mg) : Def P w K mg base 1 "_law_pool" ["_law_script", "_law_place"] (spPool K) := by
  obtain ⟨f, fd, h⟩ := T.d__law_pool
  refine h.def (Fun.okM h.fn sc__law_pool (fun vs H Q E h => ?_) (fun cdv A outer s H vs Q E hr h => ?_))
  · obtain ⟨a, ns, k, rfl, _⟩ := h
    rfl
  · obtain ⟨a, ns, kk, rfl, hS, hlen, hk, k⟩ := h
    refine ⟨_, (pss_cons (ps_set (i := 2) sc__law_pool.nd rfl (Or.inl rfl) pe_int)
  (Evl.pss_cut (ps_if (pt_cmpR op_ltG (pv 1) (pe_callB (call_lenG (K := K) rfl) (by rfl) T.h_len (by decide +kernel) (pa_cons (pv 0) pa_nil)) (nomark _))
  (pss_one (ps_set (i := 2) sc__law_pool.nd rfl (Or.inl rfl) (pe_callTy call_intG (by rfl) T.h_int (by decide +kernel) (pa_cons (pe_ix (ix_seqG (K := K) rfl) (pv 0) (pv 1) (fun _ _ => rfl)) pa_nil))))
  pss_nil)
  (pss_cons (ps_if (pt_cmpR op_geG (pv 2) (pe_op op_powG' pe_int pe_int) (nomark _))
  (pss_one (ps_ret (pe_lst (pa_cons (pv 2) (pa_cons (pe_op op_modG (pe_callTy call_intG (by rfl) T.h_int (by decide +kernel) (pa_cons (pv 2) pa_nil)) pe_int) (pa_cons (pe_op op_mulG pe_int (pv 1)) pa_nil))))))
  pss_nil)
  (pss_one (ps_ret (pe_lst (pa_cons pe_int (pa_cons (pe_op op_modG (pe_callTy call_intG (by rfl) T.h_int (by decide +kernel) (pa_cons (pv 2) pa_nil)) pe_int) (pa_cons (pe_op op_mulG pe_int (pv 1)) pa_nil))))))))), ?_⟩
    walk_at "g"
    refine g_cutA (M := fun σ' H' => ∃ c : Int, σ' = [some (.ref a), some (.int kk), some (.int c)] ∧ H' = H) (fun D' hn _ _ _ => ?_) ?_
    · walk_at "g"
      refine g_lenL hS ?_
      walk_at "g"
      refine g_dec (fun h0 => ?_) (fun h0 => ?_)
      · walk_at "g"
        have hk2 : kk < ns.length := by rw [List.length_map] at h0; omega
        refine g_ixL hS (v := .int ns[kk]) (atI_nat (j := kk) (by rw [List.getElem?_map, List.getElem?_eq_getElem hk2]; rfl)) ?_
        walk_at "g"
        exact hn _ _ ⟨_, rfl, rfl⟩
      · walk_at "g"
        exact hn _ _ ⟨_, rfl, rfl⟩
    · rintro σ' H' ⟨c, rfl, rfl⟩
      have key : ∀ a' : Int, ∀ p, H' p = none → Q (.ref p) (upd H' p (.lst [.int a', .int (c % 2147483647), .int (1009 * (kk : Int))])) := fun a' p hp =>
        k p _ hp (fun q o h => by rw [upd_ne (ne_of_none h hp)]; exact h) ⟨_, _, _, upd_same, Int.emod_nonneg _ (by decide), by have := Int.emod_lt_of_pos c (b := 2147483647) (by decide); omega, by omega, by omega⟩
      walk_at "G"
      all_goals exact ⟨by show 3 ≤ sizeLine; decide, fun p hp => key _ p hp⟩
theorem ok__law_draw (T : Txt K mg) : Def P w K mg base 1 "_law_draw" ["_law_pool_here", "_law_many"] spDrawP := by
  obtain ⟨f, fd, h⟩ := T.d__law_draw
  refine h.def (Fun.okM h.fn sc__law_draw (fun vs H Q E h => ?_) (fun cdv A outer s H vs Q E hr h => ?_))
  · obtain ⟨p, m, n, rfl, _⟩ := h
    rfl
  · obtain ⟨p, m, n, rfl, ⟨a, b, c, e, hb0, hb1, hc0, hc1⟩, hn, hm, hml, k⟩ := h
    refine ⟨_, (pss_cons (ps_if (pt_cmpR op_gtG (pe_ix (ix_seqG (K := K) rfl) (pv 0) pe_int (fun _ _ => rfl)) pe_int (nomark _))
  (pss_cons (ps_set (i := 2) sc__law_draw.nd rfl (Or.inl rfl) (pe_op op_modG (pe_callTy call_intG (by rfl) T.h_int (by decide +kernel) (pa_cons (pe_ix (ix_seqG (K := K) rfl) (pv 0) pe_int (fun _ _ => rfl)) pa_nil)) (pv 1)))
  (pss_cons (ps_asg (pe_op op_fdG (pe_ix (ix_seqG (K := K) rfl) (pv 0) pe_int (fun _ _ => rfl)) (pv 1)) (pg_sub (pv 0) pe_int set_list))
  (pss_one (ps_ret (pv 2)))))
  pss_nil)
  (pss_cons (ps_asg (pe_op op_addG (pe_ix (ix_seqG (K := K) rfl) (pv 0) pe_int (fun _ _ => rfl)) pe_int) (pg_sub (pv 0) pe_int set_list))
  (pss_cons (ps_set (i := 3) sc__law_draw.nd rfl (Or.inl rfl) (pe_op op_modG (pe_callTy call_intG (by rfl) T.h_int (by decide +kernel) (pa_cons (pe_op op_powG' (pe_op op_addG (pe_op op_addG (pe_ix (ix_seqG (K := K) rfl) (pv 0) pe_int (fun _ _ => rfl)) (pe_op op_mulG pe_int (pe_ix (ix_seqG (K := K) rfl) (pv 0) pe_int (fun _ _ => rfl)))) pe_int) pe_int) pa_nil)) pe_int))
  (pss_cons (ps_set (i := 3) sc__law_draw.nd rfl (Or.inl rfl) (pe_op op_modG (pe_callTy call_intG (by rfl) T.h_int (by decide +kernel) (pa_cons (pe_op op_powG' (pe_op op_addG (pe_op op_mulG (pv 3) pe_int) (pe_op op_mulG pe_int (pe_ix (ix_seqG (K := K) rfl) (pv 0) pe_int (fun _ _ => rfl)))) pe_int) pa_nil)) pe_int))
  (pss_cons (ps_set (i := 3) sc__law_draw.nd rfl (Or.inl rfl) (pe_op op_modG (pe_callTy call_intG (by rfl) T.h_int (by decide +kernel) (pa_cons (pe_op op_mulG (pv 3) (pe_op op_addG (pe_op op_fdG (pv 3) pe_int) pe_int)) pa_nil)) pe_int))
  (pss_one (ps_ret (pe_op op_modG (pe_callTy call_intG (by rfl) T.h_int (by decide +kernel) (pa_cons (pe_op op_fdG (pv 3) pe_int) pa_nil)) (pv 1))))))))), ?_⟩
    walk_at "g"
    refine g_dec (fun h0 => ?_) (fun h0 => ?_)
    · walk_at "g"
      refine k _ _ (Int.emod_nonneg _ (by omega)) (Int.emod_lt_of_pos _ hm) ⟨_, _, _, upd_same, hb0, hb1, hc0, by omega⟩ (Keep.refl _ _).upd
    · walk_at "g"
      have m1 : ∀ x : Int, 0 ≤ x % 2147483647 ∧ x % 2147483647 < 2147483647 := fun x => ⟨Int.emod_nonneg _ (by decide), Int.emod_lt_of_pos _ (by decide)⟩
      have m2 : ∀ x : Int, 0 ≤ x % 2147483629 ∧ x % 2147483629 < 2147483629 := fun x => ⟨Int.emod_nonneg _ (by decide), Int.emod_lt_of_pos _ (by decide)⟩
      refine k _ _ (Int.emod_nonneg _ (by omega)) (Int.emod_lt_of_pos _ hm) ⟨_, _, _, upd_same, hb0, hb1, by omega, by omega⟩ (Keep.refl _ _).upd
end
/-! values and names from a pool -/
def kS (k : Bool) : Str := if k = true then "text" else "number"
def kdV (k : Bool) (v : V) : Prop := if k = true then ∃ z, v = .str z else ∃ i, v = .int i
theorem sign_at {z : Str} {m : Nat} (h : z.length = m) {r : Int} (r0 : 0 ≤ r) (r1 : r < (m : Int)) : ∃ c, atI z.cps.toList r = some c := by
  obtain ⟨k4, rfl⟩ := Int.eq_ofNat_of_zero_le r0
  have e : z.cps.toList.length = z.length := Array.length_toList
  exact ⟨_, atI_nat (List.getElem?_eq_getElem (by omega))⟩
theorem log_small {m : Int} (h : m.natAbs < 2 ^ 64) : m.natAbs.log2 < 1920 := Nat.lt_of_lt_of_le (PySem.Flt.log2_lt_of (by decide) h) (by decide)
def spValueP : Sp := fun vs H Q _ => ∃ (p : Addr) (kd : Bool) (n : Nat), vs = [.ref p, .str (kS kd)] ∧ PD H p n ∧ n ≤ 900000 ∧ ∀ v H', kdV kd v → PD H' p (n + 60) → Keep p H H' → Q v H'
def sk (z : Str) : Prop := ∀ c ∈ z.cps.toList, c < 128
theorem sk_app {a b : Str} (h : sk a) (k : sk b) : sk (a ++ b) := fun c hc => by
  rw [PySem.W.KT.app_list] at hc
  rcases List.mem_append.mp hc with hc | hc
  · exact h c hc
  · exact k c hc
theorem sk_one {c : Nat} (h : c < 128) : sk ⟨#[c]⟩ := fun d hd => by
  have : d = c := by simpa using hd
  rw [this]; exact h
theorem sk_cut {z : Str} (h : sk z) : sk (cutS z none (some 6)) := fun c hc => by
  have e : (cutS z none (some 6)).cps.toList = ((z.cps.toList.drop 0).take (HT.sIx z.length z.length (some ((6 : Nat) : Int)) - 0)) := rfl
  rw [e] at hc
  exact h c (List.mem_of_mem_drop (List.mem_of_mem_take hc))
theorem sign_in {z : Str} {m : Nat} (h : z.length = m) {r : Int} (r0 : 0 ≤ r) (r1 : r < (m : Int)) : ∃ c, c ∈ z.cps.toList ∧ atI z.cps.toList r = some c := by
  obtain ⟨k4, rfl⟩ := Int.eq_ofNat_of_zero_le r0
  have e : z.cps.toList.length = z.length := Array.length_toList
  exact ⟨_, List.getElem_mem (by omega), atI_nat (List.getElem?_eq_getElem (by omega))⟩
def spNameP : Sp := fun vs H Q _ => ∃ (p L : Addr) (xs : List Str) (n : Nat), vs = [.ref p, .ref L] ∧ PD H p n ∧ n ≤ 900000 ∧ L ≠ p ∧ H L = some (.lst (xs.map V.str)) ∧ ∀ z H', sk z → PD H' p (n + 20) → Keep p H H' → Q (.str z) H'
section
variable {P : Program} {w : World} {K : PySem.W.Frag} {mg : Str → Option Value} {base : Heap}
theorem ok__law_value (T : Txt K mg) : Def P w K mg base 2 "_law_value" ["_law_pool_here", "_law_kind"] spValueP := by
  obtain ⟨f, fd, h⟩ := T.d__law_value
  refine h.def (Fun.okM h.fn sc__law_value (fun vs H Q E h => ?_) (fun cdv A outer s H vs Q E hr h => ?_))
  · obtain ⟨p, kd, n, rfl, _⟩ := h
    rfl
  · obtain ⟨p, kd, n, rfl, hD, hn, k⟩ := h
    refine ⟨_, (pss_cons (ps_set (i := 2) sc__law_value.nd rfl (Or.inl rfl) (pe_cmpR op_eq (pe_def (ok__law_draw T) hr rfl (pa_cons (pv 0) (pa_cons pe_int pa_nil))) pe_int (nomark _)))
  (pss_cons (ps_if (pt_cmpR op_eq (pv 1) pe_str (nomark _))
  (Evl.pss_cut (ps_if (pt_val (pv 2))
  (pss_one (ps_ret (pe_op op_addG (pe_op op_subG (pe_def (ok__law_draw T) hr rfl (pa_cons (pv 0) (pa_cons (pe_op op_subG (pe_op op_mulG pe_int (pe_op op_powG' pe_int pe_int)) pe_int) pa_nil))) (pe_op op_powG' pe_int pe_int)) pe_int)))
  pss_nil)
  (pss_one (ps_ret (pe_op op_subG (pe_def (ok__law_draw T) hr rfl (pa_cons (pv 0) (pa_cons pe_int pa_nil))) pe_int))))
  pss_nil)
  (pss_cons (ps_set (i := 3) sc__law_value.nd rfl (Or.inl rfl) pe_str)
  (pss_cons (ps_set (i := 4) sc__law_value.nd rfl (Or.inl rfl) (pe_def (ok__law_draw T) hr rfl (pa_cons (pv 0) (pa_cons pe_int pa_nil))))
  (Evl.pss_cut (ps_if (pt_val (pv 2))
  (pss_one (ps_set (i := 4) sc__law_value.nd rfl (Or.inl rfl) (pe_def (ok__law_draw T) hr rfl (pa_cons (pv 0) (pa_cons pe_int pa_nil)))))
  pss_nil)
  (pss_cons (ps_set (i := 5) sc__law_value.nd rfl (Or.inl rfl) pe_str)
  (pss_cons (ps_for PassesOwn.never rfl (pi_range1 rfl T.h_range (pa_cons (pv 4) pa_nil)) (pg_name (i := 6) sc__law_value.nd rfl (Or.inl rfl))
  (pss_one (ps_if (pt_val (pv 2))
  (pss_one (ps_set (i := 5) sc__law_value.nd rfl (Or.inl rfl) (pe_op op_addG (pv 5) (pe_ix (ix_seqG (K := K) rfl) (pv 3) (pe_def (ok__law_draw T) hr rfl (pa_cons (pv 0) (pa_cons pe_int pa_nil))) (fun _ _ => rfl)))))
  (pss_one (ps_set (i := 5) sc__law_value.nd rfl (Or.inl rfl) (pe_op op_addG (pv 5) (pe_ix (ix_seqG (K := K) rfl) pe_str (pe_def (ok__law_draw T) hr rfl (pa_cons (pv 0) (pa_cons pe_int pa_nil))) (fun _ _ => rfl))))))))
  (pss_one (ps_ret (pv 5)))))))))), ?_⟩
    walk_at "g"
    refine ⟨_, _, _, rfl, hD, by omega, by decide, by decide +kernel, fun r H1 r0 r1 D1 K1 => ?_⟩
    walk_at "g"
    generalize decide (r = 5) = wd
    cases kd with
    | false =>
      refine g_dec (fun _ => ?_) (fun h => absurd rfl h)
      refine g_cutA (M := fun σ' H' => σ' = [some (.ref p), some (.str (kS false)), some (.bl wd), none, none, none, none] ∧ H' = H1) (fun D' hn1 hrt _ _ => ?_) ?_
      · walk_at "g"
        refine g_split (fun _ => ?_) (fun _ => ?_)
        · walk_at "g"
          refine ⟨_, _, _, rfl, D1, by omega, by decide, by decide +kernel, fun r2 H2 r20 r21 D2 K2 => ?_⟩
          walk_at "g"
          rw [hrt]
          exact k _ _ ⟨_, rfl⟩ (D2.mono (by omega)) (K1.trans K2)
        · walk_at "g"
          exact hn1 _ _ ⟨rfl, rfl⟩
      · rintro σ' H' ⟨rfl, rfl⟩
        walk_at "g"
        refine ⟨_, _, _, rfl, D1, by omega, by decide, by decide +kernel, fun r2 H2 r20 r21 D2 K2 => ?_⟩
        walk_at "g"
        exact k _ _ ⟨_, rfl⟩ (D2.mono (by omega)) (K1.trans K2)
    | true =>
      refine g_dec (fun h => absurd h (show ("text" : Str) ≠ "number" by decide +kernel)) (fun _ => ?_)
      walk_at "g"
      generalize hz0 : Str.ofString " !\"#$&'()*+,-./0123456789:;<=>?@ABCDEFGHIJKLMNOPQRSTUVWXYZ[\\]^_`abcdefghijklmnopqrstuvwxyz{|}~" = zc
      have hzc : zc.length = 94 := by rw [← hz0]; decide +kernel
      clear hz0
      refine ⟨_, _, _, rfl, D1, by omega, by decide, by decide +kernel, fun r2 H2 r20 r21 D2 K2 => ?_⟩
      have K02 := K1.trans K2
      refine g_cutA (M := fun σ' H' => ∃ m : Int, σ' = [some (.ref p), some (.str (kS true)), some (.bl wd), some (.str zc), some (.int m), none, none] ∧ 0 ≤ m ∧ m < 41 ∧ PD H' p (n + 3) ∧ Keep p H H') (fun D' hn1 hrt _ _ => ?_) ?_
      · walk_at "g"
        refine g_split (fun _ => ?_) (fun _ => ?_)
        · walk_at "g"
          refine ⟨_, _, _, rfl, D2, by omega, by decide, by decide +kernel, fun r3 H3 r30 r31 D3 K3 => ?_⟩
          walk_at "g"
          exact hn1 _ _ ⟨_, rfl, r30, r31, D3.mono (by omega), K02.trans K3⟩
        · walk_at "g"
          exact hn1 _ _ ⟨_, rfl, r20, by omega, D2.mono (by omega), K02⟩
      · rintro σ' H3 ⟨m, rfl, m0, m1, D3, K3⟩
        walk_at "g"
        refine ⟨_, rfl, by omega, by omega, ?_⟩
        refine for_rangeA (fun i σ' H' => ∃ (z : Str) (s6 : Option V), σ' = [some (.ref p), some (.str (kS true)), some (.bl wd), some (.str zc), some (.int m), some (.str z), s6] ∧ z.length ≤ i ∧ PD H' p (n + 3 + i) ∧ Keep p H H') ⟨_, none, rfl, Nat.le_refl _, D3, K3⟩ ?_ ?_
        · rintro i σ' H4 D' hi ⟨z, s6, rfl, hz, D4, K4⟩ hnx hct hbk hrt
          have hi41 : i < 41 := by omega
          walk_at "g"
          refine g_split (fun _ => ?_) (fun _ => ?_)
          · walk_at "g"
            refine ⟨_, _, _, rfl, D4, by omega, by decide, by decide +kernel, fun r5 H5 r50 r51 D5 K5 => ?_⟩
            obtain ⟨c, hc⟩ := sign_at hzc r50 r51
            refine g_ixS (n := c) (by rw [hzc]; decide) hc ?_
            have hl1 : (z ++ (⟨#[c]⟩ : Str)).length = z.length + 1 := by rw [PySem.Str.length_append]; rfl
            refine g_addS (by rw [sizeLine_eq]; show z.length + 1 ≤ _; omega) ?_
            walk_at "g"
            exact hnx _ _ ⟨_, _, rfl, by omega, D5, K4.trans K5⟩
          · walk_at "g"
            refine ⟨_, _, _, rfl, D4, by omega, by decide, by decide +kernel, fun r5 H5 r50 r51 D5 K5 => ?_⟩
            obtain ⟨c, hc⟩ := sign_at (z := Str.ofString " a~") (m := 3) (by decide +kernel) r50 r51
            refine g_ixS (n := c) (by decide +kernel) hc ?_
            have hl1 : (z ++ (⟨#[c]⟩ : Str)).length = z.length + 1 := by rw [PySem.Str.length_append]; rfl
            refine g_addS (by rw [sizeLine_eq]; show z.length + 1 ≤ _; omega) ?_
            walk_at "g"
            exact hnx _ _ ⟨_, _, rfl, by omega, D5, K4.trans K5⟩
        · rintro σ' H4 ⟨z, s6, rfl, hz, D4, K4⟩
          walk_at "g"
          exact k _ _ ⟨_, rfl⟩ (D4.mono (by omega)) K4
theorem ok__law_name (T : Txt K mg) : Def P w K mg base 2 "_law_name" ["_law_pool_here", "_law_taken"] spNameP := by
  obtain ⟨f, fd, h⟩ := T.d__law_name
  refine h.def (Fun.okM h.fn sc__law_name (fun vs H Q E h => ?_) (fun cdv A outer s H vs Q E hr h => ?_))
  · obtain ⟨p, L, xs, n, rfl, _⟩ := h
    rfl
  · obtain ⟨p, L, xs, n, rfl, hD, hn, hLp, hL, k⟩ := h
    refine ⟨_, (pss_cons (ps_set (i := 2) sc__law_name.nd rfl (Or.inl rfl) pe_str)
  (pss_cons (ps_set (i := 3) sc__law_name.nd rfl (Or.inl rfl) (pe_ix (ix_seqG (K := K) rfl) (pv 2) (pe_def (ok__law_draw T) hr rfl (pa_cons (pv 0) (pa_cons pe_int pa_nil))) (fun _ _ => rfl)))
  (pss_cons (ps_set (i := 4) sc__law_name.nd rfl (Or.inl rfl) (pe_ix (ix_seqG (K := K) rfl) (pe_lst (pa_cons pe_int (pa_cons pe_int (pa_cons pe_int (pa_cons pe_int (pa_cons pe_int pa_nil)))))) (pe_def (ok__law_draw T) hr rfl (pa_cons (pv 0) (pa_cons pe_int pa_nil))) (fun _ _ => rfl)))
  (pss_cons (ps_for PassesOwn.never rfl (pi_range1 rfl T.h_range (pa_cons (pv 4) pa_nil)) (pg_name (i := 5) sc__law_name.nd rfl (Or.inl rfl))
  (pss_one (ps_set (i := 3) sc__law_name.nd rfl (Or.inl rfl) (pe_op op_addG (pv 3) (pe_ix (ix_seqG (K := K) rfl) (pv 2) (pe_def (ok__law_draw T) hr rfl (pa_cons (pv 0) (pa_cons pe_int pa_nil))) (fun _ _ => rfl))))))
  (Evl.pss_cut (ps_if (pt_cmpR (op_inG (K := K) rfl) (pv 3) (pe_lst (pa_cons pe_str (pa_cons pe_str (pa_cons pe_str (pa_cons pe_str (pa_cons pe_str (pa_cons pe_str (pa_cons pe_str (pa_cons pe_str (pa_cons pe_str (pa_cons pe_str pa_nil))))))))))) (by rfl))
  (pss_one (ps_set (i := 3) sc__law_name.nd rfl (Or.inl rfl) (pe_op op_addG (pe_slice (sl_G (K := K) rfl) (pv 3) po_none (po_some pe_int)) pe_str)))
  pss_nil)
  (pss_cons (ps_for PassesOwn.never rfl (pi_range1 rfl T.h_range (pa_cons pe_int pa_nil)) (pg_name (i := 5) sc__law_name.nd rfl (Or.inl rfl))
  (pss_one (ps_if (pt_cmpR (op_inG (K := K) rfl) (pv 3) (pv 1) (by rfl))
  (pss_one (ps_set (i := 3) sc__law_name.nd rfl (Or.inl rfl) (pe_op op_addG (pe_slice (sl_G (K := K) rfl) (pv 3) po_none (po_some pe_int)) (pe_callTy call_str_int (by rfl) T.h_str (by decide +kernel) (pa_cons (pv 5) pa_nil)))))
  pss_nil)))
  (pss_one (ps_ret (pv 3))))))))), ?_⟩
    walk_at "g"
    generalize hz0 : Str.ofString "abcdefghijklmnopqrstuvwxyz0123456789" = zc
    have hzc : zc.length = 36 := by rw [← hz0]; decide +kernel
    have hsk : sk zc := by rw [← hz0]; unfold sk; decide +kernel
    clear hz0
    refine ⟨_, _, _, rfl, hD, by omega, by decide, by decide +kernel, fun r H1 r0 r1 D1 K1 => ?_⟩
    obtain ⟨c, hcm, hc⟩ := sign_in hzc r0 (by omega)
    have hc1 := hsk c hcm
    refine g_ixS (n := c) (by rw [hzc]; decide) hc ?_
    walk_at "g"
    refine ⟨by show 5 ≤ sizeLine; decide, fun q hq => ?_⟩
    have nq := D1.ne hq
    have D2 := D1.new (o := .lst [.int 0, .int 0, .int 1, .int 2, .int 6]) hq
    have K2 := K1.new (o := .lst [.int 0, .int 0, .int 1, .int 2, .int 6]) (K1.back nq hq)
    have e2 : (upd H1 q (.lst [.int 0, .int 0, .int 1, .int 2, .int 6])) q = some (.lst [.int 0, .int 0, .int 1, .int 2, .int 6]) := upd_same
    generalize upd H1 q (.lst [.int 0, .int 0, .int 1, .int 2, .int 6]) = H2 at D2 K2 e2
    walk_at "g"
    refine ⟨_, _, _, rfl, D2, by omega, by decide, by decide +kernel, fun r3 H3 r30 r31 D3 K3 => ?_⟩
    obtain ⟨m, hm, m0, m1⟩ : ∃ m : Int, atI [V.int 0, V.int 0, V.int 1, V.int 2, V.int 6] r3 = some (.int m) ∧ 0 ≤ m ∧ m ≤ 6 := by
      have : r3 = 0 ∨ r3 = 1 ∨ r3 = 2 ∨ r3 = 3 ∨ r3 = 4 := by omega
      rcases this with rfl | rfl | rfl | rfl | rfl
      · exact ⟨0, rfl, by decide, by decide⟩
      · exact ⟨0, rfl, by decide, by decide⟩
      · exact ⟨1, rfl, by decide, by decide⟩
      · exact ⟨2, rfl, by decide, by decide⟩
      · exact ⟨6, rfl, by decide, by decide⟩
    refine g_ixL (SqL.of (K3 _ _ nq e2)) hm ?_
    have K03 := K2.trans K3
    walk_at "g"
    refine ⟨_, rfl, by omega, by omega, ?_⟩
    refine for_rangeA (fun i σ' H' => ∃ (z : Str) (s5 : Option V), σ' = [some (.ref p), some (.ref L), some (.str zc), some (.str z), some (.int m), s5] ∧ z.length ≤ i + 1 ∧ sk z ∧ PD H' p (n + 2 + i) ∧ Keep p H H') ⟨_, none, rfl, Nat.le_refl _, sk_one hc1, D3.mono (by omega), K03⟩ ?_ ?_
    · rintro i σ' H4 D' hi ⟨z, s5, rfl, hz, hsz, D4, K4⟩ hnx hct hbk hrt
      walk_at "g"
      refine ⟨_, _, _, rfl, D4, by omega, by decide, by decide +kernel, fun r5 H5 r50 r51 D5 K5 => ?_⟩
      obtain ⟨c, hcm, hc⟩ := sign_in hzc r50 (by omega)
      refine g_ixS (n := c) (by rw [hzc]; decide) hc ?_
      have hl1 : (z ++ (⟨#[c]⟩ : Str)).length = z.length + 1 := by rw [PySem.Str.length_append]; rfl
      refine g_addS (by rw [sizeLine_eq]; show z.length + 1 ≤ _; omega) ?_
      walk_at "g"
      exact hnx _ _ ⟨_, _, rfl, by omega, sk_app hsz (sk_one (hsk c hcm)), D5, K4.trans K5⟩
    · rintro σ' H4 ⟨z, s5, rfl, hz, hsz, D4, K4⟩
      have cut6 : ∀ y : Str, (cutS y none (some 6)).length ≤ 6 := fun y => by
        show (cutS y none (some 6)).cps.size ≤ _
        rw [← Array.length_toList]
        show ((y.cps.toList.drop 0).take (HT.sIx y.length y.length (some ((6 : Nat) : Int)) - 0)).length ≤ 6
        rw [HT.sIx_nat, List.length_take]
        omega
      refine g_seq ?_
      refine g_cutA (M := fun σ' H' => ∃ (z : Str) (s5 : Option V), σ' = [some (.ref p), some (.ref L), some (.str zc), some (.str z), some (.int m), s5] ∧ z.length ≤ 100 ∧ sk z ∧ PD H' p (n + 20) ∧ Keep p H H') (fun D' hn1 hrt _ _ => ?_) ?_
      · walk_at "g"
        refine ⟨by show 10 ≤ sizeLine; decide, fun q hq => ?_⟩
        refine .inr ⟨_, [Str.ofString "and", Str.ofString "or", Str.ofString "not", Str.ofString "sure", Str.ofString "in", Str.ofString "is", Str.ofString "empty", Str.ofString "begins", Str.ofString "always", Str.ofString "never"].map V.str, rfl, .inl (SqL.of upd_same), rfl, Tw.flat_strs _, ?_⟩
        have nq := D4.ne hq
        have D5 := (D4.mono (m := n + 20) (by omega)).new (o := .lst ([Str.ofString "and", Str.ofString "or", Str.ofString "not", Str.ofString "sure", Str.ofString "in", Str.ofString "is", Str.ofString "empty", Str.ofString "begins", Str.ofString "always", Str.ofString "never"].map V.str)) hq
        have K5 := K4.new (o := .lst ([Str.ofString "and", Str.ofString "or", Str.ofString "not", Str.ofString "sure", Str.ofString "in", Str.ofString "is", Str.ofString "empty", Str.ofString "begins", Str.ofString "always", Str.ofString "never"].map V.str)) (K4.back nq hq)
        walk_at "g"
        rw [if_neg Bool.false_ne_true]
        refine g_split (fun _ => ?_) (fun _ => ?_)
        · walk_at "g"
          refine g_slS (by rw [sizeLine_eq]; omega) ?_
          walk_at "g"
          have c6 := cut6 z
          have h0 : (Str.ofString "0").length = 1 := by decide +kernel
          refine g_addS (by rw [sizeLine_eq]; omega) ?_
          walk_at "g"
          exact hn1 _ _ ⟨_, _, rfl, by rw [PySem.Str.length_append]; omega, sk_app (sk_cut hsz) (by unfold sk; decide +kernel), D5, K5⟩
        · walk_at "g"
          exact hn1 _ _ ⟨_, _, rfl, by omega, hsz, D5, K5⟩
      · rintro σ' H5 ⟨z, s5, rfl, hz, hsz, D5, K5⟩
        have hL5 := K5 _ _ hLp hL
        walk_at "g"
        refine ⟨_, rfl, by omega, by omega, ?_⟩
        refine for_rangeA (fun i σ' H' => ∃ (z : Str) (s5 : Option V), σ' = [some (.ref p), some (.ref L), some (.str zc), some (.str z), some (.int m), s5] ∧ z.length ≤ 100 ∧ sk z ∧ H' = H5) ⟨_, _, rfl, hz, hsz, rfl⟩ ?_ ?_
        · rintro i σ' H6 D' hi ⟨z, s5, rfl, hz, hsz, rfl⟩ hnx hct hbk hrt
          walk_at "g"
          refine .inr ⟨_, xs.map V.str, rfl, .inl (SqL.of hL5), rfl, Tw.flat_strs _, ?_⟩
          rw [if_neg Bool.false_ne_true]
          walk_at "g"
          refine g_split (fun _ => ?_) (fun _ => ?_)
          · walk_at "g"
            refine g_slS (by rw [sizeLine_eq]; omega) ?_
            walk_at "g"
            have hlog : (0 + (i : Int)).natAbs.log2 < 1920 := log_small (by omega)
            refine ⟨_, rfl, hlog, ?_⟩
            have c6 := cut6 z
            have hd : ∀ j : Nat, j < 9 → (Str.ofString (toString (0 + (j : Int)))).length ≤ 2 := by decide +kernel
            have hdi := hd i (by simpa using hi)
            have hds : ∀ j : Nat, j < 9 → ∀ c ∈ (Str.ofString (toString (0 + (j : Int)))).cps.toList, c < 128 := by decide +kernel
            refine g_addS (by rw [sizeLine_eq]; omega) ?_
            walk_at "g"
            exact hnx _ _ ⟨_, _, rfl, by rw [PySem.Str.length_append]; omega, sk_app (sk_cut hsz) (hds i (by simpa using hi)), rfl⟩
          · walk_at "g"
            exact hnx _ _ ⟨_, _, rfl, hz, hsz, rfl⟩
        · rintro σ' H6 ⟨z, s5, rfl, hz, hsz, rfl⟩
          walk_at "g"
          exact k _ _ hsz D5 K5
end
/-! columns, orders, rows -/
def LAt (H : Hp) (L : Addr) (ts : List (List V)) : Prop := ∃ qs : List Addr, H L = some (.lst (qs.map V.ref)) ∧ qs.length = ts.length ∧ ∀ (i : Nat) (q : Addr) (t : List V), qs[i]? = some q → ts[i]? = some t → H q = some (.tup t)
theorem LAt.keep {H H' : Hp} {L : Addr} {ts : List (List V)} (h : LAt H L ts) (k : ∀ q o, H q = some o → H' q = some o) : LAt H' L ts := by
  obtain ⟨qs, h1, h2, h3⟩ := h
  exact ⟨qs, k _ _ h1, h2, fun i q t hq ht => k _ _ (h3 i q t hq ht)⟩
theorem LAt.keepP {H H' : Hp} {L p : Addr} {ts : List (List V)} (h : LAt H L ts) (n : L ≠ p) (hp : ∃ xs, H p = some (.lst xs)) (k : Keep p H H') : LAt H' L ts := by
  obtain ⟨qs, h1, h2, h3⟩ := h
  refine ⟨qs, k _ _ n h1, h2, fun i q t hq ht => ?_⟩
  have e := h3 i q t hq ht
  exact k _ _ (fun z => by obtain ⟨xs, hx⟩ := hp; rw [z, hx] at e; cases e) e
theorem LAt.app {H : Hp} {L t : Addr} {ts : List (List V)} {qs : List Addr} {x : List V} (h : LAt H L ts) (e : H L = some (.lst (qs.map V.ref))) (ht : H t = none) :
    LAt (upd (upd H t (.tup x)) L (.lst (qs.map V.ref ++ [.ref t]))) L (ts ++ [x]) := by
  obtain ⟨qs', h1, h2, h3⟩ := h
  obtain rfl : qs' = qs := by
    rw [e] at h1
    injection h1 with e
    injection e with e
    exact ((List.map_inj_right (fun a b h => by injection h)).mp e).symm
  have nt : L ≠ t := ne_of_none e ht
  refine ⟨qs' ++ [t], by rw [upd_same, List.map_append]; rfl, by rw [List.length_append, List.length_append, h2]; rfl, fun i q u hq hu => ?_⟩
  by_cases hlt : i < qs'.length
  · rw [List.getElem?_append_left hlt] at hq
    rw [List.getElem?_append_left (by omega)] at hu
    have e' := h3 i q u hq hu
    rw [upd_ne (fun z => by rw [z, e] at e'; cases e'), upd_ne (ne_of_none e' ht)]
    exact e'
  · rw [List.getElem?_append_right (by omega)] at hq
    rw [List.getElem?_append_right (by omega), ← h2] at hu
    obtain ⟨hi0, _⟩ := List.getElem?_eq_some_iff.mp hq
    have : i - qs'.length = 0 := by simpa using hi0
    rw [this] at hq hu
    obtain rfl : t = q := by simpa using hq
    obtain rfl : x = u := by simpa using hu
    rw [upd_ne (Ne.symm nt)]
    exact upd_same
theorem LAt.get {H : Hp} {L : Addr} {ts : List (List V)} (h : LAt H L ts) {qs : List Addr} (e : H L = some (.lst (qs.map V.ref))) : qs.length = ts.length ∧ ∀ (i : Nat) (q : Addr) (t : List V), qs[i]? = some q → ts[i]? = some t → H q = some (.tup t) := by
  obtain ⟨qs', h1, h2, h3⟩ := h
  obtain rfl : qs' = qs := by
    rw [e] at h1
    injection h1 with e
    injection e with e
    exact ((List.map_inj_right (fun a b h => by injection h)).mp e).symm
  exact ⟨h2, h3⟩
abbrev Col := Str × Bool × Bool
def ct (c : Col) : List V := [.str c.1, .str (kS c.2.1), .bl c.2.2]
def dS (up : Bool) : Str := if up = true then "up" else "down"
def pt (c : Str × Bool) : List V := [.str c.1, .str (dS c.2)]
def kdA (cs : List Col) : Str → Option Bool := cs.foldl (fun f x => fun c => if c = x.1 then some x.2.1 else f c) (fun _ => none)
theorem kdA_app {cs : List Col} {x : Col} {c : Str} : kdA (cs ++ [x]) c = if c = x.1 then some x.2.1 else kdA cs c := by
  unfold kdA
  rw [List.foldl_append]
  rfl
theorem kdA_mem {cs : List Col} {x : Col} (h : x ∈ cs) : ∃ kd, kdA cs x.1 = some kd := by
  have key : ∀ (r : List Col) (l : List Col), x ∈ l ++ r → (x ∈ l → ∃ kd, kdA l x.1 = some kd) → ∃ kd, kdA (l ++ r) x.1 = some kd := by
    intro r
    induction r with
    | nil => intro l h k; rw [List.append_nil] at h ⊢; exact k h
    | cons y r ih =>
      intro l h k
      have e : l ++ y :: r = (l ++ [y]) ++ r := by simp
      rw [e] at h ⊢
      refine ih (l ++ [y]) h fun hm => ?_
      rw [kdA_app]
      by_cases hx : x.1 = y.1
      · rw [if_pos hx]; exact ⟨_, rfl⟩
      · rw [if_neg hx]
        rcases List.mem_append.mp hm with hm | hm
        · exact k hm
        · exact absurd (by rw [List.mem_singleton.mp hm]) hx
  exact key cs [] h fun hm => nomatch hm
theorem strs_of : ∀ {ys : List V}, (∀ y ∈ ys, ∃ z, y = .str z) → ∃ xs : List Str, ys = xs.map V.str
  | [], _ => ⟨[], rfl⟩
  | y :: ys, h => by
    obtain ⟨z, rfl⟩ := h y List.mem_cons_self
    obtain ⟨xs, rfl⟩ := strs_of fun y hy => h y (List.mem_cons_of_mem _ hy)
    exact ⟨z :: xs, rfl⟩
def spColsP : Sp := fun vs H Q _ => ∃ (p : Addr) (m : Int) (n : Nat), vs = [.ref p, .int m] ∧ PD H p n ∧ n ≤ 800000 ∧ 0 < m ∧ m ≤ 12 ∧ ∀ (L : Addr) (cs : List Col) (H' : Hp), cs ≠ [] → cs.length ≤ 12 → (∀ c ∈ cs, sk c.1) → LAt H' L (cs.map ct) → H L = none → Keep p H H' → Q (.ref L) H'
def spOrderP : Sp := fun vs H Q _ => ∃ (p L : Addr) (cs : List Col) (n : Nat), vs = [.ref p, .ref L] ∧ PD H p n ∧ n ≤ 800000 ∧ LAt H L (cs.map ct) ∧ cs ≠ [] ∧ cs.length ≤ 12 ∧ (∀ c ∈ cs, sk c.1) ∧ L ≠ p ∧ ∀ (O : Addr) (ps : List (Str × Bool)) (H' : Hp), ps.length ≤ 2 → (∀ c ∈ ps, (∃ kd, kdA cs c.1 = some kd) ∧ sk c.1) → LAt H' O (ps.map pt) → H O = none → Keep p H H' → Q (.ref O) H'
section
variable {P : Program} {w : World} {K : PySem.W.Frag} {mg : Str → Option Value} {base : Heap}
theorem ok__law_columns (T : Txt K mg) : Def P w K mg base 3 "_law_columns" ["_law_pool_here", "_law_most"] spColsP := by
  obtain ⟨f, fd, h⟩ := T.d__law_columns
  refine h.def (Fun.okM h.fn sc__law_columns (fun vs H Q E h => ?_) (fun cdv A outer s H vs Q E hr h => ?_))
  · obtain ⟨p, m, n, rfl, _⟩ := h
    rfl
  · obtain ⟨p, m, n, rfl, hD, hn, hm0, hm, k⟩ := h
    refine ⟨_, (pss_cons (ps_set (i := 2) sc__law_columns.nd rfl (Or.inl rfl) (pe_lst pa_nil))
  (pss_cons (ps_for PassesOwn.never rfl (pi_range1 rfl T.h_range (pa_cons (pe_op op_addG pe_int (pe_def (ok__law_draw T) hr rfl (pa_cons (pv 0) (pa_cons (pv 1) pa_nil)))) pa_nil)) (pg_name (i := 3) sc__law_columns.nd rfl (Or.inl rfl))
  (pss_cons (ps_set (i := 4) sc__law_columns.nd rfl (Or.inl rfl) (pe_def (ok__law_name T) hr rfl (pa_cons (pv 0) (pa_cons (pe_lc (own := [("_law_column", 5)]) rfl sc__law_columns.nd (pi_list (pv 2)) (blkOk_by (N := N__law_columns) (sc := defScope S__law_columns) (by decide +kernel)) (fun _ _ _ _ _ => pg_name (i := 5) sc__law_columns.nd rfl (Or.inl rfl)) (fun _ _ _ _ _ => pts_nil) (fun _ _ _ _ _ => (pe_ix (ix_seqG (K := K) rfl) (pv 5) pe_int (fun _ _ => rfl)))) pa_nil))))
  (pss_one (ps_expr (pe_bm PySem.F.plainAttrs_list PySem.F.slot_list_append PySem.F.type_list_append mt_append (pv 2) (pa_cons (pe_tup (pa_cons (pv 4) (pa_cons (pe_ix (ix_seqG (K := K) rfl) (pe_lst (pa_cons pe_str (pa_cons pe_str (pa_cons pe_str pa_nil)))) (pe_def (ok__law_draw T) hr rfl (pa_cons (pv 0) (pa_cons pe_int pa_nil))) (fun _ _ => rfl)) (pa_cons (pe_cmpR op_eq (pe_def (ok__law_draw T) hr rfl (pa_cons (pv 0) (pa_cons pe_int pa_nil))) pe_int (nomark _)) pa_nil)))) pa_nil))))))
  (pss_one (ps_ret (pv 2))))), ?_⟩
    walk_at "g"
    refine ⟨Nat.zero_le _, fun L hL => ?_⟩
    have nL := hD.ne hL
    have D1 := hD.new (o := .lst []) hL
    have K1 := (Keep.refl p H).new (o := .lst []) hL
    have e1 : LAt (upd H L (.lst [])) L (([] : List Col).map ct) := ⟨[], upd_same, rfl, fun i q t h => by simp at h⟩
    generalize upd H L (.lst []) = H1 at D1 K1 e1
    walk_at "g"
    refine ⟨_, _, _, rfl, D1, by omega, hm0, Nat.lt_of_lt_of_le (log_small (by omega)) (by decide), fun r H2 r0 r1 D2 K2 => ?_⟩
    walk_at "g"
    refine ⟨_, rfl, by omega, by omega, ?_⟩
    refine for_rangeA (fun i σ' H' => ∃ (s3 s4 s5 : Option V) (cs : List Col), σ' = [some (.ref p), some (.int m), some (.ref L), s3, s4, s5] ∧ PD H' p (n + 1 + 30 * i) ∧ Keep p H H' ∧ LAt H' L (cs.map ct) ∧ cs.length = i ∧ ∀ c ∈ cs, sk c.1) ⟨none, none, none, [], rfl, D2, K1.trans K2, e1.keepP nL D1.at K2, rfl, fun c hc => (nomatch hc)⟩ ?_ ?_
    · rintro i σ' H4 D' hi ⟨s3, s4, s5, cs, rfl, D4, K4, hC4, rfl, hcsk⟩ hnx hct hbk hrt
      have hi12 : cs.length < 12 := by omega
      obtain ⟨qs, hq4, hlen, hcol⟩ := id hC4
      rw [List.length_map] at hlen
      walk_at "g"
      refine ⟨L, rfl, ⟨_, SqL.of hq4⟩, fun Do hDo => ?_⟩
      refine lc_any (qs.map V.ref) (fun y => ∃ z, y = .str z) hDo (fun H2 k2 => fits_l (SqL.of (k2 _ _ hq4))) (by rw [List.length_map]; omega) (fun x Hh R S hx kh hR hS => ?_) (fun H5 ys k5 h5' hys hyl => ?_)
      · obtain ⟨q2, hq2, rfl⟩ := List.mem_map.mp hx
        obtain ⟨j2, hj2, rfl⟩ := List.mem_iff_getElem.mp hq2
        obtain ⟨c2, hc2⟩ : ∃ c, cs[j2]? = some c := ⟨_, List.getElem?_eq_getElem (by omega)⟩
        have e2 := kh _ _ (hcol j2 qs[j2] (ct c2) (List.getElem?_eq_getElem hj2) (by rw [List.getElem?_map, hc2]; rfl))
        walk_at "g"
        refine ⟨rfl, ?_⟩
        walk_at "g"
        refine g_ixT (SqT.of e2) (v := .str c2.1) (by rfl) ?_
        exact hR _ ⟨_, rfl⟩
      · obtain ⟨xs, rfl⟩ := strs_of hys
        have D5 : PD H5 p (n + 1 + 30 * cs.length) := by
          obtain ⟨a, b, c, e, r⟩ := D4
          exact ⟨a, b, c, k5 _ _ e, r⟩
        have hDp : Do ≠ p := D4.ne hDo
        have K5 : Keep p H H5 := fun q o nq h => k5 _ _ (K4 q o nq h)
        have hC5 := hC4.keep k5
        walk_at "g"
        refine ⟨_, _, _, _, rfl, D5, by omega, hDp, h5', fun z H6 hzk D6 K6 => ?_⟩
        have hC6 := hC5.keepP nL D5.at K6
        have K06 := K5.trans K6
        obtain ⟨qs6, hq6, _⟩ := id hC6
        walk_at "g"
        refine ⟨by show 3 ≤ sizeLine; decide, fun l hl => ?_⟩
        have nl := D6.ne hl
        have D7 := D6.new (o := .lst [.str (kS false), .str (kS true), .str (kS false)]) hl
        have K7 := K06.new (o := .lst [.str (kS false), .str (kS true), .str (kS false)]) (K06.back nl hl)
        have hC7 := hC6.keep (H' := upd H6 l (.lst [.str (kS false), .str (kS true), .str (kS false)])) (fun q o h => by rw [upd_ne (ne_of_none h hl)]; exact h)
        have e7 : (upd H6 l (.lst [.str (kS false), .str (kS true), .str (kS false)])) l = some (.lst [.str (kS false), .str (kS true), .str (kS false)]) := upd_same
        have e0 : upd H6 l (.lst [.str (Str.ofString "number"), .str (Str.ofString "text"), .str (Str.ofString "number")]) = upd H6 l (.lst [.str (kS false), .str (kS true), .str (kS false)]) := rfl
        rw [e0]
        generalize upd H6 l (.lst [.str (kS false), .str (kS true), .str (kS false)]) = H7 at D7 K7 hC7 e7
        walk_at "g"
        refine ⟨_, _, _, rfl, D7, by omega, by decide, by decide +kernel, fun r2 H8 r20 r21 D8 K8 => ?_⟩
        obtain ⟨kd, ek⟩ : ∃ kd : Bool, atI [V.str (kS false), V.str (kS true), V.str (kS false)] r2 = some (.str (kS kd)) := by
          have : r2 = 0 ∨ r2 = 1 ∨ r2 = 2 := by omega
          rcases this with rfl | rfl | rfl
          · exact ⟨false, rfl⟩
          · exact ⟨true, rfl⟩
          · exact ⟨false, rfl⟩
        refine g_ixL (SqL.of (K8 _ _ nl e7)) ek ?_
        have hC8 := hC7.keepP nL D7.at K8
        walk_at "g"
        refine ⟨_, _, _, rfl, D8, by omega, by decide, by decide +kernel, fun r3 H9 r30 r31 D9 K9 => ?_⟩
        have hC9 := hC8.keepP nL D8.at K9
        have K09 := (K7.trans K8).trans K9
        walk_at "g"
        refine ⟨by show 3 ≤ sizeLine; decide, fun t ht => ?_⟩
        obtain ⟨qs9, hq9, hlen9, _⟩ := id hC9
        rw [List.length_map] at hlen9
        have nt : L ≠ t := ne_of_none hq9 ht
        walk_at "g"
        refine hnx _ _ ⟨_, _, _, cs ++ [(z, kd, decide (r3 = 1))], rfl, ((D9.new ht).other nL).mono ?_, (K09.new (K09.back (D9.ne ht) ht)).new ?_, ?_, by rw [List.length_append]; rfl, fun c hc => (List.mem_append.mp hc).elim (hcsk c) fun hc => by rw [List.mem_singleton.mp hc]; exact hzk⟩
        · omega
        · exact hL
        · have := hC9.app (x := ct (z, kd, decide (r3 = 1))) hq9 ht
          rw [List.map_append]
          exact this
    · rintro σ' H4 ⟨s3, s4, s5, cs, rfl, D4, K4, hC4, hlen, hcsk⟩
      walk_at "g"
      refine k L cs H4 (fun e => ?_) (by omega) hcsk hC4 hL K4
      rw [e] at hlen
      simp at hlen
      omega
theorem ok__law_order (T : Txt K mg) : Def P w K mg base 2 "_law_order" ["_law_pool_here", "_law_columns_here"] spOrderP := by
  obtain ⟨f, fd, h⟩ := T.d__law_order
  refine h.def (Fun.okM h.fn sc__law_order (fun vs H Q E h => ?_) (fun cdv A outer s H vs Q E hr h => ?_))
  · obtain ⟨p, L, cs, n, rfl, _⟩ := h
    rfl
  · obtain ⟨p, L, cs, n, rfl, hD, hn, hC, hne, hcl, hcsk, hLp, k⟩ := h
    refine ⟨_, (pss_cons (ps_set (i := 2) sc__law_order.nd rfl (Or.inl rfl) (pe_lst pa_nil))
  (pss_cons (ps_for PassesOwn.never rfl (pi_range1 rfl T.h_range (pa_cons (pe_op op_addG pe_int (pe_def (ok__law_draw T) hr rfl (pa_cons (pv 0) (pa_cons pe_int pa_nil)))) pa_nil)) (pg_name (i := 3) sc__law_order.nd rfl (Or.inl rfl))
  (pss_cons (ps_set (i := 4) sc__law_order.nd rfl (Or.inl rfl) (pe_ix (ix_seqG (K := K) rfl) (pe_ix (ix_seqG (K := K) rfl) (pv 1) (pe_def (ok__law_draw T) hr rfl (pa_cons (pv 0) (pa_cons (pe_callB (call_lenG (K := K) rfl) (by rfl) T.h_len (by decide +kernel) (pa_cons (pv 1) pa_nil)) pa_nil))) (fun _ _ => rfl)) pe_int (fun _ _ => rfl)))
  (pss_one (ps_if (pt_cmpR (op_notInG (K := K) rfl) (pv 4) (pe_lc (own := [("_law_part", 5)]) rfl sc__law_order.nd (pi_list (pv 2)) (blkOk_by (N := N__law_order) (sc := defScope S__law_order) (by decide +kernel)) (fun _ _ _ _ _ => pg_name (i := 5) sc__law_order.nd rfl (Or.inl rfl)) (fun _ _ _ _ _ => pts_nil) (fun _ _ _ _ _ => (pe_ix (ix_seqG (K := K) rfl) (pv 5) pe_int (fun _ _ => rfl)))) (by rfl))
  (pss_one (ps_expr (pe_bm PySem.F.plainAttrs_list PySem.F.slot_list_append PySem.F.type_list_append mt_append (pv 2) (pa_cons (pe_tup (pa_cons (pv 4) (pa_cons (pe_ix (ix_seqG (K := K) rfl) (pe_lst (pa_cons pe_str (pa_cons pe_str pa_nil))) (pe_def (ok__law_draw T) hr rfl (pa_cons (pv 0) (pa_cons pe_int pa_nil))) (fun _ _ => rfl)) pa_nil))) pa_nil))))
  pss_nil))))
  (pss_one (ps_ret (pv 2))))), ?_⟩
    walk_at "g"
    refine ⟨Nat.zero_le _, fun O hO => ?_⟩
    have nO := hD.ne hO
    have D1 := hD.new (o := .lst []) hO
    have K1 := (Keep.refl p H).new (o := .lst []) hO
    have e1 : LAt (upd H O (.lst [])) O (([] : List (Str × Bool)).map pt) := ⟨[], upd_same, rfl, fun i q t h => by simp at h⟩
    have hC1 := hC.keep (H' := upd H O (.lst [])) (fun q o h => by rw [upd_ne (ne_of_none h hO)]; exact h)
    have hLO : L ≠ O := by obtain ⟨qs, h1, _⟩ := hC; exact ne_of_none h1 hO
    generalize upd H O (.lst []) = H1 at D1 K1 e1 hC1
    walk_at "g"
    refine ⟨_, _, _, rfl, D1, by omega, by decide, by decide +kernel, fun r H2 r0 r1 D2 K2 => ?_⟩
    have hpos : 0 < cs.length := List.length_pos_iff.mpr hne
    walk_at "g"
    refine ⟨_, rfl, by omega, by omega, ?_⟩
    refine for_rangeA (fun i σ' H' => ∃ (s3 s4 s5 : Option V) (ps : List (Str × Bool)), σ' = [some (.ref p), some (.ref L), some (.ref O), s3, s4, s5] ∧ PD H' p (n + 1 + 30 * i) ∧ Keep p H H' ∧ LAt H' O (ps.map pt) ∧ LAt H' L (cs.map ct) ∧ ps.length ≤ i ∧ ∀ c ∈ ps, (∃ kd, kdA cs c.1 = some kd) ∧ sk c.1) ⟨none, none, none, [], rfl, D2, K1.trans K2, e1.keepP nO D1.at K2, hC1.keepP hLp D1.at K2, Nat.le_refl _, fun c hc => nomatch hc⟩ ?_ ?_
    · rintro i σ' H4 D' hi ⟨s3, s4, s5, ps, rfl, D4, K4, hO4, hC4, hpl, hpk⟩ hnx hct hbk hrt
      have hi2 : i < 2 := by omega
      obtain ⟨qs, hq4, hlen, hcol⟩ := id hC4
      rw [List.length_map] at hlen
      walk_at "g"
      refine ⟨_, _, _, rfl, D4, by omega, by rw [List.length_map]; omega, Nat.lt_of_lt_of_le (log_small (by rw [List.length_map]; omega)) (by decide), fun r5 H5 r50 r51 D5 K5 => ?_⟩
      rw [List.length_map] at r51
      obtain ⟨j, rfl⟩ := Int.eq_ofNat_of_zero_le r50
      have hj : j < cs.length := by omega
      have hq5 := K5 _ _ hLp hq4
      have hC5 := hC4.keepP hLp D4.at K5
      have hO5 := hO4.keepP nO D4.at K5
      refine g_ixL (SqL.of hq5) (v := .ref qs[j]) (atI_nat (j := j) (by rw [List.getElem?_map, List.getElem?_eq_getElem (by omega)]; rfl)) ?_
      walk_at "g"
      have et : H5 qs[j] = some (.tup (ct cs[j])) := (hC5.get hq5).2 j _ _ (List.getElem?_eq_getElem (by omega)) (by rw [List.getElem?_map, List.getElem?_eq_getElem hj]; rfl)
      refine g_ixT (SqT.of et) (v := .str cs[j].1) (by rfl) ?_
      walk_at "g"
      obtain ⟨ks, ho5, hol, hop⟩ := id hO5
      rw [List.length_map] at hol
      refine ⟨O, rfl, ⟨_, SqL.of ho5⟩, fun Do hDo => ?_⟩
      refine lc_any (ks.map V.ref) (fun y => ∃ z, y = .str z) hDo (fun H2 k2 => fits_l (SqL.of (k2 _ _ ho5))) (by rw [List.length_map]; omega) (fun x Hh R S hx kh hR hS => ?_) (fun H6 ys k6 h6' hys hyl => ?_)
      · obtain ⟨q2, hq2, rfl⟩ := List.mem_map.mp hx
        obtain ⟨j2, hj2, rfl⟩ := List.mem_iff_getElem.mp hq2
        obtain ⟨c2, hc2⟩ : ∃ c, ps[j2]? = some c := ⟨_, List.getElem?_eq_getElem (by omega)⟩
        have e2 := kh _ _ (hop j2 ks[j2] (pt c2) (List.getElem?_eq_getElem hj2) (by rw [List.getElem?_map, hc2]; rfl))
        walk_at "g"
        refine ⟨rfl, ?_⟩
        walk_at "g"
        refine g_ixT (SqT.of e2) (v := .str c2.1) (by rfl) ?_
        exact hR _ ⟨_, rfl⟩
      · obtain ⟨xs, rfl⟩ := strs_of hys
        have D6 : PD H6 p (n + 1 + 30 * i + 1) := by
          obtain ⟨a, b, c, e, r⟩ := D5
          exact ⟨a, b, c, k6 _ _ e, r⟩
        have K05 := K4.trans K5
        have K6 : Keep p H H6 := fun q o nq h => k6 _ _ (K05 q o nq h)
        have hC6 := hC5.keep k6
        have hO6 := hO5.keep k6
        refine .inr ⟨_, xs.map V.str, rfl, .inl (SqL.of h6'), rfl, Tw.flat_strs _, ?_⟩
        rw [if_pos rfl]
        walk_at "g"
        refine g_nsplit (fun _ => ?_) (fun _ => ?_)
        · obtain ⟨ks6, hs6, _⟩ := id hO6
          walk_at "g"
          refine ⟨by show 2 ≤ sizeLine; decide, fun l hl => ?_⟩
          have nl := D6.ne hl
          have D7 := D6.new (o := .lst [.str (dS true), .str (dS false)]) hl
          have K7 := K6.new (o := .lst [.str (dS true), .str (dS false)]) (K6.back nl hl)
          have x7 : ∀ q o, H6 q = some o → (upd H6 l (.lst [.str (dS true), .str (dS false)])) q = some o := fun q o h => by rw [upd_ne (ne_of_none h hl)]; exact h
          have hC7 := hC6.keep x7
          have hO7 := hO6.keep x7
          have e7 : (upd H6 l (.lst [.str (dS true), .str (dS false)])) l = some (.lst [.str (dS true), .str (dS false)]) := upd_same
          have e0 : upd H6 l (.lst [.str (Str.ofString "up"), .str (Str.ofString "down")]) = upd H6 l (.lst [.str (dS true), .str (dS false)]) := rfl
          rw [e0]
          generalize upd H6 l (.lst [.str (dS true), .str (dS false)]) = H7 at D7 K7 hC7 hO7 e7 x7
          walk_at "g"
          refine ⟨_, _, _, rfl, D7, by omega, by decide, by decide +kernel, fun r2 H8 r20 r21 D8 K8 => ?_⟩
          obtain ⟨up, ek⟩ : ∃ up : Bool, atI [V.str (dS true), V.str (dS false)] r2 = some (.str (dS up)) := by
            have : r2 = 0 ∨ r2 = 1 := by omega
            rcases this with rfl | rfl
            · exact ⟨true, rfl⟩
            · exact ⟨false, rfl⟩
          refine g_ixL (SqL.of (K8 _ _ nl e7)) ek ?_
          have hC8 := hC7.keepP hLp D7.at K8
          have hO8 := hO7.keepP nO D7.at K8
          have K08 := K7.trans K8
          walk_at "g"
          refine ⟨by show 2 ≤ sizeLine; decide, fun t ht => ?_⟩
          obtain ⟨qs9, hq9, hlen9, _⟩ := id hO8
          rw [List.length_map] at hlen9
          have nt : O ≠ t := ne_of_none hq9 ht
          walk_at "g"
          refine hnx _ _ ⟨_, _, _, ps ++ [(cs[j].1, up)], rfl, ((D8.new ht).other nO).mono (by omega), (K08.new (K08.back (D8.ne ht) ht)).new hO, ?_, ?_, by rw [List.length_append]; show _ + 1 ≤ _; omega, fun c hc => ?_⟩
          · have := hO8.app (x := pt (cs[j].1, up)) hq9 ht
            rw [List.map_append]
            exact this
          · have a1 := hC8.keep (H' := upd H8 t (.tup [.str cs[j].1, .str (dS up)])) (fun q o h => by rw [upd_ne (ne_of_none h ht)]; exact h)
            refine a1.keepP hLO ⟨qs9.map V.ref, by rw [upd_ne nt]; exact hq9⟩ fun q o nq h => by rw [upd_ne nq]; exact h
          · rcases List.mem_append.mp hc with hc | hc
            · exact hpk c hc
            · rw [List.mem_singleton.mp hc]
              exact ⟨kdA_mem (List.getElem_mem hj), hcsk _ (List.getElem_mem hj)⟩
        · walk_at "g"
          exact hnx _ _ ⟨_, _, _, ps, rfl, D6.mono (by omega), K6, hO6, hC6, by omega, hpk⟩
    · rintro σ' H4 ⟨s3, s4, s5, ps, rfl, D4, K4, hO4, hC4, hpl, hpk⟩
      walk_at "g"
      exact k O ps H4 (by omega) hpk hO4 hO K4
end
/-! rows -/
structure RowOk (κ : Str → Option Bool) (kvs : List (Key × V)) : Prop where
  nd : (kvs.map (·.1)).Nodup
  ok : ∀ c kd, κ c = some kd → ∃ v, valV kvs (Sum.inr c) = some v ∧ (v = .non ∨ kdV kd v)
  fl : ∀ p ∈ kvs, flatB p.2 = true
  len : kvs.length ≤ 50
theorem nd_put {kvs : List (Key × V)} {k : Key} {v : V} (h : (kvs.map (·.1)).Nodup) : ((putK kvs k v).map (·.1)).Nodup := by
  cases e : valV kvs k with
  | none => exact nd_putK v h e
  | some u =>
    have hany : (kvs.any fun kv => decide (kv.1 = k)) = true := by rw [valV_any, e]; rfl
    unfold putK
    rw [if_pos hany, List.map_map]
    have : ((fun x : Key × V => x.1) ∘ fun kv : Key × V => if kv.1 = k then (kv.1, v) else kv) = fun x => x.1 := by
      funext kv
      show (if kv.1 = k then (kv.1, v) else kv).1 = kv.1
      split <;> rfl
    rw [this]
    exact h
theorem mem_put {kvs : List (Key × V)} {k : Key} {v : V} {p : Key × V} (h : p ∈ putK kvs k v) : p ∈ kvs ∨ p.2 = v := by
  unfold putK at h
  split at h
  · obtain ⟨q, hq, rfl⟩ := List.mem_map.mp h
    split
    · exact .inr rfl
    · exact .inl hq
  · rcases List.mem_append.mp h with h | h
    · exact .inl h
    · rw [List.mem_singleton.mp h]; exact .inr rfl
theorem val_mem : ∀ {kvs : List (Key × V)}, (kvs.map (·.1)).Nodup → ∀ {k : Key} {v : V}, (k, v) ∈ kvs → valV kvs k = some v
  | [], _, _, _, h => nomatch h
  | (x, y) :: r, h, k, v, h1 => by
    rw [List.map_cons, List.nodup_cons] at h
    rcases List.mem_cons.mp h1 with e1 | h1
    · injection e1 with e1 e2
      rw [valV_pos e1.symm, e2]
    · rw [valV_neg (fun e => h.1 (List.mem_map.mpr ⟨(k, v), h1, e.symm⟩))]
      exact val_mem h.2 h1
theorem kdV.flat {k : Bool} {v : V} (h : v = .non ∨ kdV k v) : flatB v = true := by
  rcases h with rfl | h
  · rfl
  · cases k with
    | false => obtain ⟨i, rfl⟩ := h; rfl
    | true => obtain ⟨z, rfl⟩ := h; rfl
def spRowP : Sp := fun vs H Q _ => ∃ (p L : Addr) (cs : List Col) (n : Nat), vs = [.ref p, .ref L] ∧ PD H p n ∧ n ≤ 800000 ∧ LAt H L (cs.map ct) ∧ cs.length ≤ 12 ∧ L ≠ p ∧ ∀ (r : Addr) (kvs : List (Key × V)) (H' : Hp), H r = none → H' r = some (.dK kvs) → RowOk (kdA cs) kvs → Keep p H H' → Q (.ref r) H'
section
variable {P : Program} {w : World} {K : PySem.W.Frag} {mg : Str → Option Value} {base : Heap}
theorem g_dput {σ : L2.St} {H : Hp} {D : Ends} {td ty tv : TE} (q : tv σ H fun v H1 => td σ H1 fun x H2 => ty σ H2 fun y H3 => ∃ a H4, x = .ref a ∧ DPut H3 a y v H4 ∧ D.nx σ H4) : sDPut td ty tv D σ H := q
theorem ok__law_row (T : Txt K mg) : Def P w K mg base 3 "_law_row" ["_law_pool_here", "_law_columns_here"] spRowP := by
  obtain ⟨f, fd, h⟩ := T.d__law_row
  refine h.def (Fun.okM h.fn sc__law_row (fun vs H Q E h => ?_) (fun cdv A outer s H vs Q E hr h => ?_))
  · obtain ⟨p, L, cs, n, rfl, _⟩ := h
    rfl
  · obtain ⟨p, L, cs, n, rfl, hD, hn, hC, hcl, hLp, k⟩ := h
    refine ⟨_, (pss_cons (ps_set (i := 2) sc__law_row.nd rfl (Or.inl rfl) pe_dnewK)
  (pss_cons (ps_for PassesOwn.never rfl (pi_list (pv 1)) (pg_name (i := 3) sc__law_row.nd rfl (Or.inl rfl))
  (pss_cons (ps_dput (hu_of hr) (pv 2) (pe_ix (ix_seqG (K := K) rfl) (pv 3) pe_int (fun _ _ => rfl)) pe_non rfl)
  (pss_one (ps_if (pt_cmpR op_gtG (pe_def (ok__law_draw T) hr rfl (pa_cons (pv 0) (pa_cons pe_int pa_nil))) pe_int (nomark _))
  (pss_one (ps_dput (hu_of hr) (pv 2) (pe_ix (ix_seqG (K := K) rfl) (pv 3) pe_int (fun _ _ => rfl)) (pe_def (ok__law_value T) hr rfl (pa_cons (pv 0) (pa_cons (pe_ix (ix_seqG (K := K) rfl) (pv 3) pe_int (fun _ _ => rfl)) pa_nil))) rfl))
  pss_nil))))
  (pss_one (ps_ret (pv 2))))), ?_⟩
    walk_at "g"
    intro r hr0
    have nr := hD.ne hr0
    have D1 := hD.new (o := .dK []) hr0
    have K1 := (Keep.refl p H).new (o := .dK []) hr0
    have hC1 := hC.keep (H' := upd H r (.dK [])) (fun q o h => by rw [upd_ne (ne_of_none h hr0)]; exact h)
    have e1 : (upd H r (.dK [])) r = some (.dK []) := upd_same
    generalize upd H r (.dK []) = H1 at D1 K1 hC1 e1
    obtain ⟨qs, hL1, hlen, hcol⟩ := id hC1
    rw [List.length_map] at hlen
    walk_at "g"
    refine ⟨L, rfl, ⟨_, SqL.of hL1⟩, for_listA (xs := qs.map V.ref) (fun j σ' H' => (∃ s3, σ' = [some (.ref p), some (.ref L), some (.ref r), s3]) ∧ PD H' p (n + 80 * j) ∧ Keep p H H' ∧ LAt H' L (cs.map ct) ∧ H' L = some (.lst (qs.map V.ref)) ∧ ∃ kvs, H' r = some (.dK kvs) ∧ RowOk (kdA (cs.take j)) kvs ∧ kvs.length ≤ j) ⟨⟨none, rfl⟩, D1, K1, hC1, hL1, [], e1, ⟨List.nodup_nil, fun c kd h => (nomatch h), fun p hp => (nomatch hp), by decide⟩, Nat.le_refl _⟩ (fun _ _ _ _ e => SqL.of e.2.2.2.2.1) ?_ ?_⟩
    · rintro j x σ' H2 D' hj ⟨⟨s3, rfl⟩, D2, K2, hC2, hL2, kvs, e2, hok, hl⟩ hnx hct hbk hrt
      rw [List.getElem?_map] at hj
      obtain ⟨q, hq, rfl⟩ := Option.map_eq_some_iff.mp hj
      have hjl : j < cs.length := by
        have := (List.getElem?_eq_some_iff.mp hq).1
        omega
      obtain ⟨c, hc⟩ : ∃ c, cs[j]? = some c := ⟨_, List.getElem?_eq_getElem hjl⟩
      have eq := (hC2.get hL2).2 j q (ct c) hq (by rw [List.getElem?_map, hc]; rfl)
      have etk : cs.take (j + 1) = cs.take j ++ [c] := by rw [List.take_succ, hc]; rfl
      have hLr : L ≠ r := fun z => by rw [z, e2] at hL2; cases hL2
      have put : ∀ {kv : List (Key × V)} {v : V}, (kv = kvs ∨ ∃ u, kv = putK kvs (Sum.inr c.1) u ∧ flatB u = true) → (v = .non ∨ kdV c.2.1 v) → RowOk (kdA (cs.take (j + 1))) (putK kv (Sum.inr c.1) v) ∧ (putK kv (Sum.inr c.1) v).length ≤ j + 1 := fun {kv v} hkv hv => by
        have hnd : (kv.map (·.1)).Nodup := by
          rcases hkv with rfl | ⟨u, rfl, _⟩
          · exact hok.nd
          · exact nd_put hok.nd
        have hfl : ∀ p ∈ kv, flatB p.2 = true := by
          rcases hkv with rfl | ⟨u, rfl, hu⟩
          · exact hok.fl
          · intro p hp
            rcases mem_put hp with hp | hp
            · exact hok.fl p hp
            · rw [hp]; exact hu
        have hle : (putK kv (Sum.inr c.1) v).length ≤ j + 1 := by
          rcases hkv with rfl | ⟨u, rfl, _⟩
          · exact Nat.le_trans (length_putK _ _ _) (by omega)
          · have hs : (valV (putK kvs (Sum.inr c.1) u) (Sum.inr c.1)).isSome = true := by rw [valV_put, if_pos rfl]; rfl
            have e : (putK (putK kvs (Sum.inr c.1) u) (Sum.inr c.1) v).length = (putK kvs (Sum.inr c.1) u).length := by
              have hany : ((putK kvs (Sum.inr c.1) u).any fun kv => decide (kv.1 = Sum.inr c.1)) = true := by rw [valV_any, hs]
              generalize putK kvs (Sum.inr c.1) u = l at hany
              unfold putK
              rw [if_pos hany, List.length_map]
            rw [e]
            exact Nat.le_trans (length_putK _ _ _) (by omega)
        refine ⟨⟨nd_put hnd, fun d kd h => ?_, fun p hp => ?_, by omega⟩, hle⟩
        · rw [etk, kdA_app] at h
          rw [valV_put]
          by_cases hd : d = c.1
          · rw [if_pos hd] at h
            cases h
            rw [if_pos (by rw [hd])]
            exact ⟨v, rfl, hv⟩
          · rw [if_neg hd] at h
            obtain ⟨u, h1, h2⟩ := hok.ok d kd h
            rw [if_neg (fun z => hd (by injection z))]
            rcases hkv with rfl | ⟨w, rfl, _⟩
            · exact ⟨u, h1, h2⟩
            · rw [valV_put, if_neg (fun z => hd (by injection z))]
              exact ⟨u, h1, h2⟩
        · rcases mem_put hp with hp | hp
          · exact hfl p hp
          · rw [hp]; exact kdV.flat hv
      refine g_name ?_
      refine g_seq ?_
      refine g_dput ?_
      walk_at "g"
      refine g_ixT (SqT.of eq) (v := .str c.1) (by rfl) ?_
      refine ⟨r, _, rfl, DPut.k (k := Sum.inr c.1) e2 (by rw [sizeLine_eq]; omega), ?_⟩
      have p1 := put (kv := kvs) (v := .non) (.inl rfl) (.inl rfl)
      have kr : ∀ {o : HO} b u, b ≠ r → H2 b = some u → (upd H2 r o) b = some u := fun b u hb h => by rw [upd_ne hb]; exact h
      have D4 : PD (upd H2 r (.dK (putK kvs (Sum.inr c.1) .non))) p (n + 80 * j) := D2.other nr
      have K4 : Keep p H (upd H2 r (.dK (putK kvs (Sum.inr c.1) .non))) := K2.new hr0
      have hC4 : LAt (upd H2 r (.dK (putK kvs (Sum.inr c.1) .non))) L (cs.map ct) := by
        obtain ⟨ks, h1, h2, h3⟩ := hC2
        refine ⟨ks, kr _ _ hLr h1, h2, fun i q t hq ht => ?_⟩
        have e := h3 i q t hq ht
        exact kr _ _ (fun z => by rw [z, e2] at e; cases e) e
      have hL4 : (upd H2 r (.dK (putK kvs (Sum.inr c.1) .non))) L = some (.lst (qs.map V.ref)) := kr _ _ hLr hL2
      have eq4 : (upd H2 r (.dK (putK kvs (Sum.inr c.1) .non))) q = some (.tup (ct c)) := kr _ _ (fun z => by rw [z, e2] at eq; cases eq) eq
      have e4 : (upd H2 r (.dK (putK kvs (Sum.inr c.1) .non))) r = some (.dK (putK kvs (Sum.inr c.1) .non)) := upd_same
      generalize upd H2 r (.dK (putK kvs (Sum.inr c.1) .non)) = H4 at D4 K4 hC4 hL4 eq4 e4
      clear kr D2 K2 hC2 hL2 eq e2
      walk_at "g"
      refine ⟨_, _, _, rfl, D4, by omega, by decide, by decide +kernel, fun r5 H5 r50 r51 D5 K5 => ?_⟩
      have hC5 := hC4.keepP hLp D4.at K5
      have hL5 := K5 _ _ hLp hL4
      have eq5 := K5 _ _ (fun z => by obtain ⟨xs, hx⟩ := D4.at; rw [z, hx] at eq4; cases eq4) eq4
      have e5 := K5 _ _ nr e4
      have K05 := K4.trans K5
      walk_at "g"
      refine g_dec (fun h0 => ?_) (fun h0 => ?_)
      · refine g_dput ?_
        walk_at "g"
        refine g_ixT (SqT.of eq5) (v := .str (kS c.2.1)) (by rfl) ?_
        walk_at "g"
        refine ⟨_, c.2.1, _, rfl, D5, by omega, fun v H6 hv D6 K6 => ?_⟩
        have hC6 := hC5.keepP hLp D5.at K6
        have hL6 := K6 _ _ hLp hL5
        have eq6 := K6 _ _ (fun z => by obtain ⟨xs, hx⟩ := D5.at; rw [z, hx] at eq5; cases eq5) eq5
        have e6 := K6 _ _ nr e5
        walk_at "g"
        refine g_ixT (SqT.of eq6) (v := .str c.1) (by rfl) ?_
        have p2 := put (kv := putK kvs (Sum.inr c.1) .non) (v := v) (.inr ⟨_, rfl, rfl⟩) (.inr hv)
        refine ⟨r, _, rfl, DPut.k (k := Sum.inr c.1) e6 (by have := p1.2; rw [sizeLine_eq]; omega), ?_⟩
        have kr : ∀ {o : HO} b u, b ≠ r → H6 b = some u → (upd H6 r o) b = some u := fun b u hb h => by rw [upd_ne hb]; exact h
        refine hnx _ _ ⟨⟨_, rfl⟩, (D6.other nr).mono (by omega), (K05.trans K6).new hr0, ?_, kr _ _ hLr hL6, _, upd_same, p2.1, p2.2⟩
        obtain ⟨ks, h1, h2, h3⟩ := hC6
        refine ⟨ks, kr _ _ hLr h1, h2, fun i q t hq ht => ?_⟩
        have e := h3 i q t hq ht
        exact kr _ _ (fun z => by rw [z, e6] at e; cases e) e
      · walk_at "g"
        exact hnx _ _ ⟨⟨_, rfl⟩, D5.mono (by omega), K05, hC5, hL5, _, e5, p1.1, p1.2⟩
    · rintro σ' H2 ⟨⟨s3, rfl⟩, D2, K2, hC2, hL2, kvs, e2, hok, hl⟩
      rw [List.length_map, hlen, List.take_length] at hok
      walk_at "g"
      exact k r kvs H2 hr0 e2 hok K2
end
/-! the order of places and of rows -/
def okV (kd : Bool) (v : V) : Prop := v = .non ∨ kdV kd v
def ltP : V → V → Bool
  | .non, .non => false
  | .non, _ => true
  | _, .non => false
  | .int i, .int j => decide (i < j)
  | .str z, .str w => decide (z.cps.toList < w.cps.toList)
  | _, _ => false
theorem okV.cases {kd : Bool} {v : V} (h : okV kd v) : v = .non ∨ (kd = false ∧ ∃ i, v = .int i) ∨ (kd = true ∧ ∃ z, v = .str z) := by
  rcases h with h | h
  · exact .inl h
  · cases kd with
    | false => exact .inr (.inl ⟨rfl, h⟩)
    | true => exact .inr (.inr ⟨rfl, h⟩)
theorem lt_irr {x : V} : ltP x x = false := by
  cases x <;> first | rfl | exact decide_eq_false (by omega) | exact decide_eq_false (lex_irrefl _)
theorem lt_asym {kd : Bool} {x y : V} (h : okV kd x) (k : okV kd y) (l : ltP x y = true) : ltP y x = false := by
  rcases h.cases with rfl | ⟨rfl, i, rfl⟩ | ⟨rfl, z, rfl⟩ <;> rcases k.cases with rfl | ⟨e, j, rfl⟩ | ⟨e, w, rfl⟩ <;> first | (cases e; done) | (simp only [ltP, decide_eq_true_eq, decide_eq_false_iff_not] at l ⊢ <;> first | contradiction | omega | exact lex_asymm l)
theorem lt_tot {kd : Bool} {x y : V} (h : okV kd x) (k : okV kd y) (l : ltP x y = false) (m : ltP y x = false) : x = y := by
  rcases h.cases with rfl | ⟨rfl, i, rfl⟩ | ⟨rfl, z, rfl⟩ <;> rcases k.cases with rfl | ⟨e, j, rfl⟩ | ⟨e, w, rfl⟩ <;> first | (cases e; done) | (simp only [ltP, decide_eq_true_eq, decide_eq_false_iff_not] at l m ⊢ <;> first | contradiction | exact congrArg V.int (by omega) | exact congrArg V.str (str_ext (lex_total l m)))
theorem lt_tr {kd : Bool} {x y z : V} (h : okV kd x) (k : okV kd y) (n : okV kd z) (l : ltP x y = true) (m : ltP y z = true) : ltP x z = true := by
  rcases h.cases with rfl | ⟨rfl, i, rfl⟩ | ⟨rfl, z, rfl⟩ <;> rcases k.cases with rfl | ⟨e, j, rfl⟩ | ⟨e, w, rfl⟩ <;> rcases n.cases with rfl | ⟨e2, k, rfl⟩ | ⟨e2, v, rfl⟩ <;> first | (cases e; done) | (cases e2; done) | (simp only [ltP, decide_eq_true_eq] at l m ⊢ <;> first | contradiction | omega | exact lex_trans l m)
def dlt (up : Bool) (x y : V) : Bool := if up = true then ltP x y else ltP y x
def lessR : List (Str × Bool) → (Str → V) → (Str → V) → Bool
  | [], _, _ => false
  | c :: r, f, g => if f c.1 = g c.1 then lessR r f g else dlt c.2 (f c.1) (g c.1)
def valK (kvs : List (Key × V)) (c : Str) : V := (valV kvs (Sum.inr c)).getD .non
theorem RowOk.get {κ : Str → Option Bool} {kvs : List (Key × V)} (h : RowOk κ kvs) {c : Str} {kd : Bool} (e : κ c = some kd) : valV kvs (Sum.inr c) = some (valK kvs c) ∧ okV kd (valK kvs c) := by
  obtain ⟨v, h1, h2⟩ := h.ok c kd e
  unfold valK
  rw [h1]
  exact ⟨rfl, h2⟩
def OT (H : Hp) (O : Addr) (ps : List (Str × Bool)) : Prop := ∃ qs : List Addr, H O = some (.tup (qs.map V.ref)) ∧ qs.length = ps.length ∧ ∀ (i : Nat) (q : Addr) (c : Str × Bool), qs[i]? = some q → ps[i]? = some c → H q = some (.tup (pt c))
theorem OT.keep {H H' : Hp} {O : Addr} {ps : List (Str × Bool)} (h : OT H O ps) (k : ∀ q o, H q = some o → H' q = some o) : OT H' O ps := by
  obtain ⟨qs, h1, h2, h3⟩ := h
  exact ⟨qs, k _ _ h1, h2, fun i q c hq hc => k _ _ (h3 i q c hq hc)⟩
def KOk (κ : Str → Option Bool) (ps : List (Str × Bool)) : Prop := ps.length ≤ 100 ∧ ∀ c ∈ ps, ∃ kd, κ c.1 = some kd
theorem less_step {ps : List (Str × Bool)} {j : Nat} {c : Str × Bool} {f g : Str → V} (hj : ps[j]? = some c) : lessR (ps.drop j) f g = if f c.1 = g c.1 then lessR (ps.drop (j + 1)) f g else dlt c.2 (f c.1) (g c.1) := by
  obtain ⟨h, rfl⟩ := List.getElem?_eq_some_iff.mp hj
  rw [List.drop_eq_getElem_cons h]
  rfl
def spAhead : Sp := fun vs H Q _ => ∃ x y kd, vs = [x, y] ∧ okV kd x ∧ okV kd y ∧ Q (.bl (ltP x y)) H
def spComes : Sp := fun vs H Q _ => ∃ (O r1 r2 : Addr) (ps : List (Str × Bool)) (κ : Str → Option Bool) (k1 k2 : List (Key × V)), vs = [.ref O, .ref r1, .ref r2] ∧ OT H O ps ∧ H r1 = some (.dK k1) ∧ H r2 = some (.dK k2) ∧ RowOk κ k1 ∧ RowOk κ k2 ∧ KOk κ ps ∧ Q (.bl (lessR ps (valK k1) (valK k2))) H
def spLawAhead : Sp := fun vs H Q _ => ∃ (O r1 r2 : Addr) (ps : List (Str × Bool)) (κ : Str → Option Bool) (k1 k2 : List (Key × V)), vs = [.ref O, .ref r1, .ref r2] ∧ LAt H O (ps.map pt) ∧ H r1 = some (.dK k1) ∧ H r2 = some (.dK k2) ∧ RowOk κ k1 ∧ RowOk κ k2 ∧ KOk κ ps ∧ Q (.bl (lessR ps (valK k1) (valK k2))) H
def alikeB (ns : List Str) (f g : Str → V) : Bool := ns.all fun c => decide (f c = g c)
def spAlike : Sp := fun vs H Q _ => ∃ (N r1 r2 : Addr) (ns : List Str) (κ : Str → Option Bool) (k1 k2 : List (Key × V)), vs = [.ref N, .ref r1, .ref r2] ∧ H N = some (.tup (ns.map V.str)) ∧ H r1 = some (.dK k1) ∧ H r2 = some (.dK k2) ∧ RowOk κ k1 ∧ RowOk κ k2 ∧ ns.length ≤ 100 ∧ (∀ c ∈ ns, ∃ kd, κ c = some kd) ∧ ∀ H', (∀ q o, H q = some o → H' q = some o) → Q (.bl (alikeB ns (valK k1) (valK k2))) H'
def spLawAlike : Sp := fun vs H Q _ => ∃ (N r1 r2 : Addr) (ns : List Str) (κ : Str → Option Bool) (k1 k2 : List (Key × V)), vs = [.ref N, .ref r1, .ref r2] ∧ H N = some (.lst (ns.map V.str)) ∧ H r1 = some (.dK k1) ∧ H r2 = some (.dK k2) ∧ RowOk κ k1 ∧ RowOk κ k2 ∧ (∀ c ∈ ns, ∃ kd, κ c = some kd) ∧ Q (.bl (alikeB ns (valK k1) (valK k2))) H
theorem scal_ok {kd : Bool} {x y : V} (h : okV kd x) (k : okV kd y) : scal x y = true := by
  rcases h.cases with rfl | ⟨rfl, i, rfl⟩ | ⟨rfl, z, rfl⟩ <;> rcases k.cases with rfl | ⟨e, j, rfl⟩ | ⟨e, w, rfl⟩ <;> rfl
theorem dgK {H : Hp} {r : Addr} {kvs : List (Key × V)} {c : Str} {v : V} (e : H r = some (.dK kvs)) (h : valV kvs (Sum.inr c) = some v) : DGet H r (.str c) (some v) := by
  rw [← h]
  exact DGet.k (k := Sum.inr c) e
section
variable {P : Program} {w : World} {K : PySem.W.Frag} {mg : Str → Option Value} {base : Heap}
theorem ok_is_ahead (T : Txt K mg) : Def P w K mg base 1 "is_ahead" ["one", "other"] spAhead := by
  obtain ⟨f, fd, h⟩ := T.d_is_ahead
  refine h.def (Fun.okM h.fn sc_is_ahead (fun vs H Q E h => ?_) (fun cdv A outer s H vs Q E hr h => ?_))
  · obtain ⟨x, y, kd, rfl, _⟩ := h
    rfl
  · obtain ⟨x, y, kd, rfl, hx, hy, k⟩ := h
    refine ⟨_, (pss_cons (ps_if (pt_cmpR op_isNG (pv 1) pe_non (nomark _))
  (pss_one (ps_ret pe_bl))
  pss_nil)
  (pss_cons (ps_if (pt_cmpR op_isNG (pv 0) pe_non (nomark _))
  (pss_one (ps_ret pe_bl))
  pss_nil)
  (pss_one (ps_ret (pe_cmpR op_ltG (pv 0) (pv 1) (nomark _)))))), ?_⟩
    rcases hx.cases with rfl | ⟨rfl, i, rfl⟩ | ⟨rfl, z, rfl⟩ <;> rcases hy.cases with rfl | ⟨e, j, rfl⟩ | ⟨e, w, rfl⟩ <;> first | (cases e; done) | (walk_at "g"; exact k)
theorem ok_comes_ahead (T : Txt K mg) : Def P w K mg base 2 "comes_ahead" ["order", "row", "other"] spComes := by
  obtain ⟨f, fd, h⟩ := T.d_comes_ahead
  refine h.def (Fun.okM h.fn sc_comes_ahead (fun vs H Q E h => ?_) (fun cdv A outer s H vs Q E hr h => ?_))
  · obtain ⟨O, r1, r2, ps, κ, k1, k2, rfl, _⟩ := h
    rfl
  · obtain ⟨O, r1, r2, ps, κ, k1, k2, rfl, ⟨qs, hO, hlen, hq⟩, h1, h2, R1, R2, hK, k⟩ := h
    refine ⟨_, (pss_cons (ps_for PassesOwn.never rfl (pi_tupG (K := K) rfl (pv 0)) (pg_tupG (K := K) (n := 2) rfl rfl (pgs_cons (pg_name (i := 3) sc_comes_ahead.nd rfl (Or.inl rfl)) (pgs_cons (pg_name (i := 4) sc_comes_ahead.nd rfl (Or.inl rfl)) pgs_nil)))
  (pss_one (ps_if (pt_cmpR op_ne (pe_dget (hu_of hr) (pv 1) (pv 3) (fun _ _ => rfl)) (pe_dget (hu_of hr) (pv 2) (pv 3) (fun _ _ => rfl)) (nomark _))
  (pss_one (ps_ret (pe_cmpR op_eq (pe_def (ok_is_ahead T) hr rfl (pa_cons (pe_dget (hu_of hr) (pv 1) (pv 3) (fun _ _ => rfl)) (pa_cons (pe_dget (hu_of hr) (pv 2) (pv 3) (fun _ _ => rfl)) pa_nil))) (pe_cmpR op_eq (pv 4) pe_str (nomark _)) (nomark _))))
  pss_nil)))
  (pss_one (ps_ret pe_bl))), ?_⟩
    refine g_seq ?_
    refine g_for ?_
    refine g_itup ?_
    walk_at "g"
    refine ⟨O, rfl, ⟨_, SqT.of hO⟩, for_tupA (xs := qs.map V.ref) (fun j σ' H' => (∃ s3 s4, σ' = [some (.ref O), some (.ref r1), some (.ref r2), s3, s4]) ∧ H' = H ∧ lessR ps (valK k1) (valK k2) = lessR (ps.drop j) (valK k1) (valK k2)) ⟨⟨none, none, rfl⟩, rfl, rfl⟩ (fun _ _ _ _ e => by rw [e.2.1]; exact SqT.of hO) ?_ ?_⟩
    · rintro j x σ' H2 D' hj ⟨⟨s3, s4, rfl⟩, rfl, hless⟩ hnx hct hbk hrt
      rw [List.getElem?_map] at hj
      obtain ⟨q, hqj, rfl⟩ := Option.map_eq_some_iff.mp hj
      have hjl : j < ps.length := by
        have := (List.getElem?_eq_some_iff.mp hqj).1
        omega
      obtain ⟨c, hc⟩ : ∃ c, ps[j]? = some c := ⟨_, List.getElem?_eq_getElem hjl⟩
      have eq := hq j q c hqj hc
      obtain ⟨kd, hkd⟩ := hK.2 c (List.mem_of_getElem? hc)
      obtain ⟨v1, o1⟩ := R1.get hkd
      obtain ⟨v2, o2⟩ := R2.get hkd
      rw [less_step hc] at hless
      refine g_gtup eq rfl ?_
      refine g_gcons ?_
      walk_at "g"
      refine g_gcons ?_
      walk_at "g"
      refine g_gnil ?_
      walk_at "g"
      walk_at "g"
      refine ⟨_, _, rfl, dgK h1 v1, ?_⟩
      walk_at "g"
      refine ⟨_, _, rfl, dgK h2 v2, ?_⟩
      refine ⟨scal_ok o1 o2, ?_⟩
      walk_at "g"
      refine g_ndec (fun hne => ?_) (fun he => ?_)
      · rw [if_neg hne] at hless
        walk_at "g"
        walk_at "g"
        refine ⟨_, _, rfl, dgK h1 v1, ?_⟩
        walk_at "g"
        refine ⟨_, _, rfl, dgK h2 v2, ?_⟩
        refine ⟨_, _, kd, rfl, o1, o2, ?_⟩
        walk_at "g"
        rw [hrt]
        have e : decide (ltP (valK k1 c.1) (valK k2 c.1) = decide (dS c.2 = Str.ofString "up")) = dlt c.2 (valK k1 c.1) (valK k2 c.1) := by
          cases hu : c.2 with
          | true =>
            have : decide (dS true = Str.ofString "up") = true := by decide +kernel
            rw [this]
            show decide (ltP (valK k1 c.1) (valK k2 c.1) = true) = ltP (valK k1 c.1) (valK k2 c.1)
            cases ltP (valK k1 c.1) (valK k2 c.1) <;> rfl
          | false =>
            have : decide (dS false = Str.ofString "up") = false := by decide +kernel
            rw [this]
            show decide (ltP (valK k1 c.1) (valK k2 c.1) = false) = ltP (valK k2 c.1) (valK k1 c.1)
            cases e1 : ltP (valK k1 c.1) (valK k2 c.1) with
            | true => rw [lt_asym o1 o2 e1]; rfl
            | false =>
              cases e2 : ltP (valK k2 c.1) (valK k1 c.1) with
              | true => rfl
              | false => exact absurd (lt_tot o1 o2 e1 e2) hne
        rw [e, ← hless]
        exact k
      · rw [if_pos he] at hless
        walk_at "g"
        exact hnx _ _ ⟨⟨_, _, rfl⟩, rfl, hless⟩
    · rintro σ' H2 ⟨⟨s3, s4, rfl⟩, rfl, hless⟩
      rw [List.length_map, hlen, List.drop_length] at hless
      walk_at "g"
      rw [hless] at k
      exact k
theorem ok__law_ahead (T : Txt K mg) : Def P w K mg base 1 "_law_ahead" ["_law_order_here", "_law_one", "_law_other"] spLawAhead := by
  obtain ⟨f, fd, h⟩ := T.d__law_ahead
  refine h.def (Fun.okM h.fn sc__law_ahead (fun vs H Q E h => ?_) (fun cdv A outer s H vs Q E hr h => ?_))
  · obtain ⟨O, r1, r2, ps, κ, k1, k2, rfl, _⟩ := h
    rfl
  · obtain ⟨O, r1, r2, ps, κ, k1, k2, rfl, ⟨qs, hO, hlen, hq⟩, h1, h2, R1, R2, hK, k⟩ := h
    rw [List.length_map] at hlen
    refine ⟨_, (pss_cons (ps_for PassesOwn.never rfl (pi_list (pv 0)) (pg_name (i := 3) sc__law_ahead.nd rfl (Or.inl rfl))
  (pss_cons (ps_set (i := 4) sc__law_ahead.nd rfl (Or.inl rfl) (pe_dget (hu_of hr) (pv 1) (pe_ix (ix_seqG (K := K) rfl) (pv 3) pe_int (fun _ _ => rfl)) (fun _ _ => rfl)))
  (pss_cons (ps_set (i := 5) sc__law_ahead.nd rfl (Or.inl rfl) (pe_dget (hu_of hr) (pv 2) (pe_ix (ix_seqG (K := K) rfl) (pv 3) pe_int (fun _ _ => rfl)) (fun _ _ => rfl)))
  (Evl.pss_cut (ps_if (pt_cmpR op_eq (pe_ix (ix_seqG (K := K) rfl) (pv 3) pe_int (fun _ _ => rfl)) pe_str (nomark _))
  (pss_cons (ps_set (i := 4) sc__law_ahead.nd rfl (Or.inl rfl) (pe_dget (hu_of hr) (pv 2) (pe_ix (ix_seqG (K := K) rfl) (pv 3) pe_int (fun _ _ => rfl)) (fun _ _ => rfl)))
  (pss_one (ps_set (i := 5) sc__law_ahead.nd rfl (Or.inl rfl) (pe_dget (hu_of hr) (pv 1) (pe_ix (ix_seqG (K := K) rfl) (pv 3) pe_int (fun _ _ => rfl)) (fun _ _ => rfl)))))
  pss_nil)
  (pss_cons (ps_if (PW.pt (pw_and (pt_cmpR op_isNG (pv 4) pe_non (nomark _)) (pw_and1 (pt_cmpR op_notNG (pv 5) pe_non (nomark _)))))
  (pss_one (ps_ret pe_bl))
  pss_nil)
  (pss_cons (ps_if (PW.pt (pw_and (pt_cmpR op_isNG (pv 5) pe_non (nomark _)) (pw_and1 (pt_cmpR op_notNG (pv 4) pe_non (nomark _)))))
  (pss_one (ps_ret pe_bl))
  pss_nil)
  (pss_one (ps_if (PW.pt (pw_and (pt_cmpR op_notNG (pv 4) pe_non (nomark _)) (pw_and1 (pt_cmpR op_ne (pv 4) (pv 5) (nomark _)))))
  (pss_one (ps_ret (pe_cmpR op_ltG (pv 4) (pv 5) (nomark _))))
  pss_nil))))))))
  (pss_one (ps_ret pe_bl))), ?_⟩
    refine g_seq ?_
    walk_at "g"
    refine ⟨O, rfl, ⟨_, SqL.of hO⟩, for_listA (xs := qs.map V.ref) (fun j σ' H' => (∃ s3 s4 s5, σ' = [some (.ref O), some (.ref r1), some (.ref r2), s3, s4, s5]) ∧ H' = H ∧ lessR ps (valK k1) (valK k2) = lessR (ps.drop j) (valK k1) (valK k2)) ⟨⟨none, none, none, rfl⟩, rfl, rfl⟩ (fun _ _ _ _ e => by rw [e.2.1]; exact SqL.of hO) ?_ ?_⟩
    · rintro j x σ' H2 D' hj ⟨⟨s3, s4, s5, rfl⟩, rfl, hless⟩ hnx hct hbk hrt
      rw [List.getElem?_map] at hj
      obtain ⟨q, hqj, rfl⟩ := Option.map_eq_some_iff.mp hj
      have hjl : j < ps.length := by
        have := (List.getElem?_eq_some_iff.mp hqj).1
        omega
      obtain ⟨c, hc⟩ : ∃ c, ps[j]? = some c := ⟨_, List.getElem?_eq_getElem hjl⟩
      have eq := hq j q (pt c) hqj (by rw [List.getElem?_map, hc]; rfl)
      obtain ⟨kd, hkd⟩ := hK.2 c (List.mem_of_getElem? hc)
      obtain ⟨v1, o1⟩ := R1.get hkd
      obtain ⟨v2, o2⟩ := R2.get hkd
      rw [less_step hc] at hless
      walk_at "g"
      walk_at "g"
      refine g_ixT (SqT.of eq) (v := .str c.1) (by rfl) ?_
      refine ⟨_, _, rfl, dgK h1 v1, ?_⟩
      walk_at "g"
      walk_at "g"
      refine g_ixT (SqT.of eq) (v := .str c.1) (by rfl) ?_
      refine ⟨_, _, rfl, dgK h2 v2, ?_⟩
      refine g_cutA (M := fun σ' H' => ∃ a b, σ' = [some (.ref O), some (.ref r1), some (.ref r2), some (.ref q), some a, some b] ∧ H' = H2 ∧ okV kd a ∧ okV kd b ∧ ((valK k1 c.1 = valK k2 c.1) ↔ a = b) ∧ dlt c.2 (valK k1 c.1) (valK k2 c.1) = ltP a b) (fun D'' hn1 hrt1 _ _ => ?_) ?_
      · walk_at "g"
        refine g_ixT (SqT.of eq) (v := .str (dS c.2)) (by rfl) ?_
        walk_at "g"
        refine g_dec (fun hd => ?_) (fun hd => ?_)
        · walk_at "g"
          walk_at "g"
          refine g_ixT (SqT.of eq) (v := .str c.1) (by rfl) ?_
          refine ⟨_, _, rfl, dgK h2 v2, ?_⟩
          walk_at "g"
          walk_at "g"
          refine g_ixT (SqT.of eq) (v := .str c.1) (by rfl) ?_
          refine ⟨_, _, rfl, dgK h1 v1, ?_⟩
          have hf : c.2 = false := by
            cases hu : c.2 with
            | false => rfl
            | true => rw [hu] at hd; exact absurd hd (by decide +kernel)
          exact hn1 _ _ ⟨_, _, rfl, rfl, o2, o1, ⟨Eq.symm, Eq.symm⟩, by rw [hf]; rfl⟩
        · walk_at "g"
          have hf : c.2 = true := by
            cases hu : c.2 with
            | true => rfl
            | false => rw [hu] at hd; exact absurd (by decide +kernel) hd
          exact hn1 _ _ ⟨_, _, rfl, rfl, o1, o2, Iff.rfl, by rw [hf]; rfl⟩
      · rintro σ' H3 ⟨a, b, rfl, rfl, oa, ob, hiff, hd⟩
        rw [hd] at hless
        have yes : ∀ t : Bool, ltP a b = t → a ≠ b → Q (.bl t) H3 := fun t ht hab => by
          rw [if_neg (fun z => hab (hiff.mp z)), ht] at hless
          rw [← hless]; exact k
        have no : a = b → lessR ps (valK k1) (valK k2) = lessR (ps.drop (j + 1)) (valK k1) (valK k2) := fun e => by rw [if_pos (hiff.mpr e)] at hless; exact hless
        clear hless hd hiff v1 v2 o1 o2
        rcases oa.cases with rfl | ⟨rfl, i, rfl⟩ | ⟨rfl, z, rfl⟩ <;> rcases ob.cases with rfl | ⟨e, i2, rfl⟩ | ⟨e, z2, rfl⟩
        · walk_at "g"
          exact hnx _ _ ⟨⟨_, _, _, rfl⟩, rfl, no rfl⟩
        · walk_at "g"
          rw [hrt]
          exact yes _ rfl nofun
        · walk_at "g"
          rw [hrt]
          exact yes _ rfl nofun
        · walk_at "g"
          rw [hrt]
          exact yes _ rfl nofun
        · walk_at "g"
          refine g_ndec (fun hne => ?_) (fun he => ?_)
          · walk_at "g"
            rw [hrt]
            exact yes _ rfl (fun z => hne (by injection z))
          · walk_at "g"
            exact hnx _ _ ⟨⟨_, _, _, rfl⟩, rfl, no (by rw [he])⟩
        · cases e
        · walk_at "g"
          rw [hrt]
          exact yes _ rfl nofun
        · cases e
        · walk_at "g"
          refine g_ndec (fun hne => ?_) (fun he => ?_)
          · walk_at "g"
            rw [hrt]
            exact yes _ rfl (fun z => hne (by injection z))
          · walk_at "g"
            exact hnx _ _ ⟨⟨_, _, _, rfl⟩, rfl, no (by rw [he])⟩
    · rintro σ' H2 ⟨⟨s3, s4, s5, rfl⟩, rfl, hless⟩
      rw [List.length_map, hlen, List.drop_length] at hless
      walk_at "g"
      rw [hless] at k
      exact k
theorem ok_alike_in (T : Txt K mg) : Def P w K mg base 1 "alike_in" ["names", "row", "other"] spAlike := by
  obtain ⟨f, fd, h⟩ := T.d_alike_in
  refine h.def (Fun.okM h.fn sc_alike_in (fun vs H Q E h => ?_) (fun cdv A outer s H vs Q E hr h => ?_))
  · obtain ⟨N, r1, r2, ns, κ, k1, k2, rfl, _⟩ := h
    rfl
  · obtain ⟨N, r1, r2, ns, κ, k1, k2, rfl, hN, h1, h2, R1, R2, hl, hK, k⟩ := h
    refine ⟨_, (pss_one (ps_ret (pe_callB (cr_all rfl) (by rfl) T.h_all (by decide +kernel) (pa_cons (pe_lc (own := [("name", 3)]) rfl sc_alike_in.nd (pi_tupG (K := K) rfl (pv 0)) (blkOk_by (N := N_alike_in) (sc := defScope S_alike_in) (by decide +kernel)) (fun _ _ _ _ _ => pg_name (i := 3) sc_alike_in.nd rfl (Or.inl rfl)) (fun _ _ _ _ _ => pts_nil) (fun _ _ _ _ _ => (pe_cmpR op_eq (pe_dget (hu_of hr) (pv 1) (pv 3) (fun _ _ => rfl)) (pe_dget (hu_of hr) (pv 2) (pv 3) (fun _ _ => rfl)) (nomark _)))) pa_nil)))), ?_⟩
    walk_at "g"
    refine ⟨N, rfl, ⟨_, SqT.of hN⟩, fun Do hDo => ?_⟩
    refine lc_map (ns.map V.str) (fun x => match x with | .str c => .bl (decide (valK k1 c = valK k2 c)) | _ => .non) hDo (fun H2 k2 => fits_t (SqT.of (k2 _ _ hN))) (by rw [List.length_map]; omega) (fun x Hh R S hx kh hR => ?_) (fun H5 k5 h5 => ?_)
    · obtain ⟨c, hc, rfl⟩ := List.mem_map.mp hx
      obtain ⟨kd, hkd⟩ := hK c hc
      obtain ⟨v1, o1⟩ := R1.get hkd
      obtain ⟨v2, o2⟩ := R2.get hkd
      walk_at "g"
      refine ⟨rfl, ?_⟩
      walk_at "g"
      walk_at "g"
      refine ⟨_, _, rfl, dgK (kh _ _ h1) v1, ?_⟩
      walk_at "g"
      refine ⟨_, _, rfl, dgK (kh _ _ h2) v2, ?_⟩
      exact ⟨scal_ok o1 o2, hR⟩
    · refine ⟨Do, ns.map fun c => decide (valK k1 c = valK k2 c), rfl, SqL.of ?_, ?_⟩
      · rw [h5, List.map_map, List.map_map]; rfl
      · have e : (ns.map fun c => decide (valK k1 c = valK k2 c)).all id = alikeB ns (valK k1) (valK k2) := by
          unfold alikeB
          rw [List.all_map]; rfl
        rw [e]
        exact k _ k5
theorem ok__law_alike (T : Txt K mg) : Def P w K mg base 1 "_law_alike" ["_law_names", "_law_one", "_law_other"] spLawAlike := by
  obtain ⟨f, fd, h⟩ := T.d__law_alike
  refine h.def (Fun.okM h.fn sc__law_alike (fun vs H Q E h => ?_) (fun cdv A outer s H vs Q E hr h => ?_))
  · obtain ⟨N, r1, r2, ns, κ, k1, k2, rfl, _⟩ := h
    rfl
  · obtain ⟨N, r1, r2, ns, κ, k1, k2, rfl, hN, h1, h2, R1, R2, hK, k⟩ := h
    refine ⟨_, (pss_cons (ps_for PassesOwn.never rfl (pi_list (pv 0)) (pg_name (i := 3) sc__law_alike.nd rfl (Or.inl rfl))
  (pss_one (ps_if (pt_cmpR op_ne (pe_dget (hu_of hr) (pv 1) (pv 3) (fun _ _ => rfl)) (pe_dget (hu_of hr) (pv 2) (pv 3) (fun _ _ => rfl)) (nomark _))
  (pss_one (ps_ret pe_bl))
  pss_nil)))
  (pss_one (ps_ret pe_bl))), ?_⟩
    walk_at "g"
    refine ⟨N, rfl, ⟨_, SqL.of hN⟩, for_listA (xs := ns.map V.str) (fun j σ' H' => (∃ s3, σ' = [some (.ref N), some (.ref r1), some (.ref r2), s3]) ∧ H' = H ∧ alikeB ns (valK k1) (valK k2) = alikeB (ns.drop j) (valK k1) (valK k2)) ⟨⟨none, rfl⟩, rfl, rfl⟩ (fun _ _ _ _ e => by rw [e.2.1]; exact SqL.of hN) ?_ ?_⟩
    · rintro j x σ' H2 D' hj ⟨⟨s3, rfl⟩, rfl, hal⟩ hnx hct hbk hrt
      rw [List.getElem?_map] at hj
      obtain ⟨c, hc, rfl⟩ := Option.map_eq_some_iff.mp hj
      obtain ⟨hjl, hcj⟩ := List.getElem?_eq_some_iff.mp hc
      obtain ⟨kd, hkd⟩ := hK c (List.mem_of_getElem? hc)
      obtain ⟨v1, o1⟩ := R1.get hkd
      obtain ⟨v2, o2⟩ := R2.get hkd
      have hst : alikeB (ns.drop j) (valK k1) (valK k2) = (decide (valK k1 c = valK k2 c) && alikeB (ns.drop (j + 1)) (valK k1) (valK k2)) := by
        rw [List.drop_eq_getElem_cons hjl, hcj]; rfl
      rw [hst] at hal
      walk_at "g"
      walk_at "g"
      refine ⟨_, _, rfl, dgK h1 v1, ?_⟩
      walk_at "g"
      refine ⟨_, _, rfl, dgK h2 v2, ?_⟩
      refine ⟨scal_ok o1 o2, ?_⟩
      walk_at "g"
      refine g_ndec (fun hne => ?_) (fun he => ?_)
      · walk_at "g"
        rw [hrt]
        rw [decide_eq_false hne, Bool.false_and] at hal
        rw [hal] at k
        exact k
      · walk_at "g"
        rw [decide_eq_true he, Bool.true_and] at hal
        exact hnx _ _ ⟨⟨_, rfl⟩, rfl, hal⟩
    · rintro σ' H2 ⟨⟨s3, rfl⟩, rfl, hal⟩
      rw [List.length_map, List.drop_length] at hal
      walk_at "g"
      rw [hal] at k
      exact k
theorem ok__law_is (T : Txt K mg) : Def P w K mg base 1 "_law_is" ["_law_thing", "_law_due"] (fun vs H Q _ => ∃ a b, vs = [.bl a, .bl b] ∧ Q (.bl (decide (a = b))) H) := by
  obtain ⟨f, fd, h⟩ := T.d__law_is
  refine h.def (Fun.okM h.fn sc__law_is (fun vs H Q E h => ?_) (fun cdv A outer s H vs Q E hr h => ?_))
  · obtain ⟨a, b, rfl, _⟩ := h
    rfl
  · obtain ⟨a, b, rfl, k⟩ := h
    refine ⟨_, (pss_cons (ps_if (pt_cmpR op_isNG (pv 1) pe_non (nomark _))
  (pss_one (ps_ret (pe_cmpR op_isNG (pv 0) pe_non (nomark _))))
  pss_nil)
  (pss_one (ps_ret (pe_and (pe_callB (call_isiG (K := K) rfl) (by rfl) T.h_isinstance (by decide +kernel) (pa_cons (pv 0) (pa_cons (pe_bltn (v := .ty "bool") (by rfl) T.h_bool (by decide +kernel) rfl) pa_nil))) (pe_one (pe_cmpR op_eq (pv 0) (pv 1) (nomark _))))))), ?_⟩
    walk_at "g"
    exact k
end
/-! sorting -/
section
variable {α : Type}
def insF (lt : α → α → Bool) (x : α) : List α → List α
  | [] => [x]
  | y :: l => if lt x y = true then x :: y :: l else y :: insF lt x l
def srt (lt : α → α → Bool) (l : List α) : List α := l.foldl (fun acc x => insF lt x acc) []
def mrg (lt : α → α → Bool) : List α → List α → List α
  | [], B => B
  | a :: A, B => B.takeWhile (fun b => lt b a) ++ a :: mrg lt A (B.dropWhile (fun b => lt b a))
variable {lt : α → α → Bool}
theorem mrg_nil {A : List α} : mrg lt A [] = A := by
  induction A with
  | nil => rfl
  | cons a A ih => show [] ++ a :: mrg lt A [] = _; rw [ih]; rfl
theorem mrg_yes {a b : α} {A B : List α} (h : lt b a = true) : mrg lt (a :: A) (b :: B) = b :: mrg lt (a :: A) B := by
  show (b :: B).takeWhile (fun b => lt b a) ++ a :: mrg lt A ((b :: B).dropWhile (fun b => lt b a)) = b :: (B.takeWhile (fun b => lt b a) ++ a :: mrg lt A (B.dropWhile (fun b => lt b a)))
  rw [List.takeWhile_cons, List.dropWhile_cons, h]
  rfl
theorem mrg_no {a b : α} {A B : List α} (h : lt b a = false) : mrg lt (a :: A) (b :: B) = a :: mrg lt A (b :: B) := by
  show (b :: B).takeWhile (fun b => lt b a) ++ a :: mrg lt A ((b :: B).dropWhile (fun b => lt b a)) = _
  rw [List.takeWhile_cons, List.dropWhile_cons, h]
  rfl
structure Weak (lt : α → α → Bool) (G : α → Prop) : Prop where
  asym : ∀ {x y}, G x → G y → lt x y = true → lt y x = false
  tr : ∀ {x y z}, G x → G y → G z → lt x y = true → lt y z = true → lt x z = true
  ntr : ∀ {x y z}, G x → G y → G z → lt x y = false → lt y z = false → lt x z = false
variable {G : α → Prop}
theorem ins_mrg (W : Weak lt G) {x : α} (hx : G x) : ∀ {A : List α}, (∀ a ∈ A, G a) → ∀ {B : List α}, (∀ b ∈ B, G b) → insF lt x (mrg lt A B) = mrg lt A (insF lt x B)
  | [], _, B, _ => rfl
  | a :: A, hA, [], hB => by
    have ih := ins_mrg W hx (A := A) (fun z hz => hA z (List.mem_cons_of_mem _ hz)) (B := []) hB
    rw [mrg_nil] at ih ⊢
    show (if lt x a = true then x :: a :: A else a :: insF lt x A) = mrg lt (a :: A) [x]
    cases h : lt x a with
    | true => rw [if_pos rfl, mrg_yes h, mrg_nil]
    | false => rw [if_neg Bool.false_ne_true, mrg_no h, ih]; rfl
  | a :: A, hA, b :: B, hB => by
    have ha := hA a List.mem_cons_self
    have hb := hB b List.mem_cons_self
    have hA' : ∀ z ∈ A, G z := fun z hz => hA z (List.mem_cons_of_mem _ hz)
    have hB' : ∀ z ∈ B, G z := fun z hz => hB z (List.mem_cons_of_mem _ hz)
    cases h : lt b a with
    | true =>
      rw [mrg_yes h]
      show (if lt x b = true then x :: b :: mrg lt (a :: A) B else b :: insF lt x (mrg lt (a :: A) B)) = mrg lt (a :: A) (if lt x b = true then x :: b :: B else b :: insF lt x B)
      cases hxb : lt x b with
      | true => rw [if_pos rfl, if_pos rfl, mrg_yes (W.tr hx hb ha hxb h), mrg_yes h]
      | false => rw [if_neg Bool.false_ne_true, if_neg Bool.false_ne_true, mrg_yes h, ins_mrg W hx hA hB']
    | false =>
      rw [mrg_no h]
      show (if lt x a = true then x :: a :: mrg lt A (b :: B) else a :: insF lt x (mrg lt A (b :: B))) = mrg lt (a :: A) (if lt x b = true then x :: b :: B else b :: insF lt x B)
      cases hxa : lt x a with
      | true =>
        have hxb : lt x b = true := by
          cases q : lt x b with
          | true => rfl
          | false => rw [W.ntr hx hb ha q h] at hxa; cases hxa
        rw [if_pos rfl, hxb, if_pos rfl, mrg_yes hxa, mrg_no h]
      | false =>
        rw [if_neg Bool.false_ne_true, ins_mrg W hx hA' hB]
        show a :: mrg lt A (if lt x b = true then x :: b :: B else b :: insF lt x B) = _
        cases hxb : lt x b with
        | true => rw [if_pos rfl, mrg_no hxa]
        | false => rw [if_neg Bool.false_ne_true, mrg_no h]
theorem mem_ins {x y : α} : ∀ {L : List α}, y ∈ insF lt x L → y = x ∨ y ∈ L
  | [], h => .inl (List.mem_singleton.mp h)
  | z :: L, h => by
    unfold insF at h
    split at h
    · rcases List.mem_cons.mp h with h | h
      · exact .inl h
      · exact .inr h
    · rcases List.mem_cons.mp h with h | h
      · exact .inr (by rw [h]; exact List.mem_cons_self)
      · rcases mem_ins h with h | h
        · exact .inl h
        · exact .inr (List.mem_cons_of_mem _ h)
theorem mem_fold {y : α} : ∀ {l acc : List α}, y ∈ l.foldl (fun acc x => insF lt x acc) acc → y ∈ acc ∨ y ∈ l
  | [], acc, h => .inl h
  | x :: l, acc, h => by
    rcases mem_fold (l := l) h with h | h
    · rcases mem_ins h with h | h
      · exact .inr (by rw [h]; exact List.mem_cons_self)
      · exact .inl h
    · exact .inr (List.mem_cons_of_mem _ h)
theorem mem_srt {y : α} {l : List α} (h : y ∈ srt lt l) : y ∈ l := by
  rcases mem_fold h with h | h
  · cases h
  · exact h
theorem srt_app (W : Weak lt G) {l1 l2 : List α} (h1 : ∀ a ∈ l1, G a) (h2 : ∀ a ∈ l2, G a) : srt lt (l1 ++ l2) = mrg lt (srt lt l1) (srt lt l2) := by
  unfold srt
  rw [List.foldl_append]
  have hA : ∀ a ∈ srt lt l1, G a := fun a ha => h1 a (mem_srt ha)
  show l2.foldl _ (srt lt l1) = mrg lt (srt lt l1) _
  generalize srt lt l1 = A at hA
  have key : ∀ (l B : List α), (∀ a ∈ l, G a) → (∀ b ∈ B, G b) → l.foldl (fun acc x => insF lt x acc) (mrg lt A B) = mrg lt A (l.foldl (fun acc x => insF lt x acc) B) := by
    intro l
    induction l with
    | nil => intro B _ _; rfl
    | cons x l ih =>
      intro B hl hB
      show l.foldl _ (insF lt x (mrg lt A B)) = mrg lt A (l.foldl _ (insF lt x B))
      have hx := hl x List.mem_cons_self
      rw [ins_mrg W hx hA hB]
      refine ih _ (fun a ha => hl a (List.mem_cons_of_mem _ ha)) fun b hb => ?_
      rcases mem_ins hb with rfl | hb
      · exact hx
      · exact hB b hb
  have := key l2 [] h2 (fun b hb => nomatch hb)
  rw [mrg_nil] at this
  exact this
def Srd (lt : α → α → Bool) (L : List α) : Prop := L.Pairwise fun a b => lt b a = false
theorem srd_ins (W : Weak lt G) {x : α} (hx : G x) : ∀ {L : List α}, (∀ a ∈ L, G a) → Srd lt L → Srd lt (insF lt x L)
  | [], _, _ => List.pairwise_singleton _ _
  | y :: L, hL, h => by
    have hy := hL y List.mem_cons_self
    have hL' : ∀ a ∈ L, G a := fun a ha => hL a (List.mem_cons_of_mem _ ha)
    obtain ⟨h1, h2⟩ := List.pairwise_cons.mp h
    unfold insF
    split
    · rename_i hxy
      refine List.pairwise_cons.mpr ⟨fun z hz => ?_, h⟩
      have hyx := W.asym hx hy hxy
      rcases List.mem_cons.mp hz with rfl | hz
      · exact hyx
      · exact W.ntr (hL' z hz) hy hx (h1 z hz) hyx
    · rename_i hxy
      refine List.pairwise_cons.mpr ⟨fun z hz => ?_, srd_ins W hx hL' h2⟩
      rcases mem_ins hz with rfl | hz
      · simpa using hxy
      · exact h1 z hz
theorem ins_at : ∀ {x : α} {L : List α} {n : Nat}, (∀ i y, i < n → L[i]? = some y → lt x y = false) → (∀ y, L[n]? = some y → lt x y = true) → n ≤ L.length → insF lt x L = L.take n ++ [x] ++ L.drop n
  | x, [], n, _, _, h => by
    have : n = 0 := by simpa using h
    rw [this]; rfl
  | x, y :: L, 0, _, h2, _ => by
    unfold insF
    rw [if_pos (h2 y rfl)]; rfl
  | x, y :: L, n + 1, h1, h2, h => by
    unfold insF
    rw [if_neg (by rw [h1 0 y (by omega) rfl]; exact Bool.false_ne_true), ins_at (fun i z hi hz => h1 (i + 1) z (by omega) hz) (fun z hz => h2 z hz) (by simpa using h)]
    rfl
end
section
variable {α β : Type} {lt : β → β → Bool} {f : α → β}
theorem mrg_map : ∀ {A B : List α}, (mrg (fun x y => lt (f x) (f y)) A B).map f = mrg lt (A.map f) (B.map f)
  | [], B => rfl
  | a :: A, [] => by rw [mrg_nil, List.map_nil, mrg_nil]
  | a :: A, b :: B => by
    rw [List.map_cons, List.map_cons]
    cases h : lt (f b) (f a) with
    | true =>
      rw [mrg_yes (lt := fun x y => lt (f x) (f y)) h, mrg_yes h, List.map_cons, mrg_map (A := a :: A) (B := B)]; rfl
    | false =>
      rw [mrg_no (lt := fun x y => lt (f x) (f y)) h, mrg_no h, List.map_cons, mrg_map (A := A) (B := b :: B)]; rfl
termination_by A B => A.length + B.length
theorem ins_map {x : α} : ∀ {B : List α}, (insF (fun x y => lt (f x) (f y)) x B).map f = insF lt (f x) (B.map f)
  | [] => rfl
  | b :: B => by
    unfold insF
    rw [List.map_cons]
    show (if lt (f x) (f b) = true then _ else _ : List α).map f = if lt (f x) (f b) = true then _ else _
    split
    · rfl
    · rw [List.map_cons, ins_map]
end
theorem dlt_asym {kd u : Bool} {x y : V} (h : okV kd x) (k : okV kd y) (l : dlt u x y = true) : dlt u y x = false := by
  unfold dlt at l ⊢
  cases u with
  | true => exact lt_asym h k l
  | false => exact lt_asym k h l
theorem dlt_tot {kd u : Bool} {x y : V} (h : okV kd x) (k : okV kd y) (n : x ≠ y) (l : dlt u x y = false) : dlt u y x = true := by
  unfold dlt at l ⊢
  cases u with
  | true =>
    cases e : ltP y x with
    | true => rfl
    | false => exact absurd (lt_tot h k l e) n
  | false =>
    cases e : ltP x y with
    | true => rfl
    | false => exact absurd (lt_tot h k e l) n
theorem dlt_tr {kd u : Bool} {x y z : V} (h : okV kd x) (k : okV kd y) (n : okV kd z) (l : dlt u x y = true) (m : dlt u y z = true) : dlt u x z = true := by
  unfold dlt at l m ⊢
  cases u with
  | true => exact lt_tr h k n l m
  | false => exact lt_tr n k h m l
theorem dlt_irr {u : Bool} {x : V} : dlt u x x = false := by
  unfold dlt
  cases u <;> exact lt_irr
/-- all the places of an order's columns are of their kinds -/
def Gd (ps : List (Str × Bool)) (f : Str → V) (κ : Str → Option Bool) : Prop := ∀ c ∈ ps, ∃ kd, κ c.1 = some kd ∧ okV kd (f c.1)
theorem less_asym {κ : Str → Option Bool} : ∀ {ps : List (Str × Bool)} {f g : Str → V}, Gd ps f κ → Gd ps g κ → lessR ps f g = true → lessR ps g f = false
  | [], _, _, _, _, h => nomatch h
  | c :: r, f, g, hf, hg, h => by
    obtain ⟨kd, e1, o1⟩ := hf c List.mem_cons_self
    obtain ⟨kd2, e2, o2⟩ := hg c List.mem_cons_self
    rw [e1] at e2
    cases e2
    unfold lessR at h ⊢
    by_cases he : f c.1 = g c.1
    · rw [if_pos he] at h
      rw [if_pos he.symm]
      exact less_asym (fun d hd => hf d (List.mem_cons_of_mem _ hd)) (fun d hd => hg d (List.mem_cons_of_mem _ hd)) h
    · rw [if_neg he] at h
      rw [if_neg (fun z => he z.symm)]
      exact dlt_asym o1 o2 h
theorem less_tr {κ : Str → Option Bool} : ∀ {ps : List (Str × Bool)} {f g h : Str → V}, Gd ps f κ → Gd ps g κ → Gd ps h κ → lessR ps f g = true → lessR ps g h = true → lessR ps f h = true
  | [], _, _, _, _, _, _, l, _ => nomatch l
  | c :: r, f, g, h, hf, hg, hh, l, m => by
    obtain ⟨kd, e1, o1⟩ := hf c List.mem_cons_self
    obtain ⟨kd2, e2, o2⟩ := hg c List.mem_cons_self
    obtain ⟨kd3, e3, o3⟩ := hh c List.mem_cons_self
    rw [e1] at e2 e3
    cases e2
    cases e3
    unfold lessR at l m ⊢
    by_cases p : f c.1 = g c.1 <;> by_cases q : g c.1 = h c.1
    · rw [if_pos p] at l
      rw [if_pos q] at m
      rw [if_pos (p.trans q)]
      exact less_tr (fun d hd => hf d (List.mem_cons_of_mem _ hd)) (fun d hd => hg d (List.mem_cons_of_mem _ hd)) (fun d hd => hh d (List.mem_cons_of_mem _ hd)) l m
    · rw [if_neg q] at m
      rw [p, if_neg q]
      exact m
    · rw [if_neg p] at l
      rw [← q, if_neg p]
      exact l
    · rw [if_neg p] at l
      rw [if_neg q] at m
      have t := dlt_tr o1 o2 o3 l m
      rw [if_neg (fun z => by rw [z, dlt_irr] at t; cases t)]
      exact t
theorem less_ntr {κ : Str → Option Bool} : ∀ {ps : List (Str × Bool)} {f g h : Str → V}, Gd ps f κ → Gd ps g κ → Gd ps h κ → lessR ps f g = false → lessR ps g h = false → lessR ps f h = false
  | [], _, _, _, _, _, _, _, _ => rfl
  | c :: r, f, g, h, hf, hg, hh, l, m => by
    obtain ⟨kd, e1, o1⟩ := hf c List.mem_cons_self
    obtain ⟨kd2, e2, o2⟩ := hg c List.mem_cons_self
    obtain ⟨kd3, e3, o3⟩ := hh c List.mem_cons_self
    rw [e1] at e2 e3
    cases e2
    cases e3
    unfold lessR at l m ⊢
    by_cases p : f c.1 = g c.1 <;> by_cases q : g c.1 = h c.1
    · rw [if_pos p] at l
      rw [if_pos q] at m
      rw [if_pos (p.trans q)]
      exact less_ntr (fun d hd => hf d (List.mem_cons_of_mem _ hd)) (fun d hd => hg d (List.mem_cons_of_mem _ hd)) (fun d hd => hh d (List.mem_cons_of_mem _ hd)) l m
    · rw [if_neg q] at m
      rw [p, if_neg q]
      exact m
    · rw [if_neg p] at l
      rw [← q, if_neg p]
      exact l
    · rw [if_neg p] at l
      rw [if_neg q] at m
      have a := dlt_tot o1 o2 p l
      have b := dlt_tot o2 o3 q m
      have t := dlt_tr o3 o2 o1 b a
      rw [if_neg (fun z => by rw [z, dlt_irr] at t; cases t)]
      exact dlt_asym o3 o1 t
def ltR (ps : List (Str × Bool)) (x y : List (Key × V)) : Bool := lessR ps (valK x) (valK y)
theorem RowOk.gd {κ : Str → Option Bool} {ps : List (Str × Bool)} {x : List (Key × V)} (h : RowOk κ x) (hK : KOk κ ps) : Gd ps (valK x) κ := fun c hc => by
  obtain ⟨kd, e⟩ := hK.2 c hc
  exact ⟨kd, e, (h.get e).2⟩
theorem weakR {κ : Str → Option Bool} {ps : List (Str × Bool)} (hK : KOk κ ps) : Weak (ltR ps) (RowOk κ) where
  asym := fun hx hy h => less_asym (hx.gd hK) (hy.gd hK) h
  tr := fun hx hy hz h k => less_tr (hx.gd hK) (hy.gd hK) (hz.gd hK) h k
  ntr := fun hx hy hz h k => less_ntr (hx.gd hK) (hy.gd hK) (hz.gd hK) h k
/-! the sorts -/
abbrev RW := List (Key × V)
def rf (x : Addr × RW) : V := .ref x.1
def RL (H : Hp) (l : Addr) (xs : List (Addr × RW)) : Prop := H l = some (.lst (xs.map rf)) ∧ ∀ x ∈ xs, H x.1 = some (.dK x.2)
theorem RL.keep {H H' : Hp} {l : Addr} {xs : List (Addr × RW)} (h : RL H l xs) (k : ∀ q o, H q = some o → H' q = some o) : RL H' l xs := ⟨k _ _ h.1, fun x hx => k _ _ (h.2 x hx)⟩
abbrev ltA (ps : List (Str × Bool)) : (Addr × RW) → (Addr × RW) → Bool := fun x y => ltR ps x.2 y.2
theorem cut_hi {xs : List V} {n : Nat} (h : n ≤ xs.length) : cutV xs none (some (n : Int)) = xs.take n := by
  unfold cutV
  show (xs.drop 0).take (HT.sIx xs.length xs.length (some ((n : Nat) : Int)) - 0) = _
  rw [HT.sIx_nat, List.drop_zero, Nat.sub_zero, Nat.min_eq_left h]
theorem cut_lo {xs : List V} {n : Nat} (h : n ≤ xs.length) : cutV xs (some (n : Int)) none = xs.drop n := by
  unfold cutV
  show (xs.drop (HT.sIx xs.length 0 (some ((n : Nat) : Int)))).take (xs.length - HT.sIx xs.length 0 (some ((n : Nat) : Int))) = _
  rw [HT.sIx_nat, Nat.min_eq_left h, List.take_of_length_le]
  rw [List.length_drop]
  omega
theorem mrg_len {α : Type} {lt : α → α → Bool} : ∀ {A B : List α}, (mrg lt A B).length = A.length + B.length
  | [], B => by show B.length = _; simp
  | a :: A, [] => by rw [mrg_nil]; simp
  | a :: A, b :: B => by
    cases h : lt b a with
    | true => rw [mrg_yes h, List.length_cons, mrg_len (A := a :: A) (B := B)]; simp; omega
    | false => rw [mrg_no h, List.length_cons, mrg_len (A := A) (B := b :: B)]; simp; omega
termination_by A B => A.length + B.length
theorem mem_mrg {α : Type} {lt : α → α → Bool} {x : α} : ∀ {A B : List α}, x ∈ mrg lt A B → x ∈ A ∨ x ∈ B
  | [], B, h => .inr h
  | a :: A, B, h => by
    rcases List.mem_append.mp (show x ∈ B.takeWhile (fun b => lt b a) ++ a :: mrg lt A (B.dropWhile (fun b => lt b a)) from h) with h | h
    · exact .inr ((List.takeWhile_sublist _).subset h)
    · rcases List.mem_cons.mp h with h | h
      · exact .inl (by rw [h]; exact List.mem_cons_self)
      · rcases mem_mrg h with h | h
        · exact .inl (List.mem_cons_of_mem _ h)
        · exact .inr ((List.dropWhile_sublist _).subset h)
def spMerged : Sp := fun vs H Q _ => ∃ (O l1 l2 : Addr) (ps : List (Str × Bool)) (κ : Str → Option Bool) (A B : List (Addr × RW)), vs = [.ref O, .ref l1, .ref l2] ∧ OT H O ps ∧ RL H l1 A ∧ RL H l2 B ∧ (∀ x ∈ A, RowOk κ x.2) ∧ (∀ x ∈ B, RowOk κ x.2) ∧ KOk κ ps ∧ A.length + B.length ≤ 1000 ∧ ∀ (l : Addr) (H' : Hp), H l = none → (∀ q o, H q = some o → H' q = some o) → RL H' l (mrg (ltA ps) A B) → Q (.ref l) H'
section
variable {P : Program} {w : World} {K : PySem.W.Frag} {mg : Str → Option Value} {base : Heap}
theorem ok_merged (T : Txt K mg) : Def P w K mg base 3 "merged" ["order", "rows", "others"] spMerged := by
  obtain ⟨f, fd, h⟩ := T.d_merged
  refine h.def (Fun.okM h.fn sc_merged (fun vs H Q E h => ?_) (fun cdv A outer s H vs Q E hr h => ?_))
  · obtain ⟨O, l1, l2, ps, κ, A, B, rfl, _⟩ := h
    rfl
  · obtain ⟨O, l1, l2, ps, κ, A, B, rfl, hO, hA, hB, RA, RB, hK, hlen, k⟩ := h
    refine ⟨_, (pss_cons (ps_set (i := 3) sc_merged.nd rfl (Or.inl rfl) (pe_lst pa_nil))
  (pss_cons (ps_set (i := 4) sc_merged.nd rfl (Or.inl rfl) pe_int)
  (pss_cons (ps_for PassesOwn.never rfl (pi_list (pv 1)) (pg_name (i := 5) sc_merged.nd rfl (Or.inl rfl))
  (pss_cons (ps_while PassesOwn.never (PW.pt (pw_and (pt_cmpR op_ltG (pv 4) (pe_callB (call_lenG (K := K) rfl) (by rfl) T.h_len (by decide +kernel) (pa_cons (pv 2) pa_nil)) (nomark _)) (pw_and1 (pt_val (pe_def (ok_comes_ahead T) hr rfl (pa_cons (pv 0) (pa_cons (pe_ix (ix_seqG (K := K) rfl) (pv 2) (pv 4) (fun _ _ => rfl)) (pa_cons (pv 5) pa_nil))))))))
  (pss_cons (ps_expr (pe_bm PySem.F.plainAttrs_list PySem.F.slot_list_append PySem.F.type_list_append mt_append (pv 3) (pa_cons (pe_ix (ix_seqG (K := K) rfl) (pv 2) (pv 4) (fun _ _ => rfl)) pa_nil)))
  (pss_one (ps_aug (i := 4) sc_merged.nd rfl (Or.inl rfl) pe_int ip_add))))
  (pss_one (ps_expr (pe_bm PySem.F.plainAttrs_list PySem.F.slot_list_append PySem.F.type_list_append mt_append (pv 3) (pa_cons (pv 5) pa_nil))))))
  (pss_one (ps_ret (pe_op op_addG (pv 3) (pe_slice (sl_G (K := K) rfl) (pv 2) (po_some (pv 4)) po_none))))))), ?_⟩
    walk_at "g"
    refine ⟨Nat.zero_le _, fun F hF => ?_⟩
    have x1 : ∀ q o, H q = some o → (upd H F (.lst [])) q = some o := fun q o h => by rw [upd_ne (ne_of_none h hF)]; exact h
    have eF : (upd H F (.lst [])) F = some (.lst (([] : List (Addr × RW)).map rf)) := upd_same
    generalize upd H F (.lst []) = H1 at x1 eF
    walk_at "g"
    refine ⟨l1, rfl, ⟨_, SqL.of (x1 _ _ hA.1)⟩, for_listA (xs := A.map rf) (fun j σ' H' => ∃ (s5 : Option V) (n : Nat) (fs : List (Addr × RW)), σ' = [some (.ref O), some (.ref l1), some (.ref l2), some (.ref F), some (.int (n : Int)), s5] ∧ (∀ q o, H q = some o → H' q = some o) ∧ H' F = some (.lst (fs.map rf)) ∧ n ≤ B.length ∧ mrg (ltA ps) A B = fs ++ mrg (ltA ps) (A.drop j) (B.drop n) ∧ fs.length = j + n) ⟨none, 0, [], rfl, x1, eF, Nat.zero_le _, rfl, rfl⟩ (fun _ _ _ _ e => by obtain ⟨_, _, _, _, k, _⟩ := e; exact SqL.of (k _ _ hA.1)) ?_ ?_⟩
    · rintro j x σ' H2 D' hj ⟨s5, n, fs, rfl, K2, eF2, hn, hm, hl⟩ hnx hct hbk hrt
      rw [List.getElem?_map] at hj
      obtain ⟨a, haj, rfl⟩ := Option.map_eq_some_iff.mp hj
      obtain ⟨hjl, hja⟩ := List.getElem?_eq_some_iff.mp haj
      have hdA : A.drop j = a :: A.drop (j + 1) := by rw [List.drop_eq_getElem_cons hjl, hja]
      have hmA := List.mem_of_getElem? haj
      rw [hdA] at hm
      walk_at "g"
      refine g_while ?_
      obtain ⟨W, hW⟩ : ∃ W : Nat → L2.St → Hp → Prop, ∀ m σ' H', W m σ' H' ↔ ∃ (n : Nat) (fs : List (Addr × RW)), σ' = [some (.ref O), some (.ref l1), some (.ref l2), some (.ref F), some (.int (n : Int)), some (.ref a.1)] ∧ m = B.length - n ∧ (∀ q o, H q = some o → H' q = some o) ∧ H' F = some (.lst (fs.map rf)) ∧ n ≤ B.length ∧ mrg (ltA ps) A B = fs ++ mrg (ltA ps) (a :: A.drop (j + 1)) (B.drop n) ∧ fs.length = j + n := ⟨_, fun _ _ _ => Iff.rfl⟩
      refine ⟨W, ⟨_, (hW _ _ _).mpr ⟨n, fs, rfl, rfl, K2, eF2, hn, hm, hl⟩⟩, fun m σ' H3 hw => ?_⟩
      obtain ⟨n, fs, rfl, rfl, K3, eF3, hn, hm, hl⟩ := (hW _ _ _).mp hw
      clear hw eF2 K2
      have hB3 := K3 _ _ hB.1
      have fin : (∀ b, B[n]? = some b → ltA ps b a = false) → (tSeq (tDrop (tBM K "list" rAppend (tVar 3) (tCons (tVar 5) tNil))) tNext) D' [some (.ref O), some (.ref l1), some (.ref l2), some (.ref F), some (.int (n : Int)), some (.ref a.1)] H3 := fun hno => by
        walk_at "g"
        refine hnx _ _ ⟨_, n, fs ++ [a], rfl, fun q o h => by rw [upd_ne (ne_of_none h hF)]; exact K3 q o h, by rw [upd_same, List.map_append]; rfl, hn, ?_, by rw [List.length_append]; show _ + 1 = _; omega⟩
        have e : mrg (ltA ps) (a :: A.drop (j + 1)) (B.drop n) = a :: mrg (ltA ps) (A.drop (j + 1)) (B.drop n) := by
          by_cases hnB : n < B.length
          · rw [List.drop_eq_getElem_cons hnB, mrg_no (hno _ (List.getElem?_eq_getElem hnB))]
          · have eB : B.drop n = [] := List.drop_of_length_le (by omega)
            rw [eB, mrg_nil, mrg_nil]
        rw [hm, e, List.append_assoc]; rfl
      walk_at "g"
      refine g_dec (fun h0 => ?_) (fun h0 => ?_)
      · rw [List.length_map] at h0
        have hnB : n < B.length := by omega
        obtain ⟨b, hb⟩ : ∃ b, B[n]? = some b := ⟨_, List.getElem?_eq_getElem hnB⟩
        have hbm := List.mem_of_getElem? hb
        have hbv : (B.map rf)[n]? = some (.ref b.1) := by rw [List.getElem?_map, hb]; rfl
        walk_at "g"
        refine g_ixL (SqL.of hB3) (v := .ref b.1) (atI_nat (j := n) hbv) ?_
        walk_at "g"
        refine ⟨O, b.1, a.1, ps, κ, b.2, a.2, rfl, hO.keep K3, K3 _ _ (hB.2 b hbm), K3 _ _ (hA.2 a hmA), RB b hbm, RA a hmA, hK, ?_⟩
        walk_at "g"
        refine g_split (fun hy => ?_) (fun hno => ?_)
        · refine ⟨fun σ' H' => ∃ m', m' < B.length - n ∧ W m' σ' H', fun _ _ h => h, ?_⟩
          walk_at "g"
          refine g_ixL (SqL.of hB3) (v := .ref b.1) (atI_nat (j := n) hbv) ?_
          walk_at "g"
          refine ⟨_, rfl, ?_⟩
          walk_at "g"
          refine ⟨(n : Int), 1, rfl, rfl, ?_⟩
          refine ⟨B.length - (n + 1), by omega, (hW _ _ _).mpr ⟨n + 1, fs ++ [b], rfl, rfl, fun q o h => by rw [upd_ne (ne_of_none h hF)]; exact K3 q o h, by rw [upd_same, List.map_append]; rfl, by omega, ?_, by rw [List.length_append]; show _ + 1 = _; omega⟩⟩
          have hdB : B.drop n = b :: B.drop (n + 1) := by
            obtain ⟨h1, h2⟩ := List.getElem?_eq_some_iff.mp hb
            rw [List.drop_eq_getElem_cons h1, h2]
          rw [hm, hdB, mrg_yes (show ltA ps b a = true from hy), List.append_assoc]; rfl
        · exact fin fun b' hb' => by
            rw [hb] at hb'
            cases hb'
            exact hno
      · rw [List.length_map] at h0
        exact fin fun b' hb' => by
          have := (List.getElem?_eq_some_iff.mp hb').1
          omega
    · rintro σ' H2 ⟨s5, n, fs, rfl, K2, eF2, hn, hm, hl⟩
      rw [List.length_map] at hm hl
      rw [List.drop_length] at hm
      have hB2 := K2 _ _ hB.1
      walk_at "g"
      refine g_slL (SqL.of hB2) fun l3 hl3 => ?_
      rw [cut_lo (by rw [List.length_map]; exact hn), ← List.map_drop]
      have x3 : ∀ q o, H2 q = some o → (upd H2 l3 (.lst ((B.drop n).map rf))) q = some o := fun q o h => by rw [upd_ne (ne_of_none h hl3)]; exact h
      have e3 : (upd H2 l3 (.lst ((B.drop n).map rf))) l3 = some (.lst ((B.drop n).map rf)) := upd_same
      generalize upd H2 l3 (.lst ((B.drop n).map rf)) = H3 at x3 e3
      refine .inr (.inr ⟨F, l3, _, _, rfl, rfl, x3 _ _ eF2, e3, by rw [List.length_map, List.length_map, List.length_drop, sizeLine_eq]; omega, fun l hl => ?_⟩)
      walk_at "g"
      have hlH : H l = none := by
        cases e : H l with
        | none => rfl
        | some o => rw [x3 _ _ (K2 _ _ e)] at hl; cases hl
      have kall : ∀ q o, H q = some o → (upd H3 l (.lst (fs.map rf ++ (B.drop n).map rf))) q = some o := fun q o h => by rw [upd_ne (ne_of_none h hlH)]; exact x3 _ _ (K2 _ _ h)
      refine k l _ hlH kall ⟨?_, fun x hx => ?_⟩
      · rw [upd_same, hm, List.map_append]; rfl
      · rcases mem_mrg hx with hx | hx
        · exact kall _ _ (hA.2 x hx)
        · exact kall _ _ (hB.2 x hx)
end
def spSort (n : Nat) : Sp := fun vs H Q _ => ∃ (O l : Addr) (ps : List (Str × Bool)) (κ : Str → Option Bool) (xs : List (Addr × RW)), vs = [.ref O, .ref l] ∧ OT H O ps ∧ RL H l xs ∧ (∀ x ∈ xs, RowOk κ x.2) ∧ KOk κ ps ∧ xs.length ≤ 2 ^ n ∧ xs.length ≤ 200 ∧ ∀ (l2 : Addr) (ys : List (Addr × RW)) (H' : Hp), H l2 = none → (∀ q o, H q = some o → H' q = some o) → RL H' l2 ys → ys.map (·.2) = srt (ltR ps) (xs.map (·.2)) → (∀ y ∈ ys, H y.1 = none) → Q (.ref l2) H'
theorem none_back {H H' : Hp} (k : ∀ q o, H q = some o → H' q = some o) {t : Addr} (h : H' t = none) : H t = none := by
  cases e : H t with
  | none => rfl
  | some o => rw [k _ _ e] at h; cases h
theorem refs_of : ∀ {ys : List V} {P : Nat → Addr → Prop}, (∀ i y, ys[i]? = some y → ∃ t, y = .ref t ∧ P i t) → ∃ qs : List Addr, ys = qs.map V.ref ∧ ∀ i q, qs[i]? = some q → P i q
  | [], _, _ => ⟨[], rfl, fun i q h => by simp at h⟩
  | y :: ys, P, h => by
    obtain ⟨t, rfl, p⟩ := h 0 y rfl
    obtain ⟨qs, rfl, r⟩ := refs_of (ys := ys) (P := fun i t => P (i + 1) t) fun i y hy => h (i + 1) y hy
    refine ⟨t :: qs, rfl, fun i q hq => ?_⟩
    cases i with
    | zero =>
      obtain rfl : t = q := by simpa using hq
      exact p
    | succ i => exact r i q hq
def fl2 (c : Str × Bool) : Str × Bool := (c.1, !c.2)
theorem less_flip : ∀ {ps : List (Str × Bool)} {f g : Str → V}, lessR (ps.map fl2) f g = lessR ps g f
  | [], _, _ => rfl
  | c :: r, f, g => by
    show (if f c.1 = g c.1 then lessR (r.map fl2) f g else dlt (!c.2) (f c.1) (g c.1)) = if g c.1 = f c.1 then lessR r g f else dlt c.2 (g c.1) (f c.1)
    by_cases h : f c.1 = g c.1
    · rw [if_pos h, if_pos h.symm, less_flip]
    · rw [if_neg h, if_neg (fun z => h z.symm)]
      cases c.2 <;> rfl
def spTurned : Sp := fun vs H Q _ => ∃ (O : Addr) (ps : List (Str × Bool)), vs = [.ref O] ∧ OT H O ps ∧ ps.length ≤ 100 ∧ ∀ (l : Addr) (H' : Hp), H l = none → (∀ q o, H q = some o → H' q = some o) → OT H' l (ps.map fl2) → Q (.ref l) H'
def spLawSort : Sp := fun vs H Q _ => ∃ (O l : Addr) (ps : List (Str × Bool)) (κ : Str → Option Bool) (xs : List (Addr × RW)), vs = [.ref O, .ref l] ∧ LAt H O (ps.map pt) ∧ RL H l xs ∧ (∀ x ∈ xs, RowOk κ x.2) ∧ KOk κ ps ∧ xs.length ≤ 200 ∧ ∀ (l2 : Addr) (H' : Hp), H l2 = none → (∀ q o, H q = some o → H' q = some o) → RL H' l2 (srt (ltA ps) xs) → Q (.ref l2) H'
theorem weakA {κ : Str → Option Bool} {ps : List (Str × Bool)} (hK : KOk κ ps) : Weak (ltA ps) (fun x => RowOk κ x.2) where
  asym := fun hx hy h => (weakR hK).asym hx hy h
  tr := fun hx hy hz h k => (weakR hK).tr hx hy hz h k
  ntr := fun hx hy hz h k => (weakR hK).ntr hx hy hz h k
section
variable {P : Program} {w : World} {K : PySem.W.Frag} {mg : Str → Option Value} {base : Heap}
theorem len_ins {α : Type} {lt : α → α → Bool} {x : α} : ∀ {L : List α}, (insF lt x L).length = L.length + 1
  | [] => rfl
  | y :: L => by
    unfold insF
    split
    · rfl
    · rw [List.length_cons, len_ins, List.length_cons]
theorem len_fold {α : Type} {lt : α → α → Bool} : ∀ {l acc : List α}, (l.foldl (fun acc x => insF lt x acc) acc).length = acc.length + l.length
  | [], acc => rfl
  | x :: l, acc => by
    show (l.foldl _ (insF lt x acc)).length = _
    rw [len_fold, len_ins, List.length_cons]
    omega
theorem len_srt {α : Type} {lt : α → α → Bool} {l : List α} : (srt lt l).length = l.length := by
  unfold srt
  rw [len_fold]
  simp
theorem ok_sort_rowsN (T : Txt K mg) : ∀ n, Def P w K mg base (n + 4) "sort_rows" ["order", "rows"] (spSort n) := by
  intro n
  induction n with
  | zero =>
    obtain ⟨f, fd, h⟩ := T.d_sort_rows
    refine h.def (Fun.okM h.fn sc_sort_rows (fun vs H Q E h => ?_) (fun cdv A outer s H vs Q E hr h => ?_))
    · obtain ⟨O, l, ps, κ, xs, rfl, _⟩ := h
      rfl
    · obtain ⟨O, l, ps, κ, xs, rfl, hO, hl, hR, hK, hn, hz, k⟩ := h
      refine ⟨_, (pss_cons (ps_if (pt_cmpR op_ltG (pe_callB (call_lenG (K := K) rfl) (by rfl) T.h_len (by decide +kernel) (pa_cons (pv 1) pa_nil)) pe_int (nomark _))
  (pss_one (ps_ret (pe_lc (own := [("row", 3)]) rfl sc_sort_rows.nd (pi_list (pv 1)) (blkOk_by (N := N_sort_rows) (sc := defScope S_sort_rows) (by decide +kernel)) (fun _ _ _ _ _ => pg_name (i := 3) sc_sort_rows.nd rfl (Or.inl rfl)) (fun _ _ _ _ _ => pts_nil) (fun _ _ _ _ _ => (pe_callTy call_dictD (by rfl) T.h_dict (by decide +kernel) (pa_cons (pv 3) pa_nil))))))
  pss_nil)
  (pss_cons (ps_set (i := 2) sc_sort_rows.nd rfl (Or.inl rfl) (pe_op op_fdG (pe_callB (call_lenG (K := K) rfl) (by rfl) T.h_len (by decide +kernel) (pa_cons (pv 1) pa_nil)) pe_int))
  (pss_one ps_never))), ?_⟩
      have hlH := hl.1
      walk_at "g"
      refine g_dec (fun hlt => ?_) (fun h0 => ?_)
      · have hx1 : xs.length ≤ 1 := by rw [List.length_map] at hlt; omega
        walk_at "g"
        refine ⟨l, rfl, ⟨_, SqL.of hl.1⟩, fun D hD => ?_⟩
        refine lc_new (xs.map rf) (fun i y H' => ∃ t x, y = .ref t ∧ xs[i]? = some x ∧ H' t = some (.dK x.2) ∧ H t = none) hD (fun H2 k2 => fits_l (SqL.of (k2 _ _ hl.1))) (by rw [List.length_map]; omega) ?_ ?_ ?_
        · rintro i y Ha Hb ⟨zs, hz⟩ ⟨t, x, rfl, h1, h2, h3⟩ hk
          exact ⟨t, x, rfl, h1, hk _ _ (fun z => by rw [z, hz] at h2; cases h2) h2, h3⟩
        · intro i x Hh R S hx kh _ hR
          rw [List.getElem?_map] at hx
          obtain ⟨y, hy, rfl⟩ := Option.map_eq_some_iff.mp hx
          walk_at "g"
          refine ⟨rfl, ?_⟩
          walk_at "g"
          refine ⟨y.1, y.2, rfl, Rd.of (kh _ _ (hl.2 y (List.mem_of_getElem? hy))), fun t ht => ?_⟩
          exact hR _ _ (fun q o h => by rw [upd_ne (ne_of_none h ht)]; exact h) ⟨t, y, rfl, hy, upd_same, none_back kh ht⟩
        · intro H2 ys k2 h2 hyl hys
          walk_at "g"
          rw [List.length_map] at hyl
          obtain ⟨zs, hz1, hz2, hz3, hz4⟩ : ∃ zs : List (Addr × RW), ys = zs.map rf ∧ (∀ z ∈ zs, H2 z.1 = some (.dK z.2)) ∧ zs.map (·.2) = srt (ltR ps) (xs.map (·.2)) ∧ ∀ z ∈ zs, H z.1 = none := by
            clear hl h2
            match xs, ys, hyl, hys, hx1 with
            | [], [], _, _, _ => exact ⟨[], rfl, fun z hz => (nomatch hz), rfl, fun z hz => (nomatch hz)⟩
            | [x], [y], _, hys, _ =>
              obtain ⟨t, x', rfl, e1, e2, e3⟩ := hys 0 y rfl
              obtain rfl : x = x' := by simpa using e1
              exact ⟨[(t, x.2)], rfl, fun z hz => by rw [List.mem_singleton.mp hz]; exact e2, rfl, fun z hz => by rw [List.mem_singleton.mp hz]; exact e3⟩
            | x :: x2 :: r, _, _, _, hx1 => exact absurd hx1 (by rw [List.length_cons, List.length_cons]; omega)
          subst hz1
          exact k D zs H2 hD k2 ⟨h2, hz2⟩ hz3 hz4
      · rw [List.length_map] at h0
        have : xs.length ≤ 1 := hn
        omega
  | succ n ih =>
    have ok_sort_rows : Txt K mg → Def P w K mg base (n + 4) "sort_rows" ["order", "rows"] (spSort n) := fun _ => ih
    obtain ⟨f, fd, h⟩ := T.d_sort_rows
    refine h.def (Fun.okM h.fn sc_sort_rows (fun vs H Q E h => ?_) (fun cdv A outer s H vs Q E hr h => ?_))
    · obtain ⟨O, l, ps, κ, xs, rfl, _⟩ := h
      rfl
    · obtain ⟨O, l, ps, κ, xs, rfl, hO, hl, hR, hK, hn, hz, k⟩ := h
      refine ⟨_, (pss_cons (ps_if (pt_cmpR op_ltG (pe_callB (call_lenG (K := K) rfl) (by rfl) T.h_len (by decide +kernel) (pa_cons (pv 1) pa_nil)) pe_int (nomark _))
  (pss_one (ps_ret (pe_lc (own := [("row", 3)]) rfl sc_sort_rows.nd (pi_list (pv 1)) (blkOk_by (N := N_sort_rows) (sc := defScope S_sort_rows) (by decide +kernel)) (fun _ _ _ _ _ => pg_name (i := 3) sc_sort_rows.nd rfl (Or.inl rfl)) (fun _ _ _ _ _ => pts_nil) (fun _ _ _ _ _ => (pe_callTy call_dictD (by rfl) T.h_dict (by decide +kernel) (pa_cons (pv 3) pa_nil))))))
  pss_nil)
  (pss_cons (ps_set (i := 2) sc_sort_rows.nd rfl (Or.inl rfl) (pe_op op_fdG (pe_callB (call_lenG (K := K) rfl) (by rfl) T.h_len (by decide +kernel) (pa_cons (pv 1) pa_nil)) pe_int))
  (pss_one (ps_ret (pe_def (ok_merged T) hr rfl (pa_cons (pv 0) (pa_cons (pe_def (ok_sort_rows T) hr rfl (pa_cons (pv 0) (pa_cons (pe_slice (sl_G (K := K) rfl) (pv 1) po_none (po_some (pv 2))) pa_nil)) (hk := by omega)) (pa_cons (pe_def (ok_sort_rows T) hr rfl (pa_cons (pv 0) (pa_cons (pe_slice (sl_G (K := K) rfl) (pv 1) (po_some (pv 2)) po_none) pa_nil)) (hk := by omega)) pa_nil))) (hk := by omega)))))), ?_⟩
      have hlH := hl.1
      walk_at "g"
      refine g_dec (fun hlt => ?_) (fun h0 => ?_)
      · have hx1 : xs.length ≤ 1 := by rw [List.length_map] at hlt; omega
        walk_at "g"
        refine ⟨l, rfl, ⟨_, SqL.of hl.1⟩, fun D hD => ?_⟩
        refine lc_new (xs.map rf) (fun i y H' => ∃ t x, y = .ref t ∧ xs[i]? = some x ∧ H' t = some (.dK x.2) ∧ H t = none) hD (fun H2 k2 => fits_l (SqL.of (k2 _ _ hl.1))) (by rw [List.length_map]; omega) ?_ ?_ ?_
        · rintro i y Ha Hb ⟨zs, hz⟩ ⟨t, x, rfl, h1, h2, h3⟩ hk
          exact ⟨t, x, rfl, h1, hk _ _ (fun z => by rw [z, hz] at h2; cases h2) h2, h3⟩
        · intro i x Hh R S hx kh _ hR
          rw [List.getElem?_map] at hx
          obtain ⟨y, hy, rfl⟩ := Option.map_eq_some_iff.mp hx
          walk_at "g"
          refine ⟨rfl, ?_⟩
          walk_at "g"
          refine ⟨y.1, y.2, rfl, Rd.of (kh _ _ (hl.2 y (List.mem_of_getElem? hy))), fun t ht => ?_⟩
          exact hR _ _ (fun q o h => by rw [upd_ne (ne_of_none h ht)]; exact h) ⟨t, y, rfl, hy, upd_same, none_back kh ht⟩
        · intro H2 ys k2 h2 hyl hys
          walk_at "g"
          rw [List.length_map] at hyl
          obtain ⟨zs, hz1, hz2, hz3, hz4⟩ : ∃ zs : List (Addr × RW), ys = zs.map rf ∧ (∀ z ∈ zs, H2 z.1 = some (.dK z.2)) ∧ zs.map (·.2) = srt (ltR ps) (xs.map (·.2)) ∧ ∀ z ∈ zs, H z.1 = none := by
            clear hl h2
            match xs, ys, hyl, hys, hx1 with
            | [], [], _, _, _ => exact ⟨[], rfl, fun z hz => (nomatch hz), rfl, fun z hz => (nomatch hz)⟩
            | [x], [y], _, hys, _ =>
              obtain ⟨t, x', rfl, e1, e2, e3⟩ := hys 0 y rfl
              obtain rfl : x = x' := by simpa using e1
              exact ⟨[(t, x.2)], rfl, fun z hz => by rw [List.mem_singleton.mp hz]; exact e2, rfl, fun z hz => by rw [List.mem_singleton.mp hz]; exact e3⟩
            | x :: x2 :: r, _, _, _, hx1 => exact absurd hx1 (by rw [List.length_cons, List.length_cons]; omega)
          subst hz1
          exact k D zs H2 hD k2 ⟨h2, hz2⟩ hz3 hz4
      · have eh : ((xs.map rf).length : Int) / 2 = ((xs.length / 2 : Nat) : Int) := by rw [List.length_map]; omega
        walk_at "g"
        rw [eh]
        have hp2 : 2 ^ (n + 1) = 2 * 2 ^ n := by rw [Nat.pow_succ, Nat.mul_comm]
        have h1 : xs.length / 2 ≤ 2 ^ n := by omega
        have h2 : xs.length - xs.length / 2 ≤ 2 ^ n ∨ xs.length % 2 = 1 := by omega
        walk_at "g"
        refine g_slL (SqL.of hl.1) fun l3 hl3 => ?_
        rw [cut_hi (by rw [List.length_map]; omega), ← List.map_take]
        have x3 : ∀ q o, H q = some o → (upd H l3 (.lst ((xs.take (xs.length / 2)).map rf))) q = some o := fun q o h => by rw [upd_ne (ne_of_none h hl3)]; exact h
        have R3 : RL (upd H l3 (.lst ((xs.take (xs.length / 2)).map rf))) l3 (xs.take (xs.length / 2)) := ⟨upd_same, fun x hx => x3 _ _ (hl.2 x (List.mem_of_mem_take hx))⟩
        generalize upd H l3 (.lst ((xs.take (xs.length / 2)).map rf)) = H3 at x3 R3
        walk_at "g"
        refine ⟨O, l3, ps, κ, xs.take (xs.length / 2), rfl, hO.keep x3, R3, fun x hx => hR x (List.mem_of_mem_take hx), hK, by rw [List.length_take]; omega, by rw [List.length_take]; omega, fun l4 ys1 H4 hl4 x4 R4 e4 n4 => ?_⟩
        have x04 : ∀ q o, H q = some o → H4 q = some o := fun q o h => x4 _ _ (x3 _ _ h)
        walk_at "g"
        refine g_slL (SqL.of (x04 _ _ hl.1)) fun l5 hl5 => ?_
        rw [cut_lo (by rw [List.length_map]; omega), ← List.map_drop]
        have x5 : ∀ q o, H4 q = some o → (upd H4 l5 (.lst ((xs.drop (xs.length / 2)).map rf))) q = some o := fun q o h => by rw [upd_ne (ne_of_none h hl5)]; exact h
        have R5 : RL (upd H4 l5 (.lst ((xs.drop (xs.length / 2)).map rf))) l5 (xs.drop (xs.length / 2)) := ⟨upd_same, fun x hx => x5 _ _ (x04 _ _ (hl.2 x (List.mem_of_mem_drop hx)))⟩
        generalize upd H4 l5 (.lst ((xs.drop (xs.length / 2)).map rf)) = H5 at x5 R5
        have x05 : ∀ q o, H q = some o → H5 q = some o := fun q o h => x5 _ _ (x04 _ _ h)
        walk_at "g"
        refine ⟨O, l5, ps, κ, xs.drop (xs.length / 2), rfl, hO.keep x05, R5, fun x hx => hR x (List.mem_of_mem_drop hx), hK, by rw [List.length_drop]; omega, by rw [List.length_drop]; omega, fun l6 ys2 H6 hl6 x6 R6 e6 n6 => ?_⟩
        have x06 : ∀ q o, H q = some o → H6 q = some o := fun q o h => x6 _ _ (x05 _ _ h)
        have ok1 : ∀ y ∈ ys1, RowOk κ y.2 := fun y hy => by
          have : y.2 ∈ ys1.map (·.2) := List.mem_map.mpr ⟨y, hy, rfl⟩
          rw [e4] at this
          obtain ⟨x, hx, e⟩ := List.mem_map.mp (mem_srt this)
          rw [← e]
          exact hR x (List.mem_of_mem_take hx)
        have ok2 : ∀ y ∈ ys2, RowOk κ y.2 := fun y hy => by
          have : y.2 ∈ ys2.map (·.2) := List.mem_map.mpr ⟨y, hy, rfl⟩
          rw [e6] at this
          obtain ⟨x, hx, e⟩ := List.mem_map.mp (mem_srt this)
          rw [← e]
          exact hR x (List.mem_of_mem_drop hx)
        have len_srt : ∀ zs : List RW, (srt (ltR ps) zs).length = zs.length := fun zs => len_srt
        have L1 : ys1.length ≤ 200 := by
          have := congrArg List.length e4
          rw [List.length_map, len_srt, List.length_map, List.length_take] at this
          omega
        have L2 : ys2.length ≤ 200 := by
          have := congrArg List.length e6
          rw [List.length_map, len_srt, List.length_map, List.length_drop] at this
          omega
        walk_at "g"
        refine ⟨O, l4, l6, ps, κ, ys1, ys2, rfl, hO.keep x06, R4.keep fun q o h => x6 _ _ (x5 _ _ h), R6, ok1, ok2, hK, by omega, fun l7 H7 hl7 x7 R7 => ?_⟩
        refine k l7 _ H7 (none_back x06 hl7) (fun q o h => x7 _ _ (x06 _ _ h)) R7 ?_ fun y hy => ?_
        · have e := mrg_map (lt := ltR ps) (f := fun x : Addr × RW => x.2) (A := ys1) (B := ys2)
          refine Eq.trans e ?_
          rw [e4, e6, ← srt_app (weakR hK) (fun a ha => by obtain ⟨x, hx, rfl⟩ := List.mem_map.mp ha; exact hR x (List.mem_of_mem_take hx)) (fun a ha => by obtain ⟨x, hx, rfl⟩ := List.mem_map.mp ha; exact hR x (List.mem_of_mem_drop hx)), ← List.map_append, List.take_append_drop]
        · rcases mem_mrg hy with hy | hy
          · exact none_back x3 (n4 y hy)
          · exact none_back x05 (n6 y hy)
theorem ok_sort_rows (T : Txt K mg) : Def P w K mg base 12 "sort_rows" ["order", "rows"] (spSort 8) := ok_sort_rowsN T 8
theorem ok_turned (T : Txt K mg) : Def P w K mg base 1 "turned" ["order"] spTurned := by
  obtain ⟨f, fd, h⟩ := T.d_turned
  refine h.def (Fun.okM h.fn sc_turned (fun vs H Q E h => ?_) (fun cdv A outer s H vs Q E hr h => ?_))
  · obtain ⟨O, ps, rfl, _⟩ := h
    rfl
  · obtain ⟨O, ps, rfl, ⟨qs, hO, hlen, hq⟩, hl, k⟩ := h
    refine ⟨_, (pss_one (ps_ret (pe_callTy call_tuple_of (by rfl) T.h_tuple (by decide +kernel) (pa_cons (pe_lc (own := [("name", 1), ("direction", 2)]) rfl sc_turned.nd (pi_tupG (K := K) rfl (pv 0)) (blkOk_by (N := N_turned) (sc := defScope S_turned) (by decide +kernel)) (fun _ _ _ _ _ => (pg_tupG (K := K) (n := 2) rfl rfl (pgs_cons (pg_name (i := 1) sc_turned.nd rfl (Or.inl rfl)) (pgs_cons (pg_name (i := 2) sc_turned.nd rfl (Or.inl rfl)) pgs_nil)))) (fun _ _ _ _ _ => pts_nil) (fun _ _ _ _ _ => (pe_tup (pa_cons (pv 1) (pa_cons (pe_ifExp (pt_cmpR op_eq (pv 2) pe_str (nomark _)) pe_str pe_str) pa_nil))))) pa_nil)))), ?_⟩
    walk_at "g"
    refine ⟨O, rfl, ⟨_, SqT.of hO⟩, fun D hD => ?_⟩
    refine lc_new (qs.map V.ref) (fun i y H' => ∃ t, y = .ref t ∧ ∃ c, ps[i]? = some c ∧ H' t = some (.tup (pt (fl2 c)))) hD (fun H2 k2 => fits_t (SqT.of (k2 _ _ hO))) (by rw [List.length_map]; omega) ?_ ?_ ?_
    · rintro i y Ha Hb ⟨zs, hz⟩ ⟨t, rfl, c, h1, h2⟩ hk
      exact ⟨t, rfl, c, h1, hk _ _ (fun z => by rw [z, hz] at h2; cases h2) h2⟩
    · intro i x Hh R S hx kh _ hR
      rw [List.getElem?_map] at hx
      obtain ⟨q, hqi, rfl⟩ := Option.map_eq_some_iff.mp hx
      have hil : i < ps.length := by
        have := (List.getElem?_eq_some_iff.mp hqi).1
        omega
      obtain ⟨c, hc⟩ : ∃ c, ps[i]? = some c := ⟨_, List.getElem?_eq_getElem hil⟩
      refine g_gtup (kh _ _ (hq i q c hqi hc)) rfl ?_
      refine g_gcons ?_
      walk_at "g"
      refine g_gcons ?_
      walk_at "g"
      refine g_gnil ?_
      refine ⟨rfl, ?_⟩
      walk_at "g"
      refine g_dec (fun hd => ?_) (fun hd => ?_)
      · have hf : c.2 = true := by
          cases hu : c.2 with
          | true => rfl
          | false => rw [hu] at hd; exact absurd hd (by decide +kernel)
        walk_at "g"
        refine ⟨by show 2 ≤ sizeLine; decide, fun t ht => ?_⟩
        exact hR _ _ (fun q o h => by rw [upd_ne (ne_of_none h ht)]; exact h) ⟨t, rfl, c, hc, by rw [upd_same]; show _ = some (HO.tup [.str c.1, .str (dS (!c.2))]); rw [hf]; rfl⟩
      · have hf : c.2 = false := by
          cases hu : c.2 with
          | false => rfl
          | true => rw [hu] at hd; exact absurd (by decide +kernel) hd
        walk_at "g"
        refine ⟨by show 2 ≤ sizeLine; decide, fun t ht => ?_⟩
        exact hR _ _ (fun q o h => by rw [upd_ne (ne_of_none h ht)]; exact h) ⟨t, rfl, c, hc, by rw [upd_same]; show _ = some (HO.tup [.str c.1, .str (dS (!c.2))]); rw [hf]; rfl⟩
    · intro H2 ys k2 h2 hyl hys
      obtain ⟨rs, rfl, hr⟩ := refs_of hys
      refine ⟨D, _, rfl, .inl ⟨SqL.of h2, fun l hl2 => ?_⟩⟩
      walk_at "g"
      have x3 : ∀ q o, H2 q = some o → (upd H2 l (.tup (rs.map V.ref))) q = some o := fun q o h => by rw [upd_ne (ne_of_none h hl2)]; exact h
      refine k l _ (none_back k2 hl2) (fun q o h => x3 _ _ (k2 _ _ h)) ⟨rs, upd_same, ?_, fun i q c hqi hc => ?_⟩
      · rw [List.length_map, ← hlen]
        simpa using hyl
      · obtain ⟨c', h1, h3⟩ := hr i q hqi
        rw [List.getElem?_map, h1] at hc
        obtain rfl : fl2 c' = c := by simpa using hc
        exact x3 _ _ h3
theorem ok__law_sort (T : Txt K mg) : Def P w K mg base 2 "_law_sort" ["_law_order_here", "_law_rows"] spLawSort := by
  obtain ⟨f, fd, h⟩ := T.d__law_sort
  refine h.def (Fun.okM h.fn sc__law_sort (fun vs H Q E h => ?_) (fun cdv A outer s H vs Q E hr h => ?_))
  · obtain ⟨O, l, ps, κ, xs, rfl, _⟩ := h
    rfl
  · obtain ⟨O, l, ps, κ, xs, rfl, hO, hl, hR, hK, hz, k⟩ := h
    refine ⟨_, (pss_cons (ps_set (i := 2) sc__law_sort.nd rfl (Or.inl rfl) (pe_lst pa_nil))
  (pss_cons (ps_for PassesOwn.never rfl (pi_list (pv 1)) (pg_name (i := 3) sc__law_sort.nd rfl (Or.inl rfl))
  (pss_cons (ps_set (i := 4) sc__law_sort.nd rfl (Or.inl rfl) (pe_callB (call_lenG (K := K) rfl) (by rfl) T.h_len (by decide +kernel) (pa_cons (pv 2) pa_nil)))
  (pss_cons (ps_while PassesOwn.never (PW.pt (pw_and (pt_cmpR op_gtG (pv 4) pe_int (nomark _)) (pw_and1 (pt_val (pe_def (ok__law_ahead T) hr rfl (pa_cons (pv 0) (pa_cons (pv 3) (pa_cons (pe_ix (ix_seqG (K := K) rfl) (pv 2) (pe_op op_subG (pv 4) pe_int) (fun _ _ => rfl)) pa_nil))))))))
  (pss_one (ps_set (i := 4) sc__law_sort.nd rfl (Or.inl rfl) (pe_op op_subG (pv 4) pe_int))))
  (pss_one (ps_expr (pe_bm PySem.F.plainAttrs_list PySem.F.slot_list_insert PySem.F.type_list_insert mt_insertG (pv 2) (pa_cons (pv 4) (pa_cons (pv 3) pa_nil))))))))
  (pss_one (ps_ret (pv 2))))), ?_⟩
    walk_at "g"
    refine ⟨Nat.zero_le _, fun F hF => ?_⟩
    have x1 : ∀ q o, H q = some o → (upd H F (.lst [])) q = some o := fun q o h => by rw [upd_ne (ne_of_none h hF)]; exact h
    have eF : (upd H F (.lst [])) F = some (.lst (([] : List (Addr × RW)).map rf)) := upd_same
    generalize upd H F (.lst []) = H1 at x1 eF
    walk_at "g"
    refine ⟨l, rfl, ⟨_, SqL.of (x1 _ _ hl.1)⟩, for_listA (xs := xs.map rf) (fun j σ' H' => ∃ (s3 s4 : Option V) (fs : List (Addr × RW)), σ' = [some (.ref O), some (.ref l), some (.ref F), s3, s4] ∧ (∀ q o, H q = some o → H' q = some o) ∧ H' F = some (.lst (fs.map rf)) ∧ fs = srt (ltA ps) (xs.take j) ∧ Srd (ltA ps) fs ∧ fs.length ≤ j) ⟨none, none, [], rfl, x1, eF, rfl, List.Pairwise.nil, Nat.le_refl _⟩ (fun _ _ _ _ e => by obtain ⟨_, _, _, _, k, _⟩ := e; exact SqL.of (k _ _ hl.1)) ?_ ?_⟩
    · rintro j x σ' H2 D' hj ⟨s3, s4, fs, rfl, K2, eF2, hfs, hsd, hfl⟩ hnx hct hbk hrt
      rw [List.getElem?_map] at hj
      obtain ⟨a, haj, rfl⟩ := Option.map_eq_some_iff.mp hj
      have hmA := List.mem_of_getElem? haj
      have hjl := (List.getElem?_eq_some_iff.mp haj).1
      have hok : ∀ y ∈ fs, RowOk κ y.2 := fun y hy => by
        rw [hfs] at hy
        exact hR y (List.mem_of_mem_take (mem_srt hy))
      have W := weakA hK
      walk_at "g"
      refine g_while ?_
      obtain ⟨Wh, hW⟩ : ∃ W : Nat → L2.St → Hp → Prop, ∀ m σ' H', W m σ' H' ↔ (σ' = [some (.ref O), some (.ref l), some (.ref F), some (.ref a.1), some (.int (m : Int))] ∧ H' = H2 ∧ m ≤ fs.length ∧ ∀ i y, m ≤ i → fs[i]? = some y → ltA ps a y = true) := ⟨_, fun _ _ _ => Iff.rfl⟩
      refine ⟨Wh, ⟨fs.length, (hW _ _ _).mpr ⟨by rw [List.length_map]; rfl, rfl, Nat.le_refl _, fun i y hi hy => by have := (List.getElem?_eq_some_iff.mp hy).1; omega⟩⟩, fun m σ' H3 hw => ?_⟩
      obtain ⟨rfl, rfl, hm, hge⟩ := (hW _ _ _).mp hw
      clear hw
      have fin : (∀ y, 0 < m → fs[m - 1]? = some y → ltA ps a y = false) → (tDrop (tBM K "list" rInsert (tVar 2) (tCons (tVar 4) (tCons (tVar 3) tNil)))) D' [some (.ref O), some (.ref l), some (.ref F), some (.ref a.1), some (.int (m : Int))] H3 := fun hno => by
        have e := ins_at (lt := ltA ps) (x := a) (L := fs) (n := m) (fun i y hi hy => by
          have hm1 : m - 1 < fs.length := by omega
          have h1 := hno fs[m - 1] (by omega) (List.getElem?_eq_getElem hm1)
          by_cases hc : i = m - 1
          · subst hc
            rw [List.getElem?_eq_getElem hm1] at hy
            cases hy
            exact h1
          · obtain ⟨hil, hyy⟩ := List.getElem?_eq_some_iff.mp hy
            have h2 : ltA ps fs[m - 1] fs[i] = false := List.pairwise_iff_getElem.mp hsd i (m - 1) hil hm1 (by omega)
            rw [← hyy]
            exact W.ntr (hR a hmA) (hok _ (List.getElem_mem hm1)) (hok _ (List.getElem_mem hil)) h1 h2) (fun y hy => hge m y (Nat.le_refl _) hy) hm
        walk_at "g"
        refine g_ins (xs := fs.map rf) (by assumption) (by rw [List.length_map]; omega) (by omega) (by omega) ?_
        walk_at "g"
        have etk : xs.take (j + 1) = xs.take j ++ [a] := by rw [List.take_succ, haj]; rfl
        refine hnx _ _ ⟨_, _, insF (ltA ps) a fs, rfl, fun q o h => by rw [upd_ne (ne_of_none h hF)]; exact K2 q o h, ?_, ?_, srd_ins W (hR a hmA) hok hsd, ?_⟩
        · rw [upd_same, e, Int.toNat_natCast, List.map_append, List.map_append, List.map_take, List.map_drop]; rfl
        · rw [etk, hfs]
          unfold srt
          rw [List.foldl_append]; rfl
        · rw [e, List.length_append, List.length_append, List.length_take, List.length_drop]
          show _ + 1 + _ ≤ _
          omega
      walk_at "g"
      refine g_dec (fun h0 => ?_) (fun h0 => ?_)
      · have hm1 : m - 1 < fs.length := by omega
        have e1 : (m : Int) - 1 = ((m - 1 : Nat) : Int) := by omega
        have hv : (fs.map rf)[m - 1]? = some (.ref fs[m - 1].1) := by rw [List.getElem?_map, List.getElem?_eq_getElem hm1]; rfl
        have hmem : fs[m - 1] ∈ xs := by
          refine List.mem_of_mem_take (mem_srt (lt := ltA ps) (l := xs.take j) ?_)
          rw [← hfs]
          exact List.getElem_mem hm1
        walk_at "g"
        rw [e1]
        refine g_ixL (SqL.of eF2) (v := .ref fs[m - 1].1) (atI_nat (j := m - 1) hv) ?_
        walk_at "g"
        refine ⟨O, a.1, fs[m - 1].1, ps, κ, a.2, fs[m - 1].2, rfl, hO.keep K2, K2 _ _ (hl.2 a hmA), K2 _ _ (hl.2 _ hmem), hR a hmA, hR _ hmem, hK, ?_⟩
        walk_at "g"
        refine g_split (fun hy => ?_) (fun hno => ?_)
        · refine ⟨fun σ' H' => ∃ m', m' < m ∧ Wh m' σ' H', fun _ _ h => h, ?_⟩
          walk_at "g"
          refine ⟨m - 1, by omega, (hW _ _ _).mpr ⟨by rw [e1]; rfl, rfl, by omega, fun i y hi hy2 => ?_⟩⟩
          by_cases hc : i = m - 1
          · subst hc
            rw [List.getElem?_eq_getElem hm1] at hy2
            cases hy2
            exact hy
          · exact hge i y (by omega) hy2
        · exact fin fun y _ hy => by
            rw [List.getElem?_eq_getElem hm1] at hy
            cases hy
            exact hno
      · exact fin fun y hp _ => by omega
    · rintro σ' H2 ⟨s3, s4, fs, rfl, K2, eF2, hfs, hsd, hfl⟩
      rw [List.length_map, List.take_length] at hfs
      walk_at "g"
      refine k F H2 hF K2 ⟨by rw [← hfs]; exact eF2, fun x hx => K2 _ _ (hl.2 x (mem_srt hx))⟩
end
section
variable {X : Cx} {K : PySem.W.Frag} {H : Hp} {Q : VK}
theorem hu64_of {A : Around} {k : Nat} (hr : Room k A) : A.units + 64 < cLine := by
  have := hr.un
  omega
theorem op_neDu (h : X.K = K) (hu : X.A.units + 64 < cLine) : OpR X (compareOp .NotEq) (rNeD K) := by subst h; exact op_neD hu
theorem op_eqDu (h : X.K = K) (hu : X.A.units + 64 < cLine) : OpR X (compareOp .Eq) (rEqD K) := by subst h; exact op_eqD hu
/-- two tuples of the same two texts -/
theorem g_neSame {p q : Addr} {a b : Str} (h1 : H p = some (.tup [.str a, .str b])) (h2 : H q = some (.tup [.str a, .str b])) (hs : SeqAt.shaped (.tuple [.str a, .str b]) = true) (he : PyData.eqv (.tuple [.str a, .str b]) (.tuple [.str a, .str b]) = true) (k : Q (.bl false) H) : rNeD K (.ref p) (.ref q) H Q :=
  ⟨.tuple [.str a, .str b], .tuple [.str a, .str b], .tup (SqT.of h1) (.cons (.str a) (.cons (.str b) .nil)), .tup (SqT.of h2) (.cons (.str a) (.cons (.str b) .nil)), hs, hs, by rw [he]; exact k⟩
end
theorem hu0_of {A : Around} {k : Nat} (hr : Room k A) : A.units < cLine := by
  have := hr.un
  omega
theorem call_sortedSG {X : Cx} {K : PySem.W.Frag} (h : X.K = K) : CallR X (.builtin "sorted") (rSortedS K) := by subst h; exact cr_sortedS
def spLaw (K : PySem.W.Frag) : Sp := fun vs H Q _ => ∃ (a : Addr) (ns : List Int), vs = [.ref a] ∧ SqL K H a (ns.map V.int) ∧ ns.length ≤ 63 ∧ ∀ H', Q (.bl true) H'
/-! the law -/
abbrev XT (H H' : Hp) : Prop := ∀ q o, H q = some o → H' q = some o
theorem XT.new {H H1 : Hp} {t : Addr} {o : HO} (k : XT H H1) (h : H1 t = none) : XT H (upd H1 t o) := fun q u e => by rw [upd_ne (ne_of_none (k q u e) h)]; exact k q u e
theorem XT.pool {H H1 H2 : Hp} {p : Addr} (k : XT H H1) (h : H p = none) (K : Keep p H1 H2) : XT H H2 := fun q u e => K q u (ne_of_none e h) (k q u e)
theorem xtL {K : PySem.W.Frag} {H H' : Hp} {a : Addr} {xs : List V} (h : SqL K H a xs) (k : XT H H') : SqL K H' a xs := by
  rcases h with h | h
  · rcases h with h | ⟨o, h⟩
    · exact .inl (.inl (k _ _ h))
    · exact .inl (.inr ⟨o, k _ _ h⟩)
  · exact .inr h
theorem XT.trans {H H1 H2 : Hp} (a : XT H H1) (b : XT H1 H2) : XT H H2 := fun q o h => b q o (a q o h)
theorem cut_any {xs : List V} {n : Nat} : cutV xs none (some (n : Int)) = xs.take n := by
  by_cases h : n ≤ xs.length
  · exact cut_hi h
  · unfold cutV
    show (xs.drop 0).take (HT.sIx xs.length xs.length (some ((n : Nat) : Int)) - 0) = _
    rw [HT.sIx_nat, List.drop_zero, Nat.sub_zero, Nat.min_eq_right (by omega), List.take_length, List.take_of_length_le (by omega)]
theorem kb_list : kitB "list" "list" = some true := by decide +kernel
theorem kb_tup : kitB "tuple" "tuple" = some true := by decide +kernel
theorem srt_map {ps : List (Str × Bool)} {l : List (Addr × RW)} : (srt (ltA ps) l).map (fun x => x.2) = srt (ltR ps) (l.map fun x => x.2) := by
  unfold srt
  have key : ∀ (l acc : List (Addr × RW)), (l.foldl (fun acc x => insF (ltA ps) x acc) acc).map (fun x => x.2) = (l.map fun x => x.2).foldl (fun acc x => insF (ltR ps) x acc) (acc.map fun x => x.2) := by
    intro l
    induction l with
    | nil => intro acc; rfl
    | cons x l ih =>
      intro acc
      show (l.foldl _ (insF (ltA ps) x acc)).map (fun x => x.2) = (l.map fun x => x.2).foldl _ (insF (ltR ps) x.2 (acc.map fun x => x.2))
      rw [ih, ins_map (lt := ltR ps) (f := fun x : Addr × RW => x.2)]
  exact key l []
theorem eq_rows {K : PySem.W.Frag} {H : Hp} {κ : Str → Option Bool} : ∀ {zs ws : List (Addr × RW)}, zs.map (fun x => x.2) = ws.map (fun x => x.2) → (∀ x ∈ zs, H x.1 = some (.dK x.2) ∧ RowOk κ x.2) → (∀ x ∈ ws, H x.1 = some (.dK x.2)) → Paired (L2.EqV K H 2) (zs.map rf) (ws.map rf)
  | [], [], _, _, _ => .nil
  | [], _ :: _, h, _, _ => nomatch h
  | _ :: _, [], h, _, _ => nomatch h
  | z :: zs, w :: ws, h, hz, hw => by
    rw [List.map_cons, List.map_cons] at h
    injection h with h1 h2
    refine .cons ?_ (eq_rows h2 (fun x hx => hz x (List.mem_cons_of_mem _ hx)) fun x hx => hw x (List.mem_cons_of_mem _ hx))
    obtain ⟨e1, r1⟩ := hz z List.mem_cons_self
    have e2 := hw w List.mem_cons_self
    rw [← h1] at e2
    exact .inr (.inr (.inr ⟨z.1, w.1, z.2, z.2, rfl, rfl, e1, e2, rfl, fun p hp => ⟨p.2, val_mem r1.nd hp, .inl ⟨rfl, r1.fl p hp⟩⟩⟩))
theorem up_dec {u : Bool} : decide (dS u = Str.ofString "up") = u := by cases u <;> decide +kernel
theorem list_ext {α : Type} {xs ys : List α} (h : xs.length = ys.length) (k : ∀ (i : Nat) x y, xs[i]? = some x → ys[i]? = some y → x = y) : xs = ys :=
  List.ext_getElem h fun i h1 h2 => k i _ _ (List.getElem?_eq_getElem h1) (List.getElem?_eq_getElem h2)
def pdOf (ps : List (Str × Bool)) : PyData := .list (ps.map fun c => .tuple [.str c.1, .str (dS c.2)])
theorem dp_order {K : PySem.W.Frag} {H : Hp} : ∀ {ps : List (Str × Bool)} {qs : List Addr}, qs.length = ps.length → (∀ (i : Nat) (q : Addr) (c : Str × Bool), qs[i]? = some q → ps[i]? = some c → H q = some (.tup (pt c))) → DpAll K H (qs.map V.ref) (ps.map fun c => .tuple [.str c.1, .str (dS c.2)])
  | [], [], _, _ => .nil
  | _ :: _, [], h, _ => nomatch h
  | [], _ :: _, h, _ => nomatch h
  | c :: ps, q :: qs, h, k => .cons (.tup (SqT.of (k 0 q c rfl rfl)) (.cons (.str _) (.cons (.str _) .nil))) (dp_order (by simpa using h) fun i q c hq hc => k (i + 1) q c hq hc)
theorem strOk_of {z : Str} (h : sk z) : PySem.PyData.strOk z = true := by
  unfold PySem.PyData.strOk
  rw [← Array.all_toList, List.all_eq_true]
  intro c hc
  have := h c hc
  exact decide_eq_true (by omega)
theorem sh_order {ps : List (Str × Bool)} (h : ∀ c ∈ ps, sk c.1) : SeqAt.shaped (pdOf ps) = true := by
  have key : ∀ ps : List (Str × Bool), (∀ c ∈ ps, sk c.1) → PyData.canLayAll0 (ps.map fun c => PyData.tuple [.str c.1, .str (dS c.2)]) = true ∧ PyData.depthAll (ps.map fun c => PyData.tuple [.str c.1, .str (dS c.2)]) ≤ 1 := by
    intro ps
    induction ps with
    | nil => intro _; exact ⟨by simp [PyData.canLayAll0], by simp [PyData.depthAll]⟩
    | cons c r ih =>
      intro h
      obtain ⟨h1, h2⟩ := ih fun d hd => h d (List.mem_cons_of_mem _ hd)
      have e1 : PySem.PyData.strOk c.1 = true := strOk_of (h c List.mem_cons_self)
      have e2 : PySem.PyData.strOk (dS c.2) = true := by cases c.2 <;> decide +kernel
      rw [List.map_cons]
      refine ⟨by simp [PyData.canLayAll0, PyData.canLay0, e1, e2, h1], ?_⟩
      simp only [PyData.depthAll, PyData.depth]
      omega
  obtain ⟨h1, h2⟩ := key ps h
  unfold SeqAt.shaped pdOf
  rw [Bool.and_eq_true]
  refine ⟨by simp only [PyData.canLay0]; exact h1, decide_eq_true ?_⟩
  simp only [PyData.depth]
  omega
section
variable {P : Program} {w : World} {K : PySem.W.Frag} {mg : Str → Option Value} {base : Heap}
theorem ok_law (T : Txt K mg) {f : Addr} {fd : FuncData} (F : Fun K "law" "law" S_law f fd) : FnOk P w K mg base CX0 13 f fd ["_law_script"] (spLaw K) := by
  refine Fun.okM F sc_law (fun vs H Q E h => ?_) (fun cdv A outer s H vs Q E hr h => ?_)
  · obtain ⟨a, ns, rfl, _⟩ := h
    rfl
  · obtain ⟨a, ns, rfl, hS, hlen, k⟩ := h
    refine ⟨_, (pss_cons (ps_set (i := 1) sc_law.nd rfl (Or.inl rfl) (pe_def (ok__law_columns T) hr rfl (pa_cons (pe_def (ok__law_pool T) hr rfl (pa_cons (pv 0) (pa_cons pe_int pa_nil))) (pa_cons pe_int pa_nil))))
  (pss_cons (ps_set (i := 2) sc_law.nd rfl (Or.inl rfl) (pe_def (ok__law_order T) hr rfl (pa_cons (pe_def (ok__law_pool T) hr rfl (pa_cons (pv 0) (pa_cons pe_int pa_nil))) (pa_cons (pv 1) pa_nil))))
  (pss_cons (ps_set (i := 3) sc_law.nd rfl (Or.inl rfl) (pe_lst pa_nil))
  (pss_cons (ps_for PassesOwn.never rfl (pi_range2 rfl T.h_range (pa_cons pe_int (pa_cons (pe_callB (call_min2G rfl) (by rfl) T.h_min (by decide +kernel) (pa_cons (pe_callB (call_lenG (K := K) rfl) (by rfl) T.h_len (by decide +kernel) (pa_cons (pv 0) pa_nil)) (pa_cons pe_int pa_nil))) pa_nil))) (pg_name (i := 4) sc_law.nd rfl (Or.inl rfl))
  (pss_cons (ps_set (i := 5) sc_law.nd rfl (Or.inl rfl) (pe_def (ok__law_pool T) hr rfl (pa_cons (pv 0) (pa_cons (pv 4) pa_nil))))
  (pss_one (ps_if (PW.pt (pw_and (pt_cmpR op_gtG (pe_callB (call_lenG (K := K) rfl) (by rfl) T.h_len (by decide +kernel) (pa_cons (pv 3) pa_nil)) pe_int (nomark _)) (pw_and1 (pt_cmpR op_eq (pe_def (ok__law_draw T) hr rfl (pa_cons (pv 5) (pa_cons pe_int pa_nil))) pe_int (nomark _)))))
  (pss_one (ps_expr (pe_bm PySem.F.plainAttrs_list PySem.F.slot_list_append PySem.F.type_list_append mt_append (pv 3) (pa_cons (pe_callTy call_dictD (by rfl) T.h_dict (by decide +kernel) (pa_cons (pe_ix (ix_seqG (K := K) rfl) (pv 3) (pe_def (ok__law_draw T) hr rfl (pa_cons (pv 5) (pa_cons (pe_callB (call_lenG (K := K) rfl) (by rfl) T.h_len (by decide +kernel) (pa_cons (pv 3) pa_nil)) pa_nil))) (fun _ _ => rfl)) pa_nil)) pa_nil))))
  (pss_one (ps_expr (pe_bm PySem.F.plainAttrs_list PySem.F.slot_list_append PySem.F.type_list_append mt_append (pv 3) (pa_cons (pe_def (ok__law_row T) hr rfl (pa_cons (pv 5) (pa_cons (pv 1) pa_nil))) pa_nil))))))))
  (pss_cons (ps_setLc (i := 6) (own := [("_law_part", 16)]) rfl sc_law.nd rfl rfl (sw_true rfl rfl rfl (by decide +kernel)) (pi_list (pv 2)) (blkOk_by (N := N_law) (sc := defScope S_law) (by decide +kernel)) (fun _ _ _ _ _ => pg_name (i := 16) sc_law.nd rfl (Or.inl rfl)) (fun _ _ _ _ _ => pts_nil) (fun _ _ _ _ _ => (pe_tup (pa_cons (pe_ix (ix_seqG (K := K) rfl) (pv 16) pe_int (fun _ _ => rfl)) (pa_cons (pe_ix (ix_seqG (K := K) rfl) (pe_lst (pa_cons pe_str (pa_cons pe_str pa_nil))) (pe_callTy call_intG (by rfl) T.h_int (by decide +kernel) (pa_cons (pe_cmpR op_eq (pe_ix (ix_seqG (K := K) rfl) (pv 16) pe_int (fun _ _ => rfl)) pe_str (nomark _)) pa_nil)) (fun _ _ => rfl)) pa_nil)))))
  (pss_cons (ps_set (i := 7) sc_law.nd rfl (Or.inl rfl) (pe_def (ok_turned T) hr rfl (pa_cons (pe_callTy call_tuple_of (by rfl) T.h_tuple (by decide +kernel) (pa_cons (pv 2) pa_nil)) pa_nil)))
  (pss_cons (ps_if (PW.pt (pw_or (pt_not (pt_val (pe_callB (call_isiG (K := K) rfl) (by rfl) T.h_isinstance (by decide +kernel) (pa_cons (pv 7) (pa_cons (pe_bltn (v := .ty "tuple") (by rfl) T.h_tuple (by decide +kernel) rfl) pa_nil))))) (pw_or1 (pt_cmpR (op_neDu (K := K) rfl (hu64_of hr)) (pe_callTy (call_listG (K := K) rfl) (by rfl) T.h_list (by decide +kernel) (pa_cons (pv 7) pa_nil)) (pv 6) (nomark _)))))
  (pss_one (ps_ret pe_bl))
  pss_nil)
  (pss_cons (ps_setLc (i := 8) (own := [("_law_part", 16)]) rfl sc_law.nd rfl rfl (sw_true rfl rfl rfl (by decide +kernel)) (pi_list (pv 2)) (blkOk_by (N := N_law) (sc := defScope S_law) (by decide +kernel)) (fun _ _ _ _ _ => pg_name (i := 16) sc_law.nd rfl (Or.inl rfl)) (fun _ _ _ _ _ => pts_nil) (fun _ _ _ _ _ => (pe_ix (ix_seqG (K := K) rfl) (pv 16) pe_int (fun _ _ => rfl))))
  (pss_cons (ps_for PassesOwn.never rfl (pi_listG (K := K) rfl (pe_slice (sl_G (K := K) rfl) (pv 3) po_none (po_some pe_int))) (pg_name (i := 9) sc_law.nd rfl (Or.inl rfl))
  (pss_one (ps_for PassesOwn.never rfl (pi_list (pv 3)) (pg_name (i := 10) sc_law.nd rfl (Or.inl rfl))
  (pss_cons (ps_set (i := 11) sc_law.nd rfl (Or.inl rfl) (pe_def (ok__law_ahead T) hr rfl (pa_cons (pv 2) (pa_cons (pv 9) (pa_cons (pv 10) pa_nil)))))
  (pss_cons (ps_if (pt_not (pt_val (pe_def (ok__law_is T) hr rfl (pa_cons (pe_def (ok_comes_ahead T) hr rfl (pa_cons (pe_callTy call_tuple_of (by rfl) T.h_tuple (by decide +kernel) (pa_cons (pv 2) pa_nil)) (pa_cons (pe_callTy call_dictD (by rfl) T.h_dict (by decide +kernel) (pa_cons (pv 9) pa_nil)) (pa_cons (pe_callTy call_dictD (by rfl) T.h_dict (by decide +kernel) (pa_cons (pv 10) pa_nil)) pa_nil)))) (pa_cons (pv 11) pa_nil)))))
  (pss_one (ps_ret pe_bl))
  pss_nil)
  (pss_cons (ps_if (pt_not (pt_val (pe_def (ok__law_is T) hr rfl (pa_cons (pe_def (ok_comes_ahead T) hr rfl (pa_cons (pv 7) (pa_cons (pv 9) (pa_cons (pv 10) pa_nil)))) (pa_cons (pe_def (ok__law_ahead T) hr rfl (pa_cons (pv 2) (pa_cons (pv 10) (pa_cons (pv 9) pa_nil)))) pa_nil)))))
  (pss_one (ps_ret pe_bl))
  pss_nil)
  (pss_cons (ps_if (pt_not (pt_val (pe_def (ok__law_is T) hr rfl (pa_cons (pe_def (ok_alike_in T) hr rfl (pa_cons (pe_callTy call_tuple_of (by rfl) T.h_tuple (by decide +kernel) (pa_cons (pv 8) pa_nil)) (pa_cons (pv 9) (pa_cons (pv 10) pa_nil)))) (pa_cons (pe_def (ok__law_alike T) hr rfl (pa_cons (pv 8) (pa_cons (pv 9) (pa_cons (pv 10) pa_nil)))) pa_nil)))))
  (pss_one (ps_ret pe_bl))
  pss_nil)
  (pss_one (ps_if (pt_cmpR op_notBl (pe_def (ok_alike_in T) hr rfl (pa_cons (pe_tup pa_nil) (pa_cons (pv 9) (pa_cons (pv 10) pa_nil)))) pe_bl (nomark _))
  (pss_one (ps_ret pe_bl))
  pss_nil)))))))))
  (pss_cons (ps_setLc (i := 12) (own := [("_law_row_here", 15)]) rfl sc_law.nd rfl rfl (sw_true rfl rfl rfl (by decide +kernel)) (pi_list (pv 3)) (blkOk_by (N := N_law) (sc := defScope S_law) (by decide +kernel)) (fun _ _ _ _ _ => pg_name (i := 15) sc_law.nd rfl (Or.inl rfl)) (fun _ _ _ _ _ => pts_nil) (fun _ _ _ _ _ => (pe_callTy call_dictD (by rfl) T.h_dict (by decide +kernel) (pa_cons (pv 15) pa_nil))))
  (pss_cons (ps_set (i := 13) sc_law.nd rfl (Or.inl rfl) (pe_def (ok_sort_rows T) hr rfl (pa_cons (pe_callTy call_tuple_of (by rfl) T.h_tuple (by decide +kernel) (pa_cons (pv 2) pa_nil)) (pa_cons (pv 3) pa_nil))))
  (pss_cons (ps_set (i := 14) sc_law.nd rfl (Or.inl rfl) (pe_def (ok__law_sort T) hr rfl (pa_cons (pv 2) (pa_cons (pv 12) pa_nil))))
  (pss_cons (ps_if (PW.pt (pw_or (pt_not (pt_val (pe_callB (call_isiG (K := K) rfl) (by rfl) T.h_isinstance (by decide +kernel) (pa_cons (pv 13) (pa_cons (pe_bltn (v := .ty "list") (by rfl) T.h_list (by decide +kernel) rfl) pa_nil))))) (pw_or (pt_cmpR (op_neVu (K := K) rfl (hu64_of hr)) (pv 13) (pv 14) (nomark _)) (pw_or1 (pt_cmpR (op_neVu (K := K) rfl (hu64_of hr)) (pv 3) (pv 12) (nomark _))))))
  (pss_one (ps_ret pe_bl))
  pss_nil)
  (pss_cons (ps_for PassesOwn.never rfl (pi_list (pv 13)) (pg_name (i := 15) sc_law.nd rfl (Or.inl rfl))
  (pss_one (ps_dput (hu_of hr) (pv 15) pe_str pe_int rfl)))
  (pss_one (ps_ret (pe_and (pe_cmpR (op_eqVu (K := K) rfl (hu64_of hr)) (pv 3) (pv 12) (nomark _)) (pe_one (pe_cmpR (op_eqVu (K := K) rfl (hu64_of hr)) (pe_def (ok_sort_rows T) hr rfl (pa_cons (pe_callTy call_tuple_of (by rfl) T.h_tuple (by decide +kernel) (pa_cons (pv 2) pa_nil)) (pa_cons (pv 3) pa_nil))) (pv 14) (nomark _)))))))))))))))))))), ?_⟩
    walk_at "g"
    refine ⟨a, ns, 0, rfl, hS, hlen, by decide, fun p0 H1 hp0 S1 D0 => ?_⟩
    walk_at "g"
    refine ⟨p0, 3, 200000, rfl, D0, by decide, by decide, by decide, fun L cs H2 hne hcl hcsk hC hL0 K2 => ?_⟩
    have x2 : XT H H2 := XT.pool S1 hp0 K2
    walk_at "g"
    refine ⟨a, ns, 1, rfl, xtL hS x2, hlen, by decide, fun p1 H3 hp1 S3 D1 => ?_⟩
    have hLp : L ≠ p1 := by obtain ⟨qs, h1, _⟩ := hC; exact ne_of_none h1 hp1
    walk_at "g"
    refine ⟨p1, L, cs, 200000, rfl, D1, by decide, hC.keep S3, hne, hcl, hcsk, hLp, fun O ps H4 hpl hpk hO hO0 K4 => ?_⟩
    have x24 : XT H2 H4 := XT.pool S3 hp1 K4
    have hC4 := hC.keep x24
    have hS4 := xtL hS fun q o e => x24 q o (x2 q o e)
    have hKO : KOk (kdA cs) ps := ⟨by omega, fun c hc => (hpk c hc).1⟩
    clear hC x2 x24 K4 S3 D1 hp1 K2 D0 S1 hp0
    walk_at "g"
    refine ⟨Nat.zero_le _, fun R hR => ?_⟩
    have x5 : XT H4 (upd H4 R (.lst [])) := fun q o h => by rw [upd_ne (ne_of_none h hR)]; exact h
    have eR : (upd H4 R (.lst [])) R = some (.lst (([] : List (Addr × RW)).map rf)) := upd_same
    generalize upd H4 R (.lst []) = H5 at x5 eR
    walk_at "g"
    refine g_rng2 ?_
    walk_at "g"
    refine g_lenL (xtL hS4 x5) ?_
    walk_at "g"
    refine g_min2 ?_
    generalize hmin : (if (32 : Int) < ((ns.map V.int).length : Int) then (32 : Int) else ((ns.map V.int).length : Int)) = mn
    have hmn : 0 ≤ mn ∧ mn ≤ 32 := by
      rw [← hmin]
      split <;> omega
    refine ⟨2, mn, rfl, ⟨by decide, by decide, by omega, by omega⟩, ?_⟩
    refine for_rangeA (fun i σ' H' => ∃ (s4 s5 : Option V) (rs : List (Addr × RW)), σ' = [some (.ref a), some (.ref L), some (.ref O), some (.ref R), s4, s5, none, none, none, none, none, none, none, none, none, none, none] ∧ XT H4 H' ∧ RL H' R rs ∧ (∀ x ∈ rs, RowOk (kdA cs) x.2) ∧ rs.length ≤ i) ⟨none, none, [], rfl, x5, ⟨eR, fun x hx => (nomatch hx)⟩, fun x hx => (nomatch hx), Nat.le_refl _⟩ ?_ ?_
    · rintro i σ' H6 D' hi ⟨s4, s5, rs, rfl, x6, hRL, hok, hrl⟩ hnx hct hbk hrt
      have e : (2 + (i : Int)) = ((2 + i : Nat) : Int) := by omega
      walk_at "g"
      refine ⟨a, ns, 2 + i, by rw [← e], xtL hS4 x6, hlen, by omega, fun p H7 hp S7 D7 => ?_⟩
      have hRp : R ≠ p := ne_of_none hRL.1 hp
      have hp4 : H4 p = none := none_back x6 hp
      have hLp4 : L ≠ p := by
        obtain ⟨qs, h1, _⟩ := hC4
        exact ne_of_none h1 hp4
      have x7 : XT H4 H7 := fun q o h => S7 q o (x6 q o h)
      have hRL7 := hRL.keep S7
      have hR7 := hRL7.1
      have row : ∀ {H8 : Hp} {n : Nat}, PD H8 p n → n ≤ 800000 → XT H4 H8 → RL H8 R rs → ∀ (Qn : VK), (∀ (r : Addr) (kvs : RW) (H9 : Hp), H9 r = some (.dK kvs) → RowOk (kdA cs) kvs → XT H4 H9 → RL H9 R rs → Qn (.ref r) H9) → spRowP [.ref p, .ref L] H8 Qn E0 := fun {H8 n} D8 hn x8 r8 Qn hq =>
        ⟨p, L, cs, n, rfl, D8, hn, hC4.keep x8, hcl, hLp4, fun r kvs H9 hr0 er hok9 K9 => hq r kvs H9 er hok9 (XT.pool x8 hp4 K9) ⟨K9 _ _ hRp r8.1, fun x hx => K9 _ _ (fun z => by
          have := hRL.2 x hx
          rw [z, hp] at this
          cases this) (r8.2 x hx)⟩⟩
      have done : ∀ {r : Addr} {kvs : RW} {H9 : Hp}, H9 r = some (.dK kvs) → RowOk (kdA cs) kvs → XT H4 H9 → RL H9 R rs → D'.nx [some (.ref a), some (.ref L), some (.ref O), some (.ref R), some (.int (2 + (i : Int))), some (.ref p), none, none, none, none, none, none, none, none, none, none, none] (upd H9 R (.lst (rs.map rf ++ [.ref r]))) := fun {r kvs H9} er hok9 x9 r9 =>
        hnx _ _ ⟨_, _, rs ++ [(r, kvs)], rfl, fun q o h => by rw [upd_ne (ne_of_none h hR)]; exact x9 q o h, ⟨by rw [upd_same, List.map_append]; rfl, fun x hx => by
          have hxR : x.1 ≠ R := fun z => by
            rcases List.mem_append.mp hx with hx | hx
            · have := r9.2 x hx; rw [z, r9.1] at this; cases this
            · rw [List.mem_singleton.mp hx] at z; have z' : r = R := z; rw [z', r9.1] at er; cases er
          rw [upd_ne hxR]
          rcases List.mem_append.mp hx with hx | hx
          · exact r9.2 x hx
          · rw [List.mem_singleton.mp hx]; exact er⟩, fun x hx => by
            rcases List.mem_append.mp hx with hx | hx
            · exact hok x hx
            · rw [List.mem_singleton.mp hx]; exact hok9, by rw [List.length_append]; show _ + 1 ≤ _; omega⟩
      have hi32 : i < 32 := by omega
      walk_at "g"
      refine g_dec (fun h0 => ?_) (fun h0 => ?_)
      · rw [List.length_map] at h0
        walk_at "g"
        refine ⟨p, _, _, rfl, D7, by decide, by decide, by decide +kernel, fun r1 H8 r10 r11 D8 K8 => ?_⟩
        have x8 := XT.pool x7 hp4 K8
        have r8 : RL H8 R rs := ⟨K8 _ _ hRp hR7, fun x hx => K8 _ _ (fun z => by
          have := hRL.2 x hx
          rw [z, hp] at this
          cases this) (hRL7.2 x hx)⟩
        have hR8 := r8.1
        walk_at "g"
        refine g_dec (fun h1 => ?_) (fun h1 => ?_)
        · walk_at "g"
          refine ⟨p, _, _, rfl, D8, by decide, by rw [List.length_map]; omega, Nat.lt_of_lt_of_le (log_small (by rw [List.length_map]; omega)) (by decide), fun r2 H9 r20 r21 D9 K9 => ?_⟩
          rw [List.length_map] at r21
          obtain ⟨j, rfl⟩ := Int.eq_ofNat_of_zero_le r20
          have hj : j < rs.length := by omega
          have x9 := XT.pool x8 hp4 K9
          have r9 : RL H9 R rs := ⟨K9 _ _ hRp hR8, fun x hx => K9 _ _ (fun z => by
            have := hRL.2 x hx
            rw [z, hp] at this
            cases this) (r8.2 x hx)⟩
          refine g_ixL (SqL.of r9.1) (v := .ref rs[j].1) (atI_nat (j := j) (by rw [List.getElem?_map, List.getElem?_eq_getElem hj]; rfl)) ?_
          walk_at "g"
          refine ⟨rs[j].1, rs[j].2, rfl, Rd.of (r9.2 _ (List.getElem_mem hj)), fun t ht => ?_⟩
          have nRt : R ≠ t := ne_of_none r9.1 ht
          have r10' := r9.keep (H' := upd H9 t (.dK rs[j].2)) (fun q o h => by rw [upd_ne (ne_of_none h ht)]; exact h)
          have hR10 := r10'.1
          have et : (upd H9 t (.dK rs[j].2)) t = some (.dK rs[j].2) := upd_same
          have x10 := x9.new (o := .dK rs[j].2) ht
          generalize upd H9 t (.dK rs[j].2) = H10 at r10' hR10 et x10
          walk_at "g"
          exact done et (hok _ (List.getElem_mem hj)) x10 r10'
        · walk_at "g"
          refine row D8 (by decide) x8 r8 _ fun r kvs H9 er hok9 x9 r9 => ?_
          have hR9 := r9.1
          walk_at "g"
          exact done er hok9 x9 r9
      · walk_at "g"
        refine row D7 (by decide) x7 hRL7 _ fun r kvs H9 er hok9 x9 r9 => ?_
        have hR9 := r9.1
        walk_at "g"
        exact done er hok9 x9 r9
    · rintro σ' H6 ⟨s4, s5, rs, rfl, x6, hRL, hok, hrl⟩
      have hrl : rs.length ≤ 40 := by omega
      have hO6 := hO.keep x6
      clear hC4 hS4 hS x5 eR x6
      obtain ⟨qs, hq6, hql, hqt⟩ := id hO6
      rw [List.length_map] at hql
      have hqp : ∀ (i : Nat) (q : Addr) (c : Str × Bool), qs[i]? = some q → ps[i]? = some c → H6 q = some (.tup (pt c)) := fun i q c hq hc => hqt i q (pt c) hq (by rw [List.getElem?_map, hc]; rfl)
      have hdR := hRL.1
      walk_at "g"
      refine ⟨O, rfl, ⟨_, SqL.of hq6⟩, fun D hD => ?_⟩
      refine lc_new (qs.map V.ref) (fun i y H' => ∃ t, y = .ref t ∧ ∃ c, ps[i]? = some c ∧ H' t = some (.tup (pt (fl2 c)))) hD (fun H2 k2 => fits_l (SqL.of (k2 _ _ hq6))) (by rw [List.length_map]; omega) ?_ ?_ ?_
      · rintro i y Ha Hb ⟨zs, hz⟩ ⟨t, rfl, c, h1, h2⟩ hk
        exact ⟨t, rfl, c, h1, hk _ _ (fun z => by rw [z, hz] at h2; cases h2) h2⟩
      · intro i x Hh Rr S hx kh _ hR
        rw [List.getElem?_map] at hx
        obtain ⟨q, hqi, rfl⟩ := Option.map_eq_some_iff.mp hx
        have hil : i < ps.length := by
          have := (List.getElem?_eq_some_iff.mp hqi).1
          omega
        obtain ⟨c, hc⟩ : ∃ c, ps[i]? = some c := ⟨_, List.getElem?_eq_getElem hil⟩
        have et := kh _ _ (hqp i q c hqi hc)
        walk_at "g"
        refine ⟨rfl, ?_⟩
        walk_at "g"
        refine g_ixT (SqT.of et) (v := .str c.1) (by rfl) ?_
        walk_at "g"
        refine ⟨by show 2 ≤ sizeLine; decide, fun l hl => ?_⟩
        have et2 : (upd Hh l (.lst [.str (Str.ofString "up"), .str (Str.ofString "down")])) q = some (.tup (pt c)) := by rw [upd_ne (ne_of_none et hl)]; exact et
        have el : (upd Hh l (.lst [.str (Str.ofString "up"), .str (Str.ofString "down")])) l = some (.lst [.str (Str.ofString "up"), .str (Str.ofString "down")]) := upd_same
        have xl : XT Hh (upd Hh l (.lst [.str (Str.ofString "up"), .str (Str.ofString "down")])) := fun q o h => by rw [upd_ne (ne_of_none h hl)]; exact h
        generalize upd Hh l (.lst [.str (Str.ofString "up"), .str (Str.ofString "down")]) = H8 at et2 el xl
        walk_at "g"
        refine g_ixT (SqT.of et2) (v := .str (dS c.2)) (by rfl) ?_
        walk_at "g"
        rw [up_dec]
        refine g_ixL (SqL.of el) (v := .str (dS (!c.2))) (by cases c.2 <;> rfl) ?_
        walk_at "g"
        refine ⟨by show 2 ≤ sizeLine; decide, fun t ht => ?_⟩
        exact hR _ _ (fun q o h => by rw [upd_ne (ne_of_none (xl _ _ h) ht)]; exact xl _ _ h) ⟨t, rfl, c, hc, upd_same⟩
      · intro H7 ys x7 hW hyl hys
        obtain ⟨wsA, rfl, hws⟩ := refs_of hys
        have hwl : wsA.length = ps.length := by rw [← hql]; simpa using hyl
        have hwp : ∀ (i : Nat) (q : Addr) (c : Str × Bool), wsA[i]? = some q → (ps.map fl2)[i]? = some c → H7 q = some (.tup (pt c)) := fun i q c hq hc => by
          obtain ⟨c', h1, h3⟩ := hws i q hq
          rw [List.getElem?_map, h1] at hc
          obtain rfl : fl2 c' = c := by simpa using hc
          exact h3
        have hq7 := x7 _ _ hq6
        walk_at "g"
        refine ⟨O, _, rfl, .inl ⟨SqL.of hq7, fun T0 hT0 => ?_⟩⟩
        have x8 := (show XT H6 H7 from x7).new (o := .tup (qs.map V.ref)) hT0
        have y8 : XT H7 (upd H7 T0 (.tup (qs.map V.ref))) := fun q o h => by rw [upd_ne (ne_of_none h hT0)]; exact h
        have o8 : OT (upd H7 T0 (.tup (qs.map V.ref))) T0 ps := ⟨qs, upd_same, hql, fun i q c hq hc => x8 _ _ (hqp i q c hq hc)⟩
        generalize upd H7 T0 (.tup (qs.map V.ref)) = H8 at x8 y8 o8
        walk_at "g"
        refine ⟨T0, ps, rfl, o8, by omega, fun Bk H9 hBk x9 oB => ?_⟩
        have x69 : XT H6 H9 := fun q o h => x9 _ _ (x8 _ _ h)
        have x79 : XT H7 H9 := fun q o h => x9 _ _ (y8 _ _ h)
        clear x8 y8 o8 x9 hT0
        obtain ⟨bs, hb9, hbl, hbp⟩ := id oB
        walk_at "g"
        refine g_isi (.base (.tup hb9)) kb_tup ?_
        walk_at "g"
        refine ⟨Bk, _, rfl, .inr (SqT.of hb9), fun l hl => ?_⟩
        have xl := x69.new (o := .lst (bs.map V.ref)) hl
        have yl := x79.new (o := .lst (bs.map V.ref)) hl
        have oBl := oB.keep (H' := upd H9 l (.lst (bs.map V.ref))) (fun q o h => by rw [upd_ne (ne_of_none h hl)]; exact h)
        have el : (upd H9 l (.lst (bs.map V.ref))) l = some (.lst (bs.map V.ref)) := upd_same
        have hbpl : ∀ (i : Nat) (q : Addr) (c : Str × Bool), bs[i]? = some q → (ps.map fl2)[i]? = some c → (upd H9 l (.lst (bs.map V.ref))) q = some (.tup (pt c)) := fun i q c hq hc => by
          have := hbp i q c hq hc
          rw [upd_ne (ne_of_none this hl)]; exact this
        generalize upd H9 l (.lst (bs.map V.ref)) = H10 at xl yl oBl el hbpl
        walk_at "g"
        have hsh : SeqAt.shaped (pdOf (ps.map fl2)) = true := sh_order fun c hc => by
          obtain ⟨d, hd, rfl⟩ := List.mem_map.mp hc
          exact (hpk d hd).2
        refine ⟨pdOf (ps.map fl2), pdOf (ps.map fl2), .lst (SqL.of el) (dp_order hbl hbpl), .lst (SqL.of (yl _ _ hW)) (dp_order (by rw [List.length_map]; exact hwl) fun i q c hq hc => yl _ _ (hwp i q c hq hc)), hsh, hsh, ?_⟩
        rw [SeqAt.eqv_refl _ (SeqAt.canLay_of_shaped hsh)]
        walk_at "g"
        clear hsh hbpl hbp hb9 el hwp hws hys hW x79 yl hq7
        have hq10 := xl _ _ hq6
        walk_at "g"
        refine ⟨O, rfl, ⟨_, SqL.of hq10⟩, fun Dn hDn => ?_⟩
        refine lc_new (qs.map V.ref) (fun i y H' => ∃ c, ps[i]? = some c ∧ y = .str c.1) hDn (fun H2 k2 => fits_l (SqL.of (k2 _ _ hq10))) (by rw [List.length_map]; omega) (fun i y Ha Hb _ h _ => h) ?_ ?_
        · intro i x Hh Rr S hx kh _ hR
          rw [List.getElem?_map] at hx
          obtain ⟨q, hqi, rfl⟩ := Option.map_eq_some_iff.mp hx
          have hil : i < ps.length := by
            have := (List.getElem?_eq_some_iff.mp hqi).1
            omega
          obtain ⟨c, hc⟩ : ∃ c, ps[i]? = some c := ⟨_, List.getElem?_eq_getElem hil⟩
          have et := kh _ _ (xl _ _ (hqp i q c hqi hc))
          walk_at "g"
          refine ⟨rfl, ?_⟩
          walk_at "g"
          refine g_ixT (SqT.of et) (v := .str c.1) (by rfl) ?_
          exact hR _ _ (fun q o h => h) ⟨c, hc, rfl⟩
        · intro H11 ys x11 hN hnl hns
          have ens : ys = (ps.map (·.1)).map V.str := by
            refine list_ext (by rw [hnl, List.length_map, List.length_map, List.length_map, hql]) fun i x y hx hy => ?_
            obtain ⟨c, h1, rfl⟩ := hns i x hx
            rw [List.getElem?_map, List.getElem?_map, h1] at hy
            simpa using hy
          subst ens
          have x611 : XT H6 H11 := fun q o h => x11 _ _ (xl _ _ h)
          have oB11 := oBl.keep x11
          clear x11 xl oBl hns hnl hDn hq10
          have hR11 := x611 _ _ hdR
          have hKB : KOk (kdA cs) (ps.map fl2) := ⟨by rw [List.length_map]; omega, fun c hc => by
            obtain ⟨d, hd, rfl⟩ := List.mem_map.mp hc
            exact (hpk d hd).1⟩
          have hKN : ∀ c ∈ ps.map (·.1), ∃ kd, kdA cs c = some kd := fun c hc => by
            obtain ⟨d, hd, rfl⟩ := List.mem_map.mp hc
            exact (hpk d hd).1
          refine g_seq ?_
          walk_at "g"
          refine g_slL (SqL.of hR11) fun l6 hl6 => ?_
          have e6 : cutV (rs.map rf) none (some 6) = (rs.take 6).map rf := by rw [List.map_take]; exact cut_any (n := 6)
          rw [e6]
          have x12 : XT H11 (upd H11 l6 (.lst ((rs.take 6).map rf))) := fun q o h => by rw [upd_ne (ne_of_none h hl6)]; exact h
          have el6 : (upd H11 l6 (.lst ((rs.take 6).map rf))) l6 = some (.lst ((rs.take 6).map rf)) := upd_same
          generalize upd H11 l6 (.lst ((rs.take 6).map rf)) = H12 at x12 el6
          have x612 : XT H6 H12 := XT.trans x611 x12
          have oB12 := oB11.keep x12
          have hN12 := x12 _ _ hN
          clear x12 hR11 hN oB11 x611
          refine ⟨l6, rfl, ⟨_, SqL.of el6⟩, for_listA (xs := (rs.take 6).map rf) (fun j σ' H' => (∃ s9 s10 s11, σ' = [some (.ref a), some (.ref L), some (.ref O), some (.ref R), s4, s5, some (.ref D), some (.ref Bk), some (.ref Dn), s9, s10, s11, none, none, none, none, none]) ∧ XT H12 H') ⟨⟨_, _, _, rfl⟩, fun q o h => h⟩ (fun _ _ _ _ e => SqL.of (e.2 _ _ el6)) ?_ ?_⟩
          · rintro j x σ' H13 D1 hj ⟨⟨s9, s10, s11, rfl⟩, x13⟩ hnx1 _ _ hrt1
            rw [List.getElem?_map] at hj
            obtain ⟨one, h1j, rfl⟩ := Option.map_eq_some_iff.mp hj
            have m1 : one ∈ rs := List.mem_of_mem_take (List.mem_of_getElem? h1j)
            have ok1 := hok one m1
            have eo1 := x612 _ _ (hRL.2 one m1)
            walk_at "g"
            have hRs := x13 _ _ (x612 _ _ hdR)
            refine ⟨R, rfl, ⟨_, SqL.of hRs⟩, for_listA (xs := rs.map rf) (fun j σ' H' => (∃ s10 s11, σ' = [some (.ref a), some (.ref L), some (.ref O), some (.ref R), s4, s5, some (.ref D), some (.ref Bk), some (.ref Dn), some (.ref one.1), s10, s11, none, none, none, none, none]) ∧ XT H12 H') ⟨⟨_, _, rfl⟩, x13⟩ (fun _ _ _ _ e => SqL.of (e.2 _ _ (x612 _ _ hdR))) ?_ ?_⟩
            · rintro j2 x σ' H14 D2 hj2 ⟨⟨s10, s11, rfl⟩, x14⟩ hnx2 _ _ hrt2
              rw [List.getElem?_map] at hj2
              obtain ⟨two, h2j, rfl⟩ := Option.map_eq_some_iff.mp hj2
              have m2 : two ∈ rs := List.mem_of_getElem? h2j
              have ok2 := hok two m2
              have eo2 := x612 _ _ (hRL.2 two m2)
              have x614 := XT.trans x612 x14
              walk_at "g"
              refine ⟨O, one.1, two.1, ps, kdA cs, one.2, two.2, rfl, hO6.keep x614, x14 _ _ eo1, x14 _ _ eo2, ok1, ok2, hKO, ?_⟩
              walk_at "g"
              refine ⟨O, _, rfl, .inl ⟨SqL.of (x614 _ _ hq6), fun t1 ht1 => ?_⟩⟩
              have x15 := x14.new (o := .tup (qs.map V.ref)) ht1
              have o15 : OT (upd H14 t1 (.tup (qs.map V.ref))) t1 ps := ⟨qs, upd_same, hql, fun i q c hq hc => XT.trans x612 x15 _ _ (hqp i q c hq hc)⟩
              generalize upd H14 t1 (.tup (qs.map V.ref)) = H15 at x15 o15
              walk_at "g"
              refine ⟨one.1, one.2, rfl, Rd.of (x15 _ _ eo1), fun t2 ht2 => ?_⟩
              have x16 := x15.new (o := .dK one.2) ht2
              have o16 := o15.keep (H' := upd H15 t2 (.dK one.2)) (fun q o h => by rw [upd_ne (ne_of_none h ht2)]; exact h)
              have e16 : (upd H15 t2 (.dK one.2)) t2 = some (.dK one.2) := upd_same
              generalize upd H15 t2 (.dK one.2) = H16 at x16 o16 e16
              walk_at "g"
              refine ⟨two.1, two.2, rfl, Rd.of (x16 _ _ eo2), fun t3 ht3 => ?_⟩
              have x17 := x16.new (o := .dK two.2) ht3
              have y17 : XT H16 (upd H16 t3 (.dK two.2)) := fun q o h => by rw [upd_ne (ne_of_none h ht3)]; exact h
              have e17 : (upd H16 t3 (.dK two.2)) t3 = some (.dK two.2) := upd_same
              generalize upd H16 t3 (.dK two.2) = H17 at x17 y17 e17
              walk_at "g"
              refine ⟨t1, t2, t3, ps, kdA cs, one.2, two.2, rfl, o16.keep y17, y17 _ _ e16, e17, ok1, ok2, hKO, ?_⟩
              walk_at "g"
              refine ⟨_, _, rfl, ?_⟩
              rw [decide_eq_true rfl]
              walk_at "g"
              refine ⟨Bk, one.1, two.1, ps.map fl2, kdA cs, one.2, two.2, rfl, oB12.keep x17, x17 _ _ eo1, x17 _ _ eo2, ok1, ok2, hKB, ?_⟩
              walk_at "g"
              refine ⟨O, two.1, one.1, ps, kdA cs, two.2, one.2, rfl, hO6.keep (XT.trans x612 x17), x17 _ _ eo2, x17 _ _ eo1, ok2, ok1, hKO, ?_⟩
              walk_at "g"
              refine ⟨_, _, rfl, ?_⟩
              rw [less_flip, decide_eq_true rfl]
              walk_at "g"
              refine ⟨Dn, _, rfl, .inl ⟨SqL.of (x17 _ _ hN12), fun t4 ht4 => ?_⟩⟩
              have x18 := x17.new (o := .tup ((ps.map (·.1)).map V.str)) ht4
              have e18 : (upd H17 t4 (.tup ((ps.map (·.1)).map V.str))) t4 = some (.tup ((ps.map (·.1)).map V.str)) := upd_same
              generalize upd H17 t4 (.tup ((ps.map (·.1)).map V.str)) = H18 at x18 e18
              walk_at "g"
              refine ⟨t4, one.1, two.1, ps.map (·.1), kdA cs, one.2, two.2, rfl, e18, x18 _ _ eo1, x18 _ _ eo2, ok1, ok2, by rw [List.length_map]; omega, hKN, fun H19 y19 => ?_⟩
              have x19 : XT H12 H19 := XT.trans x18 y19
              walk_at "g"
              refine ⟨Dn, one.1, two.1, ps.map (·.1), kdA cs, one.2, two.2, rfl, x19 _ _ hN12, x19 _ _ eo1, x19 _ _ eo2, ok1, ok2, hKN, ?_⟩
              walk_at "g"
              refine ⟨_, _, rfl, ?_⟩
              rw [decide_eq_true rfl]
              walk_at "g"
              refine ⟨Nat.zero_le _, fun t5 ht5 => ?_⟩
              have x20 := x19.new (o := .tup []) ht5
              have e20 : (upd H19 t5 (.tup [])) t5 = some (.tup (([] : List Str).map V.str)) := upd_same
              generalize upd H19 t5 (.tup []) = H20 at x20 e20
              walk_at "g"
              refine ⟨t5, one.1, two.1, [], kdA cs, one.2, two.2, rfl, e20, x20 _ _ eo1, x20 _ _ eo2, ok1, ok2, Nat.zero_le _, fun c hc => (nomatch hc), fun H21 y21 => ?_⟩
              rw [show alikeB [] (valK one.2) (valK two.2) = true from rfl]
              walk_at "g"
              exact hnx2 _ _ ⟨⟨_, _, rfl⟩, XT.trans x20 y21⟩
            · rintro σ' H14 ⟨⟨s10, s11, rfl⟩, x14⟩
              walk_at "g"
              exact hnx1 _ _ ⟨⟨_, _, _, rfl⟩, x14⟩
          · rintro σ' H13 ⟨⟨s9, s10, s11, rfl⟩, x13⟩
            have x613 := XT.trans x612 x13
            have R13 := hRL.keep x613
            have hR13 := R13.1
            clear x13 oB12 hN12 el6 x612 hKB hKN e6
            have hO13 := hO6.keep x613
            have hq13 := x613 _ _ hq6
            have hqp13 : ∀ (i : Nat) (q : Addr) (c : Str × Bool), qs[i]? = some q → ps[i]? = some c → H13 q = some (.tup (pt c)) := fun i q c hq hc => x613 _ _ (hqp i q c hq hc)
            clear x613 hRL hdR hqp hqt hq6 hO6
            walk_at "g"
            refine ⟨R, rfl, ⟨_, SqL.of hR13⟩, fun Kp hKp => ?_⟩
            refine lc_new (rs.map rf) (fun i y H' => ∃ t, y = .ref t ∧ ∃ x, rs[i]? = some x ∧ H' t = some (.dK x.2)) hKp (fun H2 k2 => fits_l (SqL.of (k2 _ _ hR13))) (by rw [List.length_map]; omega) ?_ ?_ ?_
            · rintro i y Ha Hb ⟨zs, hz⟩ ⟨t, rfl, x, h1, h2⟩ hk
              exact ⟨t, rfl, x, h1, hk _ _ (fun z => by rw [z, hz] at h2; cases h2) h2⟩
            · intro i x Hh Rr S hx kh _ hR'
              rw [List.getElem?_map] at hx
              obtain ⟨y, hy, rfl⟩ := Option.map_eq_some_iff.mp hx
              walk_at "g"
              refine ⟨rfl, ?_⟩
              walk_at "g"
              refine ⟨y.1, y.2, rfl, Rd.of (kh _ _ (R13.2 y (List.mem_of_getElem? hy))), fun t ht => ?_⟩
              exact hR' _ _ (fun q o h => by rw [upd_ne (ne_of_none h ht)]; exact h) ⟨t, rfl, y, hy, upd_same⟩
            · intro H14 ys x14 hK14 hyl hys
              rw [List.length_map] at hyl
              obtain ⟨ts, rfl, hts⟩ := refs_of hys
              rw [List.length_map] at hyl
              obtain ⟨ks, ek1, ek2, ek3⟩ : ∃ ks : List (Addr × RW), ts.map V.ref = ks.map rf ∧ ks.map (fun x => x.2) = rs.map (fun x => x.2) ∧ ∀ x ∈ ks, H14 x.1 = some (.dK x.2) := by
                refine ⟨ts.zip (rs.map fun x => x.2), ?_, ?_, fun x hx => ?_⟩
                · have : (ts.zip (rs.map fun x => x.2)).map rf = ((ts.zip (rs.map fun x => x.2)).map Prod.fst).map V.ref := by rw [List.map_map]; rfl
                  rw [this, List.map_fst_zip (by rw [List.length_map]; omega)]
                · exact List.map_snd_zip (by rw [List.length_map]; omega)
                · obtain ⟨i, hi, rfl⟩ := List.mem_iff_getElem.mp hx
                  rw [List.length_zip, List.length_map] at hi
                  obtain ⟨x, h1, h2⟩ := hts i ts[i] (List.getElem?_eq_getElem (by omega))
                  rw [List.getElem_zip, List.getElem_map]
                  obtain ⟨h3, h4⟩ := List.getElem?_eq_some_iff.mp h1
                  rw [h4]
                  exact h2
              rw [ek1] at hK14
              have x14' : XT H13 H14 := x14
              have okk : ∀ x ∈ ks, RowOk (kdA cs) x.2 := fun x hx => by
                have : x.2 ∈ ks.map (fun x => x.2) := List.mem_map.mpr ⟨x, hx, rfl⟩
                rw [ek2] at this
                obtain ⟨y, hy, e⟩ := List.mem_map.mp this
                rw [← e]
                exact hok y hy
              have hkl : ks.length = rs.length := by
                have := congrArg List.length ek2
                rw [List.length_map, List.length_map] at this
                exact this
              clear hts hys
              have R14 := R13.keep x14'
              have O14 := hO13.keep x14'
              have q14 := x14' _ _ hq13
              have p14 : ∀ (i : Nat) (q : Addr) (c : Str × Bool), qs[i]? = some q → ps[i]? = some c → H14 q = some (.tup (pt c)) := fun i q c hq hc => x14' _ _ (hqp13 i q c hq hc)
              clear x14 x14' R13 hR13 hO13 hq13 hqp13
              have R14 := R14
              walk_at "g"
              refine ⟨O, _, rfl, .inl ⟨SqL.of q14, fun T1 hT1 => ?_⟩⟩
              have x15 : XT H14 (upd H14 T1 (.tup (qs.map V.ref))) := fun q o h => by rw [upd_ne (ne_of_none h hT1)]; exact h
              have o15 : OT (upd H14 T1 (.tup (qs.map V.ref))) T1 ps := ⟨qs, upd_same, hql, fun i q c hq hc => x15 _ _ (p14 i q c hq hc)⟩
              generalize upd H14 T1 (.tup (qs.map V.ref)) = H15 at x15 o15
              walk_at "g"
              refine ⟨T1, R, ps, kdA cs, rs, rfl, o15, R14.keep x15, hok, hKO, Nat.le_trans hrl (by decide), by omega, fun Tl ys H16 hTl x16 RT ey ny => ?_⟩
              have x1416 : XT H14 H16 := XT.trans x15 x16
              walk_at "g"
              refine ⟨O, Kp, ps, kdA cs, ks, rfl, O14.keep x1416, ⟨x1416 _ _ hK14, fun x hx => x1416 _ _ (ek3 x hx)⟩, okk, hKO, by omega, fun Dl H17 hDl x17 RD => ?_⟩
              have x1417 : XT H14 H17 := XT.trans x1416 x17
              have x1517 : XT H15 H17 := XT.trans x16 x17
              have RT17 := RT.keep x17
              have esd : ∀ {zs : List (Addr × RW)}, zs.map (fun x => x.2) = srt (ltR ps) (rs.map fun x => x.2) → zs.map (fun x => x.2) = (srt (ltA ps) ks).map (fun x => x.2) := fun {zs} h => by rw [h, srt_map, ek2]
              have oky : ∀ {zs : List (Addr × RW)}, zs.map (fun x => x.2) = srt (ltR ps) (rs.map fun x => x.2) → ∀ x ∈ zs, RowOk (kdA cs) x.2 := fun {zs} h x hx => by
                have : x.2 ∈ zs.map (fun x => x.2) := List.mem_map.mpr ⟨x, hx, rfl⟩
                rw [h] at this
                obtain ⟨y, hy, e⟩ := List.mem_map.mp (mem_srt this)
                rw [← e]
                exact hok y hy
              have hTl17 := RT17.1
              have hDl17 := RD.1
              walk_at "g"
              refine g_isi (.base (.lst hTl17)) kb_list ?_
              walk_at "g"
              refine ⟨2, Tl, Dl, _, _, by decide, rfl, rfl, SqL.of hTl17, SqL.of hDl17, eq_rows (κ := kdA cs) (esd ey) (fun x hx => ⟨RT17.2 x hx, oky ey x hx⟩) RD.2, ?_⟩
              walk_at "g"
              refine ⟨2, R, Kp, _, _, by decide, rfl, rfl, SqL.of (x1417 _ _ R14.1), SqL.of (x1417 _ _ hK14), eq_rows (κ := kdA cs) ek2.symm (fun x hx => ⟨x1417 _ _ (R14.2 x hx), hok x hx⟩) (fun x hx => x1417 _ _ (ek3 x hx)), ?_⟩
              walk_at "g"
              have hyl2 : ys.length = rs.length := by
                have := congrArg List.length ey
                rw [List.length_map, len_srt, List.length_map] at this
                exact this
              refine ⟨Tl, rfl, ⟨_, SqL.of hTl17⟩, for_listA (xs := ys.map rf) (fun j σ' H' => (∃ s15, σ' = [some (.ref a), some (.ref L), some (.ref O), some (.ref R), s4, s5, some (.ref D), some (.ref Bk), some (.ref Dn), s9, s10, s11, some (.ref Kp), some (.ref Tl), some (.ref Dl), s15, none]) ∧ XT H15 H' ∧ H' Tl = some (.lst (ys.map rf)) ∧ H' Dl = some (.lst ((srt (ltA ps) ks).map rf)) ∧ ∀ y ∈ ys, ∃ kvs, H' y.1 = some (.dK kvs) ∧ kvs.length ≤ 50 + j) ⟨⟨_, rfl⟩, x1517, hTl17, hDl17, fun y hy => ⟨y.2, RT17.2 y hy, (oky ey y hy).len⟩⟩ (fun _ _ _ _ e => SqL.of e.2.2.1) ?_ ?_⟩
              · rintro j x σ' H18 D1 hj ⟨⟨s15, rfl⟩, x18, hT18, hD18, hy18⟩ hnx1 _ _ hrt1
                rw [List.getElem?_map] at hj
                obtain ⟨y, hyj, rfl⟩ := Option.map_eq_some_iff.mp hj
                have hym := List.mem_of_getElem? hyj
                have hjl := (List.getElem?_eq_some_iff.mp hyj).1
                obtain ⟨kvs, e1, l1⟩ := hy18 y hym
                have n15 := ny y hym
                refine g_name ?_
                refine g_dput ?_
                walk_at "g"
                refine ⟨y.1, _, rfl, DPut.k (k := Sum.inr (Str.ofString "zz zz")) e1 (by rw [sizeLine_eq]; omega), ?_⟩
                have kr : ∀ {o : HO} b u, b ≠ y.1 → H18 b = some u → (upd H18 y.1 o) b = some u := fun b u hb h => by rw [upd_ne hb]; exact h
                refine hnx1 _ _ ⟨⟨_, rfl⟩, fun q o h => kr _ _ (ne_of_none h n15) (x18 q o h), kr _ _ (fun z => by rw [z, e1] at hT18; cases hT18) hT18, kr _ _ (fun z => by rw [z, e1] at hD18; cases hD18) hD18, fun z hz => ?_⟩
                by_cases he : z.1 = y.1
                · exact ⟨_, by rw [he]; exact upd_same, Nat.le_trans (length_putK _ _ _) (by omega)⟩
                · obtain ⟨kv2, e2, l2⟩ := hy18 z hz
                  exact ⟨kv2, kr _ _ he e2, by omega⟩
              · rintro σ' H18 ⟨⟨s15, rfl⟩, x18, hT18, hD18, hy18⟩
                have x1418 : XT H14 H18 := XT.trans x15 x18
                walk_at "g"
                refine ⟨2, by decide, .inl ⟨R, Kp, _, _, rfl, rfl, SqL.of (x1418 _ _ R14.1), SqL.of (x1418 _ _ hK14), eq_rows (κ := kdA cs) ek2.symm (fun x hx => ⟨x1418 _ _ (R14.2 x hx), hok x hx⟩) (fun x hx => x1418 _ _ (ek3 x hx))⟩, ?_⟩
                walk_at "g"
                refine ⟨O, _, rfl, .inl ⟨SqL.of (x1418 _ _ q14), fun T2 hT2 => ?_⟩⟩
                have x19 : XT H18 (upd H18 T2 (.tup (qs.map V.ref))) := fun q o h => by rw [upd_ne (ne_of_none h hT2)]; exact h
                have o19 : OT (upd H18 T2 (.tup (qs.map V.ref))) T2 ps := ⟨qs, upd_same, hql, fun i q c hq hc => x19 _ _ (x1418 _ _ (p14 i q c hq hc))⟩
                generalize upd H18 T2 (.tup (qs.map V.ref)) = H19 at x19 o19
                walk_at "g"
                refine ⟨T2, R, ps, kdA cs, rs, rfl, o19, R14.keep (XT.trans x1418 x19), hok, hKO, Nat.le_trans hrl (by decide), by omega, fun T3 zs H20 hT3 x20 RZ ez nz => ?_⟩
                have x1820 : XT H18 H20 := XT.trans x19 x20
                walk_at "g"
                refine ⟨2, by decide, .inl ⟨T3, Dl, _, _, rfl, rfl, SqL.of RZ.1, SqL.of (x1820 _ _ hD18), eq_rows (κ := kdA cs) (esd ez) (fun x hx => ⟨RZ.2 x hx, oky ez x hx⟩) (fun x hx => x1820 _ _ (x1418 _ _ (ek3 x (mem_srt hx))))⟩, ?_⟩
                walk_at "g"
                exact k _
end
theorem kitSelf {K : PySem.W.Frag} {C : Addr} : PySem.W.kitOne K (.ref C) (.ref C) = some true := by
  unfold PySem.W.kitOne
  rw [if_pos (beq_self_eq_true _)]
theorem kitNo {K : PySem.W.Frag} {C : Addr} {T : String} (h2 : PySem.W.isClsIn K C = true) (h3 : PySem.W.typeIn K (.ref C) = some (.type "type")) (h4 : PySem.W.subIn K (.type T) (.ref C) = some false) : PySem.W.kitOne K (.type T) (.ref C) = some false := by
  have e1 : ¬ (Value.type T == Value.ref C) = true := fun z => nomatch (beq_iff_eq.mp z)
  have e2 : ((PySem.W.clsIn K C).isSome && PySem.W.typeIn K (.ref C) == some (.type "type")) = true := by
    have h2' : (PySem.W.clsIn K C).isSome = true := h2
    rw [h2', h3] <;> rfl
  show (if (Value.type T == Value.ref C) = true then some true else (if ((PySem.W.clsIn K C).isSome && PySem.W.typeIn K (.ref C) == some (.type "type")) = true then PySem.W.subIn K (.type T) (.ref C) else none)) = some false
  rw [if_neg e1, if_pos e2]
  exact h4
theorem exmSelf {K : PySem.W.Frag} {S : Addr} (h1 : PySem.W.subIn K (.ref S) (.type "BaseException") = some true) (h2 : PySem.W.isClsIn K S = true) (h3 : PySem.W.typeIn K (.ref S) = some (.type "type")) (h4 : PySem.W.subIn K (.ref S) (.ref S) = some true) : PySem.W.exmOne K (.ref S) (.ref S) = some true := by
  have e1 : (PySem.W.subIn K (.ref S) (.type "BaseException") == some true) = true := by rw [h1] <;> rfl
  have e2 : ((PySem.W.clsIn K S).isSome && PySem.W.typeIn K (.ref S) == some (.type "type")) = true := by
    have h2' : (PySem.W.clsIn K S).isSome = true := h2
    rw [h2', h3] <;> rfl
  show (if (PySem.W.subIn K (.ref S) (.type "BaseException") == some true) = true then (if ((PySem.W.clsIn K S).isSome && PySem.W.typeIn K (.ref S) == some (.type "type")) = true then PySem.W.subIn K (.ref S) (.ref S) else none) else none) = some true
  rw [if_pos e1, if_pos e2]
  exact h4
theorem all_mk {l : PySem.W.OpenLaw} {w : World} {K : PySem.W.Frag} {h : Heap} {mg : Str → Option Value} {fa f_is_ahead f_turned f_alike_in f_comes_ahead f_merged f_sort_rows f__law_is f__law_pool f__law_draw f__law_value f__law_name f__law_columns f__law_order f__law_ahead f__law_sort f__law_alike f__law_row f_law : Addr} (X : K.In h) (G : h.Ns mainGlobals mg) (hfa : mg "law" = some (.ref fa))
    {od_is_ahead an_is_ahead : Option Addr} {sl_is_ahead : Array (Option Value)} {oc_is_ahead kV_is_ahead dc_is_ahead pm_is_ahead cd_is_ahead ct_is_ahead : Value}
    {od_turned an_turned : Option Addr} {sl_turned : Array (Option Value)} {oc_turned kV_turned dc_turned pm_turned cd_turned ct_turned : Value}
    {od_alike_in an_alike_in : Option Addr} {sl_alike_in : Array (Option Value)} {oc_alike_in kV_alike_in dc_alike_in pm_alike_in cd_alike_in ct_alike_in : Value}
    {od_comes_ahead an_comes_ahead : Option Addr} {sl_comes_ahead : Array (Option Value)} {oc_comes_ahead kV_comes_ahead dc_comes_ahead pm_comes_ahead cd_comes_ahead ct_comes_ahead : Value}
    {od_merged an_merged : Option Addr} {sl_merged : Array (Option Value)} {oc_merged kV_merged dc_merged pm_merged cd_merged ct_merged : Value}
    {od_sort_rows an_sort_rows : Option Addr} {sl_sort_rows : Array (Option Value)} {oc_sort_rows kV_sort_rows dc_sort_rows pm_sort_rows cd_sort_rows ct_sort_rows : Value}
    {od__law_is an__law_is : Option Addr} {sl__law_is : Array (Option Value)} {oc__law_is kV__law_is dc__law_is pm__law_is cd__law_is ct__law_is : Value}
    {od__law_pool an__law_pool : Option Addr} {sl__law_pool : Array (Option Value)} {oc__law_pool kV__law_pool dc__law_pool pm__law_pool cd__law_pool ct__law_pool : Value}
    {od__law_draw an__law_draw : Option Addr} {sl__law_draw : Array (Option Value)} {oc__law_draw kV__law_draw dc__law_draw pm__law_draw cd__law_draw ct__law_draw : Value}
    {od__law_value an__law_value : Option Addr} {sl__law_value : Array (Option Value)} {oc__law_value kV__law_value dc__law_value pm__law_value cd__law_value ct__law_value : Value}
    {od__law_name an__law_name : Option Addr} {sl__law_name : Array (Option Value)} {oc__law_name kV__law_name dc__law_name pm__law_name cd__law_name ct__law_name : Value}
    {od__law_columns an__law_columns : Option Addr} {sl__law_columns : Array (Option Value)} {oc__law_columns kV__law_columns dc__law_columns pm__law_columns cd__law_columns ct__law_columns : Value}
    {od__law_order an__law_order : Option Addr} {sl__law_order : Array (Option Value)} {oc__law_order kV__law_order dc__law_order pm__law_order cd__law_order ct__law_order : Value}
    {od__law_ahead an__law_ahead : Option Addr} {sl__law_ahead : Array (Option Value)} {oc__law_ahead kV__law_ahead dc__law_ahead pm__law_ahead cd__law_ahead ct__law_ahead : Value}
    {od__law_sort an__law_sort : Option Addr} {sl__law_sort : Array (Option Value)} {oc__law_sort kV__law_sort dc__law_sort pm__law_sort cd__law_sort ct__law_sort : Value}
    {od__law_alike an__law_alike : Option Addr} {sl__law_alike : Array (Option Value)} {oc__law_alike kV__law_alike dc__law_alike pm__law_alike cd__law_alike ct__law_alike : Value}
    {od__law_row an__law_row : Option Addr} {sl__law_row : Array (Option Value)} {oc__law_row kV__law_row dc__law_row pm__law_row cd__law_row ct__law_row : Value}
    {od_law an_law : Option Addr} {sl_law : Array (Option Value)} {oc_law kV_law dc_law pm_law cd_law ct_law : Value}
    (a_is_ahead : PySem.W.nsIn K mainGlobals "is_ahead" = some (some (.ref f_is_ahead))) (l_is_ahead : K.lookup f_is_ahead = some ⟨oc_is_ahead, od_is_ahead, .func (PySem.W.fnOf "is_ahead" "is_ahead" (defArgs S_is_ahead) (defBody S_is_ahead) (defScope S_is_ahead) .none kV_is_ahead dc_is_ahead pm_is_ahead an_is_ahead cd_is_ahead ct_is_ahead), sl_is_ahead⟩) (c_is_ahead : PySem.W.codeIn K cd_is_ahead "is_ahead" = true) (k_is_ahead : PySem.W.keepIn K (.ref f_is_ahead) = true)
    (a_turned : PySem.W.nsIn K mainGlobals "turned" = some (some (.ref f_turned))) (l_turned : K.lookup f_turned = some ⟨oc_turned, od_turned, .func (PySem.W.fnOf "turned" "turned" (defArgs S_turned) (defBody S_turned) (defScope S_turned) .none kV_turned dc_turned pm_turned an_turned cd_turned ct_turned), sl_turned⟩) (c_turned : PySem.W.codeIn K cd_turned "turned" = true) (k_turned : PySem.W.keepIn K (.ref f_turned) = true)
    (a_alike_in : PySem.W.nsIn K mainGlobals "alike_in" = some (some (.ref f_alike_in))) (l_alike_in : K.lookup f_alike_in = some ⟨oc_alike_in, od_alike_in, .func (PySem.W.fnOf "alike_in" "alike_in" (defArgs S_alike_in) (defBody S_alike_in) (defScope S_alike_in) .none kV_alike_in dc_alike_in pm_alike_in an_alike_in cd_alike_in ct_alike_in), sl_alike_in⟩) (c_alike_in : PySem.W.codeIn K cd_alike_in "alike_in" = true) (k_alike_in : PySem.W.keepIn K (.ref f_alike_in) = true)
    (a_comes_ahead : PySem.W.nsIn K mainGlobals "comes_ahead" = some (some (.ref f_comes_ahead))) (l_comes_ahead : K.lookup f_comes_ahead = some ⟨oc_comes_ahead, od_comes_ahead, .func (PySem.W.fnOf "comes_ahead" "comes_ahead" (defArgs S_comes_ahead) (defBody S_comes_ahead) (defScope S_comes_ahead) .none kV_comes_ahead dc_comes_ahead pm_comes_ahead an_comes_ahead cd_comes_ahead ct_comes_ahead), sl_comes_ahead⟩) (c_comes_ahead : PySem.W.codeIn K cd_comes_ahead "comes_ahead" = true) (k_comes_ahead : PySem.W.keepIn K (.ref f_comes_ahead) = true)
    (a_merged : PySem.W.nsIn K mainGlobals "merged" = some (some (.ref f_merged))) (l_merged : K.lookup f_merged = some ⟨oc_merged, od_merged, .func (PySem.W.fnOf "merged" "merged" (defArgs S_merged) (defBody S_merged) (defScope S_merged) .none kV_merged dc_merged pm_merged an_merged cd_merged ct_merged), sl_merged⟩) (c_merged : PySem.W.codeIn K cd_merged "merged" = true) (k_merged : PySem.W.keepIn K (.ref f_merged) = true)
    (a_sort_rows : PySem.W.nsIn K mainGlobals "sort_rows" = some (some (.ref f_sort_rows))) (l_sort_rows : K.lookup f_sort_rows = some ⟨oc_sort_rows, od_sort_rows, .func (PySem.W.fnOf "sort_rows" "sort_rows" (defArgs S_sort_rows) (defBody S_sort_rows) (defScope S_sort_rows) .none kV_sort_rows dc_sort_rows pm_sort_rows an_sort_rows cd_sort_rows ct_sort_rows), sl_sort_rows⟩) (c_sort_rows : PySem.W.codeIn K cd_sort_rows "sort_rows" = true) (k_sort_rows : PySem.W.keepIn K (.ref f_sort_rows) = true)
    (a__law_is : PySem.W.nsIn K mainGlobals "_law_is" = some (some (.ref f__law_is))) (l__law_is : K.lookup f__law_is = some ⟨oc__law_is, od__law_is, .func (PySem.W.fnOf "_law_is" "_law_is" (defArgs S__law_is) (defBody S__law_is) (defScope S__law_is) .none kV__law_is dc__law_is pm__law_is an__law_is cd__law_is ct__law_is), sl__law_is⟩) (c__law_is : PySem.W.codeIn K cd__law_is "_law_is" = true) (k__law_is : PySem.W.keepIn K (.ref f__law_is) = true)
    (a__law_pool : PySem.W.nsIn K mainGlobals "_law_pool" = some (some (.ref f__law_pool))) (l__law_pool : K.lookup f__law_pool = some ⟨oc__law_pool, od__law_pool, .func (PySem.W.fnOf "_law_pool" "_law_pool" (defArgs S__law_pool) (defBody S__law_pool) (defScope S__law_pool) .none kV__law_pool dc__law_pool pm__law_pool an__law_pool cd__law_pool ct__law_pool), sl__law_pool⟩) (c__law_pool : PySem.W.codeIn K cd__law_pool "_law_pool" = true) (k__law_pool : PySem.W.keepIn K (.ref f__law_pool) = true)
    (a__law_draw : PySem.W.nsIn K mainGlobals "_law_draw" = some (some (.ref f__law_draw))) (l__law_draw : K.lookup f__law_draw = some ⟨oc__law_draw, od__law_draw, .func (PySem.W.fnOf "_law_draw" "_law_draw" (defArgs S__law_draw) (defBody S__law_draw) (defScope S__law_draw) .none kV__law_draw dc__law_draw pm__law_draw an__law_draw cd__law_draw ct__law_draw), sl__law_draw⟩) (c__law_draw : PySem.W.codeIn K cd__law_draw "_law_draw" = true) (k__law_draw : PySem.W.keepIn K (.ref f__law_draw) = true)
    (a__law_value : PySem.W.nsIn K mainGlobals "_law_value" = some (some (.ref f__law_value))) (l__law_value : K.lookup f__law_value = some ⟨oc__law_value, od__law_value, .func (PySem.W.fnOf "_law_value" "_law_value" (defArgs S__law_value) (defBody S__law_value) (defScope S__law_value) .none kV__law_value dc__law_value pm__law_value an__law_value cd__law_value ct__law_value), sl__law_value⟩) (c__law_value : PySem.W.codeIn K cd__law_value "_law_value" = true) (k__law_value : PySem.W.keepIn K (.ref f__law_value) = true)
    (a__law_name : PySem.W.nsIn K mainGlobals "_law_name" = some (some (.ref f__law_name))) (l__law_name : K.lookup f__law_name = some ⟨oc__law_name, od__law_name, .func (PySem.W.fnOf "_law_name" "_law_name" (defArgs S__law_name) (defBody S__law_name) (defScope S__law_name) .none kV__law_name dc__law_name pm__law_name an__law_name cd__law_name ct__law_name), sl__law_name⟩) (c__law_name : PySem.W.codeIn K cd__law_name "_law_name" = true) (k__law_name : PySem.W.keepIn K (.ref f__law_name) = true)
    (a__law_columns : PySem.W.nsIn K mainGlobals "_law_columns" = some (some (.ref f__law_columns))) (l__law_columns : K.lookup f__law_columns = some ⟨oc__law_columns, od__law_columns, .func (PySem.W.fnOf "_law_columns" "_law_columns" (defArgs S__law_columns) (defBody S__law_columns) (defScope S__law_columns) .none kV__law_columns dc__law_columns pm__law_columns an__law_columns cd__law_columns ct__law_columns), sl__law_columns⟩) (c__law_columns : PySem.W.codeIn K cd__law_columns "_law_columns" = true) (k__law_columns : PySem.W.keepIn K (.ref f__law_columns) = true)
    (a__law_order : PySem.W.nsIn K mainGlobals "_law_order" = some (some (.ref f__law_order))) (l__law_order : K.lookup f__law_order = some ⟨oc__law_order, od__law_order, .func (PySem.W.fnOf "_law_order" "_law_order" (defArgs S__law_order) (defBody S__law_order) (defScope S__law_order) .none kV__law_order dc__law_order pm__law_order an__law_order cd__law_order ct__law_order), sl__law_order⟩) (c__law_order : PySem.W.codeIn K cd__law_order "_law_order" = true) (k__law_order : PySem.W.keepIn K (.ref f__law_order) = true)
    (a__law_ahead : PySem.W.nsIn K mainGlobals "_law_ahead" = some (some (.ref f__law_ahead))) (l__law_ahead : K.lookup f__law_ahead = some ⟨oc__law_ahead, od__law_ahead, .func (PySem.W.fnOf "_law_ahead" "_law_ahead" (defArgs S__law_ahead) (defBody S__law_ahead) (defScope S__law_ahead) .none kV__law_ahead dc__law_ahead pm__law_ahead an__law_ahead cd__law_ahead ct__law_ahead), sl__law_ahead⟩) (c__law_ahead : PySem.W.codeIn K cd__law_ahead "_law_ahead" = true) (k__law_ahead : PySem.W.keepIn K (.ref f__law_ahead) = true)
    (a__law_sort : PySem.W.nsIn K mainGlobals "_law_sort" = some (some (.ref f__law_sort))) (l__law_sort : K.lookup f__law_sort = some ⟨oc__law_sort, od__law_sort, .func (PySem.W.fnOf "_law_sort" "_law_sort" (defArgs S__law_sort) (defBody S__law_sort) (defScope S__law_sort) .none kV__law_sort dc__law_sort pm__law_sort an__law_sort cd__law_sort ct__law_sort), sl__law_sort⟩) (c__law_sort : PySem.W.codeIn K cd__law_sort "_law_sort" = true) (k__law_sort : PySem.W.keepIn K (.ref f__law_sort) = true)
    (a__law_alike : PySem.W.nsIn K mainGlobals "_law_alike" = some (some (.ref f__law_alike))) (l__law_alike : K.lookup f__law_alike = some ⟨oc__law_alike, od__law_alike, .func (PySem.W.fnOf "_law_alike" "_law_alike" (defArgs S__law_alike) (defBody S__law_alike) (defScope S__law_alike) .none kV__law_alike dc__law_alike pm__law_alike an__law_alike cd__law_alike ct__law_alike), sl__law_alike⟩) (c__law_alike : PySem.W.codeIn K cd__law_alike "_law_alike" = true) (k__law_alike : PySem.W.keepIn K (.ref f__law_alike) = true)
    (a__law_row : PySem.W.nsIn K mainGlobals "_law_row" = some (some (.ref f__law_row))) (l__law_row : K.lookup f__law_row = some ⟨oc__law_row, od__law_row, .func (PySem.W.fnOf "_law_row" "_law_row" (defArgs S__law_row) (defBody S__law_row) (defScope S__law_row) .none kV__law_row dc__law_row pm__law_row an__law_row cd__law_row ct__law_row), sl__law_row⟩) (c__law_row : PySem.W.codeIn K cd__law_row "_law_row" = true) (k__law_row : PySem.W.keepIn K (.ref f__law_row) = true)
    (a_law : PySem.W.nsIn K mainGlobals "law" = some (some (.ref f_law))) (l_law : K.lookup f_law = some ⟨oc_law, od_law, .func (PySem.W.fnOf "law" "law" (defArgs S_law) (defBody S_law) (defScope S_law) .none kV_law dc_law pm_law an_law cd_law ct_law), sl_law⟩) (c_law : PySem.W.codeIn K cd_law "law" = true) (k_law : PySem.W.keepIn K (.ref f_law) = true)
    (z_tuple : PySem.W.nsIn K mainGlobals "tuple" = some none)
    (z_all : PySem.W.nsIn K mainGlobals "all" = some none)
    (z_len : PySem.W.nsIn K mainGlobals "len" = some none)
    (z_dict : PySem.W.nsIn K mainGlobals "dict" = some none)
    (z_isinstance : PySem.W.nsIn K mainGlobals "isinstance" = some none)
    (z_bool : PySem.W.nsIn K mainGlobals "bool" = some none)
    (z_int : PySem.W.nsIn K mainGlobals "int" = some none)
    (z_range : PySem.W.nsIn K mainGlobals "range" = some none)
    (z_str : PySem.W.nsIn K mainGlobals "str" = some none)
    (z_min : PySem.W.nsIn K mainGlobals "min" = some none)
    (z_list : PySem.W.nsIn K mainGlobals "list" = some none)
    : ∃ fd : FuncData, (∀ (s : Shared) (v : Value), BindsTo s fd ⟨[v], []⟩ [("_law_script", v)]) ∧ ∀ base : Heap, K.In base → base.Ns mainGlobals mg → FnOk l.prog w K mg base CX0 13 fa fd ["_law_script"] (spLaw K) := by
  have e := hfa.symm.trans (PySem.W.mg_of X G a_law)
  cases e
  have T : Txt K mg := {
    h_tuple := PySem.W.mg_none_of X G z_tuple
    h_all := PySem.W.mg_none_of X G z_all
    h_len := PySem.W.mg_none_of X G z_len
    h_dict := PySem.W.mg_none_of X G z_dict
    h_isinstance := PySem.W.mg_none_of X G z_isinstance
    h_bool := PySem.W.mg_none_of X G z_bool
    h_int := PySem.W.mg_none_of X G z_int
    h_range := PySem.W.mg_none_of X G z_range
    h_str := PySem.W.mg_none_of X G z_str
    h_min := PySem.W.mg_none_of X G z_min
    h_list := PySem.W.mg_none_of X G z_list
    d_is_ahead := ⟨f_is_ahead, _, fun_mk (st := S_is_ahead) l_is_ahead c_is_ahead k_is_ahead, PySem.W.mg_of X G a_is_ahead, (fun_mk (st := S_is_ahead) l_is_ahead c_is_ahead k_is_ahead).binds (ps := ["one", "other"]) fun _ _ _ _ _ _ us hl => match us, hl with | [_, _], _ => rfl⟩
    d_turned := ⟨f_turned, _, fun_mk (st := S_turned) l_turned c_turned k_turned, PySem.W.mg_of X G a_turned, (fun_mk (st := S_turned) l_turned c_turned k_turned).binds (ps := ["order"]) fun _ _ _ _ _ _ us hl => match us, hl with | [_], _ => rfl⟩
    d_alike_in := ⟨f_alike_in, _, fun_mk (st := S_alike_in) l_alike_in c_alike_in k_alike_in, PySem.W.mg_of X G a_alike_in, (fun_mk (st := S_alike_in) l_alike_in c_alike_in k_alike_in).binds (ps := ["names", "row", "other"]) fun _ _ _ _ _ _ us hl => match us, hl with | [_, _, _], _ => rfl⟩
    d_comes_ahead := ⟨f_comes_ahead, _, fun_mk (st := S_comes_ahead) l_comes_ahead c_comes_ahead k_comes_ahead, PySem.W.mg_of X G a_comes_ahead, (fun_mk (st := S_comes_ahead) l_comes_ahead c_comes_ahead k_comes_ahead).binds (ps := ["order", "row", "other"]) fun _ _ _ _ _ _ us hl => match us, hl with | [_, _, _], _ => rfl⟩
    d_merged := ⟨f_merged, _, fun_mk (st := S_merged) l_merged c_merged k_merged, PySem.W.mg_of X G a_merged, (fun_mk (st := S_merged) l_merged c_merged k_merged).binds (ps := ["order", "rows", "others"]) fun _ _ _ _ _ _ us hl => match us, hl with | [_, _, _], _ => rfl⟩
    d_sort_rows := ⟨f_sort_rows, _, fun_mk (st := S_sort_rows) l_sort_rows c_sort_rows k_sort_rows, PySem.W.mg_of X G a_sort_rows, (fun_mk (st := S_sort_rows) l_sort_rows c_sort_rows k_sort_rows).binds (ps := ["order", "rows"]) fun _ _ _ _ _ _ us hl => match us, hl with | [_, _], _ => rfl⟩
    d__law_is := ⟨f__law_is, _, fun_mk (st := S__law_is) l__law_is c__law_is k__law_is, PySem.W.mg_of X G a__law_is, (fun_mk (st := S__law_is) l__law_is c__law_is k__law_is).binds (ps := ["_law_thing", "_law_due"]) fun _ _ _ _ _ _ us hl => match us, hl with | [_, _], _ => rfl⟩
    d__law_pool := ⟨f__law_pool, _, fun_mk (st := S__law_pool) l__law_pool c__law_pool k__law_pool, PySem.W.mg_of X G a__law_pool, (fun_mk (st := S__law_pool) l__law_pool c__law_pool k__law_pool).binds (ps := ["_law_script", "_law_place"]) fun _ _ _ _ _ _ us hl => match us, hl with | [_, _], _ => rfl⟩
    d__law_draw := ⟨f__law_draw, _, fun_mk (st := S__law_draw) l__law_draw c__law_draw k__law_draw, PySem.W.mg_of X G a__law_draw, (fun_mk (st := S__law_draw) l__law_draw c__law_draw k__law_draw).binds (ps := ["_law_pool_here", "_law_many"]) fun _ _ _ _ _ _ us hl => match us, hl with | [_, _], _ => rfl⟩
    d__law_value := ⟨f__law_value, _, fun_mk (st := S__law_value) l__law_value c__law_value k__law_value, PySem.W.mg_of X G a__law_value, (fun_mk (st := S__law_value) l__law_value c__law_value k__law_value).binds (ps := ["_law_pool_here", "_law_kind"]) fun _ _ _ _ _ _ us hl => match us, hl with | [_, _], _ => rfl⟩
    d__law_name := ⟨f__law_name, _, fun_mk (st := S__law_name) l__law_name c__law_name k__law_name, PySem.W.mg_of X G a__law_name, (fun_mk (st := S__law_name) l__law_name c__law_name k__law_name).binds (ps := ["_law_pool_here", "_law_taken"]) fun _ _ _ _ _ _ us hl => match us, hl with | [_, _], _ => rfl⟩
    d__law_columns := ⟨f__law_columns, _, fun_mk (st := S__law_columns) l__law_columns c__law_columns k__law_columns, PySem.W.mg_of X G a__law_columns, (fun_mk (st := S__law_columns) l__law_columns c__law_columns k__law_columns).binds (ps := ["_law_pool_here", "_law_most"]) fun _ _ _ _ _ _ us hl => match us, hl with | [_, _], _ => rfl⟩
    d__law_order := ⟨f__law_order, _, fun_mk (st := S__law_order) l__law_order c__law_order k__law_order, PySem.W.mg_of X G a__law_order, (fun_mk (st := S__law_order) l__law_order c__law_order k__law_order).binds (ps := ["_law_pool_here", "_law_columns_here"]) fun _ _ _ _ _ _ us hl => match us, hl with | [_, _], _ => rfl⟩
    d__law_ahead := ⟨f__law_ahead, _, fun_mk (st := S__law_ahead) l__law_ahead c__law_ahead k__law_ahead, PySem.W.mg_of X G a__law_ahead, (fun_mk (st := S__law_ahead) l__law_ahead c__law_ahead k__law_ahead).binds (ps := ["_law_order_here", "_law_one", "_law_other"]) fun _ _ _ _ _ _ us hl => match us, hl with | [_, _, _], _ => rfl⟩
    d__law_sort := ⟨f__law_sort, _, fun_mk (st := S__law_sort) l__law_sort c__law_sort k__law_sort, PySem.W.mg_of X G a__law_sort, (fun_mk (st := S__law_sort) l__law_sort c__law_sort k__law_sort).binds (ps := ["_law_order_here", "_law_rows"]) fun _ _ _ _ _ _ us hl => match us, hl with | [_, _], _ => rfl⟩
    d__law_alike := ⟨f__law_alike, _, fun_mk (st := S__law_alike) l__law_alike c__law_alike k__law_alike, PySem.W.mg_of X G a__law_alike, (fun_mk (st := S__law_alike) l__law_alike c__law_alike k__law_alike).binds (ps := ["_law_names", "_law_one", "_law_other"]) fun _ _ _ _ _ _ us hl => match us, hl with | [_, _, _], _ => rfl⟩
    d__law_row := ⟨f__law_row, _, fun_mk (st := S__law_row) l__law_row c__law_row k__law_row, PySem.W.mg_of X G a__law_row, (fun_mk (st := S__law_row) l__law_row c__law_row k__law_row).binds (ps := ["_law_pool_here", "_law_columns_here"]) fun _ _ _ _ _ _ us hl => match us, hl with | [_, _], _ => rfl⟩ }
  exact ⟨PySem.W.fnOf "law" "law" (defArgs S_law) (defBody S_law) (defScope S_law) .none kV_law dc_law pm_law an_law cd_law ct_law, fun s v => .of_eq rfl, fun base _ _ => ok_law T (fun_mk (st := S_law) l_law c_law k_law)⟩
theorem walk {l : PySem.W.OpenLaw} {q : Program} {loose : List Str} {XP : (Str → Option Value) → Heap → Prop} {YP : World → Heap → Prop} {d : DefRec} {K : Params → PySem.W.Frag} (hn : l.most = some 63) (hdf : d.params.defaults = [])
    (hY : ∀ (w : World) (h : Heap), YP w h → (K w.params).In h)
    (F : ∀ (w : World) (mg : Str → Option Value) (fa : Addr) (h : Heap), (K w.params).In h → h.Ns mainGlobals mg → mg d.name = some (.ref fa) →
      ∃ fd : FuncData, (∀ (s : Shared) (u : Value), BindsTo s fd ⟨[u], []⟩ [("_law_script", u)]) ∧ ∀ base : Heap, (K w.params).In base → base.Ns mainGlobals mg → FnOk l.prog w (K w.params) mg base CX0 13 fa fd ["_law_script"] (spLaw (K w.params))) :
    PySem.W.WalkO q loose XP YP l.row.toRowW d [] (fun f vs => PySem.call f vs) :=
  L2.walk_of (n := 63) (k := 13) (x := "_law_script") (CX := fun _ => CX0) (sp := fun w => spLaw (K w.params)) hn (by decide) hdf ⟨rfl, by decide, by decide⟩ hY F (fun _ _ a ns hl _ hS => ⟨a, ns, rfl, hS, hl, fun _ => rfl⟩) fun _ _ _ _ _ z => z
end L
open PySem PySem.W PyProof.Rows
set_option maxRecDepth 100000 in
set_option maxHeartbeats 0 in
theorem PySem.Challenge.cw_tworows_k44_orders_sort_holds : PySem.Challenge.rw_tworows_k44_orders_sort.Holds := by
  w_on; o_law; k_head; (case hw => w_witness2)
  k_fill
  refine L.walk (l := PySem.Challenge.rw_tworows_k44_orders_sort) rfl rfl (fun w h Y => PySem.W.kIn_of Y) ?F
  case F =>
    intro w mg fa h KX G hmg
    refine' L.all_mk KX G hmg ?a_is_ahead ?l_is_ahead ?c_is_ahead ?k_is_ahead ?a_turned ?l_turned ?c_turned ?k_turned ?a_alike_in ?l_alike_in ?c_alike_in ?k_alike_in ?a_comes_ahead ?l_comes_ahead ?c_comes_ahead ?k_comes_ahead ?a_merged ?l_merged ?c_merged ?k_merged ?a_sort_rows ?l_sort_rows ?c_sort_rows ?k_sort_rows ?a__law_is ?l__law_is ?c__law_is ?k__law_is ?a__law_pool ?l__law_pool ?c__law_pool ?k__law_pool ?a__law_draw ?l__law_draw ?c__law_draw ?k__law_draw ?a__law_value ?l__law_value ?c__law_value ?k__law_value ?a__law_name ?l__law_name ?c__law_name ?k__law_name ?a__law_columns ?l__law_columns ?c__law_columns ?k__law_columns ?a__law_order ?l__law_order ?c__law_order ?k__law_order ?a__law_ahead ?l__law_ahead ?c__law_ahead ?k__law_ahead ?a__law_sort ?l__law_sort ?c__law_sort ?k__law_sort ?a__law_alike ?l__law_alike ?c__law_alike ?k__law_alike ?a__law_row ?l__law_row ?c__law_row ?k__law_row ?a_law ?l_law ?c_law ?k_law ?z_tuple ?z_all ?z_len ?z_dict ?z_isinstance ?z_bool ?z_int ?z_range ?z_str ?z_min ?z_list
    (case a_is_ahead => k_is)
    (case l_is_ahead => k_is)
    (case c_is_ahead => k_is)
    (case k_is_ahead => k_is)
    (case a_turned => k_is)
    (case l_turned => k_is)
    (case c_turned => k_is)
    (case k_turned => k_is)
    (case a_alike_in => k_is)
    (case l_alike_in => k_is)
    (case c_alike_in => k_is)
    (case k_alike_in => k_is)
    (case a_comes_ahead => k_is)
    (case l_comes_ahead => k_is)
    (case c_comes_ahead => k_is)
    (case k_comes_ahead => k_is)
    (case a_merged => k_is)
    (case l_merged => k_is)
    (case c_merged => k_is)
    (case k_merged => k_is)
    (case a_sort_rows => k_is)
    (case l_sort_rows => k_is)
    (case c_sort_rows => k_is)
    (case k_sort_rows => k_is)
    (case a__law_is => k_is)
    (case l__law_is => k_is)
    (case c__law_is => k_is)
    (case k__law_is => k_is)
    (case a__law_pool => k_is)
    (case l__law_pool => k_is)
    (case c__law_pool => k_is)
    (case k__law_pool => k_is)
    (case a__law_draw => k_is)
    (case l__law_draw => k_is)
    (case c__law_draw => k_is)
    (case k__law_draw => k_is)
    (case a__law_value => k_is)
    (case l__law_value => k_is)
    (case c__law_value => k_is)
    (case k__law_value => k_is)
    (case a__law_name => k_is)
    (case l__law_name => k_is)
    (case c__law_name => k_is)
    (case k__law_name => k_is)
    (case a__law_columns => k_is)
    (case l__law_columns => k_is)
    (case c__law_columns => k_is)
    (case k__law_columns => k_is)
    (case a__law_order => k_is)
    (case l__law_order => k_is)
    (case c__law_order => k_is)
    (case k__law_order => k_is)
    (case a__law_ahead => k_is)
    (case l__law_ahead => k_is)
    (case c__law_ahead => k_is)
    (case k__law_ahead => k_is)
    (case a__law_sort => k_is)
    (case l__law_sort => k_is)
    (case c__law_sort => k_is)
    (case k__law_sort => k_is)
    (case a__law_alike => k_is)
    (case l__law_alike => k_is)
    (case c__law_alike => k_is)
    (case k__law_alike => k_is)
    (case a__law_row => k_is)
    (case l__law_row => k_is)
    (case c__law_row => k_is)
    (case k__law_row => k_is)
    (case a_law => k_is)
    (case l_law => k_is)
    (case c_law => k_is)
    (case k_law => k_is)
    (case z_tuple => k_is)
    (case z_all => k_is)
    (case z_len => k_is)
    (case z_dict => k_is)
    (case z_isinstance => k_is)
    (case z_bool => k_is)
    (case z_int => k_is)
    (case z_range => k_is)
    (case z_str => k_is)
    (case z_min => k_is)
    (case z_list => k_is)
#print axioms PySem.Challenge.cw_tworows_k44_orders_sort_holds
