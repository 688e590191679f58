import PyProof.Rows.All
import Wide.All
import OpenK.AllK
import Wide.FinOn
import HandS.ForMost
import HandS.Wide
import HandS.IsInst
import HandS.Flow
import HandS.TupLe
import HandS.StrMore
import HandS.Evl
import HandS.Walk
import KE.KxText
import HandS.Set
import HandS.Strs
import HandS.SetFor
import PyProof.Rows.SortShellAny
import HandS.Replace
import PySem.Challenge.RW_tworows_k02_begins_is_a_range
set_option Elab.async false
set_option linter.all false
set_option maxRecDepth 100000
set_option maxHeartbeats 4000000
namespace Tw
open PySem L2

/-! ### a def of the text with its promise -/
structure Def (P : Program) (w : World) (K : PySem.W.Frag) (mg : Str → Option Value) (base : Heap) (k : Nat) (x : Str) (ps : List Str) (sp : Sp) : Prop where
  ex : ∃ (f : Addr) (fd : FuncData), FnOk P w K mg base CX0 k f fd ps sp ∧ mg x = some (.ref f) ∧ PySem.W.keepIn K (.ref f) = true ∧ Binds K fd ps []
/-- where a def of the text stands -/
structure Here (K : PySem.W.Frag) (mg : Str → Option Value) (x : Str) (st : Stmt) (ps : List Str) (f : Addr) (fd : FuncData) : Prop where
  fn : Fun K x x st f fd
  mg : mg x = some (.ref f)
  bd : Binds K fd ps []
section
variable {X : Cx} {k j : Nat} {x : Str} {p pos : Pos} {e : Expr} {es : List Expr} {ps : List Str} {sp : Sp} {t : TA}
theorem Here.def {P : Program} {w : World} {K : PySem.W.Frag} {mg : Str → Option Value} {base : Heap} {st : Stmt} {f : Addr} {fd : FuncData} (h : Here K mg x st ps f fd) (F : FnOk P w K mg base CX0 k f fd ps sp) : Def P w K mg base k x ps sp :=
  ⟨f, fd, F, h.mg, h.fn.kp, h.bd⟩
def tDef (sp : Sp) (t : TA) : TE := fun σ H Q => t σ H fun vs H1 => sp vs H1 Q E0
theorem tDef_eq {sp : Sp} {t : TA} : tCall sp [] E0 t = tDef sp t := by
  funext σ H Q
  unfold tCall tDef
  simp only [List.append_nil]
theorem pe_def (D : Def X.prog X.w X.K X.mg X.base k x ps sp) (hr : Room j X.A) (hg : Gl X x) (ha : PA X (e :: es) t) (hk : k ≤ j := by decide) (hdb : (x == ("__debug__" : Str)) = false := by decide)
    (he : starEach (e :: es) X.env = (false, eval e X.env) :: starEach es X.env := by rfl) (hpl : (backTo pos (starEach es X.env)).any (·.1) = false := by rfl) : PE X (.Call (.Name x p) (e :: es) [] pos) (tDef sp t) := by
  obtain ⟨f, fd, F, hm, hkp, hb⟩ := D.ex
  rw [← tDef_eq]
  exact pe_call F (hr.mono hk) hg hm hkp hb .nil pass0 ha hdb he hpl
theorem pe_def0 (D : Def X.prog X.w X.K X.mg X.base k x ps sp) (hr : Room j X.A) (hg : Gl X x) (hk : k ≤ j := by decide) (hdb : (x == ("__debug__" : Str)) = false := by decide) : PE X (.Call (.Name x p) [] [] pos) (tDef sp tNil) := by
  obtain ⟨f, fd, F, hm, hkp, hb⟩ := D.ex
  rw [← tDef_eq]
  exact pe_call0 F (hr.mono hk) hg hm hkp hb .nil pass0 hdb
end

/-! ### operators for values of any kind -/
def rStr2 (C : Str → Str → Prop) (g : Str → Str → V) : R2 := fun x y H Q => ∃ i j, x = .str i ∧ y = .str j ∧ C i j ∧ Q (g i j) H
def rAddG : R2 := fun x y H Q => (∃ i j, x = .int i ∧ y = .int j ∧ Q (.int (i + j)) H) ∨ (∃ i j, x = .str i ∧ y = .str j ∧ i.length + j.length ≤ sizeLine ∧ Q (.str (i ++ j)) H) ∨ rCat x y H Q
def rLtG : R2 := fun x y H Q => (∃ i j, x = .int i ∧ y = .int j ∧ Q (.bl (decide (i < j))) H) ∨ ∃ i j, x = .str i ∧ y = .str j ∧ Q (.bl (decide (i.cps.toList < j.cps.toList))) H
def CPowG (i j : Int) : Prop := 0 ≤ j ∧ (Builtin.Int.intBits i : Int) * j ≤ 2 ^ 27
section
variable {X : Cx} {H : Hp} {Q : VK}
theorem op_addG : OpR X (binaryOp .Add) rAddG := op_add.or (op_add_str.or op_cat)
theorem op_ltG : OpR X (compareOp .Lt) rLtG := op_lt.or op_lt_str
theorem op_powG : OpR X (binaryOp .Pow) (rI CPowG fun i j => .int (i ^ j.toNat)) := opI fun _ _ _ _ _ _ _ hc q => PyProof.Rows.pow_int hc.1 hc.2 q
def rFdG : R2 := rI CDivW fun i j => .int (i / j)
theorem op_fdG : OpR X (binaryOp .FloorDiv) rFdG := op_fdivW
def rModG : R2 := rI (fun _ j => 0 < j) fun i j => .int (i % j)
theorem op_modG : OpR X (binaryOp .Mod) rModG := op_mod
def rSubG : R2 := rI0 fun i j => .int (i - j)
theorem op_subG : OpR X (binaryOp .Sub) rSubG := op_sub
def rMulG : R2 := rI CMul fun i j => .int (i * j)
theorem op_mulG : OpR X (binaryOp .Mult) rMulG := op_mul
def rPowG : R2 := rI CPowG fun i j => .int (i ^ j.toNat)
theorem op_powG' : OpR X (binaryOp .Pow) rPowG := op_powG
def rLeG : R2 := rI0 fun i j => .bl (decide (i ≤ j))
theorem op_leG : OpR X (compareOp .LtE) rLeG := op_le
def rGtG : R2 := rI0 fun i j => .bl (decide (j < i))
theorem op_gtG : OpR X (compareOp .Gt) rGtG := op_gt
def rGeG : R2 := fun x y H Q => (rI0 fun i j => .bl (decide (j ≤ i))) x y H Q ∨ ∃ i j, x = .str i ∧ y = .str j ∧ Q (.bl (!decide (i.cps.toList < j.cps.toList))) H
theorem op_geG : OpR X (compareOp .GtE) rGeG := op_ge.or op_ge_str
def rIsNG : R2 := fun x y H Q => y = .non ∧ Q (.bl (decide (x = .non))) H
theorem op_isNG : OpR X (compareOp .Is) rIsNG := op_isN
def rNotNG : R2 := fun x y H Q => y = .non ∧ Q (.bl (!decide (x = .non))) H
theorem op_notNG : OpR X (compareOp .IsNot) rNotNG := op_notN
def rNegG : V → Hp → VK → Prop := rU fun i => .int (-i)
theorem un_negG : UnR X (unaryOp .USub) rNegG := un_neg
/-! rules that hang on the written part, the part told by a letter (so that they stand in a comprehension's block, too) -/
def rLenG (K : PySem.W.Frag) : List V → Hp → VK → Prop := fun xs H Q => ∃ x n, xs = [x] ∧ LenV K x H n ∧ Q (.int n) H
theorem call_lenG {K : PySem.W.Frag} (h : X.K = K) : CallR X (.builtin "len") (rLenG K) := by subst h; exact call_len
theorem ix_seqG {K : PySem.W.Frag} (h : X.K = K) : IxR X (rIx K) := by subst h; exact ix_seq
theorem call_isiG {K : PySem.W.Frag} (h : X.K = K) : CallR X (.builtin "isinstance") (rIsi K) := by subst h; exact call_isi
theorem sl_listG {K : PySem.W.Frag} (h : X.K = K) : SlR X (rSlL K) := by subst h; exact sl_list
def rSlG (K : PySem.W.Frag) : V → Option Int → Option Int → Hp → VK → Prop := fun x lo hi H Q => rSlL K x lo hi H Q ∨ (L2.rSlS x lo hi H Q ∨ rSlT K x lo hi H Q)
theorem sl_G {K : PySem.W.Frag} (h : X.K = K) : SlR X (rSlG K) := by subst h; exact sl_list.or (sl_str.or sl_tup)
def rInSign : R2 := fun x y H Q => ∃ (c : Nat) (z : Str), x = .str ⟨#[c]⟩ ∧ y = .str z ∧ Q (.bl (decide (c ∈ z.cps.toList))) H
def rNotInSign : R2 := fun x y H Q => ∃ (c : Nat) (z : Str), x = .str ⟨#[c]⟩ ∧ y = .str z ∧ Q (.bl (!decide (c ∈ z.cps.toList))) H
def rInG (K : PySem.W.Frag) : R2 := fun x y H Q => rInSign x y H Q ∨ rIn K false x y H Q
def rNotInG (K : PySem.W.Frag) : R2 := fun x y H Q => rNotInSign x y H Q ∨ rIn K true x y H Q
theorem op_inG {K : PySem.W.Frag} (h : X.K = K) : OpR X (compareOp .In) (rInG K) := by subst h; exact (show OpR X (compareOp .In) rInSign from op_in_sign).or op_in_seq
theorem op_notInG {K : PySem.W.Frag} (h : X.K = K) : OpR X (compareOp .NotIn) (rNotInG K) := by subst h; exact (show OpR X (compareOp .NotIn) rNotInSign from op_notIn_sign).or op_notIn_seq
def rMax2 : List V → Hp → VK → Prop := fun xs H Q => ∃ i j, xs = [.int i, .int j] ∧ Q (.int (if j > i then j else i)) H
theorem call_max2G (h : X.calm = true) : CallR X (.builtin "max") rMax2 := call_max2 h
def rGeS : R2 := fun x y H Q => ∃ i j, x = .str i ∧ y = .str j ∧ Q (.bl (!decide (i.cps.toList < j.cps.toList))) H
def rIsBl : R2 := fun x y H Q => ∃ a b, x = .bl a ∧ y = .bl b ∧ Q (.bl (decide (a = b))) H
def rNotBl : R2 := fun x y H Q => ∃ a b, x = .bl a ∧ y = .bl b ∧ Q (.bl (!decide (a = b))) H
theorem op_isBl : OpR X (compareOp .Is) rIsBl := op_is_bl
theorem op_notBl : OpR X (compareOp .IsNot) rNotBl := op_isnot_bl
def rListG (K : PySem.W.Frag) : List V → Hp → VK → Prop := fun xs H Q => ∃ p ys, xs = [.ref p] ∧ (SqL K H p ys ∨ SqT K H p ys) ∧ ∀ l, H l = none → Q (.ref l) (upd H l (.lst ys))
theorem call_listG {K : PySem.W.Frag} (h : X.K = K) : CallR X (.type "list") (rListG K) := by subst h; exact call_list_of
def rIntG : List V → Hp → VK → Prop := fun xs H Q => (∃ i, xs = [.int i] ∧ Q (.int i) H) ∨ ∃ k, xs = [.bl k] ∧ Q (.int (if k then 1 else 0)) H
theorem call_intG : CallR X (.type "int") rIntG := call_int1
def rBoolG : List V → Hp → VK → Prop := fun xs H Q => (∃ i, xs = [.int i] ∧ Q (.bl (i != 0)) H) ∨ ∃ k, xs = [.bl k] ∧ Q (.bl k) H
theorem call_boolG : CallR X (.type "bool") rBoolG := call_bool1
def rJoinG (K : PySem.W.Frag) : V → List V → Hp → VK → Prop := fun x xs H Q => ∃ a p, ∃ ys : List Str, x = .str a ∧ xs = [.ref p] ∧ (SqL K H p (ys.map V.str) ∨ SqT K H p (ys.map V.str)) ∧
    (ys.map (·.length)).sum + ys.length * a.length ≤ 16777216 ∧ Q (.str (PySem.Txt.join a ys)) H
theorem mt_joinG {K : PySem.W.Frag} (h : X.K = K) : MtR X "str.join" (rJoinG K) := by subst h; exact mt_join
/-- is True, is False: of bools -/
def rIsB : R2 := fun x y H Q => ∃ i j, x = .bl i ∧ y = .bl j ∧ Q (.bl (decide (i = j))) H
end

/-- what is wanted behind a statement, in a word that is no constructor -/
def mkE (nx : L2.St → Hp → Prop) (rt : VK) (bk ct : L2.St → Hp → Prop) : Ends := ⟨nx, rt, bk, ct⟩
theorem Fun.okM {P : Program} {w : World} {K : PySem.W.Frag} {mg : Str → Option Value} {base : Heap} {x qual : Str} {st : Stmt} {f : Addr} {fd : FuncData} {N ps : List Str} {k : Nat} {sp : Sp} (F : Fun K x qual st f fd) (S : FnScope N ps (defScope st)) (len : ∀ vs H Q E, sp vs H Q E → vs.length = ps.length)
    (hbody : ∀ (cdv : Value) (A : Around) (outer : List Env) (s : Shared) (H : Hp) (vs : List V) (Q : VK) (E : XK), Room k (A.deeper (PyProof.Rows.envOfC qual (defScope st) s.heap.objs.size f cdv)) → sp vs H Q E →
      ∃ t, PSs (cxOf CX0 P w K mg base N qual (defScope st) f cdv A outer s H E).nox (defBody st) t ∧ t (mkE (fun _ H' => Q .non H') Q (fun _ _ => False) (fun _ _ => False)) (L2.start N vs) H) : FnOk P w K mg base CX0 (k + 1) f fd ps sp := F.ok S len hbody
/-! ### readings, step by step -/
section
variable {K : PySem.W.Frag} {σ : L2.St} {H : Hp} {Q : VK} {QT : Bool → Hp → Prop} {QA : List V → Hp → Prop} {D : Ends} {ta tb te : TE} {tr t : TA} {u c : TT} {ts tz : TS} {x y v : V} {a b : Bool} {i j : Int}
theorem g_var {n : Nat} (h : σ[n]? = some (some v)) (q : Q v H) : tVar n σ H Q := ⟨v, h, q⟩
theorem g_var0 {n : Nat} (q : ∃ v, σ[n]? = some (some v) ∧ Q v H) : tVar n σ H Q := q
theorem g_c (q : Q v H) : tC v σ H Q := q
theorem g_op {r : R2} (q : ta σ H fun x H1 => tb σ H1 fun y H2 => r x y H2 Q) : tOp r ta tb σ H Q := q
theorem g_un {r : V → Hp → VK → Prop} (q : ta σ H fun x H1 => r x H1 Q) : tUn r ta σ H Q := q
theorem g_nil (q : QA [] H) : tNil σ H QA := q
theorem g_cons (q : ta σ H fun x H1 => tr σ H1 fun xs H2 => QA (x :: xs) H2) : tCons ta tr σ H QA := q
theorem g_def {sp : Sp} (q : t σ H fun vs H1 => sp vs H1 Q E0) : tDef sp t σ H Q := q
theorem g_cb {r : List V → Hp → VK → Prop} (q : t σ H fun vs H1 => r vs H1 Q) : tCB r t σ H Q := q
theorem g_tup (q : t σ H fun xs H1 => xs.length ≤ sizeLine ∧ ∀ p, H1 p = none → Q (.ref p) (upd H1 p (.tup xs))) : tTup t σ H Q := q
theorem g_lst (q : t σ H fun xs H1 => xs.length ≤ sizeLine ∧ ∀ p, H1 p = none → Q (.ref p) (upd H1 p (.lst xs))) : tLst t σ H Q := q
theorem g_addI (q : Q (.int (i + j)) H) : rAddG (.int i) (.int j) H Q := .inl ⟨i, j, rfl, rfl, q⟩
theorem g_addS {z w : Str} (h : z.length + w.length ≤ sizeLine) (q : Q (.str (z ++ w)) H) : rAddG (.str z) (.str w) H Q := .inr (.inl ⟨z, w, rfl, rfl, h, q⟩)
theorem g_subI (q : Q (.int (i - j)) H) : rSubG (.int i) (.int j) H Q := ⟨i, j, rfl, rfl, q⟩
theorem g_mulI (h : CMul i j) (q : Q (.int (i * j)) H) : rMulG (.int i) (.int j) H Q := ⟨i, j, rfl, rfl, h, q⟩
theorem g_powI (h : CPowG i j) (q : Q (.int (i ^ j.toNat)) H) : rPowG (.int i) (.int j) H Q := ⟨i, j, rfl, rfl, h, q⟩
theorem g_modI (h : 0 < j) (q : Q (.int (i % j)) H) : rModG (.int i) (.int j) H Q := ⟨i, j, rfl, rfl, h, q⟩
theorem g_fdI (h : CDivW i j) (q : Q (.int (i / j)) H) : rFdG (.int i) (.int j) H Q := ⟨i, j, rfl, rfl, h, q⟩
theorem g_negI (q : Q (.int (-i)) H) : rNegG (.int i) H Q := ⟨i, rfl, q⟩
theorem g_ltI (q : Q (.bl (decide (i < j))) H) : rLtG (.int i) (.int j) H Q := .inl ⟨i, j, rfl, rfl, q⟩
theorem g_ltS {z w : Str} (q : Q (.bl (decide (z.cps.toList < w.cps.toList))) H) : rLtG (.str z) (.str w) H Q := .inr ⟨z, w, rfl, rfl, q⟩
theorem g_leI (q : Q (.bl (decide (i ≤ j))) H) : rLeG (.int i) (.int j) H Q := ⟨i, j, rfl, rfl, q⟩
theorem g_gtI (q : Q (.bl (decide (j < i))) H) : rGtG (.int i) (.int j) H Q := ⟨i, j, rfl, rfl, q⟩
theorem g_geI (q : Q (.bl (decide (j ≤ i))) H) : rGeG (.int i) (.int j) H Q := .inl ⟨i, j, rfl, rfl, q⟩
theorem g_geS {z w : Str} (q : Q (.bl (!decide (z.cps.toList < w.cps.toList))) H) : rGeG (.str z) (.str w) H Q := .inr ⟨z, w, rfl, rfl, q⟩
theorem g_slL {p : Addr} {xs : List V} {lo hi : Option Int} (h : SqL K H p xs) (q : ∀ l, H l = none → Q (.ref l) (upd H l (.lst (cutV xs lo hi)))) : rSlG K (.ref p) lo hi H Q := .inl ⟨p, xs, rfl, h, q⟩
theorem g_slS {z : Str} {lo hi : Option Int} (h : z.length ≤ sizeLine) (q : Q (.str (cutS z lo hi)) H) : rSlG K (.str z) lo hi H Q := .inr (.inl ⟨z, rfl, h, q⟩)
theorem g_inS {n : Nat} {z : Str} (q : Q (.bl (decide (n ∈ z.cps.toList))) H) : rInG K (.str ⟨#[n]⟩) (.str z) H Q := .inl ⟨n, z, rfl, rfl, q⟩
theorem g_notInS {n : Nat} {z : Str} (q : Q (.bl (!decide (n ∈ z.cps.toList))) H) : rNotInG K (.str ⟨#[n]⟩) (.str z) H Q := .inl ⟨n, z, rfl, rfl, q⟩
theorem g_max2 (q : Q (.int (if j > i then j else i)) H) : rMax2 [.int i, .int j] H Q := ⟨i, j, rfl, q⟩
theorem g_isBl_tt (q : Q (.bl true) H) : rIsBl (.bl true) (.bl true) H Q := ⟨true, true, rfl, rfl, q⟩
theorem g_notBl_tt (q : Q (.bl false) H) : rNotBl (.bl true) (.bl true) H Q := ⟨true, true, rfl, rfl, q⟩
theorem g_isBl_tf (q : Q (.bl false) H) : rIsBl (.bl true) (.bl false) H Q := ⟨true, false, rfl, rfl, q⟩
theorem g_notBl_tf (q : Q (.bl true) H) : rNotBl (.bl true) (.bl false) H Q := ⟨true, false, rfl, rfl, q⟩
theorem g_isBl_ft (q : Q (.bl false) H) : rIsBl (.bl false) (.bl true) H Q := ⟨false, true, rfl, rfl, q⟩
theorem g_notBl_ft (q : Q (.bl true) H) : rNotBl (.bl false) (.bl true) H Q := ⟨false, true, rfl, rfl, q⟩
theorem g_isBl_ff (q : Q (.bl true) H) : rIsBl (.bl false) (.bl false) H Q := ⟨false, false, rfl, rfl, q⟩
theorem g_notBl_ff (q : Q (.bl false) H) : rNotBl (.bl false) (.bl false) H Q := ⟨false, false, rfl, rfl, q⟩
theorem g_isBl (q : Q (.bl (decide (a = b))) H) : rIsBl (.bl a) (.bl b) H Q := ⟨a, b, rfl, rfl, q⟩
theorem g_notBl (q : Q (.bl (!decide (a = b))) H) : rNotBl (.bl a) (.bl b) H Q := ⟨a, b, rfl, rfl, q⟩
theorem g_istr {R : It → Hp → Prop} (q : ta σ H fun v H1 => ∃ x, v = .str x ∧ R (Its x) H1) : iStr ta σ H R := q
theorem g_str1 {p : Str → Prop} {z : Str} (q : p z) : ∃ x, V.str z = .str x ∧ p x := ⟨z, rfl, q⟩
theorem g_strE {z : Str} {R : Prop} (q : R) : (∃ a, V.str z = .str a) ∧ R := ⟨⟨z, rfl⟩, q⟩
theorem g_isN (q : Q (.bl (decide (x = .non))) H) : rIsNG x .non H Q := ⟨rfl, q⟩
theorem g_notN (q : Q (.bl (!decide (x = .non))) H) : rNotNG x .non H Q := ⟨rfl, q⟩
theorem g_isN_non (q : Q (.bl true) H) : rIsNG .non .non H Q := ⟨rfl, by rw [decide_eq_true rfl]; exact q⟩
theorem g_isN_int (q : Q (.bl false) H) : rIsNG (.int i) .non H Q := ⟨rfl, by rw [decide_eq_false (fun z => nomatch z)]; exact q⟩
theorem g_isN_str {z : Str} (q : Q (.bl false) H) : rIsNG (.str z) .non H Q := ⟨rfl, by rw [decide_eq_false (fun z => nomatch z)]; exact q⟩
theorem g_isN_bl (q : Q (.bl false) H) : rIsNG (.bl a) .non H Q := ⟨rfl, by rw [decide_eq_false (fun z => nomatch z)]; exact q⟩
theorem g_isN_ref {p : Addr} (q : Q (.bl false) H) : rIsNG (.ref p) .non H Q := ⟨rfl, by rw [decide_eq_false (fun z => nomatch z)]; exact q⟩
theorem g_notN_non (q : Q (.bl false) H) : rNotNG .non .non H Q := ⟨rfl, by rw [decide_eq_true rfl]; exact q⟩
theorem g_notN_int (q : Q (.bl true) H) : rNotNG (.int i) .non H Q := ⟨rfl, by rw [decide_eq_false (fun z => nomatch z)]; exact q⟩
theorem g_notN_str {z : Str} (q : Q (.bl true) H) : rNotNG (.str z) .non H Q := ⟨rfl, by rw [decide_eq_false (fun z => nomatch z)]; exact q⟩
theorem g_notN_bl (q : Q (.bl true) H) : rNotNG (.bl a) .non H Q := ⟨rfl, by rw [decide_eq_false (fun z => nomatch z)]; exact q⟩
theorem g_notN_ref {p : Addr} (q : Q (.bl true) H) : rNotNG (.ref p) .non H Q := ⟨rfl, by rw [decide_eq_false (fun z => nomatch z)]; exact q⟩
theorem g_Tn {A B : Prop} (h : B) : if (!true) = true then A else B := by rw [if_neg (by decide)]; exact h
theorem g_Fn {A B : Prop} (h : A) : if (!false) = true then A else B := by rw [if_pos (by decide)]; exact h
theorem dI (i j : Int) : decide (V.int i = V.int j) = decide (i = j) := by
  by_cases h : i = j
  · subst h; simp
  · rw [decide_eq_false h]; exact decide_eq_false fun z => h (V.int.inj z)
theorem dS (i j : Str) : decide (V.str i = V.str j) = decide (i = j) := by
  by_cases h : i = j
  · subst h; simp
  · rw [decide_eq_false h]; exact decide_eq_false fun z => h (V.str.inj z)
theorem dB (i j : Bool) : decide (V.bl i = V.bl j) = decide (i = j) := by
  by_cases h : i = j
  · subst h; simp
  · rw [decide_eq_false h]; exact decide_eq_false fun z => h (V.bl.inj z)
theorem g_eqI (q : Q (.bl (decide (i = j))) H) : rEq (.int i) (.int j) H Q := ⟨rfl, by rw [dI]; exact q⟩
theorem g_eqS {z w : Str} (q : Q (.bl (decide (z = w))) H) : rEq (.str z) (.str w) H Q := ⟨rfl, by rw [dS]; exact q⟩
theorem g_eqB (q : Q (.bl (decide (a = b))) H) : rEq (.bl a) (.bl b) H Q := ⟨rfl, by rw [dB]; exact q⟩
theorem g_neI (q : Q (.bl (!decide (i = j))) H) : rNe (.int i) (.int j) H Q := ⟨rfl, by rw [dI]; exact q⟩
theorem g_neS {z w : Str} (q : Q (.bl (!decide (z = w))) H) : rNe (.str z) (.str w) H Q := ⟨rfl, by rw [dS]; exact q⟩
theorem g_int1 (q : Q (.int i) H) : rIntG [V.int i] H Q := .inl ⟨i, rfl, q⟩
theorem g_int1B (q : Q (.int (if a then 1 else 0)) H) : rIntG [V.bl a] H Q := .inr ⟨a, rfl, q⟩
theorem g_bool1B (q : Q (.bl a) H) : rBoolG [V.bl a] H Q := .inr ⟨a, rfl, q⟩
theorem g_bool1I (q : Q (.bl (i != 0)) H) : rBoolG [V.int i] H Q := .inl ⟨i, rfl, q⟩
theorem g_ixL {p : Addr} {xs : List V} (h : SqL K H p xs) (e : atI xs i = some v) (q : Q v H) : rIx K (.ref p) (.int i) H Q := .inl ⟨p, xs, i, v, rfl, rfl, h, e, q⟩
theorem g_ixL0 {p : Addr} (q : ∃ xs v, H p = some (.lst xs) ∧ atI xs i = some v ∧ Q v H) : rIx K (.ref p) (.int i) H Q := by
  obtain ⟨xs, v, h, e, q⟩ := q
  exact g_ixL (SqL.of h) e q
theorem g_lenL0 {p : Addr} (q : ∃ xs, H p = some (.lst xs) ∧ Q (.int (xs.length : Int)) H) : rLenG K [.ref p] H Q := by
  obtain ⟨xs, h, q⟩ := q
  exact ⟨_, _, rfl, .inl ⟨xs, SqL.of h, rfl⟩, q⟩
theorem g_setL0 {p : Addr} {QH : Hp → Prop} (q : ∃ xs n, H p = some (.lst xs) ∧ ixN xs.length i = some n ∧ QH (upd H p (.lst (xs.set n v)))) : rSetL (.ref p) (.int i) v H QH := by
  obtain ⟨xs, n, h, e, q⟩ := q
  exact ⟨p, xs, i, n, rfl, rfl, h, e, q⟩
theorem g_ixT {p : Addr} {xs : List V} (h : SqT K H p xs) (e : atI xs i = some v) (q : Q v H) : rIx K (.ref p) (.int i) H Q := .inr (.inl ⟨p, xs, i, v, rfl, rfl, h, e, q⟩)
theorem g_ixS {z : Str} {n : Nat} (h : z.length ≤ sizeLine) (e : atI z.cps.toList i = some n) (q : Q (.str ⟨#[n]⟩) H) : rIx K (.str z) (.int i) H Q := .inr (.inr ⟨z, i, n, rfl, rfl, h, e, q⟩)
theorem g_lenL {p : Addr} {xs : List V} (h : SqL K H p xs) (q : Q (.int (xs.length : Int)) H) : rLenG K [.ref p] H Q := ⟨_, _, rfl, .inl ⟨xs, h, rfl⟩, q⟩
theorem g_lenT {p : Addr} {xs : List V} (h : SqT K H p xs) (q : Q (.int (xs.length : Int)) H) : rLenG K [.ref p] H Q := ⟨_, _, rfl, .inr ⟨xs, h, rfl⟩, q⟩
theorem g_lenS {z : Str} (h : z.length ≤ sizeLine) (q : Q (.int (z.length : Int)) H) : rLenG K [.str z] H Q := ⟨_, _, rfl, ⟨h, rfl⟩, q⟩
theorem g_list {p : Addr} {xs : List V} (h : SqL K H p xs) (q : ∀ l, H l = none → Q (.ref l) (upd H l (.lst xs))) : rListG K [.ref p] H Q := ⟨p, xs, rfl, .inl h, q⟩
theorem g_join {z : Str} {p : Addr} {ys : List Str} (h : SqL K H p (ys.map V.str)) (hz : (ys.map (·.length)).sum + ys.length * z.length ≤ 16777216) (q : Q (.str (PySem.Txt.join z ys)) H) : rJoinG K (.str z) [.ref p] H Q :=
  ⟨z, p, ys, rfl, rfl, .inl h, hz, q⟩
/-- the kind of a value, by its form -/
def kindS : V → String
  | .non => "NoneType" | .bl _ => "bool" | .int _ => "int" | .str _ => "str" | .flt _ => "float" | _ => ""
theorem g_isi {c : String} (ty : TyX K H x (.type n)) (h : kitB n c = some b) (q : Q (.bl b) H) : rIsi K [x, .ty c] H Q := ⟨x, .ty c, .type n, .type c, b, rfl, .ty c, ty, kit_ty h, q⟩
theorem g_isiI {c : String} (h : kitB "int" c = some b) (q : Q (.bl b) H) : rIsi K [.int i, .ty c] H Q := g_isi (.base (.int i)) h q
theorem g_isiS {c : String} {z : Str} (h : kitB "str" c = some b) (q : Q (.bl b) H) : rIsi K [.str z, .ty c] H Q := g_isi (.base (.str z)) h q
theorem g_isiB {c : String} (h : kitB "bool" c = some b) (q : Q (.bl b) H) : rIsi K [.bl a, .ty c] H Q := g_isi (.base (.bl a)) h q
theorem g_isiN {c : String} (h : kitB "NoneType" c = some b) (q : Q (.bl b) H) : rIsi K [.non, .ty c] H Q := g_isi (.base .non) h q
theorem kb_ii : kitB "int" "int" = some true := by decide +kernel
theorem kb_is : kitB "int" "str" = some false := by decide +kernel
theorem kb_ib : kitB "int" "bool" = some false := by decide +kernel
theorem kb_si : kitB "str" "int" = some false := by decide +kernel
theorem kb_ss : kitB "str" "str" = some true := by decide +kernel
theorem kb_sb : kitB "str" "bool" = some false := by decide +kernel
theorem kb_bi : kitB "bool" "int" = some true := by decide +kernel
theorem kb_bs : kitB "bool" "str" = some false := by decide +kernel
theorem kb_bb : kitB "bool" "bool" = some true := by decide +kernel
theorem kb_ni : kitB "NoneType" "int" = some false := by decide +kernel
theorem kb_ns : kitB "NoneType" "str" = some false := by decide +kernel
theorem kb_nb : kitB "NoneType" "bool" = some false := by decide +kernel
theorem g_sl {r : V → Option Int → Option Int → Hp → VK → Prop} {tl th : TO} (q : te σ H fun x H1 => tl σ H1 fun l H2 => th σ H2 fun u H3 => r x l u H3 Q) : tSl r te tl th σ H Q := q
theorem g_noPart {QO : Option Int → Hp → Prop} (q : QO none H) : tNoPart σ H QO := q
theorem g_part {QO : Option Int → Hp → Prop} (q : te σ H fun x H1 => ∃ i, x = .int i ∧ QO (some i) H1) : tPart te σ H QO := q
theorem g_int {p : Int → Prop} (q : p i) : ∃ k, V.int i = .int k ∧ p k := ⟨i, rfl, q⟩
theorem g_m1 {r : V → List V → Hp → VK → Prop} (q : ta σ H fun x H1 => (∃ a, x = .str a) ∧ tb σ H1 fun y H2 => r x [y] H2 Q) : tM1 r ta tb σ H Q := q
theorem g_m0 {r : V → List V → Hp → VK → Prop} (q : ta σ H fun x H1 => (∃ a, x = .str a) ∧ r x [] H1 Q) : tM0 r ta σ H Q := q
theorem g_lc {wi : TI} {g : TG} {tt : TT} {vs : List Nat} (q : wi σ H fun J H1 => ∀ D, H1 D = none → ∃ W : Nat → Nat → Hp → Prop, (∃ m, W 0 m (upd H1 D (.lst []))) ∧ ∀ i m H, W i m H →
  (J.stop i H ∧ Q (.ref D) H) ∨ (J.go i H ∧ ∃ Nx : Hp → Prop, (∀ H', Nx H' → ∃ m', m' < m ∧ W (i + 1) m' H') ∧ ∀ x H', J.yld i H x H' → g x (wipe σ vs) H' fun σ2 H2 => wipe σ2 vs = wipe σ vs ∧ tt σ2 H2 fun b H3 =>
    if b = true then te σ2 H3 fun y H4 => ∃ acc, H4 D = some (.lst acc) ∧ acc.length < sizeLine ∧ Nx (upd H4 D (.lst (acc ++ [y]))) else Nx H3)) : tLc wi g tt te vs σ H Q := q
theorem g_rng1 {R : It → Hp → Prop} (q : t σ H fun vs H1 => ∃ j : Int, vs = [.int j] ∧ -(2 ^ 62) ≤ j ∧ j < 2 ^ 62 ∧ R (Itr 0 j.toNat) H1) : iRng1 t σ H R := q
theorem g_ilist {R : It → Hp → Prop} (q : ta σ H fun x H1 => ∃ a, x = .ref a ∧ (∃ xs, SqL K H1 a xs) ∧ R (Itl K a) H1) : iList K ta σ H R := q
theorem g_for {wi : TI} {g : TG} (q : wi σ H fun J H1 => ∃ W : Nat → Nat → L2.St → Hp → Prop, (∃ m, W 0 m σ H1) ∧ ∀ i m σ H, W i m σ H →
  (J.stop i H ∧ D.nx σ H) ∨ (J.go i H ∧ ∃ N : L2.St → Hp → Prop, (∀ σ' H', N σ' H' → ∃ m', m' < m ∧ W (i + 1) m' σ' H') ∧ ∀ x H', J.yld i H x H' → g x σ H' fun σ2 H2 => ts { D with nx := N, ct := N, bk := D.nx } σ2 H2)) : tFor wi g ts D σ H := q
theorem g_cut {M : L2.St → Hp → Prop} (h : ts (mkE M D.rt D.bk D.ct) σ H) (k : ∀ σ' H', M σ' H' → tz D σ' H') : Evl.tCut ts tz D σ H := ⟨M, h, k⟩
theorem g_yes (q : QT true H) : tYes σ H QT := q
/-- a comprehension over a text whose turns leave the heap -/
theorem lc_text {z : Str} {g : TG} {tt : TT} {vs : List Nat} {H1 : Hp} {Dl : Addr} {Qd : Hp → Prop} (f : Nat → Bool) (v : Nat → V) (hz : z.length ≤ 1000000)
    (hs : ∀ (n : Nat) (Hh : Hp) (R : V → Hp → Prop) (S : Hp → Prop), n ∈ z.cps.toList → (∀ p o, p ≠ Dl → H1 p = some o → Hh p = some o) → (f n = true → R (v n) Hh) → (f n = false → S Hh) →
      g (.str ⟨#[n]⟩) (wipe σ vs) Hh fun σ2 H2 => wipe σ2 vs = wipe σ vs ∧ tt σ2 H2 fun b H3 => if b = true then te σ2 H3 R else S H3)
    (hd : ∀ H, (∀ p o, p ≠ Dl → H1 p = some o → H p = some o) → H Dl = some (.lst ((z.cps.toList.filter f).map v)) → Qd H) :
    ∃ W : Nat → Nat → Hp → Prop, (∃ m, W 0 m (upd H1 Dl (.lst []))) ∧ ∀ i m H, W i m H →
      ((Its z).stop i H ∧ Qd H) ∨ ((Its z).go i H ∧ ∃ Nx : Hp → Prop, (∀ H', Nx H' → ∃ m', m' < m ∧ W (i + 1) m' H') ∧ ∀ x H', (Its z).yld i H x H' → g x (wipe σ vs) H' fun σ2 H2 => wipe σ2 vs = wipe σ vs ∧ tt σ2 H2 fun b H3 =>
        if b = true then te σ2 H3 fun y H4 => ∃ acc, H4 Dl = some (.lst acc) ∧ acc.length < sizeLine ∧ Nx (upd H4 Dl (.lst (acc ++ [y]))) else Nx H3) := by
  have hsz : z.cps.size = z.cps.toList.length := Array.length_toList.symm
  refine ⟨fun i m H => m = z.cps.size - i ∧ i ≤ z.cps.size ∧ H Dl = some (.lst (((z.cps.toList.take i).filter f).map v)) ∧ ∀ p o, p ≠ Dl → H1 p = some o → H p = some o, ⟨z.cps.size, by simp, Nat.zero_le _, upd_same, fun p o n h => by rw [upd_ne n]; exact h⟩, ?_⟩
  rintro i m H ⟨rfl, hi, hD, hK⟩
  by_cases hlt : i < z.cps.size
  · refine .inr ⟨hlt, fun H' => H' Dl = some (.lst (((z.cps.toList.take (i + 1)).filter f).map v)) ∧ ∀ p o, p ≠ Dl → H1 p = some o → H' p = some o, fun H' w => ⟨z.cps.size - (i + 1), by omega, rfl, hlt, w⟩, ?_⟩
    rintro x H' ⟨rfl, n, hn, rfl⟩
    have hn' : z.cps.toList[i]? = some n := by rw [Array.getElem?_toList]; exact hn
    have e1 : z.cps.toList.take (i + 1) = z.cps.toList.take i ++ [n] := by rw [List.take_succ, hn']; rfl
    refine hs n H' _ _ (List.mem_of_getElem? hn') hK (fun hf => ?_) (fun hf => ?_)
    · refine ⟨_, hD, ?_, ?_, fun p o n h => by rw [upd_ne n]; exact hK p o n h⟩
      · rw [List.length_map, sizeLine_eq]
        have h1 := List.length_filter_le f (z.cps.toList.take i)
        have h2 : (z.cps.toList.take i).length ≤ z.cps.toList.length := by rw [List.length_take]; omega
        have h3 : z.cps.toList.length ≤ 1000000 := by rw [← hsz]; exact hz
        omega
      · rw [upd_same, e1, List.filter_append, List.filter_cons, if_pos hf, List.map_append]; rfl
    · refine ⟨?_, hK⟩
      rw [hD, e1, List.filter_append, List.filter_cons, if_neg (by rw [hf]; exact Bool.false_ne_true)]
      simp
  · have e : i = z.cps.size := by omega
    subst e
    refine .inl ⟨Nat.le_refl _, hd H hK ?_⟩
    rw [hD, hsz, List.take_length]
theorem join_cps (ys : List Str) : (PySem.Txt.join (Str.ofString "") ys).cps.toList = ys.flatMap fun y => y.cps.toList := by
  show (Builtin.Str.glued (Str.ofString "") ys).cps.toList = _
  rw [StrLaws.glued_eq_join]
  induction ys with
  | nil => rfl
  | cons y r ih =>
    cases r with
    | nil => show y.cps.toList = y.cps.toList ++ []; rw [List.append_nil]
    | cons z r =>
      show ((y ++ Str.ofString "") ++ Str.join (Str.ofString "") (z :: r)).cps.toList = _
      rw [PySem.W.KT.app_list, PySem.W.KT.app_list, ih, show (Str.ofString "").cps.toList = [] by decide +kernel, List.append_nil]
      rfl
theorem g_name {n : Nat} {QS : L2.St → Hp → Prop} (q : QS (σ.set n (some v)) H) : gName n v σ H QS := q
theorem g_inr {R : It → Hp → Prop} {p : Addr} {J : Addr → It} (q : (∃ xs, SqL K H p xs) ∧ R (J p) H) : ∃ a, V.ref p = .ref a ∧ (∃ xs, SqL K H a xs) ∧ R (J a) H := ⟨p, rfl, q⟩
theorem lex_trans {a b c : List Nat} (h : a < b) (k : b < c) : a < c := List.lt_trans h k
theorem lex_asymm {a b : List Nat} (h : a < b) : ¬ b < a := List.lt_asymm h
theorem lex_irrefl (a : List Nat) : ¬ a < a := List.lt_irrefl a
theorem lex_total {a b : List Nat} (h : ¬ a < b) (k : ¬ b < a) : a = b := List.le_antisymm (List.not_lt.mp k) (List.not_lt.mp h)
theorem str_ext {a b : Str} (h : a.cps.toList = b.cps.toList) : a = b := congrArg Str.mk (Array.toList_inj.mp h)
/-- a list, a tuple, a dict -/
def isRef (H : Hp) (p : Addr) : Prop := (∃ xs, H p = some (.lst xs)) ∨ (∃ xs, H p = some (.tup xs)) ∨ ∃ kvs, H p = some (.dK kvs)
theorem isRef.keep {H H' : Hp} {p : Addr} (h : isRef H p) (k : ∀ p o, H p = some o → H' p = some o) : isRef H' p := by
  rcases h with ⟨xs, h⟩ | ⟨xs, h⟩ | ⟨xs, h⟩
  · exact .inl ⟨xs, k _ _ h⟩
  · exact .inr (.inl ⟨xs, k _ _ h⟩)
  · exact .inr (.inr ⟨xs, k _ _ h⟩)
theorem g_isiR {p : Addr} {c : String} (h : isRef H p) (hc : c = "int" ∨ c = "str" ∨ c = "bool") (q : Q (.bl false) H) : rIsi K [.ref p, .ty c] H Q := by
  rcases h with ⟨xs, h⟩ | ⟨xs, h⟩ | ⟨xs, h⟩
  · exact g_isi (.base (.lst h)) (by rcases hc with rfl | rfl | rfl <;> decide +kernel) q
  · exact g_isi (.base (.tup h)) (by rcases hc with rfl | rfl | rfl <;> decide +kernel) q
  · exact g_isi (.base (.dK h)) (by rcases hc with rfl | rfl | rfl <;> decide +kernel) q
/-- a thing of any kind that a law draws -/
def thing (H : Hp) (v : V) : Prop := v = .non ∨ (∃ b, v = .bl b) ∨ (∃ i, v = .int i) ∨ (∃ z : Str, v = .str z ∧ z.length ≤ 100) ∨ ∃ p, v = .ref p ∧ isRef H p
theorem thing.keep {H H' : Hp} {v : V} (h : thing H v) (k : ∀ p o, H p = some o → H' p = some o) : thing H' v := by
  rcases h with h | h | h | h | ⟨p, e, h⟩
  · exact .inl h
  · exact .inr (.inl h)
  · exact .inr (.inr (.inl h))
  · exact .inr (.inr (.inr (.inl h)))
  · exact .inr (.inr (.inr (.inr ⟨p, e, h.keep k⟩)))
def isIntB : V → Bool
  | .int _ => true
  | _ => false
theorem inV_strs {z : Str} {ws : List Str} : inV (.str z) (ws.map V.str) = decide (z ∈ ws) := by
  unfold inV
  rw [List.any_map]
  rw [Bool.eq_iff_iff, decide_eq_true_eq, List.any_eq_true]
  constructor
  · rintro ⟨y, hy, h⟩
    have : y = z := by simpa [eqV] using h
    rw [← this]; exact hy
  · intro h
    exact ⟨z, h, by simp [eqV]⟩
theorem flat_strs (ws : List Str) : (ws.map V.str).all flatV = true := by
  rw [List.all_map, List.all_eq_true]
  intro x _
  rfl
theorem atI_strs {ws : List Str} {i : Int} (h0 : 0 ≤ i) (h1 : i < ws.length) : ∃ z, z ∈ ws ∧ atI (ws.map V.str) i = some (.str z) := by
  obtain ⟨k, rfl⟩ := Int.eq_ofNat_of_zero_le h0
  have hk : k < ws.length := by omega
  refine ⟨ws[k], List.getElem_mem hk, atI_nat ?_⟩
  rw [List.getElem?_map, List.getElem?_eq_getElem hk]; rfl
theorem g_tupE {p : Addr} {R : Prop} (q : R) : R := q
theorem g_test (q : ta σ H fun x H' => ∃ k, x = .bl k ∧ QT k H') : tTest ta σ H QT := q
theorem g_B (q : ta σ H fun x H' => ∃ k, x = .bl k ∧ QT k H') : tB ta σ H QT := q
theorem g_bl {p : Bool → Prop} (q : p a) : ∃ k, V.bl a = .bl k ∧ p k := ⟨a, rfl, q⟩
theorem g_tand (q : c σ H fun d H1 => if d = true then u σ H1 QT else QT false H1) : tAnd c u σ H QT := q
theorem g_tor (q : c σ H fun d H1 => if d = true then QT true H1 else u σ H1 QT) : tOr c u σ H QT := q
theorem g_tnot (q : c σ H fun d H1 => QT (!d) H1) : tNot c σ H QT := q
theorem g_vand (q : ta σ H fun x H1 => ∃ c, x = .bl c ∧ if c = true then tb σ H1 Q else Q (.bl false) H1) : tAndV ta tb σ H Q := q
theorem g_vor (q : ta σ H fun x H1 => ∃ c, x = .bl c ∧ if c = true then Q (.bl true) H1 else tb σ H1 Q) : tOrV ta tb σ H Q := q
theorem g_vnot (q : ta σ H fun x H1 => ∃ c, x = .bl c ∧ Q (.bl (!c)) H1) : tNotV ta σ H Q := q
theorem g_eif (q : c σ H fun d H1 => if d = true then ta σ H1 Q else tb σ H1 Q) : tIf c ta tb σ H Q := q
theorem g_seq (q : ts (mkE (tz D) D.rt D.bk D.ct) σ H) : tSeq ts tz D σ H := q
theorem g_asg {n : Nat} (q : te σ H fun x H1 => D.nx (σ.set n (some x)) H1) : tAsg te (gName n) D σ H := q
theorem g_asgSub {to ti : TE} {s : TSet} (q : te σ H fun x H1 => to σ H1 fun o H2 => ti σ H2 fun i H3 => s o i x H3 fun H4 => D.nx σ H4) : tAsg te (gSub to ti s) D σ H := q
theorem g_ret (q : te σ H D.rt) : tRet te D σ H := q
theorem g_drop (q : te σ H fun _ H1 => D.nx σ H1) : tDrop te D σ H := q
theorem g_if {t1 t2 : TS} (q : c σ H fun d H1 => if d = true then t1 D σ H1 else t2 D σ H1) : tIfS c t1 t2 D σ H := q
theorem g_next (q : D.nx σ H) : tNext D σ H := q
variable {nx : L2.St → Hp → Prop} {rt : VK} {bk ct : L2.St → Hp → Prop}
theorem g_nx (q : nx σ H) : (mkE nx rt bk ct).nx σ H := q
theorem g_rt (q : rt v H) : (mkE nx rt bk ct).rt v H := q
theorem g_bk (q : bk σ H) : (mkE nx rt bk ct).bk σ H := q
theorem g_ct (q : ct σ H) : (mkE nx rt bk ct).ct σ H := q
theorem g_ctS (q : D.ct σ H) : tCont D σ H := q
theorem g_bkS (q : D.bk σ H) : tBreak D σ H := q
/-! sizes, places -/
theorem cpow_small (h0 : 0 ≤ j) (h1 : j ≤ 1000000) (h2 : -(2 ^ 64) < i) (h3 : i < 2 ^ 64) : CPowG i j := by
  have h := PySem.intBits_le_64 h2 h3
  have h4 : ((Builtin.Int.intBits i : Nat) : Int) ≤ 64 := by omega
  refine ⟨h0, ?_⟩
  have h5 : ((Builtin.Int.intBits i : Nat) : Int) * j ≤ 64 * j := Int.mul_le_mul_of_nonneg_right h4 h0
  omega
theorem atI_map {ns : List Int} {n : Int} (h : 0 ≤ n ∧ n < ((ns.map V.int).length : Nat)) : atI (ns.map V.int) n = some (.int (ns.getD n.toNat 0)) := by
  rw [List.length_map] at h
  obtain ⟨h0, h⟩ := h
  obtain ⟨k, rfl⟩ := Int.eq_ofNat_of_zero_le h0
  refine atI_nat ?_
  rw [List.getElem?_map, List.getD_eq_getElem?_getD, Int.toNat_natCast, List.getElem?_eq_getElem (by omega)]
  rfl
theorem atI_get {α : Type} {xs : List α} {n : Nat} {v : α} (h : xs[n]? = some v) : atI xs (n : Int) = some v := atI_nat h
/-! tests -/
theorem g_T {A B : Prop} (h : A) : if true = true then A else B := by rw [if_pos rfl]; exact h
theorem g_F {A B : Prop} (h : B) : if false = true then A else B := by rw [if_neg Bool.false_ne_true]; exact h
theorem g_split {A B : Prop} {k : Bool} (h1 : k = true → A) (h2 : k = false → B) : if k = true then A else B := by
  cases k
  · exact g_F (h2 rfl)
  · exact g_T (h1 rfl)
theorem g_dec {A B p : Prop} [Decidable p] (h1 : p → A) (h2 : ¬ p → B) : if decide p = true then A else B :=
  g_split (fun h => h1 (of_decide_eq_true h)) (fun h => h2 (of_decide_eq_false h))
theorem g_ndec {A B p : Prop} [Decidable p] (h1 : ¬ p → A) (h2 : p → B) : if (!decide p) = true then A else B := by
  by_cases h : p
  · rw [decide_eq_true h]; exact g_F (h2 h)
  · rw [decide_eq_false h]; exact g_T (h1 h)
theorem g_nsplit {A B : Prop} {k : Bool} (h1 : k = false → A) (h2 : k = true → B) : if (!k) = true then A else B := by
  cases k
  · exact g_Fn (h1 rfl)
  · exact g_Tn (h2 rfl)
/-! loops whose turns don't see what follows -/
theorem for_rangeA {lo : Int} {n : Nat} {g : TG} {tb : TS} (Pv : Nat → L2.St → Hp → Prop) (h0 : Pv 0 σ H)
    (hs : ∀ i σ H (D' : Ends), i < n → Pv i σ H → (∀ σ H, Pv (i + 1) σ H → D'.nx σ H) → (∀ σ H, Pv (i + 1) σ H → D'.ct σ H) → (∀ σ H, D.nx σ H → D'.bk σ H) → D'.rt = D.rt → g (.int (lo + i)) σ H fun σ2 H2 => tb D' σ2 H2) (hd : ∀ σ H, Pv n σ H → D.nx σ H) :
    ∃ W : Nat → Nat → L2.St → Hp → Prop, (∃ m, W 0 m σ H) ∧ ∀ i m σ H, W i m σ H →
      ((Itr lo n).stop i H ∧ D.nx σ H) ∨ ((Itr lo n).go i H ∧ ∃ N : L2.St → Hp → Prop, (∀ σ' H', N σ' H' → ∃ m', m' < m ∧ W (i + 1) m' σ' H') ∧ ∀ x H', (Itr lo n).yld i H x H' → g x σ H' fun σ2 H2 => tb { D with nx := N, ct := N, bk := D.nx } σ2 H2) :=
  for_range Pv h0 (fun i σ H hi p => hs i σ H _ hi p (fun _ _ h => h) (fun _ _ h => h) (fun _ _ h => h) rfl) hd
theorem for_listA {p : Addr} {xs : List V} {g : TG} {tb : TS} (Pv : Nat → L2.St → Hp → Prop) (h0 : Pv 0 σ H) (hl : ∀ i σ H, i ≤ xs.length → Pv i σ H → SqL K H p xs)
    (hs : ∀ i x σ H (D' : Ends), xs[i]? = some x → Pv i σ H → (∀ σ H, Pv (i + 1) σ H → D'.nx σ H) → (∀ σ H, Pv (i + 1) σ H → D'.ct σ H) → (∀ σ H, D.nx σ H → D'.bk σ H) → D'.rt = D.rt → g x σ H fun σ2 H2 => tb D' σ2 H2) (hd : ∀ σ H, Pv xs.length σ H → D.nx σ H) :
    ∃ W : Nat → Nat → L2.St → Hp → Prop, (∃ m, W 0 m σ H) ∧ ∀ i m σ H, W i m σ H →
      ((Itl K p).stop i H ∧ D.nx σ H) ∨ ((Itl K p).go i H ∧ ∃ N : L2.St → Hp → Prop, (∀ σ' H', N σ' H' → ∃ m', m' < m ∧ W (i + 1) m' σ' H') ∧ ∀ x H', (Itl K p).yld i H x H' → g x σ H' fun σ2 H2 => tb { D with nx := N, ct := N, bk := D.nx } σ2 H2) :=
  for_list Pv h0 hl (fun i x σ H hi p => hs i x σ H _ hi p (fun _ _ h => h) (fun _ _ h => h) (fun _ _ h => h) rfl) hd
theorem g_cutA {M : L2.St → Hp → Prop} (h : ∀ D' : Ends, (∀ σ H, M σ H → D'.nx σ H) → D'.rt = D.rt → D'.bk = D.bk → D'.ct = D.ct → ts D' σ H) (k : ∀ σ' H', M σ' H' → tz D σ' H') : Evl.tCut ts tz D σ H :=
  ⟨M, h _ (fun _ _ h => h) rfl rfl rfl, k⟩
/-! stores -/
theorem g_setL {p : Addr} {xs : List V} {n : Nat} {QH : Hp → Prop} (h : H p = some (.lst xs)) (e : ixN xs.length i = some n) (q : QH (upd H p (.lst (xs.set n v)))) : rSetL (.ref p) (.int i) v H QH := ⟨p, xs, i, n, rfl, rfl, h, e, q⟩
theorem g_app {p : Addr} {xs : List V} (h : H p = some (.lst xs)) (hz : xs.length < 10000000) (q : Q .non (upd H p (.lst (xs ++ [v])))) : rAppend (.ref p) [v] H Q := ⟨p, xs, v, rfl, rfl, h, by rw [sizeLine_eq]; omega, q⟩
theorem g_bm {r : V → List V → Hp → VK → Prop} {T : String} (q : ta σ H fun x H1 => tyV K T x H1 ∧ t σ H1 fun xs H2 => r x xs H2 Q) : tBM K T r ta t σ H Q := q
theorem tyL {p : Addr} {xs : List V} (h : H p = some (.lst xs)) : tyV K "list" (.ref p) H := .inl ⟨rfl, xs, SqL.of h⟩
theorem g_tyL {p : Addr} {R : Prop} (q : (∃ xs, H p = some (.lst xs)) ∧ R) : tyV K "list" (.ref p) H ∧ R := ⟨let ⟨_, h⟩ := q.1; tyL h, q.2⟩
end
end Tw

set_option Elab.async false
set_option linter.all false
set_option maxRecDepth 100000
namespace Tw
open PySem L2 PySem.Spec
/-- an iterator that goes through xs -/
structure Fits (J : It) (xs : List V) (H : Hp) : Prop where
  go : ∀ i, i < xs.length → J.go i H
  stop : ∀ i, xs.length ≤ i → J.stop i H
  yld : ∀ i x H', J.yld i H x H' → H' = H ∧ xs[i]? = some x
theorem fits_l {K : PySem.W.Frag} {H : Hp} {a : Addr} {xs : List V} (h : SqL K H a xs) : Fits (Itl K a) xs H :=
  ⟨fun i hi => ⟨xs, xs[i], h, by simp [hi]⟩, fun i hi => ⟨xs, h, hi⟩, fun i x H' y => ⟨y.1, y.2 xs h⟩⟩
theorem fits_t {K : PySem.W.Frag} {H : Hp} {a : Addr} {xs : List V} (h : SqT K H a xs) : Fits (Itt K a) xs H :=
  ⟨fun i hi => ⟨xs, xs[i], h, by simp [hi]⟩, fun i hi => ⟨xs, h, hi⟩, fun i x H' y => ⟨y.1, y.2 xs h⟩⟩
theorem take_flat {F : V → List V} {xs : List V} {i : Nat} {x : V} (h : xs[i]? = some x) : (xs.take (i + 1)).flatMap F = (xs.take i).flatMap F ++ F x := by
  rw [List.take_succ, h, List.flatMap_append]
  simp
theorem flat_le {F : V → List V} {xs : List V} {i : Nat} {x : V} (h : xs[i]? = some x) : ((xs.take i).flatMap F ++ F x).length ≤ (xs.flatMap F).length := by
  rw [← take_flat h]
  conv => rhs; rw [← List.take_append_drop (i + 1) xs]
  rw [List.flatMap_append, List.length_append]
  omega
section
variable {J : It} {g g1 : TG} {tt tt1 : TT} {wi1 : TI} {te : TE} {vs vs1 : List Nat} {σ : L2.St} {H1 : Hp} {D : Addr} {Qd : Hp → Prop}
/-- a comprehension with two fors and no ifs: what the inner ones hold, one behind the other -/
theorem lc2_flat (xs : List V) (F : V → List V) (hD : H1 D = none) (hJ : ∀ H, (∀ q o, H1 q = some o → H q = some o) → Fits J xs H) (hlen : (xs.flatMap F).length ≤ 1000000)
    (hs : ∀ x Hh (R : L2.St → It → Hp → Prop) (S : Hp → Prop), x ∈ xs → (∀ q o, H1 q = some o → Hh q = some o) →
      (∀ σ2 J1 H', (∀ q o, Hh q = some o → H' q = some o) → (∀ H'', (∀ q o, q ≠ D → H' q = some o → H'' q = some o) → Fits J1 (F x) H'') →
        (∀ y Hk (R1 : V → Hp → Prop) (S1 : Hp → Prop), y ∈ F x → R1 y Hk → g1 y (wipe σ2 vs1) Hk fun σ3 H5 => wipe σ3 vs1 = wipe σ2 vs1 ∧ tt1 σ3 H5 fun b H6 => if b = true then te σ3 H6 R1 else S1 H6) → R σ2 J1 H') →
      g x (wipe σ vs) Hh fun σ2 H2 => wipe σ2 vs = wipe σ vs ∧ tt σ2 H2 fun b H3 => if b = true then wi1 σ2 H3 (R σ2) else S H3)
    (hd : ∀ H, (∀ q o, H1 q = some o → H q = some o) → H D = some (.lst (xs.flatMap F)) → Qd H) :
    ∃ W : Nat → Nat → Hp → Prop, (∃ m, W 0 m (upd H1 D (.lst []))) ∧ ∀ i m H, W i m H →
      (J.stop i H ∧ Qd H) ∨ (J.go i H ∧ ∃ Nx : Hp → Prop, (∀ H', Nx H' → ∃ m', m' < m ∧ W (i + 1) m' H') ∧ ∀ x H', J.yld i H x H' → g x (wipe σ vs) H' fun σ2 H2 => wipe σ2 vs = wipe σ vs ∧ tt σ2 H2 fun b H3 =>
        if b = true then wi1 σ2 H3 fun J1 H4 => ∃ W1 : Nat → Nat → Hp → Prop, (∃ m, W1 0 m H4) ∧ ∀ j k H, W1 j k H →
          (J1.stop j H ∧ Nx H) ∨ (J1.go j H ∧ ∃ Nx1 : Hp → Prop, (∀ H', Nx1 H' → ∃ k', k' < k ∧ W1 (j + 1) k' H') ∧ ∀ x H', J1.yld j H x H' → g1 x (wipe σ2 vs1) H' fun σ3 H5 => wipe σ3 vs1 = wipe σ2 vs1 ∧ tt1 σ3 H5 fun b H6 =>
            if b = true then te σ3 H6 fun y H7 => ∃ acc, H7 D = some (.lst acc) ∧ acc.length < sizeLine ∧ Nx1 (upd H7 D (.lst (acc ++ [y]))) else Nx1 H6)
        else Nx H3) := by
  refine ⟨fun i m H => m = xs.length - i ∧ i ≤ xs.length ∧ H D = some (.lst ((xs.take i).flatMap F)) ∧ ∀ q o, H1 q = some o → H q = some o, ⟨xs.length, by simp, Nat.zero_le _, upd_same, fun q o h => by rw [upd_ne (ne_of_none h hD)]; exact h⟩, ?_⟩
  rintro i m H ⟨rfl, hi, hDl, hK⟩
  have fi := hJ H hK
  by_cases hlt : i < xs.length
  · refine .inr ⟨fi.go i hlt, fun H' => H' D = some (.lst ((xs.take (i + 1)).flatMap F)) ∧ ∀ q o, H1 q = some o → H' q = some o, fun H' w => ⟨xs.length - (i + 1), by omega, rfl, hlt, w⟩, ?_⟩
    intro x H' hy
    obtain ⟨rfl, hx⟩ := fi.yld i x H' hy
    refine hs x H' (fun σ2 J1 H4 => _) (fun H3 => _) (List.mem_of_getElem? hx) hK fun σ2 J1 H4 ext f1 turn => ?_
    have e1 := take_flat (F := F) hx
    have l1 := flat_le (F := F) hx
    refine ⟨fun j k H => k = (F x).length - j ∧ j ≤ (F x).length ∧ H D = some (.lst ((xs.take i).flatMap F ++ (F x).take j)) ∧ ∀ q o, q ≠ D → H4 q = some o → H q = some o, ⟨(F x).length, by simp, Nat.zero_le _, by rw [ext _ _ hDl, List.take_zero, List.append_nil], fun q o _ h => h⟩, ?_⟩
    rintro j k Hj ⟨rfl, hj, hDj, hKj⟩
    have fj := f1 Hj hKj
    by_cases hjl : j < (F x).length
    · refine .inr ⟨fj.go j hjl, fun H' => H' D = some (.lst ((xs.take i).flatMap F ++ (F x).take (j + 1))) ∧ ∀ q o, q ≠ D → H4 q = some o → H' q = some o, fun H' w => ⟨(F x).length - (j + 1), by omega, rfl, hjl, w⟩, ?_⟩
      intro y Hy hyy
      obtain ⟨rfl, hyx⟩ := fj.yld j y Hy hyy
      refine turn y Hy (fun y H7 => _) (fun H6 => _) (List.mem_of_getElem? hyx) ⟨_, hDj, ?_, ?_, fun q o n h => by rw [upd_ne n]; exact hKj q o n h⟩
      · rw [List.length_append] at l1 ⊢
        have : ((F x).take j).length ≤ (F x).length := by rw [List.length_take]; omega
        rw [sizeLine_eq]
        omega
      · rw [upd_same, List.take_succ, hyx, List.append_assoc]
        rfl
    · have e : j = (F x).length := by omega
      subst e
      refine .inl ⟨fj.stop _ (Nat.le_refl _), ?_, fun q o h => hKj q o (ne_of_none h hD) (ext q o (hK q o h))⟩
      rw [hDj, List.take_length, e1]
  · have e : i = xs.length := by omega
    subst e
    refine .inl ⟨fi.stop _ (Nat.le_refl _), hd H hK ?_⟩
    rw [hDl, List.take_length]
/-- a comprehension whose turns leave the heap -/
theorem lc_map (xs : List V) (v : V → V) (hD : H1 D = none) (hJ : ∀ H, (∀ q o, H1 q = some o → H q = some o) → Fits J xs H) (hlen : xs.length ≤ 1000000)
    (hs : ∀ x Hh (R : V → Hp → Prop) (S : Hp → Prop), x ∈ xs → (∀ q o, H1 q = some o → Hh q = some o) → R (v x) Hh →
      g x (wipe σ vs) Hh fun σ2 H2 => wipe σ2 vs = wipe σ vs ∧ tt σ2 H2 fun b H3 => if b = true then te σ2 H3 R else S H3)
    (hd : ∀ H, (∀ q o, H1 q = some o → H q = some o) → H D = some (.lst (xs.map v)) → Qd H) :
    ∃ W : Nat → Nat → Hp → Prop, (∃ m, W 0 m (upd H1 D (.lst []))) ∧ ∀ i m H, W i m H →
      (J.stop i H ∧ Qd H) ∨ (J.go i H ∧ ∃ Nx : Hp → Prop, (∀ H', Nx H' → ∃ m', m' < m ∧ W (i + 1) m' H') ∧ ∀ x H', J.yld i H x H' → g x (wipe σ vs) H' fun σ2 H2 => wipe σ2 vs = wipe σ vs ∧ tt σ2 H2 fun b H3 =>
        if b = true then te σ2 H3 fun y H4 => ∃ acc, H4 D = some (.lst acc) ∧ acc.length < sizeLine ∧ Nx (upd H4 D (.lst (acc ++ [y]))) else Nx H3) := by
  refine ⟨fun i m H => m = xs.length - i ∧ i ≤ xs.length ∧ H D = some (.lst ((xs.take i).map v)) ∧ ∀ q o, H1 q = some o → H q = some o, ⟨xs.length, by simp, Nat.zero_le _, upd_same, fun q o h => by rw [upd_ne (ne_of_none h hD)]; exact h⟩, ?_⟩
  rintro i m H ⟨rfl, hi, hDl, hK⟩
  have fi := hJ H hK
  by_cases hlt : i < xs.length
  · refine .inr ⟨fi.go i hlt, fun H' => H' D = some (.lst ((xs.take (i + 1)).map v)) ∧ ∀ q o, H1 q = some o → H' q = some o, fun H' w => ⟨xs.length - (i + 1), by omega, rfl, hlt, w⟩, ?_⟩
    intro x H' hy
    obtain ⟨rfl, hx⟩ := fi.yld i x H' hy
    refine hs x H' (fun y H4 => _) (fun H3 => _) (List.mem_of_getElem? hx) hK ⟨_, hDl, ?_, ?_, fun q o h => by rw [upd_ne (ne_of_none h hD)]; exact hK q o h⟩
    · rw [List.length_map, List.length_take, sizeLine_eq]
      omega
    · rw [upd_same, List.take_succ, hx, List.map_append]
      rfl
  · have e : i = xs.length := by omega
    subst e
    refine .inl ⟨fi.stop _ (Nat.le_refl _), hd H hK ?_⟩
    rw [hDl, List.take_length]
variable {K : PySem.W.Frag} {Q : VK}
theorem g_lc2 {wi : TI} (q : wi σ H1 fun J H1 => ∀ D, H1 D = none → ∃ W : Nat → Nat → Hp → Prop, (∃ m, W 0 m (upd H1 D (.lst []))) ∧ ∀ i m H, W i m H →
      (J.stop i H ∧ Q (.ref D) H) ∨ (J.go i H ∧ ∃ Nx : Hp → Prop, (∀ H', Nx H' → ∃ m', m' < m ∧ W (i + 1) m' H') ∧ ∀ x H', J.yld i H x H' → g x (wipe σ vs) H' fun σ2 H2 => wipe σ2 vs = wipe σ vs ∧ tt σ2 H2 fun b H3 =>
        if b = true then wi1 σ2 H3 fun J1 H4 => ∃ W1 : Nat → Nat → Hp → Prop, (∃ m, W1 0 m H4) ∧ ∀ j k H, W1 j k H →
          (J1.stop j H ∧ Nx H) ∨ (J1.go j H ∧ ∃ Nx1 : Hp → Prop, (∀ H', Nx1 H' → ∃ k', k' < k ∧ W1 (j + 1) k' H') ∧ ∀ x H', J1.yld j H x H' → g1 x (wipe σ2 vs1) H' fun σ3 H5 => wipe σ3 vs1 = wipe σ2 vs1 ∧ tt1 σ3 H5 fun b H6 =>
            if b = true then te σ3 H6 fun y H7 => ∃ acc, H7 D = some (.lst acc) ∧ acc.length < sizeLine ∧ Nx1 (upd H7 D (.lst (acc ++ [y]))) else Nx1 H6)
        else Nx H3)) : tLc2 wi g tt wi1 g1 tt1 te vs vs1 σ H1 Q := q
end
end Tw

set_option Elab.async false
set_option linter.all false
set_option maxRecDepth 100000
set_option maxHeartbeats 4000000
/-! sets of values of one kind, by the list of their members: made of a list, sorted -/
namespace Tw
open PySem L2 PySem.Spec PyProof.Rows
/-- a list that is an arrangement of mapped things is mapped of an arrangement -/
theorem perm_unmap {α β : Type} {f : α → β} {l : List β} {xs : List α} (p : l.Perm (xs.map f)) : ∃ ys : List α, l = ys.map f ∧ ys.Perm xs := by
  generalize hm : xs.map f = m at p
  induction p generalizing xs with
  | nil =>
    have : xs = [] := List.map_eq_nil_iff.mp hm
    exact ⟨[], rfl, by rw [this]⟩
  | cons b _ ih =>
    cases xs with
    | nil => cases hm
    | cons x xs =>
      injection hm with h1 h2
      obtain ⟨ys, e, p⟩ := ih h2
      exact ⟨x :: ys, by rw [List.map_cons, ← e, h1], p.cons x⟩
  | swap b c l =>
    match xs, hm with
    | x :: y :: r, hm =>
      injection hm with h1 h2
      injection h2 with h2 h3
      exact ⟨y :: x :: r, by rw [List.map_cons, List.map_cons, h1, h2, h3], List.Perm.swap x y r⟩
  | trans _ _ ih1 ih2 =>
    obtain ⟨ys, e, p⟩ := ih2 hm
    obtain ⟨zs, e2, p2⟩ := ih1 e.symm
    exact ⟨zs, e2, p2.trans p⟩
section
variable {P : Program} {w : World} {κ : Type} [DecidableEq κ] {knd : PySem.KeyKind P w κ}
/-- the set at a: its members by key and value, in the order in which its table keeps them -/
def SetL (knd : PySem.KeyKind P w κ) (h : Heap) (a : Addr) (L : List (κ × Value)) : Prop :=
  ∃ o es ep t, h.get? a = some o ∧ o.ExactSet ∧ o.data = .set es ep t ∧ es.toList = L.map (fun p => (knd.hash p.1, p.2)) ∧ (∀ p ∈ L, knd.is p.1 p.2 = true ∧ p.2.scannable = true) ∧ (L.map (·.1)).Nodup ∧
    es.size < scanBound ∧ t.fits es.size = true ∧ Ris t.place.toList ∧ (w.params.followText "set-order" = true ∨ t.led = true)
theorem SetL.at {h h' : Heap} {a : Addr} {L : List (κ × Value)} (S : SetL knd h a L) (k : ∀ o, h.get? a = some o → h'.get? a = some o) : SetL knd h' a L := by
  obtain ⟨o, es, ep, t, g, r⟩ := S
  exact ⟨o, es, ep, t, k o g, r⟩
theorem SetL.len {h : Heap} {a : Addr} {L : List (κ × Value)} (S : SetL knd h a L) : L.length < scanBound := by
  obtain ⟨o, es, ep, t, g, gx, gd, ge, gi, gn, gb, _⟩ := S
  have : es.toList.length = L.length := by rw [ge, List.length_map]
  rw [Array.length_toList] at this
  omega
theorem elems_of {L : List (κ × Value)} (gi : ∀ p ∈ L, knd.is p.1 p.2 = true ∧ p.2.scannable = true) : ElemsOf knd (L.map fun p => (knd.hash p.1, p.2)) := fun e he => by
  obtain ⟨p, hp, rfl⟩ := List.mem_map.mp he
  exact ⟨⟨p.1, (gi p hp).1, rfl⟩, (gi p hp).2⟩
variable {A : Around} {E : Value → Shared → Prop} {s : Shared} {a : Addr}
/-- the table laid anew and kept -/
theorem keep_laid {o : Obj} {es : Array (Int × Value)} {ep : Nat} {t : SetTable} (g : s.heap.get? a = some o) (gx : o.ExactSet) (gd : o.data = .set es ep t) {es2 : Array (Int × Value)} {t2 : SetTable} {L2' : List (κ × Value)}
    (ge : es2.toList = L2'.map (fun p => (knd.hash p.1, p.2))) (gi : ∀ p ∈ L2', knd.is p.1 p.2 = true ∧ p.2.scannable = true) (gn : (L2'.map (·.1)).Nodup) (gb : es2.size < scanBound) (gf : t2.fits es2.size = true) (gr : Ris t2.place.toList)
    (gl : w.params.followText "set-order" = true ∨ t2.led = true) {Q : Unit → Shared → Prop} (hQ : ∀ h', Heap.SameBut a s.heap h' → (∃ o', h'.get? a = some o' ∧ o'.ExactSet ∧ o'.data = .set es2 (ep + 1) t2) → SetL knd h' a L2' → Q () { s with heap := h' }) :
    wpAny (model P w) A (storeSet a es2 t2) Q E s := by
  refine wpAny_storeSet_of g gd ?_ (fits_of_scanBound gb)
  have g2 := store_at (es' := es2) (t' := t2) g gd
  exact hQ _ (Heap.SameBut.update s.heap a (Obj.putSet es2 t2)) ⟨_, g2, gx, rfl⟩ ⟨_, es2, _, t2, g2, gx, rfl, ge, gi, gn, gb, gf, gr, gl⟩
/-- a table that has been laid is kept, and laid out wider where it is too full -/
theorem keep_wide {o : Obj} {es : Array (Int × Value)} {ep : Nat} {t : SetTable} (g : s.heap.get? a = some o) (gx : o.ExactSet) (gd : o.data = .set es ep t) {es2 : Array (Int × Value)} {t2 : SetTable} {M : List (κ × Value)}
    (ge : es2.toList = M.map (fun p => (knd.hash p.1, p.2))) (gi : ∀ p ∈ M, knd.is p.1 p.2 = true ∧ p.2.scannable = true) (gn : (M.map (·.1)).Nodup) (gb : es2.size < scanBound) (gf : t2.fits es2.size = true) (gr : Ris t2.place.toList)
    (gl : w.params.followText "set-order" = true ∨ t2.led = true) {was : Bool} {told : Bool → Sem Unit} (ht : ∀ (b : Bool) (s1 : Shared) (Q1 : Unit → Shared → Prop), Q1 () s1 → wpAny (model P w) A (told b) Q1 E s1) {Q : Option Bool → Shared → Prop}
    (hQ : ∀ h' M', Heap.SameBut a s.heap h' → SetL knd h' a M' → M'.Perm M → Q (some true) { s with heap := h' }) :
    wpAny (model P w) A (storeSet a es2 t2 >>= fun _ => if (!was && t2.tooFull) = true then told (relayAll t2 es2 (SetTable.grown es2.size)).2.2 >>= fun _ => storeSet a (relayAll t2 es2 (SetTable.grown es2.size)).1 (relayAll t2 es2 (SetTable.grown es2.size)).2.1 >>= fun _ => pure (some true) else pure (some true)) Q E s := by
  refine wpAny_bind (keep_laid g gx gd ge gi gn gb gf gr gl fun h1 sb1 ⟨o1, g1, gx1, gd1⟩ S1 => ?_)
  by_cases full : (!was && t2.tooFull) = true
  · rw [if_pos full]
    have p1 := relayAll_perm t2 es2 (SetTable.grown es2.size)
    have p2 := relayAll_fits t2 es2 (SetTable.grown es2.size)
    have p3 := relayAll_ris t2 es2 (SetTable.grown es2.size)
    have p4 := relayAll_led t2 es2 (SetTable.grown es2.size)
    rw [ge] at p1
    obtain ⟨M', e', pm⟩ := perm_unmap p1
    have sz : (relayAll t2 es2 (SetTable.grown es2.size)).1.size < scanBound := by
      have q := congrArg List.length e'
      rw [Array.length_toList, List.length_map, pm.length_eq] at q
      have q2 := congrArg List.length ge
      rw [Array.length_toList, List.length_map] at q2
      omega
    refine wpAny_bind (ht _ _ _ ?_)
    refine wpAny_bind (keep_laid (s := { s with heap := h1 }) g1 gx1 gd1 e' (fun p hp => gi p (pm.mem_iff.mp hp)) ((pm.map _).nodup_iff.mpr gn) sz p2 p3 (gl.imp id fun z => by rw [p4]; exact z) fun h2 sb2 _ S2 => ?_)
    exact wpAny_pure (hQ h2 M' (sb1.trans sb2) S2 pm)
  · rw [if_neg full]
    exact wpAny_pure (hQ h1 M sb1 S1 (List.Perm.refl M))
/-- one more member -/
theorem set_one_more {L : List (κ × Value)} (S : SetL knd s.heap a L) {k : κ} {v : Value} (hk : knd.is k v = true) (hv : v.scannable = true) (room : L.length + 1 < scanBound) {Q : Bool → Shared → Prop}
    (hQ : ∀ h' L' b, Heap.SameBut a s.heap h' → SetL knd h' a L' → (∀ j, j ∈ L'.map (·.1) ↔ j ∈ L.map (·.1) ∨ j = k) → L'.length ≤ L.length + 1 → Q b { s with heap := h' }) :
    wpAny (model P w) A (setAddHashed a v (knd.hash k)) Q E s := by
  obtain ⟨o, es, ep, t, g, gx, gd, ge, gi, gn, gb, gf, gr, gl⟩ := id S
  have el : ElemsOf knd es.toList := by rw [ge]; exact elems_of gi
  unfold setAddHashed setAddHashedIn
  refine wpAny_holding ?_
  refine wpAny_bind (wpAny_setState_of g gd gf ?_)
  dsimp only
  rw [byScan_of hv gb el, if_pos rfl]
  refine wpAny_bind ?_
  unfold setAddByScan
  refine wpAny_bind (wpAny_rule ?_)
  refine wpAny_bind (wpAny_setScan_of hk g gd gf el ?_)
  cases hf : es.toList.findIdx? (fun e => knd.is k e.2) with
  | some j =>
    dsimp only
    have hin : k ∈ L.map (·.1) := by
      obtain ⟨hj, pj, _⟩ := List.findIdx?_eq_some_iff_getElem.mp hf
      have hm : es.toList[j] ∈ L.map (fun p => (knd.hash p.1, p.2)) := by rw [← ge]; exact List.getElem_mem hj
      obtain ⟨p, hp, e⟩ := List.mem_map.mp hm
      have pj' : knd.is k p.2 = true := by rw [← e] at pj; exact pj
      exact List.mem_map.mpr ⟨p, hp, knd.inj p.2 _ _ (gi p hp).1 pj'⟩
    exact wpAny_pure (wpAny_pure (hQ s.heap L false (Heap.SameBut.refl a s.heap) S (fun i => ⟨.inl, fun z => z.elim id fun e => by rw [e]; exact hin⟩) (Nat.le_succ _)))
  | none =>
    dsimp only
    have out : k ∉ L.map (·.1) := fun z => by
      obtain ⟨p, hp, e⟩ := List.mem_map.mp z
      have c := List.findIdx?_eq_none_iff.mp hf (knd.hash p.1, p.2) (by rw [ge]; exact List.mem_map.mpr ⟨p, hp, rfl⟩)
      have c' : knd.is k p.2 = false := c
      rw [← e, (gi p hp).1] at c'
      cases c'
    have gave : ∀ (b : Bool) (s1 : Shared) (Q1 : Unit → Shared → Prop), Q1 () s1 → wpAny (model P w) A (match b with | true => rule "set.scan.the-table-gave-way" | false => pure ()) Q1 E s1 := by
      intro b s1 Q1 q
      cases b
      · exact wpAny_pure q
      · exact wpAny_rule q
    have l1 := layNew_perm t es (knd.hash k) v
    have l2 := layNew_fits t es (knd.hash k) v
    have l3 := layNew_ris t es (knd.hash k) v gr
    have l4 := layNew_led t es (knd.hash k) v
    generalize layNew t es (knd.hash k) v = Z at l1 l2 l3 l4 ⊢
    obtain ⟨es1, t1, was, gv⟩ := Z
    dsimp only at l1 l2 l3 l4 ⊢
    have l1' : es1.toList.Perm (((k, v) :: L).map fun p => (knd.hash p.1, p.2)) := by
      rw [Array.toList_push, ge] at l1
      exact l1.trans (List.perm_append_singleton _ _)
    obtain ⟨M, em, pm⟩ := perm_unmap l1'
    have gi1 : ∀ p ∈ M, knd.is p.1 p.2 = true ∧ p.2.scannable = true := fun p hp => by
      rcases List.mem_cons.mp (pm.mem_iff.mp hp) with z | z
      · rw [z]; exact ⟨hk, hv⟩
      · exact gi p z
    have gn1 : (M.map (·.1)).Nodup := (pm.map _).nodup_iff.mpr (List.nodup_cons.mpr ⟨out, gn⟩)
    have sz : es1.size = L.length + 1 := by
      have q := congrArg List.length em
      rw [Array.length_toList, List.length_map, pm.length_eq] at q
      exact q
    have ld : w.params.followText "set-order" = true ∨ t1.led = true := gl.imp id fun z => by rw [l4]; exact z
    have fin : ∀ h' M', Heap.SameBut a s.heap h' → SetL knd h' a M' → M'.Perm M → Q true { s with heap := h' } := fun h' M' sb S' pm' => by
      refine hQ h' M' true sb S' (fun j => ?_) ?_
      · rw [((pm'.trans pm).map (·.1)).mem_iff, List.map_cons, List.mem_cons]
        exact Or.comm
      · rw [(pm'.trans pm).length_eq]; exact Nat.le_refl _
    refine wpAny_bind (gave _ _ _ ?_)
    have told : ∀ (b : Bool) (s1 : Shared) (Q1 : Unit → Shared → Prop), Q1 () s1 → wpAny (model P w) A (match b with | true => rule "set.scan.the-table-gave-way" | false => pure ()) Q1 E s1 := gave
    by_cases pl : t1.plain = true
    · rw [if_pos pl]
      refine wpAny_bind ?_
      rw [hashByValue_scannable 8 hv]
      refine wpAny_pure ?_
      cases plainKind v with
      | true => exact keep_wide g gx gd em gi1 gn1 (by rw [sz]; exact room) l2 l3 ld told fun h' M' sb S' pm' => wpAny_pure (fin h' M' sb S' pm')
      | false => exact keep_wide g gx gd em gi1 gn1 (by rw [sz]; exact room) (SetTable.fits_plain_off l2) l3 ld told fun h' M' sb S' pm' => wpAny_pure (fin h' M' sb S' pm')
    · rw [if_neg pl]
      refine wpAny_bind (wpAny_pure ?_)
      exact keep_wide g gx gd em gi1 gn1 (by rw [sz]; exact room) l2 l3 ld told fun h' M' sb S' pm' => wpAny_pure (fin h' M' sb S' pm')
end
end Tw

set_option Elab.async false
set_option linter.all false
set_option maxRecDepth 100000
set_option maxHeartbeats 4000000
namespace Tw
open PySem L2 PySem.Spec PyProof.Rows
section
variable {prog : Program} {w : World} {A : Around} {R : Result → Shared → Prop} {I : Addr} {fp wr : List Addr} {G : Array GenState → Array GenState → Prop} {n : Nat} {Pw : Nat → Value → Prop} {St : Nat → Shared → Prop}
/-- the set at a holds just these texts -/
def Holds (prog : Program) (w : World) (h : Heap) (a : Addr) (xs : List Str) : Prop := ∃ L, SetL (PySem.strKind prog w) h a L ∧ (∀ j, j ∈ L.map (·.1) ↔ j ∈ xs) ∧ L.length ≤ xs.length
/-- the texts that are walked all come in -/
theorem all_come_in (W : WalksS prog w A.in1 I fp wr G n Pw St) (S : Addr) (off : S ∉ fp) (xs : List Str) (hn : xs.length = n) (few : n + 1 < scanBound) (gives : ∀ i v, Pw i v → ∃ t, v = .str (xs.getD i Str.empty) t) :
    ∀ (m i : Nat) (s : Shared), i + m = n → St i s → Holds prog w s.heap S (xs.take i) → (∀ s', Moved (S :: wr) G s s' → Holds prog w s'.heap S xs → R (.ok (.ret .none)) s') →
      codeAny (model prog w) A (.builtin "set.update.loop" ⟨[.ref S, .ref I], []⟩) R s := by
  have offw : S ∉ wr := fun z => off (W.sub _ z)
  have more : ∀ b ∈ wr, b ∈ S :: wr := fun b z => List.mem_cons_of_mem _ z
  intro m
  induction m with
  | zero =>
    intro i s him st hS fin
    have e : i = n := by omega
    subst e
    refine codeAny_builtin PyProof.Rows.F.entry_set_update_loop ?_
    rw [Around.under_plainId PyProof.Rows.F.plain_set_update_loop _]
    show wpAny _ A.in1 (pyNext (.ref I) >>= _) _ _ s
    refine wpAny_bind (W.done s _ _ st fun s1 mv => ?_)
    show wpAny _ A.in1 (ret Value.none) _ _ s1
    obtain ⟨L, hL, mem, len⟩ := hS
    rw [← hn, List.take_length] at mem len
    exact wpAny_pure (fin s1 (mv.mono more) ⟨L, hL.at fun o g => mv.heap S o offw g, mem, len⟩)
  | succ m ih =>
    intro i s him st hS fin
    refine codeAny_builtin PyProof.Rows.F.entry_set_update_loop ?_
    rw [Around.under_plainId PyProof.Rows.F.plain_set_update_loop _]
    show wpAny _ A.in1 (pyNext (.ref I) >>= _) _ _ s
    refine wpAny_bind (W.item i s _ _ (by omega) st fun v s1 hv st1 mv => ?_)
    obtain ⟨t, rfl⟩ := gives i v hv
    obtain ⟨L, hL, mem, len⟩ := hS
    have hL1 : SetL (PySem.strKind prog w) s1.heap S L := hL.at fun o g => mv.heap S o offw g
    have hx : xs[i]? = some (xs.getD i Str.empty) := by rw [List.getD_eq_getElem?_getD, List.getElem?_eq_getElem (show i < xs.length by omega)]; rfl
    generalize hz : xs.getD i Str.empty = z at hx ⊢
    have tk : xs.take (i + 1) = xs.take i ++ [z] := by rw [List.take_succ, hx]; rfl
    have lt : (xs.take i).length = i := by rw [List.length_take]; omega
    show wpAny _ A.in1 (holding [Value.str z t] (setAdd S (.str z t)) >>= _) _ _ s1
    refine wpAny_bind (wpAny_holding ?_)
    unfold setAdd
    refine wpAny_holding (wpAny_bind ((PySem.strKind prog w).pyHash (k := z) (strKind_is _ _ _ _) ?_))
    refine set_one_more (s := { s1 with toks := s1.toks + 1 }) hL1 (k := z) (strKind_is _ _ _ _) rfl (by omega) fun h2 L2' b sb hL2 mem2 len2 => ?_
    have go : ∀ s2 : Shared, s2 = { s1 with toks := s1.toks + 1, heap := h2 } → codeAny (model prog w) A (.builtin "set.update.loop" ⟨[.ref S, .ref I], []⟩) R s2 := fun s2 e => by
      subst e
      refine ih (i + 1) _ (by omega) (W.frame _ s1 _ _ st1 (Nat.le_succ _) fun b hb o g => ?_) ⟨L2', hL2, fun j => ?_, ?_⟩ fun s3 mv3 hS3 => ?_
      · exact (sb.2 b (fun z => off (by rw [← z]; exact hb))).trans g
      · rw [mem2, mem, tk, List.mem_append, List.mem_singleton]
      · rw [tk, List.length_append, List.length_singleton, lt]; rw [lt] at len; omega
      · refine fin s3 (Moved.trans W.gtrans ((mv.mono more).then_heap (Nat.le_succ _) fun b o hb g => ?_) mv3) hS3
        exact (sb.2 b (fun z => hb (by rw [z]; exact List.mem_cons_self))).trans g
    exact wpAny_pure ⟨plainId_quiet PyProof.Rows.F.plain_set_update_loop _, go _ rfl⟩
end
section
variable {prog : Program} {w : World} {A : Around} {E : Value → Shared → Prop} {s : Shared}
/-- an empty set just laid -/
abbrev bareSet (w : World) : Obj := { cls := .type "set", dict := none, data := .set #[] 0 (.fresh 0 0 (!w.params.followText "set-order")) }
theorem bare_holds {h : Heap} {a : Addr} (g : h.get? a = some (bareSet w)) : Holds prog w h a [] := by
  refine ⟨[], ⟨_, #[], 0, _, g, ⟨rfl, rfl, rfl⟩, rfl, rfl, (fun p hp => nomatch hp), List.nodup_nil, by decide, by rfl, List.Pairwise.nil, ?_⟩, fun j => Iff.rfl, Nat.le_refl _⟩
  show _ ∨ (!w.params.followText "set-order") = true
  cases w.params.followText "set-order"
  · exact .inr rfl
  · exact .inl rfl
/-- set.__init__(S, xs) on a bare set -/
theorem init_from_list {S l : Addr} {items : Array Value} {xs : List Str} (hh : A.handled = none) (hS : s.heap.get? S = some (bareSet w)) (hl : s.heap.IsList l items) (ne : S ≠ l) (hi : PyProof.Rows.StrsAre items.toList xs) (few : xs.length + 1 < scanBound) {Q : Value → Shared → Prop}
    (h : ∀ (h' : Heap) (tk : Nat), Holds prog w h' S xs → (∀ b o, b ≠ S → s.heap.get? b = some o → h'.get? b = some o) → Q .none { s with heap := h', toks := tk }) :
    codeAny (model prog w) A (.call (.builtin "set.__init__") ⟨[.ref S, .ref l], []⟩) (wants Q E) s := by
  have tS : s.TypeIs (.ref S) "set" := ⟨_, hS, rfl⟩
  refine codeAny_call_builtin PySem.F.called_set.init.plain PySem.F.entry_set_init (check_set_init_1 tS ?_)
  obtain ⟨ol, hol, hcl, nl, hdl⟩ := id hl
  obtain ⟨ocls, odict, odata, oslots⟩ := ol
  simp only at hcl hdl
  subst hcl; subst hdl
  have f1 := PySem.F.sub_list_set
  have f2 := PySem.F.sub_list_frozenset
  have f3 : (Value.type "list" == Value.type "dict") = false := by decide
  unfold Builtin.«set.__init__» noKeywords Builtin.Frozenset.updateFrom
  generalize hPI : pyIter = PI
  wp_walk
  subst hPI
  refine wpAny_pyIter_list hl ?_
  refine wpAny_bind (wpAny_runValue ?_)
  have lS : l < s.heap.objs.size := Heap.lt_size hol
  have sS : S < s.heap.objs.size := Heap.lt_size hS
  have quiet : A.in1.in1.handled = none := by simp [hh]
  have sz : xs.length = items.size := by rw [← StrsAre.len_eq hi, Array.length_toList]
  have gv : ∀ (i : Nat) (v : Value), items[i]? = some v → ∃ t, v = .str (xs.getD i Str.empty) t := fun i v hv => SS.strs_at hi i v (by rw [Array.getElem?_toList]; exact hv)
  refine all_come_in ((Walks.list quiet s.heap.objs.size l (Nat.ne_of_lt lS) items).toS) S ?_ xs sz (by omega) gv items.size 0 _ (by omega) ?_ ?_ fun s1 mv hH => ?_
  · intro z
    rcases List.mem_cons.mp z with z | z
    · exact absurd z (Nat.ne_of_lt sS)
    · exact ne (List.mem_singleton.mp z)
  · exact ⟨⟨_, Heap.get?_push_size _ rfl, rfl, rfl⟩, hl.push _⟩
  · exact bare_holds (Heap.get?_push_of_some _ hS)
  · obtain ⟨h1, g1, d1, k1, o1⟩ := s1
    have e1 : g1 = s.gens := mv.gens
    have e2 : d1 = s.drawn := mv.drawn
    have e3 : o1 = s.os := mv.os
    subst e1; subst e2; subst e3
    refine wpAny_pure ?_
    show wpAny _ _ (ret Value.none) _ _ _
    refine wpAny_pure (h h1 k1 hH fun b o nb g => mv.heap b o ?_ (Heap.get?_push_of_some _ g))
    intro z
    rcases List.mem_cons.mp z with z | z
    · exact nb z
    · exact absurd (List.mem_singleton.mp z) (Nat.ne_of_lt (Heap.lt_size g))
/-- set(xs), xs a list of texts -/
theorem set_of_texts {l : Addr} {items : Array Value} {xs : List Str} {Q : Value → Shared → Prop} (hh : A.handled = none) (hl : s.heap.IsList l items) (hi : PyProof.Rows.StrsAre items.toList xs) (few : xs.length + 1 < scanBound)
    (h : ∀ (h' : Heap) (tk : Nat), Holds prog w h' s.heap.objs.size xs → (∀ b o, s.heap.get? b = some o → h'.get? b = some o) → Q (.ref s.heap.objs.size) { s with heap := h', toks := tk }) :
    wpAny (model prog w) A (call (.type "set") [.ref l]) Q E s := by
  obtain ⟨c, tl, hmro⟩ := PySem.F.called_set.mro
  have made := PySem.F.called_set.made
  have subs := PySem.F.called_set.sub
  have noTy := PySem.F.called_set.notType
  have canC := PySem.F.called_set.canCreate
  have tcal := PySem.F.typeCall_set_1 (.ref l)
  refine wpAny_call (codeAny_of_tree ?_)
  show wpAny _ _ (callAny (.type "set") _) _ _ _
  refine wpAny_pure ⟨Code.quiet_builtin _ (by decide +kernel), codeAny_builtin PySem.F.entry_type_call ?_⟩
  rw [Around.under_plain (weight_type_call_type "set" [.ref l] []) rfl]
  repeat (any_goals (first | assumption | wp_step))
  refine codeAny_mono (code_set_led1 (.ref l) (E := E) (Q₁ := fun ob s1 => ob = .ref s.heap.objs.size ∧ s1 = { s with heap := s.heap.push (bareSet w) }) ⟨rfl, rfl⟩) fun r s1 hr => ?_
  cases r with
  | error e => exact hr
  | ok fl =>
    cases fl with
    | ret ob =>
      obtain ⟨rfl, rfl⟩ := hr
      have gS : (s.heap.push (bareSet w)).get? s.heap.objs.size = some (bareSet w) := Heap.get?_push_size _ rfl
      have tS : Shared.TypeIs { s with heap := s.heap.push (bareSet w) } (.ref s.heap.objs.size) "set" := ⟨_, gS, rfl⟩
      have il := PySem.F.called_set.init.lookup
      have ib := PySem.F.called_set.init.bind (.ref s.heap.objs.size)
      repeat (any_goals (first | assumption | wp_step))
      obtain ⟨ol, hol, _⟩ := id hl
      have lS : l < s.heap.objs.size := Heap.lt_size hol
      refine codeAny_mono (init_from_list (prog := prog) (w := w) (E := E) (s := { s with heap := s.heap.push (bareSet w) }) (xs := xs) (Q := fun r s2 => r = .none ∧ ∃ h' tk, s2 = { s with heap := h', toks := tk } ∧ Holds prog w h' s.heap.objs.size xs ∧ ∀ b o, s.heap.get? b = some o → h'.get? b = some o) ?_ gS (hl.push _) (Nat.ne_of_gt lS) hi few fun h' tk hH k => ⟨rfl, h', tk, rfl, hH, fun b o g => k b o (Nat.ne_of_lt (Heap.lt_size g)) (Heap.get?_push_of_some _ g)⟩) fun r2 s2 hr2 => ?_
      · simp [hh]
      · cases r2 with
        | error e => exact hr2
        | ok fl2 =>
          cases fl2 with
          | ret r =>
            obtain ⟨rfl, h', tk, rfl, hH, k⟩ := hr2
            repeat (any_goals (first | assumption | wp_step))
            exact h _ _ hH k
          | _ => exact hr2.elim
    | _ => exact hr.elim
end
end Tw

set_option Elab.async false
set_option linter.all false
set_option maxRecDepth 100000
set_option maxHeartbeats 4000000
namespace Tw
open PySem L2 PySem.Spec PyProof.Rows
section
variable {prog : Program} {w : World} {A : Around} {E : Value → Shared → Prop} {s : Shared}
theorem list_sort_texts {a : Addr} {vs : List Value} {ss : List Str} {n : Nat} {P : Fin → Shared → Prop} (ho : s.heap.get? a = some (seqObj "list" vs.toArray n)) (hS : StrsAre vs ss) (hL : vs.length ≤ sizeLine)
    (h : ∀ (out : Array Value) (ss' : List Str), StrsAre out.toList ss' → ss'.Perm ss → sortedS ss' = true → P (.done (.ret .none)) { s with heap := sortedHeap s.heap a vs out }) :
    wpAny (model prog w) A (Builtin.«list.sort» ⟨[.ref a], []⟩) P E s := by
  refine list_sort_treeKAny strKind_oneLt ho hS.keysOf (fun v₁ v₂ rest e => keyKind_strs (by rw [← e]; exact hS)) hL fun st' hp hs => ?_
  obtain ⟨ss', h1, h2, h3⟩ := sorted_out_str hS hp hs
  exact h _ ss' h1 h2 h3
theorem strs_of_keys : ∀ {M : List (Str × Value)}, (∀ p ∈ M, (PySem.strKind prog w).is p.1 p.2 = true) → StrsAre (M.map (·.2)) (M.map (·.1))
  | [], _ => .nil
  | p :: M, h => by
    have hp := h p List.mem_cons_self
    obtain ⟨x, v⟩ := p
    have : ∃ t, v = .str x t := Value.isStrOf_shape hp
    obtain ⟨t, rfl⟩ := this
    exact .cons x t (strs_of_keys fun q hq => h q (List.mem_cons_of_mem _ hq))
/-- sorted(a), a a set of texts -/
theorem sorted_of_texts {a : Addr} {xs : List Str} {Q : Value → Shared → Prop} (hH : Holds prog w s.heap a xs) (hh : A.handled = none)
    (hQ : ∀ s' p (out : Array Value) (c : Nat) (zs : List Str), (∀ b o, s.heap.get? b = some o → s'.heap.get? b = some o) → s'.gens = s.gens → s'.os = s.os → s.heap.objs.size ≤ p →
      s'.heap.get? p = some (seqObj "list" out c) → StrsAre out.toList zs → sortedS zs = true → zs.Nodup → (∀ k, k ∈ zs ↔ k ∈ xs) → zs.length ≤ sizeLine → Q (.ref p) s') :
    wpAny (model prog w) A (call (.builtin "sorted") [.ref a]) Q E s := by
  obtain ⟨L, ⟨o, es, ep, t, ho, hex, hd, ge, gi, nd, hb, hf, hr, hl⟩, hm, hn⟩ := hH
  refine Calls.call_function_entry kind_sorted plain_sorted entry_sorted (args_sorted1 _) ?_
  unfold Builtin.«sorted»
  refine wpAny_bind (m := checkCount "sorted" 1 1 _) (wpAny_pure ?_)
  refine wpAny_bind (collect_set (A := A.in1) hh ⟨o, ho, hex.1, hd⟩ hf hb hr hl fun s1 vs k1 hz g1 o1 pm => ?_)
  have ge2 : es.toList.map (·.2) = L.map (·.2) := by rw [ge, List.map_map]; rfl
  rw [ge2] at pm
  obtain ⟨M, rfl, pM⟩ := perm_unmap pm
  have kM : ∀ p ∈ M, (PySem.strKind prog w).is p.1 p.2 = true := fun p hp => (gi p (pM.mem_iff.mp hp)).1
  have hS := strs_of_keys kM
  have hlen : M.length = es.size := by rw [pM.length_eq, ← Array.length_toList, ge, List.length_map]
  have hsl : (M.map (·.2)).length ≤ sizeLine := by
    rw [List.length_map, hlen]
    exact Nat.le_of_lt (Nat.lt_of_lt_of_le hb (by decide))
  refine wpAny_bind (wpAny_newList ?_ hsl)
  have hoL : (s1.heap.push (seqObj "list" (M.map (·.2)).toArray 0)).get? s1.heap.objs.size = some (seqObj "list" (M.map (·.2)).toArray 0) := Heap.get?_push_size _ rfl
  refine wpAny_bind (wpAny_holding (wpAny_call_entry slot_list_sort ⟨_, hoL, rfl⟩ entry_list_sort (list_sort_texts hoL hS hsl fun out zs a1 a2 a3 => ⟨_, rfl, ?_⟩) (args_list_sort _)))
  obtain ⟨c, hc⟩ := sortedHeap_at (vs := M.map (·.2)) (out := out) hoL
  have pn : zs.Perm (L.map (·.1)) := a2.trans (pM.map _)
  refine wpAny_pure ⟨_, rfl, hQ _ s1.heap.objs.size out c zs (fun b u e => ?_) g1 o1 hz hc a1 a3 (pn.nodup_iff.mpr nd) (fun k => by rw [pn.mem_iff, hm k]) ?_⟩
  · have q := k1 b u e
    have hlt := Heap.lt_size q
    show (sortedHeap (s1.heap.push (seqObj "list" (M.map (·.2)).toArray 0)) s1.heap.objs.size (M.map (·.2)) out).get? b = some u
    rw [sortedHeap_old (Nat.ne_of_lt hlt) (by rw [size_push']; exact Nat.lt_succ_of_lt hlt)]
    exact Heap.get?_push_of_some _ q
  · rw [pn.length_eq, List.length_map]
    rw [List.length_map, pM.length_eq] at hsl
    exact hsl
end
section
variable {X : Cx}
/-- sorted(set(xs)), xs a list of texts: a new list, each text once, in order -/
def tSortedSet (K : PySem.W.Frag) (ta : TE) : TE := fun σ H Q => ta σ H fun x H1 => ∃ (l : Addr) (xs : List Str), x = .ref l ∧ SqL K H1 l (xs.map V.str) ∧ xs.length + 1 < scanBound ∧
  ∀ (zs : List Str) (p : Addr), sortedS zs = true → zs.Nodup → (∀ k, k ∈ zs ↔ k ∈ xs) → H1 p = none → Q (.ref p) (upd H1 p (.lst (zs.map V.str)))
theorem pe_sortedSet {K : PySem.W.Frag} {a : Expr} {ta : TE} {p p2 q pos : Pos} (hK : X.K = K) (hc : X.calm = true) (hg : Gl X "sorted") (hm : X.mg "sorted" = none) (hg2 : Gl X "set") (hm2 : X.mg "set" = none) (ha : PE X a ta)
    (na : starEach [a] X.env = (false, eval a X.env) :: starEach [] X.env := by rfl) : PE X (.Call (.Name "sorted" p) [.Call (.Name "set" p2) [a] [] q] [] pos) (tSortedSet K ta) := by
  subst hK
  refine ⟨fun pins s σ H Q I h => ?_⟩
  refine Call_ (ld_blt I hg hm boot_sorted ?_)
  refine PyProof.Rows.callWith_builtin1 (PyProof.Rows.args_cons ?_ rfl) rfl rfl
  refine Call_ (ld_blt I hg2 hm2 boot_set ?_)
  refine PyProof.Rows.callWith_type1 (PyProof.Rows.args_cons (thn (ha.run pins s σ H _ I h) fun v s1 ⟨x, H1, I1, r1, q1⟩ => PyProof.Rows.args_nil ?_) na) na rfl
  obtain ⟨l, xs, rfl, hq, h1, q1⟩ := q1
  cases r1
  obtain ⟨its, r, pl, hz⟩ := I1.list hq
  refine set_of_texts (I1.ok.hd hc) pl.isList (by simpa using strsAre_of r) h1 fun h' tk hS hk => ?_
  refine PyProof.Rows.args_nil ?_
  have I2 : Inv X pins σ H1 { s1 with heap := h', toks := tk } := I1.kept fun b o e => hk b o e
  refine sorted_of_texts hS (I2.ok.hd hc) fun s' p out c zs k g o hp hg so ord nd hm hl => ?_
  have hlen : (zs.map V.str).length ≤ sizeLine := by rw [List.length_map]; exact hl
  have hn : H1 p = none := I2.hok.fresh hp
  have J : Inv X pins σ (upd H1 p (.lst (zs.map V.str))) { ({ s1 with heap := h', toks := tk } : Shared) with heap := s'.heap, gens := s'.gens, drawn := s'.drawn, toks := s'.toks } :=
    I2.call (ch := []) (Un.laid k hp hn) (I2.hok.laid k hp ⟨hlen, out.toList, c, vals_of_strs so, hg⟩) (by rw [g]; exact I2.bare) (fun _ z => nomatch z)
  have e : s' = { ({ s1 with heap := h', toks := tk } : Shared) with heap := s'.heap, gens := s'.gens, drawn := s'.drawn, toks := s'.toks } := by
    cases s'
    cases s1
    cases o
    rfl
  rw [e]
  exact ⟨.ref p, _, J, rfl, q1 zs p ord nd hm hn⟩
end
end Tw

set_option Elab.async false
set_option linter.all false
set_option maxRecDepth 100000
namespace Tw
open PySem L2 PySem.Spec
/-- the address that a name of the text stands for -/
def cadr (mg : Str → Option Value) (x : Str) : Addr := match mg x with
  | some (.ref a) => a
  | _ => 0
theorem cadr_of {mg : Str → Option Value} {x : Str} {a : Addr} (h : mg x = some (.ref a)) : cadr mg x = a := by
  unfold cadr
  rw [h]
/-- a method of a class of the text with its promise -/
structure DefM (P : Program) (w : World) (K : PySem.W.Frag) (mg : Str → Option Value) (base : Heap) (k : Nat) (C : Addr) (m : Str) (ps : List Str) (sp : Sp) : Prop where
  ex : ∃ (f : Addr) (fd : FuncData), FnOk P w K mg base CX0 k f fd ps sp ∧ Meth K C m f ∧ Binds K fd ps []
/-- where a method of the text stands -/
structure HereM (K : PySem.W.Frag) (C : Addr) (m qual : Str) (st : Stmt) (ps : List Str) (f : Addr) (fd : FuncData) : Prop where
  fn : Fun K m qual st f fd
  me : Meth K C m f
  bd : Binds K fd ps []
/-- a maker of a class of the text with its promise -/
structure DefC (P : Program) (w : World) (K : PySem.W.Frag) (mg : Str → Option Value) (base : Heap) (k : Nat) (C : Addr) (ps : List Str) (sp : Sp) : Prop where
  ex : ∃ (f : Addr) (fd : FuncData), FnOk P w K mg base CX0 k f fd ps sp ∧ Mk K C f ∧ Binds K fd ps []
structure HereC (K : PySem.W.Frag) (C : Addr) (qual : Str) (st : Stmt) (ps : List Str) (f : Addr) (fd : FuncData) : Prop where
  fn : Fun K "__init__" qual st f fd
  mkr : Mk K C f
  bd : Binds K fd ps []
theorem HereM.def {P : Program} {w : World} {K : PySem.W.Frag} {mg : Str → Option Value} {base : Heap} {k : Nat} {C : Addr} {m qual : Str} {st : Stmt} {ps : List Str} {sp : Sp} {f : Addr} {fd : FuncData} (h : HereM K C m qual st ps f fd) (F : FnOk P w K mg base CX0 k f fd ps sp) : DefM P w K mg base k C m ps sp :=
  ⟨f, fd, F, h.me, h.bd⟩
theorem HereC.def {P : Program} {w : World} {K : PySem.W.Frag} {mg : Str → Option Value} {base : Heap} {k : Nat} {C : Addr} {qual : Str} {st : Stmt} {ps : List Str} {sp : Sp} {f : Addr} {fd : FuncData} (h : HereC K C qual st ps f fd) (F : FnOk P w K mg base CX0 k f fd ps sp) : DefC P w K mg base k C ps sp :=
  ⟨f, fd, F, h.mkr, h.bd⟩
section
variable {X : Cx} {k j : Nat} {C : Addr} {x m : Str} {p pos apos : Pos} {o e : Expr} {es : List Expr} {ps : List Str} {sp : Sp} {ta : TE} {t : TA}
def tMe (C : Addr) (m : Str) (sp : Sp) (ta : TE) (t : TA) : TE := fun σ H Q => ta σ H fun x H1 => ∃ a dx fs, x = .ref a ∧ H1 a = some (.ins C dx fs) ∧ fs.lookup m = none ∧ t σ H1 fun vs H2 => sp (x :: vs) H2 Q E0
theorem tMe_eq : tMeth C m sp [] E0 ta t = tMe C m sp ta t := by
  funext σ H Q
  unfold tMeth tMe
  simp only [List.append_nil]
def tNew (C : Addr) (sp : Sp) (t : TA) : TE := fun σ H Q => t σ H fun vs H1 => ∀ x dx, H1 x = none → H1 dx = none → dx ≠ x → sp (.ref x :: vs) (upd (upd H1 dx (.own x)) x (.ins C dx [])) (fun v H2 => v = .non ∧ Q (.ref x) H2) E0
theorem tNew_eq : tMake C sp [] E0 t = tNew C sp t := by
  funext σ H Q
  unfold tMake tNew
  simp only [List.append_nil]
theorem pe_never : PE X e (fun _ _ _ => False) := ⟨fun _ _ _ _ _ _ h => h.elim⟩
theorem pe_fldG {K : PySem.W.Frag} {f : Str} (hK : X.K = K) (he : PE X e ta) (hb : attributeBase e f X.env (eval e X.env) = eval e X.env) : PE X (.Attribute e f pos) (tFld K ta f) := by
  subst hK
  exact pe_fld he hb
theorem pi_tupG {K : PySem.W.Frag} {tg : Expr} (hK : X.K = K) (he : PE X e ta) : PI X tg e (iTup K ta) := by
  subst hK
  exact pi_tup he
theorem pi_listG {K : PySem.W.Frag} {tg : Expr} (hK : X.K = K) (he : PE X e ta) : PI X tg e (iList K ta) := by
  subst hK
  exact pi_list he
theorem pe_me {pl : Sem Bool} (he : PE X o ta) (c : Cls X.K C) (D : DefM X.prog X.w X.K X.mg X.base k C m ps sp) (hr : Room j X.A) (ha : PA X (e :: es) t) (hk : k ≤ j := by decide)
    (hst : starEach (e :: es) X.env = (false, eval e X.env) :: starEach es X.env := by rfl) (hpl : (backTo pos (starEach es X.env)).any (·.1) = false := by rfl)
    (ht : eval (.Call (.Attribute o m apos) (e :: es) [] pos) X.env = (do
      let ov ← eval o X.env
      standAt apos.atName
      let (f, first) ← holding [ov] (getMethod ov m pl)
      callWith pos f first (backTo pos (starEach (e :: es) X.env)) (backToKw pos (keywordEach [] X.env))) := by rfl) : PE X (.Call (.Attribute o m apos) (e :: es) [] pos) (tMe C m sp ta t) := by
  obtain ⟨f, fd, F, hm, hb⟩ := D.ex
  rw [← tMe_eq]
  exact pe_meth he c hm F (hr.mono hk) hb .nil pass0 ha hst hpl ht
theorem pe_me0 {pl : Sem Bool} (he : PE X o ta) (c : Cls X.K C) (D : DefM X.prog X.w X.K X.mg X.base k C m ps sp) (hr : Room j X.A) (hk : k ≤ j := by decide)
    (ht : eval (.Call (.Attribute o m apos) [] [] pos) X.env = (do
      let ov ← eval o X.env
      standAt apos.atName
      let (f, first) ← holding [ov] (getMethod ov m pl)
      callWith pos f first (backTo pos (starEach [] X.env)) (backToKw pos (keywordEach [] X.env))) := by rfl) : PE X (.Call (.Attribute o m apos) [] [] pos) (tMe C m sp ta tNil) := by
  obtain ⟨f, fd, F, hm, hb⟩ := D.ex
  rw [← tMe_eq]
  exact pe_meth0 he c hm F (hr.mono hk) hb .nil pass0 ht
theorem pe_new (D : DefC X.prog X.w X.K X.mg X.base k C ps sp) (hr : Room j X.A) (hg : Gl X x) (hm : X.mg x = some (.ref C)) (ha : PA X (e :: es) t) (hk : k + 1 ≤ j := by decide) (hdb : (x == ("__debug__" : Str)) = false := by decide)
    (he : starEach (e :: es) X.env = (false, eval e X.env) :: starEach es X.env := by rfl) (hpl : (backTo pos (starEach es X.env)).any (·.1) = false := by rfl) : PE X (.Call (.Name x p) (e :: es) [] pos) (tNew C sp t) := by
  obtain ⟨f, fd, F, mk, hb⟩ := D.ex
  rw [← tNew_eq]
  exact pe_make mk F (hr.mono hk) hg hm hb .nil pass0 ha hdb he hpl
end
section
variable {K : PySem.W.Frag} {σ : L2.St} {H : Hp} {Q : VK} {QT : Bool → Hp → Prop} {QA : List V → Hp → Prop} {D : Ends} {ta tv te : TE} {t : TA} {sp : Sp} {C : Addr} {f m : Str}
theorem g_sortedSet (q : ta σ H fun x H1 => ∃ (l : Addr) (xs : List Str), x = .ref l ∧ SqL K H1 l (xs.map V.str) ∧ xs.length + 1 < scanBound ∧
  ∀ (zs : List Str) (p : Addr), PyProof.Rows.sortedS zs = true → zs.Nodup → (∀ k, k ∈ zs ↔ k ∈ xs) → H1 p = none → Q (.ref p) (upd H1 p (.lst (zs.map V.str)))) : tSortedSet K ta σ H Q := q
theorem g_dget {td ty : TE} (q : td σ H fun x H1 => ty σ H1 fun y H2 => ∃ a v, x = .ref a ∧ DGet H2 a y (some v) ∧ Q v H2) : tDGet td ty σ H Q := q
theorem g_din {td ty : TE} (q : ty σ H fun y H1 => td σ H1 fun x H2 => ∃ a o, x = .ref a ∧ DGet H2 a y o ∧ Q (.bl o.isSome) H2) : tDIn ty td σ H Q := q
theorem g_dnotin {td ty : TE} (q : ty σ H fun y H1 => td σ H1 fun x H2 => ∃ a o, x = .ref a ∧ DGet H2 a y o ∧ Q (.bl (!o.isSome)) H2) : tDNotIn ty td σ H Q := q
theorem g_neB {a b : Bool} (q : Q (.bl (!decide (a = b))) H) : rNe (.bl a) (.bl b) H Q := ⟨rfl, by rw [dB]; exact q⟩
theorem g_itup {R : It → Hp → Prop} (q : ta σ H fun x H1 => ∃ a, x = .ref a ∧ (∃ xs, SqT K H1 a xs) ∧ R (Itt K a) H1) : iTup K ta σ H R := q
theorem for_tupA {p : Addr} {xs : List V} {g : TG} {tb : TS} (Pv : Nat → L2.St → Hp → Prop) (h0 : Pv 0 σ H) (hl : ∀ i σ H, i ≤ xs.length → Pv i σ H → SqT K H p xs)
    (hs : ∀ i x σ H (D' : Ends), xs[i]? = some x → Pv i σ H → (∀ σ H, Pv (i + 1) σ H → D'.nx σ H) → (∀ σ H, Pv (i + 1) σ H → D'.ct σ H) → (∀ σ H, D.nx σ H → D'.bk σ H) → D'.rt = D.rt → g x σ H fun σ2 H2 => tb D' σ2 H2) (hd : ∀ σ H, Pv xs.length σ H → D.nx σ H) :
    ∃ W : Nat → Nat → L2.St → Hp → Prop, (∃ m, W 0 m σ H) ∧ ∀ i m σ H, W i m σ H →
      ((Itt K p).stop i H ∧ D.nx σ H) ∨ ((Itt K p).go i H ∧ ∃ N : L2.St → Hp → Prop, (∀ σ' H', N σ' H' → ∃ m', m' < m ∧ W (i + 1) m' σ' H') ∧ ∀ x H', (Itt K p).yld i H x H' → g x σ H' fun σ2 H2 => tb { D with nx := N, ct := N, bk := D.nx } σ2 H2) :=
  for_tup Pv h0 hl (fun i x σ H hi p => hs i x σ H _ hi p (fun _ _ h => h) (fun _ _ h => h) (fun _ _ h => h) rfl) hd
theorem g_me (q : ta σ H fun x H1 => ∃ a dx fs, x = .ref a ∧ H1 a = some (.ins C dx fs) ∧ fs.lookup m = none ∧ t σ H1 fun vs H2 => sp (x :: vs) H2 Q E0) : tMe C m sp ta t σ H Q := q
theorem g_new (q : t σ H fun vs H1 => ∀ x dx, H1 x = none → H1 dx = none → dx ≠ x → sp (.ref x :: vs) (upd (upd H1 dx (.own x)) x (.ins C dx [])) (fun v H2 => v = .non ∧ Q (.ref x) H2) E0) : tNew C sp t σ H Q := q
theorem g_fld (q : ta σ H fun x H1 => ∃ a C dx fs v, x = .ref a ∧ H1 a = some (.ins C dx fs) ∧ Cls K C ∧ NoAttr K C f ∧ fs.lookup f = some v ∧ Q v H1) : tFld K ta f σ H Q := q
theorem g_sfld (q : tv σ H fun y H1 => ta σ H1 fun x H2 => ∃ a C dx fs, x = .ref a ∧ H2 a = some (.ins C dx fs) ∧ Cls K C ∧ NoAttr K C f ∧ fs.length < 1000 ∧ D.nx σ (upd H2 a (.ins C dx (putF f y fs)))) : sFld K ta tv f D σ H := q
end
end Tw


set_option Elab.async false
set_option linter.all false
set_option maxRecDepth 100000
set_option maxHeartbeats 4000000
namespace L
open PySem L2 Tw
local macro_rules | `(tactic| walk_at "hp") => `(tactic| first
  | assumption
  | exact upd_same
  | (refine Eq.trans (upd_ne ?hn) ?hr; (case hn => first | assumption | exact Ne.symm (by assumption)); (case hr => walk_at "hp")))
local macro_rules | `(tactic| walk_at "g1") => `(tactic| first
  | with_reducible refine g_nx ?_
  | with_reducible refine g_rt ?_
  | with_reducible refine g_seq ?_
  | with_reducible refine g_ret ?_
  | with_reducible refine g_if ?_
  | with_reducible refine g_asg ?_
  | with_reducible refine g_drop ?_
  | with_reducible refine g_asgSub ?_
  | with_reducible refine g_next ?_
  | with_reducible refine g_op ?_
  | ((with_reducible refine g_var0 ?_); refine ⟨_, rfl, ?_⟩)
  | with_reducible refine g_c ?_
  | with_reducible refine g_cons ?_
  | with_reducible refine g_nil ?_
  | with_reducible refine g_def ?_
  | with_reducible refine g_cb ?_
  | with_reducible refine g_test ?_
  | with_reducible refine g_B ?_
  | with_reducible refine g_bl ?_
  | with_reducible refine g_sl ?_
  | with_reducible refine g_name ?_
  | with_reducible refine g_lc ?_
  | with_reducible refine g_rng1 ?_
  | with_reducible refine g_for ?_
  | with_reducible refine g_yes ?_
  | with_reducible refine g_ilist ?_
  | ((with_reducible refine g_m1 ?_))
  | with_reducible refine g_m0 ?_
  | with_reducible refine g_noPart ?_
  | with_reducible refine g_part ?_
  | with_reducible refine g_int ?_
  | with_reducible refine g_tand ?_
  | with_reducible refine g_tor ?_
  | with_reducible refine g_tnot ?_
  | with_reducible refine g_vand ?_
  | with_reducible refine g_vor ?_
  | with_reducible refine g_vnot ?_
  | with_reducible refine g_eif ?_
  | with_reducible refine g_un ?_
  | with_reducible refine g_addI ?_
  | with_reducible refine g_subI ?_
  | with_reducible refine g_negI ?_
  | with_reducible refine g_ltI ?_
  | with_reducible refine g_ltS ?_
  | with_reducible refine g_leI ?_
  | with_reducible refine g_geS ?_
  | with_reducible refine g_inS ?_
  | with_reducible refine g_notInS ?_
  | with_reducible refine g_max2 ?_
  | with_reducible refine g_isiR (by assumption) (by decide) ?_
  | with_reducible refine g_isBl_tt ?_
  | with_reducible refine g_notBl_tt ?_
  | with_reducible refine g_isBl_tf ?_
  | with_reducible refine g_notBl_tf ?_
  | with_reducible refine g_isBl_ft ?_
  | with_reducible refine g_notBl_ft ?_
  | with_reducible refine g_isBl_ff ?_
  | with_reducible refine g_notBl_ff ?_
  | with_reducible refine g_isBl ?_
  | with_reducible refine g_notBl ?_
  | with_reducible refine g_istr ?_
  | with_reducible refine g_str1 ?_
  | with_reducible refine g_strE ?_
  | with_reducible refine g_gtI ?_
  | with_reducible refine g_geI ?_
  | with_reducible refine g_isN_non ?_
  | with_reducible refine g_isN_int ?_
  | with_reducible refine g_isN_str ?_
  | with_reducible refine g_isN_bl ?_
  | with_reducible refine g_isN_ref ?_
  | with_reducible refine g_notN_non ?_
  | with_reducible refine g_notN_int ?_
  | with_reducible refine g_notN_str ?_
  | with_reducible refine g_notN_bl ?_
  | with_reducible refine g_notN_ref ?_
  | with_reducible refine g_isN ?_
  | with_reducible refine g_notN ?_
  | with_reducible refine g_isiI kb_ii ?_
  | with_reducible refine g_isiI kb_is ?_
  | with_reducible refine g_isiI kb_ib ?_
  | with_reducible refine g_isiS kb_si ?_
  | with_reducible refine g_isiS kb_ss ?_
  | with_reducible refine g_isiS kb_sb ?_
  | with_reducible refine g_isiB kb_bi ?_
  | with_reducible refine g_isiB kb_bs ?_
  | with_reducible refine g_isiB kb_bb ?_
  | with_reducible refine g_isiN kb_ni ?_
  | with_reducible refine g_isiN kb_ns ?_
  | with_reducible refine g_isiN kb_nb ?_
  | with_reducible refine g_eqI ?_
  | with_reducible refine g_eqS ?_
  | with_reducible refine g_eqB ?_
  | with_reducible refine g_neI ?_
  | with_reducible refine g_neS ?_
  | with_reducible refine g_int1 ?_
  | with_reducible refine g_int1B ?_
  | with_reducible refine g_bool1B ?_
  | with_reducible refine g_bool1I ?_
  | ((with_reducible refine g_modI ?gm ?_); (case gm => first | assumption | decide | omega))
  | ((with_reducible refine g_mulI ?gm ?_); (case gm => first | exact Or.inl ⟨by decide, by decide⟩ | exact Or.inr ⟨by decide, by decide⟩ | (unfold CMul; omega)))
  | with_reducible refine g_tup ?_
  | with_reducible refine g_lst ?_
  | with_reducible refine g_bm ?_
  | ((with_reducible refine g_tyL ?_); refine ⟨⟨_, by walk_at "hp"⟩, ?_⟩)
  | (with_reducible refine g_app (by walk_at "hp") (by first | assumption | (simp only [List.length_map, List.length_append, List.length_cons, List.length_nil]; omega) | omega) ?_)
  | ((with_reducible refine g_ixL0 ?_); (refine' ⟨_, _, ?ga, ?gb, ?_⟩; (case ga => walk_at "hp"); (case gb => exact rfl)))
  | ((with_reducible refine g_ixL0 ?_); (refine' ⟨_, _, ?ga, atI_map ?gb, ?_⟩; (case ga => walk_at "hp"); (case gb => omega)))
  | ((with_reducible refine g_powI ?gm ?_); (case gm => first | exact ⟨by decide, by decide +kernel⟩ | exact cpow_small (by decide) (by decide) (by omega) (by omega)))
  | ((with_reducible refine g_fdI ?gm ?_); (case gm => first | exact ⟨by assumption, by assumption⟩ | exact ⟨by decide, by decide +kernel⟩))
  | ((with_reducible refine g_lenL0 ?_); (refine' ⟨_, ?ga, ?_⟩; (case ga => walk_at "hp")))
  | ((with_reducible refine g_setL0 ?_); (refine' ⟨_, _, ?ga, ?gb, ?_⟩; (case ga => walk_at "hp"); (case gb => exact rfl)))
  | with_reducible refine g_itup ?_
  | with_reducible refine g_lc2 ?_
  | with_reducible refine g_sortedSet ?_
  | with_reducible refine g_dget ?_
  | with_reducible refine g_din ?_
  | with_reducible refine g_dnotin ?_
  | with_reducible refine g_neB ?_
  | with_reducible refine g_me ?_
  | with_reducible refine g_new ?_
  | with_reducible refine g_sfld ?_
  | with_reducible refine g_fld ?_
  | with_reducible refine g_T ?_
  | with_reducible refine g_F ?_
  | with_reducible refine g_Tn ?_
  | with_reducible refine g_Fn ?_
  | with_reducible refine g_bk ?_
  | with_reducible refine g_ct ?_
  | with_reducible refine g_ctS ?_
  | with_reducible refine g_bkS ?_)
local macro_rules | `(tactic| walk_at "g") => `(tactic| repeat walk_at "g1")
local macro_rules | `(tactic| walk_at "G") => `(tactic| (walk_at "g"; try ((first | with_reducible refine g_dec (fun _ => ?_) (fun _ => ?_) | with_reducible refine g_ndec (fun _ => ?_) (fun _ => ?_)) <;> walk_at "G")))
def C_SIGNS : Str := Str.ofString " !\"#$&'()*+,-./0123456789:;<=>?@ABCDEFGHIJKLMNOPQRSTUVWXYZ[\\]^_`abcdefghijklmnopqrstuvwxyz{|}~"
def C_LETTERS : Str := Str.ofString "abcdefghijklmnopqrstuvwxyz"
def C_WORDS : List V := [.str "and", .str "or", .str "not", .str "sure", .str "in", .str "is", .str "empty", .str "begins", .str "always", .str "never"]
def C_NAME_SIGNS : Str := Str.ofString "abcdefghijklmnopqrstuvwxyz0123456789"
def top (i : Nat) : Stmt := PySem.Challenge.pw_tworows_k02_begins_is_a_range.main.body.getD i (.Pass ⟨0, 0, 0, 0⟩)
abbrev S_is_text : Stmt := top 8
abbrev N_is_text : List Str := ["thing", "sign"]
theorem sc_is_text : FnScope N_is_text ["thing"] (defScope S_is_text) := ⟨rfl, rfl, rfl, by decide +kernel, rfl, by decide +kernel, by decide +kernel⟩
abbrev S_is_name : Stmt := top 9
abbrev N_is_name : List Str := ["thing", "sign"]
theorem sc_is_name : FnScope N_is_name ["thing"] (defScope S_is_name) := ⟨rfl, rfl, rfl, by decide +kernel, rfl, by decide +kernel, by decide +kernel⟩
abbrev S_up : Stmt := top 10
abbrev N_up : List Str := ["text", "kept", "at"]
theorem sc_up : FnScope N_up ["text"] (defScope S_up) := ⟨rfl, rfl, rfl, by decide +kernel, rfl, by decide +kernel, by decide +kernel⟩
abbrev S_Test_init : Stmt := inClass (top 18) 0
abbrev N_Test_init : List Str := ["self", "word", "inner", "fields", "terms"]
theorem sc_Test_init : FnScope N_Test_init ["self", "word", "inner", "fields", "terms"] (defScope S_Test_init) := ⟨rfl, rfl, rfl, by decide +kernel, rfl, by decide +kernel, by decide +kernel⟩
abbrev S_Test_atoms : Stmt := inClass (top 18) 3
abbrev N_Test_atoms : List Str := ["self", "part", "atom"]
theorem sc_Test_atoms : FnScope N_Test_atoms ["self"] (defScope S_Test_atoms) := ⟨rfl, rfl, rfl, by decide +kernel, rfl, by decide +kernel, by decide +kernel⟩
abbrev S_Test_names : Stmt := inClass (top 18) 4
abbrev N_Test_names : List Str := ["self", "names", "atom", "name"]
theorem sc_Test_names : FnScope N_Test_names ["self"] (defScope S_Test_names) := ⟨rfl, rfl, rfl, by decide +kernel, rfl, by decide +kernel, by decide +kernel⟩
abbrev S_Test_truth : Stmt := inClass (top 18) 7
abbrev N_Test_truth : List Str := ["self", "row", "name"]
theorem sc_Test_truth : FnScope N_Test_truth ["self", "row"] (defScope S_Test_truth) := ⟨rfl, rfl, rfl, by decide +kernel, rfl, by decide +kernel, by decide +kernel⟩
abbrev S_size_of : Stmt := top 19
abbrev N_size_of : List Str := ["inner", "part"]
theorem sc_size_of : FnScope N_size_of ["inner"] (defScope S_size_of) := ⟨rfl, rfl, rfl, by decide +kernel, rfl, by decide +kernel, by decide +kernel⟩
abbrev S_depth_of : Stmt := top 20
abbrev N_depth_of : List Str := ["inner", "depth", "part"]
theorem sc_depth_of : FnScope N_depth_of ["inner"] (defScope S_depth_of) := ⟨rfl, rfl, rfl, by decide +kernel, rfl, by decide +kernel, by decide +kernel⟩
abbrev S_need_column : Stmt := top 22
abbrev N_need_column : List Str := ["thing"]
theorem sc_need_column : FnScope N_need_column ["thing"] (defScope S_need_column) := ⟨rfl, rfl, rfl, by decide +kernel, rfl, by decide +kernel, by decide +kernel⟩
abbrev S_begins : Stmt := top 23
abbrev N_begins : List Str := ["column", "prefix"]
theorem sc_begins : FnScope N_begins ["column", "prefix"] (defScope S_begins) := ⟨rfl, rfl, rfl, by decide +kernel, rfl, by decide +kernel, by decide +kernel⟩
abbrev S_and_truth : Stmt := top 24
abbrev N_and_truth : List Str := ["one", "other"]
theorem sc_and_truth : FnScope N_and_truth ["one", "other"] (defScope S_and_truth) := ⟨rfl, rfl, rfl, by decide +kernel, rfl, by decide +kernel, by decide +kernel⟩
abbrev S_or_truth : Stmt := top 25
abbrev N_or_truth : List Str := ["one", "other"]
theorem sc_or_truth : FnScope N_or_truth ["one", "other"] (defScope S_or_truth) := ⟨rfl, rfl, rfl, by decide +kernel, rfl, by decide +kernel, by decide +kernel⟩
abbrev S_not_truth : Stmt := top 26
abbrev N_not_truth : List Str := ["one"]
theorem sc_not_truth : FnScope N_not_truth ["one"] (defScope S_not_truth) := ⟨rfl, rfl, rfl, by decide +kernel, rfl, by decide +kernel, by decide +kernel⟩
abbrev S_combined_truth : Stmt := top 27
abbrev N_combined_truth : List Str := ["word", "truths"]
theorem sc_combined_truth : FnScope N_combined_truth ["word", "truths"] (defScope S_combined_truth) := ⟨rfl, rfl, rfl, by decide +kernel, rfl, by decide +kernel, by decide +kernel⟩
abbrev S_truth_at : Stmt := top 28
abbrev N_truth_at : List Str := ["test", "row", "part"]
theorem sc_truth_at : FnScope N_truth_at ["test", "row"] (defScope S_truth_at) := ⟨rfl, rfl, rfl, by decide +kernel, rfl, by decide +kernel, by decide +kernel⟩
abbrev S_atom_truth : Stmt := top 29
abbrev N_atom_truth : List Str := ["atom", "row", "held", "value", "name"]
theorem sc_atom_truth : FnScope N_atom_truth ["atom", "row"] (defScope S_atom_truth) := ⟨rfl, rfl, rfl, by decide +kernel, rfl, by decide +kernel, by decide +kernel⟩
abbrev S_values_truth : Stmt := top 30
abbrev N_values_truth : List Str := ["atom", "held"]
theorem sc_values_truth : FnScope N_values_truth ["atom", "held"] (defScope S_values_truth) := ⟨rfl, rfl, rfl, by decide +kernel, rfl, by decide +kernel, by decide +kernel⟩
abbrev S_moved : Stmt := top 31
abbrev N_moved : List Str := ["value", "more"]
theorem sc_moved : FnScope N_moved ["value", "more"] (defScope S_moved) := ⟨rfl, rfl, rfl, by decide +kernel, rfl, by decide +kernel, by decide +kernel⟩
abbrev S_related : Stmt := top 32
abbrev N_related : List Str := ["one", "op", "other"]
theorem sc_related : FnScope N_related ["one", "op", "other"] (defScope S_related) := ⟨rfl, rfl, rfl, by decide +kernel, rfl, by decide +kernel, by decide +kernel⟩
abbrev S__law_begin : Stmt := top 40
abbrev N__law_begin : List Str := ["_law_script"]
theorem sc__law_begin : FnScope N__law_begin ["_law_script"] (defScope S__law_begin) := ⟨rfl, rfl, rfl, by decide +kernel, rfl, by decide +kernel, by decide +kernel⟩
abbrev S__law_take : Stmt := top 41
abbrev N__law_take : List Str := ["_law_draw", "_law_many", "_law_cell", "_law_digit", "_law_mixed"]
theorem sc__law_take : FnScope N__law_take ["_law_draw", "_law_many"] (defScope S__law_take) := ⟨rfl, rfl, rfl, by decide +kernel, rfl, by decide +kernel, by decide +kernel⟩
abbrev S__law_chars : Stmt := top 42
abbrev N__law_chars : List Str := ["_law_chars_here"]
theorem sc__law_chars : FnScope N__law_chars [] (defScope S__law_chars) := ⟨rfl, rfl, rfl, by decide +kernel, rfl, by decide +kernel, by decide +kernel⟩
abbrev S__law_is_text : Stmt := top 43
abbrev N__law_is_text : List Str := ["_law_thing", "_law_char"]
theorem sc__law_is_text : FnScope N__law_is_text ["_law_thing"] (defScope S__law_is_text) := ⟨rfl, rfl, rfl, by decide +kernel, rfl, by decide +kernel, by decide +kernel⟩
abbrev S__law_text : Stmt := top 44
abbrev N__law_text : List Str := ["_law_draw", "_law_chars_here", "_law_size", "_law_k"]
theorem sc__law_text : FnScope N__law_text ["_law_draw"] (defScope S__law_text) := ⟨rfl, rfl, rfl, by decide +kernel, rfl, by decide +kernel, by decide +kernel⟩
abbrev S__law_up : Stmt := top 45
abbrev N__law_up : List Str := ["_law_text_here", "_law_chars_here", "_law_end", "_law_k"]
theorem sc__law_up : FnScope N__law_up ["_law_text_here"] (defScope S__law_up) := ⟨rfl, rfl, rfl, by decide +kernel, rfl, by decide +kernel, by decide +kernel⟩
abbrev S__law_name : Stmt := top 46
abbrev N__law_name : List Str := ["_law_draw", "_law_taken", "_law_letters", "_law_signs", "_law_name_here", "_law_k", "_law_kept"]
theorem sc__law_name : FnScope N__law_name ["_law_draw", "_law_taken"] (defScope S__law_name) := ⟨rfl, rfl, rfl, by decide +kernel, rfl, by decide +kernel, by decide +kernel⟩
abbrev S__law_flag : Stmt := top 47
abbrev N__law_flag : List Str := ["_law_thing", "_law_due"]
theorem sc__law_flag : FnScope N__law_flag ["_law_thing", "_law_due"] (defScope S__law_flag) := ⟨rfl, rfl, rfl, by decide +kernel, rfl, by decide +kernel, by decide +kernel⟩
abbrev S__law_candidate : Stmt := top 48
abbrev N__law_candidate : List Str := ["_law_draw", "_law_prefix", "_law_choice", "_law_chars_here", "_law_at"]
theorem sc__law_candidate : FnScope N__law_candidate ["_law_draw", "_law_prefix"] (defScope S__law_candidate) := ⟨rfl, rfl, rfl, by decide +kernel, rfl, by decide +kernel, by decide +kernel⟩
abbrev S_law : Stmt := top 49
abbrev N_law : List Str := ["_law_script", "_law_draw", "_law_prefix", "_law_due", "_law_actual", "_law_name_here", "_law_test", "_law_texts", "_law_text_here", "_law_inside", "_law_k"]
theorem sc_law : FnScope N_law ["_law_script"] (defScope S_law) := ⟨rfl, rfl, rfl, by decide +kernel, rfl, by decide +kernel, by decide +kernel⟩
structure Txt (K : PySem.W.Frag) (mg : Str → Option Value) : Prop where
  h_all : mg "all" = none
  h_isinstance : mg "isinstance" = none
  h_str : mg "str" = none
  h_len : mg "len" = none
  h_sorted : mg "sorted" = none
  h_set : mg "set" = none
  h_dict : mg "dict" = none
  h_sum : mg "sum" = none
  h_list : mg "list" = none
  h_int : mg "int" = none
  h_range : mg "range" = none
  h_bool : mg "bool" = none
  h_max : mg "max" = none
  d_is_text : ∃ f fd, Here K mg "is_text" S_is_text ["thing"] f fd
  d_is_name : ∃ f fd, Here K mg "is_name" S_is_name ["thing"] f fd
  d_up : ∃ f fd, Here K mg "up" S_up ["text"] f fd
  d_Test_init : ∃ f fd, HereC K (cadr mg "Test") "Test.__init__" S_Test_init ["self", "word", "inner", "fields", "terms"] f fd
  d_Test_atoms : ∃ f fd, HereM K (cadr mg "Test") "atoms" "Test.atoms" S_Test_atoms ["self"] f fd
  d_Test_names : ∃ f fd, HereM K (cadr mg "Test") "names" "Test.names" S_Test_names ["self"] f fd
  d_Test_truth : ∃ f fd, HereM K (cadr mg "Test") "truth" "Test.truth" S_Test_truth ["self", "row"] f fd
  d_size_of : ∃ f fd, Here K mg "size_of" S_size_of ["inner"] f fd
  d_depth_of : ∃ f fd, Here K mg "depth_of" S_depth_of ["inner"] f fd
  d_need_column : ∃ f fd, Here K mg "need_column" S_need_column ["thing"] f fd
  d_begins : ∃ f fd, Here K mg "begins" S_begins ["column", "prefix"] f fd
  d_and_truth : ∃ f fd, Here K mg "and_truth" S_and_truth ["one", "other"] f fd
  d_or_truth : ∃ f fd, Here K mg "or_truth" S_or_truth ["one", "other"] f fd
  d_not_truth : ∃ f fd, Here K mg "not_truth" S_not_truth ["one"] f fd
  d_combined_truth : ∃ f fd, Here K mg "combined_truth" S_combined_truth ["word", "truths"] f fd
  d_truth_at : ∃ f fd, Here K mg "truth_at" S_truth_at ["test", "row"] f fd
  d_atom_truth : ∃ f fd, Here K mg "atom_truth" S_atom_truth ["atom", "row"] f fd
  d_values_truth : ∃ f fd, Here K mg "values_truth" S_values_truth ["atom", "held"] f fd
  d_moved : ∃ f fd, Here K mg "moved" S_moved ["value", "more"] f fd
  d_related : ∃ f fd, Here K mg "related" S_related ["one", "op", "other"] f fd
  d__law_begin : ∃ f fd, Here K mg "_law_begin" S__law_begin ["_law_script"] f fd
  d__law_take : ∃ f fd, Here K mg "_law_take" S__law_take ["_law_draw", "_law_many"] f fd
  d__law_chars : ∃ f fd, Here K mg "_law_chars" S__law_chars [] f fd
  d__law_is_text : ∃ f fd, Here K mg "_law_is_text" S__law_is_text ["_law_thing"] f fd
  d__law_text : ∃ f fd, Here K mg "_law_text" S__law_text ["_law_draw"] f fd
  d__law_up : ∃ f fd, Here K mg "_law_up" S__law_up ["_law_text_here"] f fd
  d__law_name : ∃ f fd, Here K mg "_law_name" S__law_name ["_law_draw", "_law_taken"] f fd
  d__law_flag : ∃ f fd, Here K mg "_law_flag" S__law_flag ["_law_thing", "_law_due"] f fd
  d__law_candidate : ∃ f fd, Here K mg "_law_candidate" S__law_candidate ["_law_draw", "_law_prefix"] f fd
  e_Test : mg "Test" = some (.ref (cadr mg "Test"))
  cl_Test : Cls K (cadr mg "Test")
  n_Test_word : NoAttr K (cadr mg "Test") "word"
  n_Test_inner : NoAttr K (cadr mg "Test") "inner"
  n_Test_fields : NoAttr K (cadr mg "Test") "fields"
  n_Test_terms : NoAttr K (cadr mg "Test") "terms"
  n_Test_size : NoAttr K (cadr mg "Test") "size"
  n_Test_depth : NoAttr K (cadr mg "Test") "depth"
  k_SIGNS : ∃ t, mg "SIGNS" = some (.str C_SIGNS t)
  k_LONGEST_NAME : ∃ t, mg "LONGEST_NAME" = some (.int 8 t)
  k_LETTERS : ∃ t, mg "LETTERS" = some (.str C_LETTERS t)
  k_WORDS : ∃ a, mg "WORDS" = some (.ref a) ∧ ∀ H : Hp, SqT K H a C_WORDS
  k_NAME_SIGNS : ∃ t, mg "NAME_SIGNS" = some (.str C_NAME_SIGNS t)
def signs : Str := Str.ofString " !\"#$&'()*+,-./0123456789:;<=>?@ABCDEFGHIJKLMNOPQRSTUVWXYZ[\\]^_`abcdefghijklmnopqrstuvwxyz{|}~"
/-! an atomic test -/
/-- what stands in a test, in the order in which it was put there -/
def tf (w : Str) (i f t : Addr) (n d : Int) : List (Str × V) := [("word", .str w), ("inner", .ref i), ("fields", .ref f), ("terms", .ref t), ("size", .int n), ("depth", .int d)]
theorem putF_new : ∀ {l : List (Str × V)} {k : Str} {v : V} (ks : List Str), l.map (·.1) = ks → k ∉ ks → putF k v l = l ++ [(k, v)]
  | [], k, v, _, _, _ => rfl
  | (a, b) :: r, k, v, _, rfl, hk => by
    have h1 : ¬ a = k := fun e => hk (by rw [e]; exact List.mem_cons_self)
    have h2 := putF_new (l := r) (k := k) (v := v) _ rfl (fun e => hk (List.mem_cons_of_mem _ e))
    show (if a = k then (a, v) :: r else (a, b) :: putF k v r) = _
    rw [if_neg h1, h2]
    rfl
theorem lt_put : ∀ {l : List (Str × V)} {k : Str} {v : V} {n : Nat}, l.length < n → (putF k v l).length < n + 1
  | [], k, v, n, h => Nat.succ_lt_succ h
  | (a, b) :: r, k, v, n, h => by
    show (if a = k then (a, v) :: r else (a, b) :: putF k v r).length < n + 1
    split
    · exact Nat.lt_succ_of_lt h
    · cases n with
      | zero => exact absurd h (Nat.not_lt_zero _)
      | succ n => exact Nat.succ_lt_succ (lt_put (Nat.lt_of_succ_lt_succ h))
structure AtomAt (C : Addr) (H : Hp) (p : Addr) (w : Str) (fs : List Str) (ts : List V) : Prop where
  ex : ∃ dx i f t, H p = some (.ins C dx (tf w i f t 1 0)) ∧ H i = some (.tup []) ∧ H f = some (.tup (fs.map V.str)) ∧ H t = some (.tup ts)
theorem AtomAt.keep {C : Addr} {H H' : Hp} {p : Addr} {w : Str} {fs : List Str} {ts : List V} (A : AtomAt C H p w fs ts) (k : ∀ q o, H q = some o → H' q = some o) : AtomAt C H' p w fs ts := by
  obtain ⟨dx, i, f, t, a, b, c, d⟩ := A.ex
  exact ⟨dx, i, f, t, k _ _ a, k _ _ b, k _ _ c, k _ _ d⟩
theorem tf_word {w : Str} {i f t : Addr} {n d : Int} : (tf w i f t n d).lookup ("word" : Str) = some (.str w) := by rfl
theorem tf_inner {w : Str} {i f t : Addr} {n d : Int} : (tf w i f t n d).lookup ("inner" : Str) = some (.ref i) := by rfl
theorem tf_fields {w : Str} {i f t : Addr} {n d : Int} : (tf w i f t n d).lookup ("fields" : Str) = some (.ref f) := by rfl
theorem tf_terms {w : Str} {i f t : Addr} {n d : Int} : (tf w i f t n d).lookup ("terms" : Str) = some (.ref t) := by rfl
theorem tf_size {w : Str} {i f t : Addr} {n d : Int} : (tf w i f t n d).lookup ("size" : Str) = some (.int n) := by rfl
theorem tf_depth {w : Str} {i f t : Addr} {n d : Int} : (tf w i f t n d).lookup ("depth" : Str) = some (.int d) := by rfl
theorem tf_atoms {w : Str} {i f t : Addr} {n d : Int} : (tf w i f t n d).lookup ("atoms" : Str) = none := by rfl
theorem tf_names {w : Str} {i f t : Addr} {n d : Int} : (tf w i f t n d).lookup ("names" : Str) = none := by rfl
theorem tf_truth {w : Str} {i f t : Addr} {n d : Int} : (tf w i f t n d).lookup ("truth" : Str) = none := by rfl
def spInit (C : Addr) : Sp := fun vs H Q _ => ∃ (p dx i f t : Addr) (w : Str), vs = [.ref p, .str w, .ref i, .ref f, .ref t] ∧ H p = some (.ins C dx []) ∧ H i = some (.tup []) ∧
  Q .non (upd H p (.ins C dx (tf w i f t 1 0)))
def spNone (r : Int) : Sp := fun vs H Q _ => ∃ i, vs = [.ref i] ∧ H i = some (.tup []) ∧ Q (.int r) H
theorem upd2 {H : Hp} {p : Addr} {a b : HO} : upd (upd H p a) p b = upd H p b := by
  funext q
  by_cases h : q = p
  · subst h; rw [upd_same, upd_same]
  · rw [upd_ne h, upd_ne h, upd_ne h]
section
variable {P : Program} {w : World} {K : PySem.W.Frag} {mg : Str → Option Value} {base : Heap}
theorem ok_size_of (T : Txt K mg) : Def P w K mg base 1 "size_of" ["inner"] (spNone 1) := by
  obtain ⟨f, fd, h⟩ := T.d_size_of
  refine h.def (Fun.okM h.fn sc_size_of (fun vs H Q E h => ?_) (fun cdv A outer s H vs Q E hr h => ?_))
  · obtain ⟨i, rfl, _⟩ := h
    rfl
  · obtain ⟨i, rfl, hi, k⟩ := h
    refine ⟨_, (pss_cons (ps_if (pt_cmpR op_eq (pe_callB (call_lenG (K := K) rfl) (by rfl) T.h_len (by decide +kernel) (pa_cons (pv 0) pa_nil)) pe_int (nomark _))
  (pss_one (ps_ret pe_int))
  pss_nil)
  (pss_one ps_never)), ?_⟩
    walk_at "g"
    refine g_lenT (SqT.of hi) ?_
    walk_at "g"
    exact k
theorem ok_depth_of (T : Txt K mg) : Def P w K mg base 1 "depth_of" ["inner"] (spNone 0) := by
  obtain ⟨f, fd, h⟩ := T.d_depth_of
  refine h.def (Fun.okM h.fn sc_depth_of (fun vs H Q E h => ?_) (fun cdv A outer s H vs Q E hr h => ?_))
  · obtain ⟨i, rfl, _⟩ := h
    rfl
  · obtain ⟨i, rfl, hi, k⟩ := h
    refine ⟨_, (pss_cons (ps_set (i := 1) sc_depth_of.nd rfl (Or.inl rfl) pe_int)
  (pss_cons (ps_for PassesOwn.never rfl (pi_tupG (K := K) rfl (pv 0)) (pg_name (i := 2) sc_depth_of.nd rfl (Or.inl rfl))
  (pss_one (ps_if (pt_cmpR op_geG (pe_fldG (K := K) rfl (pv 2) rfl) (pv 1) (nomark _))
  (pss_one (ps_set (i := 1) sc_depth_of.nd rfl (Or.inl rfl) (pe_op op_addG (pe_fldG (K := K) rfl (pv 2) rfl) pe_int)))
  pss_nil)))
  (pss_one (ps_ret (pv 1))))), ?_⟩
    walk_at "g"
    refine ⟨i, rfl, ⟨_, SqT.of hi⟩, for_tupA (xs := []) (fun _ σ' H' => H' = H ∧ σ' = (L2.start N_depth_of [V.ref i]).set 1 (some (V.int 0))) ⟨rfl, rfl⟩ (fun _ _ _ _ e => by rw [e.1]; exact SqT.of hi) (fun i x _ _ _ hx => nomatch hx) ?_⟩
    rintro σ' H' ⟨rfl, rfl⟩
    walk_at "g"
    exact k
theorem ok_Test_init (T : Txt K mg) : DefC P w K mg base 2 (cadr mg "Test") ["self", "word", "inner", "fields", "terms"] (spInit (cadr mg "Test")) := by
  obtain ⟨f, fd, h⟩ := T.d_Test_init
  refine h.def (Fun.okM h.fn sc_Test_init (fun vs H Q E h => ?_) (fun cdv A outer s H vs Q E hr h => ?_))
  · obtain ⟨p, dx, i, f, t, w, rfl, _⟩ := h
    rfl
  · obtain ⟨p, dx, i, f, t, w, rfl, hp, hi, k⟩ := h
    refine ⟨_, (pss_cons (ps_fld (pv 0) (pv 1) rfl)
  (pss_cons (ps_fld (pv 0) (pv 2) rfl)
  (pss_cons (ps_fld (pv 0) (pv 3) rfl)
  (pss_cons (ps_fld (pv 0) (pv 4) rfl)
  (pss_cons (ps_fld (pv 0) (pe_def (ok_size_of T) hr rfl (pa_cons (pv 2) pa_nil)) rfl)
  (pss_one (ps_fld (pv 0) (pe_def (ok_depth_of T) hr rfl (pa_cons (pv 2) pa_nil)) rfl))))))), ?_⟩
    walk_at "g"
    refine ⟨p, _, dx, _, rfl, hp, T.cl_Test, T.n_Test_word, (by repeat (first | (with_reducible refine lt_put ?_) | decide)), ?_⟩
    walk_at "g"
    refine ⟨p, _, dx, _, rfl, upd_same, T.cl_Test, T.n_Test_inner, (by repeat (first | (with_reducible refine lt_put ?_) | decide)), ?_⟩
    rw [upd2]
    walk_at "g"
    refine ⟨p, _, dx, _, rfl, upd_same, T.cl_Test, T.n_Test_fields, (by repeat (first | (with_reducible refine lt_put ?_) | decide)), ?_⟩
    rw [upd2]
    walk_at "g"
    refine ⟨p, _, dx, _, rfl, upd_same, T.cl_Test, T.n_Test_terms, (by repeat (first | (with_reducible refine lt_put ?_) | decide)), ?_⟩
    rw [upd2]
    walk_at "g"
    have hip : i ≠ p := ne_of hi hp (by intro z; cases z)
    refine ⟨i, rfl, by rw [upd_ne hip]; exact hi, ?_⟩
    walk_at "g"
    refine ⟨p, _, dx, _, rfl, upd_same, T.cl_Test, T.n_Test_size, (by repeat (first | (with_reducible refine lt_put ?_) | decide)), ?_⟩
    rw [upd2]
    walk_at "g"
    refine ⟨i, rfl, by rw [upd_ne hip]; exact hi, ?_⟩
    walk_at "g"
    refine ⟨p, _, dx, _, rfl, upd_same, T.cl_Test, T.n_Test_depth, (by repeat (first | (with_reducible refine lt_put ?_) | decide)), ?_⟩
    rw [upd2]
    walk_at "g"
    exact k
end
/-! texts of the 94 signs -/
def txtB (z : Str) : Bool := z.cps.toList.all fun c => decide (c ∈ signs.cps.toList)
def isTxtB : V → Bool
  | .str z => txtB z
  | _ => false
theorem none_bad {l : List Nat} {p : Nat → Bool} {f : Nat → V} : decide ((((l.filter fun n => !p n).map f).length : Int) = 0) = l.all p := by
  rw [List.length_map, Bool.eq_iff_iff, decide_eq_true_eq, List.all_eq_true]
  constructor
  · intro h c hc
    have h' : (l.filter fun n => !p n) = [] := List.length_eq_zero_iff.mp (by omega)
    have := (List.filter_eq_nil_iff.mp h') c hc
    simpa using this
  · intro h
    have h' : (l.filter fun n => !p n) = [] := List.filter_eq_nil_iff.mpr fun c hc => by
      have := h c hc
      simpa using this
    rw [h']
    rfl
def spThingB (F : V → Bool) : Sp := fun vs H Q _ => ∃ v, vs = [v] ∧ thing H v ∧ ∀ H', (∀ p o, H p = some o → H' p = some o) → Q (.bl (F v)) H'
def letters : List Nat := (Str.ofString "abcdefghijklmnopqrstuvwxyz").cps.toList
def nameSigns : List Nat := (Str.ofString "abcdefghijklmnopqrstuvwxyz0123456789").cps.toList
def keptWords : List Str := ["and", "or", "not", "sure", "in", "is", "empty", "begins", "always", "never"]
def nameP (z : Str) : Prop := z.length ≠ 0 ∧ z.length ≤ 8 ∧ (∀ c r, z.cps.toList = c :: r → c ∈ letters) ∧ z ∉ keptWords ∧ ∀ c ∈ z.cps.toList, c ∈ nameSigns
noncomputable def nameB : V → Bool
  | .str z => @decide (nameP z) (Classical.propDecidable _)
  | _ => false
theorem nameB_str {z : Str} : nameB (.str z) = true ↔ nameP z := by
  unfold nameB
  exact @decide_eq_true_iff _ (Classical.propDecidable _)
theorem nameB_no {z : Str} (h : ¬ nameP z) : nameB (.str z) = false := by
  cases e : nameB (.str z) with
  | false => rfl
  | true => exact absurd (nameB_str.mp e) h
theorem nameB_is {z : Str} {b : Bool} (h : nameP z ↔ b = true) : nameB (.str z) = b := by
  cases b with
  | true => exact nameB_str.mpr (h.mpr rfl)
  | false => exact nameB_no fun z => absurd (h.mp z) Bool.false_ne_true
def kindV : V → V
  | .int _ => .str (Str.ofString "number")
  | .str z => if txtB z = true then .str (Str.ofString "text") else .non
  | _ => .non
section
variable {P : Program} {w : World} {K : PySem.W.Frag} {mg : Str → Option Value} {base : Heap}
theorem ok_is_text (T : Txt K mg) : Def P w K mg base 1 "is_text" ["thing"] (spThingB isTxtB) := by
  obtain ⟨f, fd, h⟩ := T.d_is_text
  obtain ⟨t_SIGNS, G_SIGNS⟩ := T.k_SIGNS
  refine h.def (Fun.okM h.fn sc_is_text (fun vs H Q E h => ?_) (fun cdv A outer s H vs Q E hr h => ?_))
  · obtain ⟨x, rfl, _⟩ := h
    rfl
  · obtain ⟨x, rfl, hx, k⟩ := h
    have k' := k H fun _ _ h => h
    refine ⟨_, (pss_cons (ps_if (pt_not (pt_val (pe_callB (call_isiG (K := K) rfl) (by rfl) T.h_isinstance (by decide +kernel) (pa_cons (pv 0) (pa_cons (pe_bltn (v := .ty "str") (by rfl) T.h_str (by decide +kernel) rfl) pa_nil)))))
  (pss_one (ps_ret pe_bl))
  pss_nil)
  (pss_one (ps_ret (pe_callB (cr_all rfl) (by rfl) T.h_all (by decide +kernel) (pa_cons (pe_lc (own := [("sign", 1)]) rfl sc_is_text.nd (pi_str (pv 0)) (blkOk_by (N := N_is_text) (sc := defScope S_is_text) (by decide +kernel)) (fun _ _ _ _ _ => pg_name (i := 1) sc_is_text.nd rfl (Or.inl rfl)) (fun _ _ _ _ _ => pts_nil) (fun _ _ _ _ _ => (pe_cmpR (op_inG (K := K) rfl) (pv 1) (pe_glob (v := .str C_SIGNS) rfl G_SIGNS ⟨_, rfl⟩) (by rfl)))) pa_nil))))), ?_⟩
    rcases hx with rfl | ⟨b, rfl⟩ | ⟨i, rfl⟩ | ⟨z, rfl, hz⟩ | ⟨p, rfl, hp⟩
    case inr.inr.inr.inl =>
      walk_at "g"
      refine fun L hL => ?_
      refine lc_text (fun _ => true) (fun n => .bl (decide (n ∈ signs.cps.toList))) (by omega) (fun n Hh R S hn hK hR hS => ?_) (fun H2 hK hL2 => ?_)
      · walk_at "g"
        refine ⟨rfl, ?_⟩
        walk_at "g"
        exact hR rfl
      · walk_at "g"
        refine ⟨L, z.cps.toList.map fun n => decide (n ∈ signs.cps.toList), rfl, SqL.of ?_, ?_⟩
        · rw [hL2, List.filter_eq_self.mpr (fun _ _ => rfl), List.map_map]; rfl
        · walk_at "g"
          have e : (z.cps.toList.map fun n => decide (n ∈ signs.cps.toList)).all id = isTxtB (.str z) := by
            show _ = txtB z
            unfold txtB
            rw [List.all_map]; rfl
          rw [e]
          exact k _ fun p o h => hK p o (ne_of_none h hL) h
    all_goals (walk_at "g"; exact k')
end
section
variable {P : Program} {w : World} {K : PySem.W.Frag} {mg : Str → Option Value} {base : Heap}
theorem ok_is_name (T : Txt K mg) : Def P w K mg base 1 "is_name" ["thing"] (spThingB nameB) := by
  obtain ⟨f, fd, h⟩ := T.d_is_name
  obtain ⟨t_LONGEST_NAME, G_LONGEST_NAME⟩ := T.k_LONGEST_NAME
  obtain ⟨t_LETTERS, G_LETTERS⟩ := T.k_LETTERS
  obtain ⟨t_WORDS, G_WORDS, Q_WORDS⟩ := T.k_WORDS
  obtain ⟨t_NAME_SIGNS, G_NAME_SIGNS⟩ := T.k_NAME_SIGNS
  refine h.def (Fun.okM h.fn sc_is_name (fun vs H Q E h => ?_) (fun cdv A outer s H vs Q E hr h => ?_))
  · obtain ⟨x, rfl, _⟩ := h
    rfl
  · obtain ⟨x, rfl, hx, k⟩ := h
    have k' := k H fun _ _ h => h
    refine ⟨_, (pss_cons (ps_if (pt_not (pt_val (pe_callB (call_isiG (K := K) rfl) (by rfl) T.h_isinstance (by decide +kernel) (pa_cons (pv 0) (pa_cons (pe_bltn (v := .ty "str") (by rfl) T.h_str (by decide +kernel) rfl) pa_nil)))))
  (pss_one (ps_ret pe_bl))
  pss_nil)
  (pss_cons (ps_if (PW.pt (pw_or (pt_cmpR op_eq (pe_callB (call_lenG (K := K) rfl) (by rfl) T.h_len (by decide +kernel) (pa_cons (pv 0) pa_nil)) pe_int (nomark _)) (pw_or1 (pt_cmpR op_gtG (pe_callB (call_lenG (K := K) rfl) (by rfl) T.h_len (by decide +kernel) (pa_cons (pv 0) pa_nil)) (pe_glob (v := .int 8) rfl G_LONGEST_NAME ⟨_, rfl⟩) (nomark _)))))
  (pss_one (ps_ret pe_bl))
  pss_nil)
  (pss_cons (ps_if (PW.pt (pw_or (pt_cmpR (op_notInG (K := K) rfl) (pe_ix (ix_seqG (K := K) rfl) (pv 0) pe_int (fun _ _ => rfl)) (pe_glob (v := .str C_LETTERS) rfl G_LETTERS ⟨_, rfl⟩) (by rfl)) (pw_or1 (pt_cmpR (op_inG (K := K) rfl) (pv 0) (pe_glob (v := .ref t_WORDS) rfl G_WORDS rfl) (by rfl)))))
  (pss_one (ps_ret pe_bl))
  pss_nil)
  (pss_one (ps_ret (pe_callB (cr_all rfl) (by rfl) T.h_all (by decide +kernel) (pa_cons (pe_lc (own := [("sign", 1)]) rfl sc_is_name.nd (pi_str (pv 0)) (blkOk_by (N := N_is_name) (sc := defScope S_is_name) (by decide +kernel)) (fun _ _ _ _ _ => pg_name (i := 1) sc_is_name.nd rfl (Or.inl rfl)) (fun _ _ _ _ _ => pts_nil) (fun _ _ _ _ _ => (pe_cmpR (op_inG (K := K) rfl) (pv 1) (pe_glob (v := .str C_NAME_SIGNS) rfl G_NAME_SIGNS ⟨_, rfl⟩) (by rfl)))) pa_nil))))))), ?_⟩
    rcases hx with rfl | ⟨b, rfl⟩ | ⟨i, rfl⟩ | ⟨z, rfl, hz⟩ | ⟨p, rfl, hp⟩
    case inr.inr.inr.inl =>
      walk_at "g"
      refine g_lenS (by rw [sizeLine_eq]; omega) ?_
      have no : ¬ nameP z → Q (.bl false) H := fun h => by rw [← nameB_no h]; exact k'
      walk_at "g"
      refine g_dec (fun h0 => ?_) (fun h0 => ?_)
      · walk_at "g"
        exact no fun n => n.1 (by omega)
      walk_at "g"
      refine g_lenS (by rw [sizeLine_eq]; omega) ?_
      walk_at "g"
      refine g_dec (fun h8 => ?_) (fun h8 => ?_)
      · walk_at "g"
        exact no fun n => by have := n.2.1; omega
      walk_at "g"
      obtain ⟨c, r, hcr⟩ : ∃ c r, z.cps.toList = c :: r := by
        cases e : z.cps.toList with
        | nil => exact absurd (by have e2 : z.cps.toList.length = z.length := Array.length_toList
                                  rw [e] at e2; simpa using e2.symm) h0
        | cons c r => exact ⟨c, r, rfl⟩
      refine g_ixS (n := c) (by rw [sizeLine_eq]; omega) (atI_nat (j := 0) (by rw [hcr]; rfl)) ?_
      walk_at "g"
      refine g_ndec (fun hc => ?_) (fun hc => ?_)
      · walk_at "g"
        exact no fun n => hc (n.2.2.1 c r hcr)
      walk_at "g"
      refine .inr ⟨_, keptWords.map V.str, rfl, .inr (Q_WORDS _), rfl, Tw.flat_strs _, ?_⟩
      walk_at "g"
      rw [if_neg Bool.false_ne_true, inV_strs]
      refine g_dec (fun hw => ?_) (fun hw => ?_)
      · walk_at "g"
        exact no fun n => n.2.2.2.1 hw
      walk_at "g"
      refine fun L hL => ?_
      refine lc_text (fun _ => true) (fun n => .bl (decide (n ∈ nameSigns))) (by omega) (fun n Hh R S hn hK hR hS => ?_) (fun H2 hK hL2 => ?_)
      · walk_at "g"
        refine ⟨rfl, ?_⟩
        walk_at "g"
        exact hR rfl
      · walk_at "g"
        refine ⟨L, z.cps.toList.map fun n => decide (n ∈ nameSigns), rfl, SqL.of ?_, ?_⟩
        · rw [hL2, List.filter_eq_self.mpr (fun _ _ => rfl), List.map_map]; rfl
        · walk_at "g"
          have e : nameB (.str z) = (z.cps.toList.map fun n => decide (n ∈ nameSigns)).all id := by
            refine nameB_is ?_
            rw [List.all_map, List.all_eq_true]
            constructor
            · intro n c hc
              exact decide_eq_true (n.2.2.2.2 c hc)
            · intro h
              exact ⟨by omega, by omega, fun c' r' e' => by rw [hcr] at e'; injection e' with e1 _; rw [← e1]; exact hc, hw, fun c hc => of_decide_eq_true (h c hc)⟩
          rw [← e]
          exact k _ fun p o h => hK p o (ne_of_none h hL) h
    all_goals (walk_at "g"; exact k')
end
def spAtoms (C : Addr) : Sp := fun vs H Q _ => ∃ (p : Addr) (w : Str) (fs : List Str) (ts : List V), vs = [.ref p] ∧ AtomAt C H p w fs ts ∧ ∀ l, H l = none → Q (.ref l) (upd H l (.lst [.ref p]))
def spNames (C : Addr) : Sp := fun vs H Q _ => ∃ (p : Addr) (w : Str) (fs : List Str) (ts : List V), vs = [.ref p] ∧ AtomAt C H p w fs ts ∧ fs.length ≤ 1000 ∧
  ∀ zs L H', (∀ q o, H q = some o → H' q = some o) → H' L = some (.lst (zs.map V.str)) → PyProof.Rows.sortedS zs = true → zs.Nodup → (∀ k, k ∈ zs ↔ k ∈ fs) → Q (.ref L) H'
section
variable {P : Program} {w : World} {K : PySem.W.Frag} {mg : Str → Option Value} {base : Heap}
theorem ok_Test_atoms (T : Txt K mg) : DefM P w K mg base 1 (cadr mg "Test") "atoms" ["self"] (spAtoms (cadr mg "Test")) := by
  obtain ⟨f, fd, h⟩ := T.d_Test_atoms
  refine h.def (Fun.okM h.fn sc_Test_atoms (fun vs H Q E h => ?_) (fun cdv A outer s H vs Q E hr h => ?_))
  · obtain ⟨p, w, fs, ts, rfl, _⟩ := h
    rfl
  · obtain ⟨p, w, fs, ts, rfl, A1, k⟩ := h
    obtain ⟨dx, i, f, t, hp, hi, hf, ht⟩ := A1.ex
    refine ⟨_, (pss_cons (ps_if (pt_cmpR op_eq (pe_callB (call_lenG (K := K) rfl) (by rfl) T.h_len (by decide +kernel) (pa_cons (pe_fldG (K := K) rfl (pv 0) rfl) pa_nil)) pe_int (nomark _))
  (pss_one (ps_ret (pe_lst (pa_cons (pv 0) pa_nil))))
  pss_nil)
  (pss_one ps_never)), ?_⟩
    walk_at "g"
    refine ⟨p, _, dx, _, _, rfl, hp, T.cl_Test, T.n_Test_inner, tf_inner, ?_⟩
    walk_at "g"
    refine g_lenT (SqT.of hi) ?_
    walk_at "g"
    refine g_T ?_
    walk_at "g"
    refine ⟨by show 1 ≤ sizeLine; decide, fun l hl => ?_⟩
    walk_at "g"
    exact k l hl
theorem ok_Test_names (T : Txt K mg) : DefM P w K mg base 2 (cadr mg "Test") "names" ["self"] (spNames (cadr mg "Test")) := by
  obtain ⟨f, fd, h⟩ := T.d_Test_names
  refine h.def (Fun.okM h.fn sc_Test_names (fun vs H Q E h => ?_) (fun cdv A outer s H vs Q E hr h => ?_))
  · obtain ⟨p, w, fs, ts, rfl, _⟩ := h
    rfl
  · obtain ⟨p, w, fs, ts, rfl, A1, hlen, k⟩ := h
    obtain ⟨dx, i, f, t, hp, hi, hf, ht⟩ := A1.ex
    refine ⟨_, (pss_cons (ps_setLc2 (i := 1) (own := [("atom", 2), ("name", 3)]) (vs1 := [3]) rfl sc_Test_names.nd rfl rfl (sw_true rfl rfl rfl (by decide +kernel)) (pi_list (pe_me0 (pv 0) T.cl_Test (ok_Test_atoms T) hr)) (blkOk_by (N := N_Test_names) (sc := defScope S_Test_names) (by decide +kernel)) (by decide) (fun _ _ _ _ _ => pg_name (i := 2) sc_Test_names.nd rfl (Or.inl rfl)) (fun _ _ _ _ _ => pts_nil) (fun _ _ _ _ _ => (pi_tupG (K := K) rfl (pe_fldG (K := K) rfl (pv 2) rfl))) (fun _ _ _ _ _ => pg_name (i := 3) sc_Test_names.nd rfl (Or.inl rfl)) (fun _ _ _ _ _ => pts_nil) (fun _ _ _ _ _ => (pv 3)))
  (pss_one (ps_ret (pe_sortedSet (K := K) rfl rfl rfl T.h_sorted rfl T.h_set (pv 1))))), ?_⟩
    walk_at "g"
    refine ⟨p, dx, _, rfl, hp, tf_atoms, ?_⟩
    walk_at "g"
    refine ⟨p, w, fs, ts, rfl, A1, fun l hl => ?_⟩
    refine ⟨l, rfl, ⟨_, SqL.of upd_same⟩, fun D hD => ?_⟩
    have hfl : ∀ o, H f = some o → (upd H l (.lst [.ref p])) f = some o := fun o h => by rw [upd_ne (ne_of_none h hl)]; exact h
    have hpl : (upd H l (.lst [.ref p])) p = some (.ins (cadr mg "Test") dx (tf w i f t 1 0)) := by rw [upd_ne (ne_of_none hp hl)]; exact hp
    refine lc2_flat [.ref p] (fun _ => fs.map V.str) hD (fun H2 k2 => fits_l (SqL.of (k2 _ _ upd_same))) (by simp; omega) (fun x Hh R S hx kh turn => ?_) (fun H2 k2 h2 => ?_)
    · obtain rfl : x = .ref p := by simpa using hx
      walk_at "g"
      refine ⟨rfl, ?_⟩
      walk_at "g"
      refine ⟨p, _, dx, _, _, rfl, kh _ _ hpl, T.cl_Test, T.n_Test_fields, tf_fields, ?_⟩
      refine ⟨f, rfl, ⟨_, SqT.of (kh _ _ (hfl _ hf))⟩, turn _ _ _ (fun _ _ h => h) (fun H2 k2 => fits_t (SqT.of (k2 _ _ (ne_of_none (hfl _ hf) hD) (kh _ _ (hfl _ hf))))) fun y Hk R1 S1 hy r => ?_⟩
      walk_at "g"
      refine ⟨rfl, ?_⟩
      walk_at "g"
      exact r
    · have h2' : H2 D = some (.lst (fs.map V.str)) := by rw [h2]; simp
      walk_at "g"
      refine ⟨D, fs, rfl, SqL.of h2', Nat.lt_of_le_of_lt (Nat.succ_le_succ hlen) (by decide), fun zs p2 so nd hm hn => ?_⟩
      walk_at "g"
      refine k zs p2 _ (fun q o h => ?_) upd_same so nd hm
      have h3 := k2 q o (by rw [upd_ne (ne_of_none h hl)]; exact h)
      rw [upd_ne (ne_of_none h3 hn)]
      exact h3
theorem ok_need_column (T : Txt K mg) : Def P w K mg base 2 "need_column" ["thing"] (fun vs H Q _ => ∃ c, vs = [.str c] ∧ nameP c ∧ ∀ H', (∀ q o, H q = some o → H' q = some o) → Q .non H') := by
  obtain ⟨f, fd, h⟩ := T.d_need_column
  refine h.def (Fun.okM h.fn sc_need_column (fun vs H Q E h => ?_) (fun cdv A outer s H vs Q E hr h => ?_))
  · obtain ⟨c, rfl, _⟩ := h
    rfl
  · obtain ⟨c, rfl, hc, k⟩ := h
    refine ⟨_, (pss_one (ps_if (pt_not (pt_val (pe_def (ok_is_name T) hr rfl (pa_cons (pv 0) pa_nil))))
  (pss_one ps_never)
  pss_nil)), ?_⟩
    walk_at "g"
    refine ⟨_, rfl, .inr (.inr (.inr (.inl ⟨c, rfl, Nat.le_trans hc.2.1 (by decide)⟩))), fun H1 k1 => ?_⟩
    rw [nameB_str.mpr hc]
    walk_at "g"
    exact k _ k1
theorem ok_begins (T : Txt K mg) : Def P w K mg base 4 "begins" ["column", "prefix"] (fun vs H Q _ => ∃ (c p : Str), vs = [.str c, .str p] ∧ nameP c ∧ p.length ≤ 100 ∧ isTxtB (.str p) = true ∧
    ∀ t H', (∀ q o, H q = some o → H' q = some o) → AtomAt (cadr mg "Test") H' t "begins" [c] [.str p] → Q (.ref t) H') := by
  obtain ⟨f, fd, h⟩ := T.d_begins
  refine h.def (Fun.okM h.fn sc_begins (fun vs H Q E h => ?_) (fun cdv A outer s H vs Q E hr h => ?_))
  · obtain ⟨c, p, rfl, _⟩ := h
    rfl
  · obtain ⟨c, p, rfl, hc, hp, hT, k⟩ := h
    refine ⟨_, (pss_cons (ps_expr (pe_def (ok_need_column T) hr rfl (pa_cons (pv 0) pa_nil)))
  (pss_cons (ps_if (pt_not (pt_val (pe_def (ok_is_text T) hr rfl (pa_cons (pv 1) pa_nil))))
  (pss_one ps_never)
  pss_nil)
  (pss_one (ps_ret (pe_new (ok_Test_init T) hr rfl T.e_Test (pa_cons pe_str (pa_cons (pe_tup pa_nil) (pa_cons (pe_tup (pa_cons (pv 0) pa_nil)) (pa_cons (pe_tup (pa_cons (pv 1) pa_nil)) pa_nil))))))))), ?_⟩
    walk_at "g"
    refine ⟨_, rfl, hc, fun H1 k1 => ?_⟩
    walk_at "g"
    refine ⟨_, rfl, .inr (.inr (.inr (.inl ⟨p, rfl, hp⟩))), fun H2 k2 => ?_⟩
    rw [hT]
    walk_at "g"
    refine ⟨by show 0 ≤ sizeLine; decide, fun i hi => ?_⟩
    walk_at "g"
    refine ⟨by show 1 ≤ sizeLine; decide, fun f hf => ?_⟩
    walk_at "g"
    refine ⟨by show 1 ≤ sizeLine; decide, fun t ht => ?_⟩
    walk_at "g"
    intro x dx hx hdx hne
    have n1 := ne_of_none (upd_same (H := upd (upd H2 i (.tup [])) f (.tup [V.str c])) (a := t) (o := .tup [V.str p])) hx
    have n2 := ne_of_none (upd_same (H := upd (upd H2 i (.tup [])) f (.tup [V.str c])) (a := t) (o := .tup [V.str p])) hdx
    have hf1 : (upd (upd (upd H2 i (.tup [])) f (.tup [V.str c])) t (.tup [V.str p])) f = some (.tup [V.str c]) := by rw [upd_ne (ne_of_none upd_same ht)]; exact upd_same
    have hi0 : (upd H2 i (.tup [])) i = some (.tup []) := upd_same
    have hi1 : (upd (upd H2 i (.tup [])) f (.tup [V.str c])) i = some (.tup []) := by rw [upd_ne (ne_of_none hi0 hf)]; exact hi0
    have hi2 : (upd (upd (upd H2 i (.tup [])) f (.tup [V.str c])) t (.tup [V.str p])) i = some (.tup []) := by rw [upd_ne (ne_of_none hi1 ht)]; exact hi1
    have kp : ∀ q o, (upd (upd (upd H2 i (.tup [])) f (.tup [V.str c])) t (.tup [V.str p])) q = some o → ∀ z : HO, (upd (upd (upd (upd (upd H2 i (.tup [])) f (.tup [V.str c])) t (.tup [V.str p])) dx (.own x)) x z) q = some o := fun q o h z => by
      rw [upd_ne (ne_of_none h hx), upd_ne (ne_of_none h hdx)]; exact h
    refine ⟨x, dx, i, f, t, _, rfl, upd_same, kp _ _ hi2 _, rfl, ?_⟩
    rw [upd2]
    walk_at "g"
    refine k x _ (fun q o h => kp _ _ ?_ _) ⟨dx, i, f, t, upd_same, kp _ _ hi2 _, kp _ _ hf1 _, kp _ _ upd_same _⟩
    have h2 := k2 _ _ (k1 _ _ h)
    have h3 : (upd H2 i (.tup [])) q = some o := by rw [upd_ne (ne_of_none h2 hi)]; exact h2
    have h4 : (upd (upd H2 i (.tup [])) f (.tup [V.str c])) q = some o := by rw [upd_ne (ne_of_none h3 hf)]; exact h3
    rw [upd_ne (ne_of_none h4 ht)]; exact h4
def begB (x p : Str) : Bool := PySem.Txt.startswith x p
theorem ok_values_truth (T : Txt K mg) : Def P w K mg base 1 "values_truth" ["atom", "held"] (fun vs H Q _ => ∃ (p l : Addr) (fs : List Str) (x pre : Str), vs = [.ref p, .ref l] ∧ AtomAt (cadr mg "Test") H p "begins" fs [.str pre] ∧ H l = some (.lst [.str x]) ∧
    Q (.bl (begB x pre)) H) := by
  obtain ⟨f, fd, h⟩ := T.d_values_truth
  refine h.def (Fun.okM h.fn sc_values_truth (fun vs H Q E h => ?_) (fun cdv A outer s H vs Q E hr h => ?_))
  · obtain ⟨p, l, fs, x, pre, rfl, _⟩ := h
    rfl
  · obtain ⟨p, l, fs, x, pre, rfl, A1, hl, k⟩ := h
    obtain ⟨dx, i, f, t, hp, hi, hf, ht⟩ := A1.ex
    refine ⟨_, (pss_cons (ps_if (pt_cmpR op_eq (pe_fldG (K := K) rfl (pv 0) rfl) pe_str (nomark _))
  (pss_one ps_never)
  pss_nil)
  (pss_cons (ps_if (pt_cmpR op_eq (pe_fldG (K := K) rfl (pv 0) rfl) pe_str (nomark _))
  (pss_one ps_never)
  pss_nil)
  (pss_cons (ps_if (pt_cmpR op_eq (pe_fldG (K := K) rfl (pv 0) rfl) pe_str (nomark _))
  (pss_one ps_never)
  pss_nil)
  (pss_one (ps_ret (pe_m1 PySem.F.slot_str_startswith PySem.F.type_str_startswith mt_startswith (pe_ix (ix_seqG (K := K) rfl) (pv 1) pe_int (fun _ _ => rfl)) (pe_ix (ix_seqG (K := K) rfl) (pe_fldG (K := K) rfl (pv 0) rfl) pe_int (fun _ _ => rfl)))))))), ?_⟩
    walk_at "g"
    refine ⟨p, _, dx, _, _, rfl, hp, T.cl_Test, T.n_Test_word, tf_word, ?_⟩
    walk_at "g"
    refine g_dec (fun h => absurd h (by decide +kernel)) (fun _ => ?_)
    walk_at "g"
    refine ⟨p, _, dx, _, _, rfl, hp, T.cl_Test, T.n_Test_word, tf_word, ?_⟩
    walk_at "g"
    refine g_dec (fun h => absurd h (by decide +kernel)) (fun _ => ?_)
    walk_at "g"
    refine ⟨p, _, dx, _, _, rfl, hp, T.cl_Test, T.n_Test_word, tf_word, ?_⟩
    walk_at "g"
    refine g_dec (fun h => absurd h (by decide +kernel)) (fun _ => ?_)
    walk_at "g"
    refine ⟨p, _, dx, _, _, rfl, hp, T.cl_Test, T.n_Test_terms, tf_terms, ?_⟩
    walk_at "g"
    refine g_ixT (SqT.of ht) rfl ?_
    refine ⟨_, _, rfl, rfl, ?_⟩
    walk_at "g"
    exact k
def rowD (c x : Str) : HO := .dK [(Sum.inr c, .str x)]
theorem valV_one {c x : Str} : valV [((Sum.inr c : Key), V.str x)] (Sum.inr c) = some (V.str x) := by simp [valV]
theorem ok_atom_truth (T : Txt K mg) : Def P w K mg base 2 "atom_truth" ["atom", "row"] (fun vs H Q _ => ∃ (p r : Addr) (c x pre : Str), vs = [.ref p, .ref r] ∧ AtomAt (cadr mg "Test") H p "begins" [c] [.str pre] ∧ H r = some (rowD c x) ∧
    ∀ H', (∀ q o, H q = some o → H' q = some o) → Q (.bl (begB x pre)) H') := by
  obtain ⟨f, fd, h⟩ := T.d_atom_truth
  refine h.def (Fun.okM h.fn sc_atom_truth (fun vs H Q E h => ?_) (fun cdv A outer s H vs Q E hr h => ?_))
  · obtain ⟨p, r, c, x, pre, rfl, _⟩ := h
    rfl
  · obtain ⟨p, r, c, x, pre, rfl, A1, hr1, k⟩ := h
    obtain ⟨dx, i, f, t, hp, hi, hf, ht⟩ := A1.ex
    refine ⟨_, (pss_cons (ps_if (pt_cmpR op_eq (pe_fldG (K := K) rfl (pv 0) rfl) pe_str (nomark _))
  (pss_one (ps_ret pe_bl))
  pss_nil)
  (pss_cons (ps_if (pt_cmpR op_eq (pe_fldG (K := K) rfl (pv 0) rfl) pe_str (nomark _))
  (pss_one (ps_ret pe_bl))
  pss_nil)
  (pss_cons (ps_setLc (i := 2) (own := [("name", 4)]) rfl sc_atom_truth.nd rfl rfl (sw_true rfl rfl rfl (by decide +kernel)) (pi_tupG (K := K) rfl (pe_fldG (K := K) rfl (pv 0) rfl)) (blkOk_by (N := N_atom_truth) (sc := defScope S_atom_truth) (by decide +kernel)) (fun _ _ _ _ _ => pg_name (i := 4) sc_atom_truth.nd rfl (Or.inl rfl)) (fun _ _ _ _ _ => pts_nil) (fun _ _ _ _ _ => (pe_dget (hu_of hr) (pv 1) (pv 4) (fun _ _ => rfl))))
  (pss_cons (ps_if (pt_cmpR op_eq (pe_fldG (K := K) rfl (pv 0) rfl) pe_str (nomark _))
  (pss_one (ps_ret (pe_cmpR op_isNG (pe_ix (ix_seqG (K := K) rfl) (pv 2) pe_int (fun _ _ => rfl)) pe_non (nomark _))))
  pss_nil)
  (pss_cons (ps_for PassesOwn.never rfl (pi_list (pv 2)) (pg_name (i := 3) sc_atom_truth.nd rfl (Or.inl rfl))
  (pss_one (ps_if (pt_cmpR op_isNG (pv 3) pe_non (nomark _))
  (pss_one (ps_ret pe_non))
  pss_nil)))
  (pss_one (ps_ret (pe_def (ok_values_truth T) hr rfl (pa_cons (pv 0) (pa_cons (pv 2) pa_nil)))))))))), ?_⟩
    walk_at "g"
    refine ⟨p, _, dx, _, _, rfl, hp, T.cl_Test, T.n_Test_word, tf_word, ?_⟩
    walk_at "g"
    refine g_dec (fun h => absurd h (by decide +kernel)) (fun _ => ?_)
    walk_at "g"
    refine ⟨p, _, dx, _, _, rfl, hp, T.cl_Test, T.n_Test_word, tf_word, ?_⟩
    walk_at "g"
    refine g_dec (fun h => absurd h (by decide +kernel)) (fun _ => ?_)
    walk_at "g"
    refine ⟨p, _, dx, _, _, rfl, hp, T.cl_Test, T.n_Test_fields, tf_fields, ?_⟩
    refine ⟨f, rfl, ⟨_, SqT.of hf⟩, fun D hD => ?_⟩
    refine lc_map ([c].map V.str) (fun _ => .str x) hD (fun H2 k2 => fits_t (SqT.of (k2 _ _ hf))) (by show 1 ≤ 1000000; decide) (fun y Hh R S hy kh r1 => ?_) (fun H2 k2 h2 => ?_)
    · obtain rfl : y = .str c := by simpa using hy
      walk_at "g"
      refine ⟨rfl, ?_⟩
      walk_at "g"
      exact ⟨r, _, rfl, (valV_one (c := c) (x := x)) ▸ DGet.k (k := Sum.inr c) (kh _ _ hr1), r1⟩
    · walk_at "g"
      refine ⟨p, _, dx, _, _, rfl, k2 _ _ hp, T.cl_Test, T.n_Test_word, tf_word, ?_⟩
      walk_at "g"
      refine g_dec (fun h => absurd h (by decide +kernel)) (fun _ => ?_)
      walk_at "g"
      refine ⟨D, rfl, ⟨_, SqL.of h2⟩, ?_⟩
      refine for_listA (xs := ([c].map V.str).map fun _ => V.str x) (fun j σ' H' => H' = H2 ∧ ∃ v, σ' = [some (.ref p), some (.ref r), some (.ref D), v, none]) ⟨rfl, none, rfl⟩ (fun _ _ _ _ e => by rw [e.1]; exact SqL.of h2) ?_ ?_
      · rintro j y σ' H' D' hj ⟨rfl, v, rfl⟩ hnx hct hbk hrt
        obtain rfl : y = .str x := by
          have := List.mem_of_getElem? hj
          simpa using this
        walk_at "g"
        exact hnx _ _ ⟨rfl, _, rfl⟩
      · rintro σ' H' ⟨rfl, v, rfl⟩
        walk_at "g"
        refine ⟨p, D, _, x, pre, rfl, A1.keep k2, h2, ?_⟩
        walk_at "g"
        exact k _ k2
theorem ok_truth_at (T : Txt K mg) : Def P w K mg base 3 "truth_at" ["test", "row"] (fun vs H Q _ => ∃ (p r : Addr) (c x pre : Str), vs = [.ref p, .ref r] ∧ AtomAt (cadr mg "Test") H p "begins" [c] [.str pre] ∧ H r = some (rowD c x) ∧
    ∀ H', (∀ q o, H q = some o → H' q = some o) → Q (.bl (begB x pre)) H') := by
  obtain ⟨f, fd, h⟩ := T.d_truth_at
  refine h.def (Fun.okM h.fn sc_truth_at (fun vs H Q E h => ?_) (fun cdv A outer s H vs Q E hr h => ?_))
  · obtain ⟨p, r, c, x, pre, rfl, _⟩ := h
    rfl
  · obtain ⟨p, r, c, x, pre, rfl, A1, hr1, k⟩ := h
    obtain ⟨dx, i, f, t, hp, hi, hf, ht⟩ := A1.ex
    refine ⟨_, (pss_cons (ps_if (pt_cmpR op_eq (pe_callB (call_lenG (K := K) rfl) (by rfl) T.h_len (by decide +kernel) (pa_cons (pe_fldG (K := K) rfl (pv 0) rfl) pa_nil)) pe_int (nomark _))
  (pss_one (ps_ret (pe_def (ok_atom_truth T) hr rfl (pa_cons (pv 0) (pa_cons (pv 1) pa_nil)))))
  pss_nil)
  (pss_one ps_never)), ?_⟩
    walk_at "g"
    refine ⟨p, _, dx, _, _, rfl, hp, T.cl_Test, T.n_Test_inner, tf_inner, ?_⟩
    walk_at "g"
    refine g_lenT (SqT.of hi) ?_
    walk_at "g"
    refine g_T ?_
    walk_at "g"
    refine ⟨p, r, c, x, pre, rfl, A1, hr1, fun H' k' => ?_⟩
    walk_at "g"
    exact k _ k'
theorem ok_Test_truth (T : Txt K mg) : DefM P w K mg base 4 (cadr mg "Test") "truth" ["self", "row"] (fun vs H Q _ => ∃ (p r : Addr) (c x pre : Str), vs = [.ref p, .ref r] ∧ AtomAt (cadr mg "Test") H p "begins" [c] [.str pre] ∧ H r = some (rowD c x) ∧
    ∀ H', (∀ q o, H q = some o → H' q = some o) → Q (.bl (begB x pre)) H') := by
  obtain ⟨f, fd, h⟩ := T.d_Test_truth
  refine h.def (Fun.okM h.fn sc_Test_truth (fun vs H Q E h => ?_) (fun cdv A outer s H vs Q E hr h => ?_))
  · obtain ⟨p, r, c, x, pre, rfl, _⟩ := h
    rfl
  · obtain ⟨p, r, c, x, pre, rfl, A1, hr1, k⟩ := h
    obtain ⟨dx, i, f, t, hp, hi, hf, ht⟩ := A1.ex
    refine ⟨_, (pss_cons (ps_if (pt_not (pt_val (pe_callB (call_isiG (K := K) rfl) (by rfl) T.h_isinstance (by decide +kernel) (pa_cons (pv 1) (pa_cons (pe_bltn (v := .ty "dict") (by rfl) T.h_dict (by decide +kernel) rfl) pa_nil)))))
  (pss_one ps_never)
  pss_nil)
  (pss_cons (ps_for PassesOwn.never rfl (pi_list (pe_me0 (pv 0) T.cl_Test (ok_Test_names T) hr)) (pg_name (i := 2) sc_Test_truth.nd rfl (Or.inl rfl))
  (pss_one (ps_if (pt_cmp (pc_dnotin (hu_of hr) (pv 2) (pv 1)))
  (pss_one ps_never)
  pss_nil)))
  (pss_one (ps_ret (pe_def (ok_truth_at T) hr rfl (pa_cons (pv 0) (pa_cons (pv 1) pa_nil))))))), ?_⟩
    walk_at "g"
    refine g_isi (.base (.dK hr1)) (b := true) (by decide +kernel) ?_
    walk_at "g"
    refine ⟨p, dx, _, rfl, hp, tf_names, ?_⟩
    walk_at "g"
    refine ⟨p, _, [c], _, rfl, A1, by show 1 ≤ 1000; decide, fun zs L H1 k1 hL so nd hm => ?_⟩
    obtain rfl : zs = [c] := by
      match zs, nd, hm with
      | [], _, hm => exact absurd ((hm c).mpr (by simp)) (by simp)
      | [a], _, hm => have := (hm a).mp (by simp); simp at this; rw [this]
      | a :: b :: r, nd, hm =>
        have h1 := (hm a).mp (by simp)
        have h2 := (hm b).mp (by simp)
        simp at h1 h2
        subst h1; subst h2
        simp at nd
    refine ⟨L, rfl, ⟨_, SqL.of hL⟩, ?_⟩
    refine for_listA (xs := [c].map V.str) (fun j σ' H' => H' = H1 ∧ ∃ v, σ' = [some (.ref p), some (.ref r), v]) ⟨rfl, none, rfl⟩ (fun _ _ _ _ e => by rw [e.1]; exact SqL.of hL) ?_ ?_
    · rintro j y σ' H' D' hj ⟨rfl, v, rfl⟩ hnx hct hbk hrt
      obtain rfl : y = .str c := by
        have := List.mem_of_getElem? hj
        simpa using this
      walk_at "g"
      refine ⟨r, _, rfl, DGet.k (k := Sum.inr c) (k1 _ _ hr1), ?_⟩
      rw [valV_one]
      walk_at "g"
      exact hnx _ _ ⟨rfl, _, rfl⟩
    · rintro σ' H' ⟨rfl, v, rfl⟩
      walk_at "g"
      refine ⟨p, r, c, x, pre, rfl, A1.keep k1, k1 _ _ hr1, fun H2 k2 => ?_⟩
      walk_at "g"
      exact k _ fun q o h => k2 _ _ (k1 _ _ h)
end
/-! the draws -/
structure Dr (H : Hp) (d sc : Addr) (ns : List Int) : Prop where
  ex : ∃ (i b c e : Int), sc ≠ d ∧ 0 ≤ i ∧ H d = some (.lst [.ref sc, .int i, .int b, .int c, .int e]) ∧ H sc = some (.lst (ns.map V.int))
def Keep (d : Addr) (H H' : Hp) : Prop := ∀ p o, p ≠ d → H p = some o → H' p = some o
theorem Keep.refl (d : Addr) (H : Hp) : Keep d H H := fun _ _ _ h => h
theorem Keep.trans {d : Addr} {H H1 H2 : Hp} (a : Keep d H H1) (b : Keep d H1 H2) : Keep d H H2 := fun p o n h => b p o n (a p o n h)
theorem Dr.new {H : Hp} {d sc p : Addr} {ns : List Int} {o : HO} (D : Dr H d sc ns) (hp : H p = none) : Dr (upd H p o) d sc ns := by
  obtain ⟨i, b, c, e, h1, h2, h3, h4⟩ := D.ex
  exact ⟨i, b, c, e, h1, h2, by rw [upd_ne (ne_of_none h3 hp)]; exact h3, by rw [upd_ne (ne_of_none h4 hp)]; exact h4⟩
theorem Dr.at {H : Hp} {d sc : Addr} {ns : List Int} (D : Dr H d sc ns) : ∃ xs, H d = some (.lst xs) := by
  obtain ⟨i, b, c, e, h1, h2, h3, h4⟩ := D.ex
  exact ⟨_, h3⟩
theorem Dr.sc {H : Hp} {d sc : Addr} {ns : List Int} (D : Dr H d sc ns) : H sc = some (.lst (ns.map V.int)) := by
  obtain ⟨i, b, c, e, h1, h2, h3, h4⟩ := D.ex
  exact h4
theorem Dr.ne {H : Hp} {d sc p : Addr} {ns : List Int} (D : Dr H d sc ns) (hp : H p = none) : p ≠ d ∧ p ≠ sc := by
  obtain ⟨i, b, c, e, h1, h2, h3, h4⟩ := D.ex
  exact ⟨Ne.symm (ne_of_none h3 hp), Ne.symm (ne_of_none h4 hp)⟩
theorem Dr.other {H : Hp} {d sc p : Addr} {ns : List Int} {o : HO} (D : Dr H d sc ns) (h1 : p ≠ d) (h2 : p ≠ sc) : Dr (upd H p o) d sc ns := by
  obtain ⟨i, b, c, e, g1, g2, g3, g4⟩ := D.ex
  exact ⟨i, b, c, e, g1, g2, by rw [upd_ne (Ne.symm h1)]; exact g3, by rw [upd_ne (Ne.symm h2)]; exact g4⟩
theorem Keep.new {d p : Addr} {H H1 : Hp} {o : HO} (a : Keep d H H1) (hp : H p = none) : Keep d H (L2.upd H1 p o) := fun q u n h => by rw [upd_ne (ne_of_none h hp)]; exact a q u n h
theorem Keep.back {d p : Addr} {H H1 : Hp} (a : Keep d H H1) (n : p ≠ d) (h : H1 p = none) : H p = none := by
  cases hh : H p with
  | none => rfl
  | some o => rw [a p o n hh] at h; cases h
theorem Keep.upd {d : Addr} {H H1 : Hp} {o : HO} (a : Keep d H H1) : Keep d H (L2.upd H1 d o) := fun p u n h => by rw [upd_ne n]; exact a p u n h
def spTake : Sp := fun vs H Q _ => ∃ d sc ns m, vs = [.ref d, .int m] ∧ Dr H d sc ns ∧ 0 < m ∧ m.natAbs.log2 < 9000 ∧ ∀ r H', 0 ≤ r → r < m → Dr H' d sc ns → Keep d H H' → Q (.int r) H'
section
variable {P : Program} {w : World} {K : PySem.W.Frag} {mg : Str → Option Value} {base : Heap}
theorem ok__law_take (T : Txt K mg) : Def P w K mg base 1 "_law_take" ["_law_draw", "_law_many"] spTake := by
  obtain ⟨f, fd, h⟩ := T.d__law_take
  refine h.def (Fun.okM h.fn sc__law_take (fun vs H Q E h => ?_) (fun cdv A outer s H vs Q E hr h => ?_))
  · obtain ⟨d, sc, ns, m, rfl, _⟩ := h
    rfl
  · obtain ⟨d, sc, ns, m, rfl, ⟨i, b, c, e, hne, hi, hd, hs⟩, hm, hml, k⟩ := h
    refine ⟨_, (pss_cons (ps_if (PW.pt (pw_and (pt_cmpR op_eq (pe_ix (ix_seqG (K := K) rfl) (pv 0) pe_int (fun _ _ => rfl)) pe_int (nomark _)) (pw_and1 (pt_cmpR op_ltG (pe_ix (ix_seqG (K := K) rfl) (pv 0) pe_int (fun _ _ => rfl)) (pe_callB (call_lenG (K := K) rfl) (by rfl) T.h_len (by decide +kernel) (pa_cons (pe_ix (ix_seqG (K := K) rfl) (pv 0) pe_int (fun _ _ => rfl)) pa_nil)) (nomark _)))))
  (pss_cons (ps_set (i := 2) sc__law_take.nd rfl (Or.inl rfl) (pe_ix (ix_seqG (K := K) rfl) (pe_ix (ix_seqG (K := K) rfl) (pv 0) pe_int (fun _ _ => rfl)) (pe_ix (ix_seqG (K := K) rfl) (pv 0) pe_int (fun _ _ => rfl)) (fun _ _ => rfl)))
  (pss_cons (ps_asg (pe_op op_addG (pe_ix (ix_seqG (K := K) rfl) (pv 0) pe_int (fun _ _ => rfl)) pe_int) (pg_sub (pv 0) pe_int set_list))
  (pss_one (ps_if (pt_cmpR op_geG (pv 2) (pe_op op_powG' pe_int pe_int) (nomark _))
  (pss_one (ps_asg (pe_op op_modG (pe_callTy call_intG (by rfl) T.h_int (by decide +kernel) (pa_cons (pv 2) pa_nil)) (pe_op op_powG' (pe_op op_powG' pe_int pe_int) pe_int)) (pg_sub (pv 0) pe_int set_list)))
  (pss_one (ps_asg (pe_op op_modG (pe_callTy call_intG (by rfl) T.h_int (by decide +kernel) (pa_cons (pe_op op_addG (pe_op op_addG (pe_op op_mulG (pe_ix (ix_seqG (K := K) rfl) (pv 0) pe_int (fun _ _ => rfl)) pe_int) (pe_op op_modG (pe_callTy call_intG (by rfl) T.h_int (by decide +kernel) (pa_cons (pv 2) pa_nil)) pe_int)) pe_int) pa_nil)) pe_int) (pg_sub (pv 0) pe_int set_list)))))))
  pss_nil)
  (pss_cons (ps_if (pt_cmpR op_gtG (pe_ix (ix_seqG (K := K) rfl) (pv 0) pe_int (fun _ _ => rfl)) pe_int (nomark _))
  (pss_cons (ps_set (i := 3) sc__law_take.nd rfl (Or.inl rfl) (pe_op op_modG (pe_callTy call_intG (by rfl) T.h_int (by decide +kernel) (pa_cons (pe_ix (ix_seqG (K := K) rfl) (pv 0) pe_int (fun _ _ => rfl)) pa_nil)) (pv 1)))
  (pss_cons (ps_asg (pe_op op_fdG (pe_ix (ix_seqG (K := K) rfl) (pv 0) pe_int (fun _ _ => rfl)) (pv 1)) (pg_sub (pv 0) pe_int set_list))
  (pss_one (ps_ret (pv 3)))))
  pss_nil)
  (pss_cons (ps_asg (pe_op op_addG (pe_ix (ix_seqG (K := K) rfl) (pv 0) pe_int (fun _ _ => rfl)) pe_int) (pg_sub (pv 0) pe_int set_list))
  (pss_cons (ps_set (i := 4) sc__law_take.nd rfl (Or.inl rfl) (pe_op op_modG (pe_callTy call_intG (by rfl) T.h_int (by decide +kernel) (pa_cons (pe_op op_addG (pe_ix (ix_seqG (K := K) rfl) (pv 0) pe_int (fun _ _ => rfl)) (pe_op op_mulG pe_int (pe_ix (ix_seqG (K := K) rfl) (pv 0) pe_int (fun _ _ => rfl)))) pa_nil)) pe_int))
  (pss_cons (ps_set (i := 4) sc__law_take.nd rfl (Or.inl rfl) (pe_op op_modG (pe_callTy call_intG (by rfl) T.h_int (by decide +kernel) (pa_cons (pe_op op_powG' (pv 4) pe_int) pa_nil)) pe_int))
  (pss_cons (ps_asg (pe_op op_modG (pe_callTy call_intG (by rfl) T.h_int (by decide +kernel) (pa_cons (pe_op op_addG (pe_op op_mulG (pv 4) pe_int) (pe_ix (ix_seqG (K := K) rfl) (pv 0) pe_int (fun _ _ => rfl))) pa_nil)) pe_int) (pg_sub (pv 0) pe_int set_list))
  (pss_one (ps_ret (pe_op op_modG (pe_callTy call_intG (by rfl) T.h_int (by decide +kernel) (pa_cons (pe_op op_fdG (pe_ix (ix_seqG (K := K) rfl) (pv 0) pe_int (fun _ _ => rfl)) pe_int) pa_nil)) (pv 1)))))))))), ?_⟩
    walk_at "G"
    all_goals refine k _ _ (Int.emod_nonneg _ (by omega)) (Int.emod_lt_of_pos _ hm) ?_ ?_
    all_goals first
      | exact ⟨_, _, _, _, hne, by omega, upd_same, by walk_at "hp"⟩
      | (repeat (first | exact Keep.refl _ _ | refine Keep.upd ?_))
end
/-! more draws -/
def spBegin (K : PySem.W.Frag) : Sp := fun vs H Q _ => ∃ (a : Addr) (ns : List Int), vs = [.ref a] ∧ SqL K H a (ns.map V.int) ∧ ∀ d sc ms H', H d = none → Same H H' → Dr H' d sc ms → Q (.ref d) H'
theorem cut_map (ns : List Int) (lo hi : Option Int) : ∃ ms : List Int, cutV (ns.map V.int) lo hi = ms.map V.int := ⟨_, by unfold cutV; rw [← List.map_drop, ← List.map_take]⟩
section
variable {P : Program} {w : World} {K : PySem.W.Frag} {mg : Str → Option Value} {base : Heap}
theorem ok__law_begin (T : Txt K mg) : Def P w K mg base 1 "_law_begin" ["_law_script"] (spBegin K) := by
  obtain ⟨f, fd, h⟩ := T.d__law_begin
  refine h.def (Fun.okM h.fn sc__law_begin (fun vs H Q E h => ?_) (fun cdv A outer s H vs Q E hr h => ?_))
  · obtain ⟨x, y, rfl, _⟩ := h
    rfl
  · obtain ⟨a, ns, rfl, hS, k⟩ := h
    refine ⟨_, (pss_one (ps_ret (pe_lst (pa_cons (pe_callTy (call_listG (K := K) rfl) (by rfl) T.h_list (by decide +kernel) (pa_cons (pe_slice (sl_G (K := K) rfl) (pv 0) po_none (po_some pe_int)) pa_nil)) (pa_cons pe_int (pa_cons pe_int (pa_cons pe_int (pa_cons pe_int pa_nil)))))))), ?_⟩
    walk_at "g"
    obtain ⟨ms, hms⟩ := cut_map ns none (some 63)
    refine g_slL hS (fun p hp => ?_)
    rw [hms]
    walk_at "g"
    refine ⟨p, _, rfl, .inl (SqL.of upd_same), fun l hl => ?_⟩
    walk_at "g"
    refine ⟨by show 5 ≤ sizeLine; decide, fun d hd => ?_⟩
    walk_at "g"
    have n1 : l ≠ d := ne_of_none upd_same hd
    have n2 : l ≠ p := fun z => by rw [z, upd_same] at hl; cases hl
    have hpd : d ≠ p := fun z => by rw [z, upd_ne (fun z => n2 z.symm), upd_same] at hd; cases hd
    refine k d l ms _ ?_ (fun b o hb => ?_) ⟨0, 0, 1, 0, n1, by decide, upd_same, by rw [upd_ne n1, upd_same]⟩
    · rw [upd_ne (fun z => n1 z.symm), upd_ne hpd] at hd
      exact hd
    · have b1 : b ≠ p := ne_of_none hb hp
      have b2 : b ≠ l := fun z => by rw [upd_ne n2] at hl; rw [z, hl] at hb; cases hb
      have b3 : b ≠ d := fun z => by rw [upd_ne (fun z => n1 z.symm), upd_ne hpd] at hd; rw [z, hd] at hb; cases hb
      rw [upd_ne b3, upd_ne b2, upd_ne b1]
      exact hb
/-- a text of the 94 signs -/
def spChars : Sp := fun vs H Q _ => vs = [] ∧ Q (.str signs) H
theorem ok__law_chars (T : Txt K mg) : Def P w K mg base 1 "_law_chars" [] spChars := by
  obtain ⟨f, fd, h⟩ := T.d__law_chars
  refine h.def (Fun.okM h.fn sc__law_chars (fun vs H Q E h => ?_) (fun cdv A outer s H vs Q E hr h => ?_))
  · obtain ⟨rfl, _⟩ := h
    rfl
  · obtain ⟨rfl, k⟩ := h
    refine ⟨_, (pss_cons (ps_set (i := 0) sc__law_chars.nd rfl (Or.inl rfl) pe_str)
  (pss_one (ps_ret (pe_op op_addG (pv 0) pe_str)))), ?_⟩
    walk_at "g"
    refine g_addS (by decide +kernel) ?_
    walk_at "g"
    exact k
/-- a drawn value -/
def spDraw (G : V → Prop) : Sp := fun vs H Q _ => ∃ d sc ns, vs = [.ref d] ∧ Dr H d sc ns ∧ ∀ v H', G v → Dr H' d sc ns → Keep d H H' → Q v H'
def isI (v : V) : Prop := ∃ i, v = .int i
def isS (v : V) : Prop := ∃ z : Str, v = .str z ∧ z.length ≤ 100 ∧ ∀ c ∈ z.cps.toList, c ∈ signs.cps.toList
end
section
variable {P : Program} {w : World} {K : PySem.W.Frag} {mg : Str → Option Value} {base : Heap}
theorem ok__law_text (T : Txt K mg) : Def P w K mg base 2 "_law_text" ["_law_draw"] (spDraw isS) := by
  obtain ⟨f, fd, h⟩ := T.d__law_text
  refine h.def (Fun.okM h.fn sc__law_text (fun vs H Q E h => ?_) (fun cdv A outer s H vs Q E hr h => ?_))
  · obtain ⟨d, sc, ns, rfl, _⟩ := h
    rfl
  · obtain ⟨d, sc, ns, rfl, hD, k⟩ := h
    refine ⟨_, (pss_cons (ps_set (i := 1) sc__law_text.nd rfl (Or.inr rfl) pe_str)
  (pss_cons (ps_set (i := 2) sc__law_text.nd rfl (Or.inl rfl) (pe_def (ok__law_take T) hr rfl (pa_cons (pv 0) (pa_cons pe_int pa_nil))))
  (Evl.pss_cut (ps_if (pt_cmpR op_eq (pe_def (ok__law_take T) hr rfl (pa_cons (pv 0) (pa_cons pe_int pa_nil))) pe_int (nomark _))
  (pss_cons (ps_set (i := 1) sc__law_text.nd rfl (Or.inr rfl) (pe_def0 (ok__law_chars T) hr rfl))
  (pss_one (ps_set (i := 2) sc__law_text.nd rfl (Or.inl rfl) (pe_def (ok__law_take T) hr rfl (pa_cons (pv 0) (pa_cons pe_int pa_nil))))))
  pss_nil)
  (pss_one (ps_ret (pe_m1 PySem.F.slot_str_join PySem.F.type_str_join (mt_joinG (K := K) rfl) pe_str (pe_lc (own := [("_law_k", 3)]) rfl sc__law_text.nd (pi_range1 rfl T.h_range (pa_cons (pv 2) pa_nil)) (blkOk_by (N := N__law_text) (sc := defScope S__law_text) (by decide +kernel)) (fun _ _ _ _ _ => pg_name (i := 3) sc__law_text.nd rfl (Or.inl rfl)) (fun _ _ _ _ _ => pts_nil) (fun _ _ _ _ _ => (pe_ix (ix_seqG (K := K) rfl) (pv 1) (pe_def (ok__law_take T) hr rfl (pa_cons (pv 0) (pa_cons (pe_callB (call_lenG (K := K) rfl) (by rfl) T.h_len (by decide +kernel) (pa_cons (pv 1) pa_nil)) pa_nil))) (fun _ _ => rfl)))))))))), ?_⟩
    walk_at "g"
    refine ⟨_, _, _, _, rfl, hD, by decide, by decide +kernel, fun r H1 r0 r1 D1 K1 => ?_⟩
    walk_at "g"
    refine g_cut (M := fun σ' H' => ∃ (z : Str) (n : Int), σ' = [some (.ref d), some (.str z), some (.int n), none] ∧ 0 ≤ n ∧ n < 39 ∧ 0 < z.length ∧ z.length ≤ 100 ∧ (∀ c ∈ z.cps.toList, c ∈ signs.cps.toList) ∧ Dr H' d sc ns ∧ Keep d H H') ?_ ?_
    · walk_at "g"
      refine ⟨_, _, _, _, rfl, D1, by decide, by decide +kernel, fun r2 H2 r20 r21 D2 K2 => ?_⟩
      walk_at "G"
      · refine ⟨rfl, ?_⟩
        walk_at "g"
        refine ⟨_, _, _, _, rfl, D2, by decide, by decide +kernel, fun r3 H3 r30 r31 D3 K3 => ?_⟩
        walk_at "g"
        exact ⟨_, _, rfl, r30, r31, by decide +kernel, by decide +kernel, fun c hc => hc, D3, (K1.trans K2).trans K3⟩
      · exact ⟨_, _, rfl, r0, by omega, by decide +kernel, by decide +kernel, by decide +kernel, D2, K1.trans K2⟩
    · rintro σ' H' ⟨z, n, rfl, n0, n1, z0, z1, hz, DD, KK⟩
      walk_at "g"
      walk_at "g"
      refine ⟨n, rfl, by omega, by omega, fun L hL => ?_⟩
      obtain ⟨hLd, hLs⟩ := DD.ne hL
      refine lc_range (fun i Hi => H L = none ∧ Dr Hi d sc ns ∧ Keep d H Hi ∧ ∃ ys : List Str, ys.length = i ∧ Hi L = some (.lst (ys.map V.str)) ∧ ∀ y ∈ ys, ∃ c, c ∈ signs.cps.toList ∧ y = ⟨#[c]⟩) ?_ ?_ ?_
      · refine ⟨?_, ?_, ?_, [], rfl, upd_same, fun y hy => nomatch hy⟩
        · exact KK.back hLd hL
        · exact DD.new hL
        · exact KK.new (KK.back hLd hL)
      · rintro i Hi hi ⟨hL0, DDi, KKi, ys, rfl, hLi, hys⟩
        refine ⟨rfl, ?_⟩
        walk_at "g"
        refine g_lenS (Nat.le_trans z1 (by decide)) ?_
        walk_at "g"
        refine ⟨_, _, _, _, rfl, DDi, by omega, ?_, fun r4 H4 r40 r41 D4 K4 => ?_⟩
        · have : (z.length : Int).natAbs < 2 ^ 64 := by omega
          exact Nat.lt_of_lt_of_le (PySem.Flt.log2_lt_of (by decide) this) (by decide)
        · obtain ⟨k4, rfl⟩ := Int.eq_ofNat_of_zero_le r40
          have hk4 : k4 < z.cps.toList.length := by
            have e : z.cps.toList.length = z.length := Array.length_toList
            omega
          refine g_ixS (n := z.cps.toList[k4]) (Nat.le_trans z1 (by decide)) (atI_nat (List.getElem?_eq_getElem hk4)) ?_
          have e4 := K4 L _ hLd hLi
          refine ⟨_, e4, ?_, hL0, ?_, ?_, ys ++ [⟨#[z.cps.toList[k4]]⟩], by simp, ?_, ?_⟩
          · rw [List.length_map, sizeLine_eq]; omega
          · exact D4.other hLd hLs
          · exact (KKi.trans K4).new hL0
          · rw [upd_same, List.map_append]; rfl
          · intro y hy
            rcases List.mem_append.mp hy with hy | hy
            · exact hys y hy
            · exact ⟨_, hz _ (List.getElem_mem hk4), List.mem_singleton.mp hy⟩
      · rintro Hi ⟨hL0, DDi, KKi, ys, hyl, hLi, hys⟩
        have hy1 : ∀ y ∈ ys, y.length = 1 := fun y hy => by obtain ⟨c, _, rfl⟩ := hys y hy; rfl
        have hsum : (ys.map (·.length)).sum = ys.length := by
          clear hyl hLi hys
          induction ys with
          | nil => rfl
          | cons y r ih =>
            rw [List.map_cons, List.sum_cons, ih (fun y hy => hy1 y (List.mem_cons_of_mem _ hy)), hy1 y List.mem_cons_self, List.length_cons]
            omega
        refine g_join (SqL.of hLi) ?_ ?_
        · rw [hsum, show (Str.ofString "").length = 0 by decide +kernel]
          omega
        · walk_at "g"
          refine k _ _ ⟨_, rfl, ?_, ?_⟩ DDi KKi
          · show (Txt.join (Str.ofString "") ys).cps.size ≤ 100
            rw [← Array.length_toList, join_cps, List.length_flatMap]
            have : (ys.map fun y => y.cps.toList.length).sum = (ys.map (·.length)).sum := rfl
            rw [this, hsum]
            omega
          · intro c hc
            rw [join_cps] at hc
            obtain ⟨y, hy, hc⟩ := List.mem_flatMap.mp hc
            obtain ⟨c', h', rfl⟩ := hys y hy
            have : c = c' := by simpa using hc
            rw [this]
            exact h'
end
section
variable {P : Program} {w : World} {K : PySem.W.Frag} {mg : Str → Option Value} {base : Heap}
theorem ok__law_is_text (T : Txt K mg) : Def P w K mg base 2 "_law_is_text" ["_law_thing"] (spThingB isTxtB) := by
  obtain ⟨f, fd, h⟩ := T.d__law_is_text
  refine h.def (Fun.okM h.fn sc__law_is_text (fun vs H Q E h => ?_) (fun cdv A outer s H vs Q E hr h => ?_))
  · obtain ⟨x, rfl, _⟩ := h
    rfl
  · obtain ⟨x, rfl, hx, k⟩ := h
    have k' := k H fun _ _ h => h
    refine ⟨_, (pss_cons (ps_if (pt_not (pt_val (pe_callB (call_isiG (K := K) rfl) (by rfl) T.h_isinstance (by decide +kernel) (pa_cons (pv 0) (pa_cons (pe_bltn (v := .ty "str") (by rfl) T.h_str (by decide +kernel) rfl) pa_nil)))))
  (pss_one (ps_ret pe_bl))
  pss_nil)
  (pss_one (ps_ret (pe_cmpR op_eq (pe_callB (call_lenG (K := K) rfl) (by rfl) T.h_len (by decide +kernel) (pa_cons (pe_lc (own := [("_law_char", 1)]) rfl sc__law_is_text.nd (pi_str (pv 0)) (blkOk_by (N := N__law_is_text) (sc := defScope S__law_is_text) (by decide +kernel)) (fun _ _ _ _ _ => pg_name (i := 1) sc__law_is_text.nd rfl (Or.inl rfl)) (fun _ _ _ _ _ => pts_one (pt_cmpR (op_notInG (K := K) rfl) (pv 1) (pe_def0 (ok__law_chars T) hr rfl) (by rfl))) (fun _ _ _ _ _ => (pv 1))) pa_nil)) pe_int (nomark _))))), ?_⟩
    rcases hx with rfl | ⟨b, rfl⟩ | ⟨i, rfl⟩ | ⟨z, rfl, hz⟩ | ⟨p, rfl, hp⟩
    case inr.inr.inr.inl =>
      walk_at "g"
      refine fun L hL => ?_
      refine lc_text (fun n => !decide (n ∈ signs.cps.toList)) (fun n => .str ⟨#[n]⟩) (by omega) (fun n Hh R S hn hK hR hS => ?_) (fun H2 hK hL2 => ?_)
      · walk_at "g"
        refine ⟨rfl, ?_⟩
        walk_at "g"
        refine ⟨rfl, ?_⟩
        walk_at "g"
        refine g_split (fun h => ?_) (fun h => ?_)
        · walk_at "g"; exact hR h
        · exact hS h
      · walk_at "g"
        rw [none_bad (p := fun n => decide (n ∈ signs.cps.toList))]
        exact k _ fun p o h => hK p o (ne_of_none h hL) h
    all_goals (walk_at "g"; exact k')
end
def spFlag : Sp := fun vs H Q _ => ∃ a b, vs = [.bl a, .bl b] ∧ Q (.bl (decide (a = b))) H
section
variable {P : Program} {w : World} {K : PySem.W.Frag} {mg : Str → Option Value} {base : Heap}
theorem ok__law_flag (T : Txt K mg) : Def P w K mg base 1 "_law_flag" ["_law_thing", "_law_due"] spFlag := by
  obtain ⟨f, fd, h⟩ := T.d__law_flag
  refine h.def (Fun.okM h.fn sc__law_flag (fun vs H Q E h => ?_) (fun cdv A outer s H vs Q E hr h => ?_))
  · obtain ⟨a, b, rfl, _⟩ := h
    rfl
  · obtain ⟨a, b, rfl, k⟩ := h
    refine ⟨_, (pss_one (ps_ret (pe_and (pe_callB (call_isiG (K := K) rfl) (by rfl) T.h_isinstance (by decide +kernel) (pa_cons (pv 0) (pa_cons (pe_bltn (v := .ty "bool") (by rfl) T.h_bool (by decide +kernel) rfl) pa_nil))) (pe_one (pe_cmpR op_eq (pv 0) (pe_callTy call_boolG (by rfl) T.h_bool (by decide +kernel) (pa_cons (pv 1) pa_nil)) (nomark _)))))), ?_⟩
    walk_at "g"
    exact k
end
/-! the least text above all that begin with a prefix -/
def nxc (c : Nat) : Nat := ((signs.cps.toList.dropWhile (· != c)).drop 1).headD 0
def upL : List Nat → Option (List Nat)
  | [] => none
  | c :: r => match upL r with
    | some u => some (c :: u)
    | none => if c = 126 then none else some [nxc c]
def upV (z : Str) : V := match upL z.cps.toList with
  | none => .non
  | some u => .str ⟨u.toArray⟩
theorem sg_find : ∀ c ∈ signs.cps.toList, Builtin.Str.occurrences signs ⟨#[c]⟩ 0 signs.length 1 = [signs.cps.toList.idxOf c] := by decide +kernel
theorem sg_next : ∀ c ∈ signs.cps.toList, c = 126 ∨ (c < nxc c ∧ signs.cps.toList[signs.cps.toList.idxOf c + 1]? = some (nxc c)) := by decide +kernel
theorem sg_gap : ∀ c ∈ signs.cps.toList, c = 126 ∨ ∀ d ∈ signs.cps.toList, d < nxc c → d ≤ c := by decide +kernel
theorem sg_top : ∀ c ∈ signs.cps.toList, c ≤ 126 := by decide +kernel
theorem sg_nx {c : Nat} (h : c ∈ signs.cps.toList) (n : c ≠ 126) : nxc c ∈ signs.cps.toList := by
  rcases sg_next c h with e | ⟨_, e⟩
  · exact absurd e n
  · exact List.mem_of_getElem? e
theorem upL_rep : ∀ k, upL (List.replicate k 126) = none
  | 0 => rfl
  | k + 1 => by
    show (match upL (List.replicate k 126) with | some u => some (126 :: u) | none => if 126 = 126 then none else some [nxc 126]) = none
    rw [upL_rep k]
    rfl
theorem upL_at {c : Nat} (n : c ≠ 126) (k : Nat) : ∀ q : List Nat, upL (q ++ c :: List.replicate k 126) = some (q ++ [nxc c])
  | [] => by
    show (match upL (List.replicate k 126) with | some u => some (c :: u) | none => if c = 126 then none else some [nxc c]) = _
    rw [upL_rep k]
    show (if c = 126 then none else some [nxc c]) = _
    rw [if_neg n]
    rfl
  | a :: q => by
    show (match upL (q ++ c :: List.replicate k 126) with | some u => some (a :: u) | none => if a = 126 then none else some [nxc a]) = _
    rw [upL_at n k q]
    rfl
/-- the ~ at the end apart -/
theorem tildes : ∀ l : List Nat, (∃ k, l = List.replicate k 126) ∨ ∃ q c k, l = q ++ c :: List.replicate k 126 ∧ c ≠ 126
  | [] => .inl ⟨0, rfl⟩
  | a :: r => by
    rcases tildes r with ⟨k, e⟩ | ⟨q, c, k, e, n⟩
    · by_cases h : a = 126
      · exact .inl ⟨k + 1, by rw [h, e]; rfl⟩
      · exact .inr ⟨[], a, k, by rw [e]; rfl, h⟩
    · exact .inr ⟨a :: q, c, k, by rw [e]; rfl, n⟩
theorem tw_rep (k : Nat) (l : List Nat) (h : ∀ c r, l = c :: r → c ≠ 126) : ((List.replicate k 126 ++ l).takeWhile fun x => (#[126] : Array Nat).contains x).length = k := by
  induction k with
  | zero =>
    cases l with
    | nil => rfl
    | cons c r =>
      have n := h c r rfl
      have e : ((#[126] : Array Nat).contains c) = false := by simp [n]
      show (List.takeWhile (fun x => (#[126] : Array Nat).contains x) (c :: r)).length = 0
      rw [List.takeWhile_cons, e]
      rfl
  | succ k ih =>
    show (List.takeWhile (fun x => (#[126] : Array Nat).contains x) (126 :: (List.replicate k 126 ++ l))).length = k + 1
    rw [List.takeWhile_cons, show ((#[126] : Array Nat).contains 126) = true by simp]
    show (List.takeWhile _ _).length + 1 = k + 1
    rw [ih]
theorem rstrip_cps {z : Str} {q : List Nat} {k : Nat} (h : z.cps.toList = q ++ List.replicate k 126) (hq : ∀ c r, q.reverse = c :: r → c ≠ 126) : (PySem.Txt.rstripChars z ⟨#[126]⟩).cps.toList = q := by
  have hl : z.length = q.length + k := by
    show z.cps.size = _
    rw [← Array.length_toList, h, List.length_append, List.length_replicate]
  unfold PySem.Txt.rstripChars
  rw [PyProof.Rows.stripBy_eq]
  show (z.cps.extract 0 (z.length - ((z.cps.toList.drop 0).reverse.takeWhile _).length)).toList = q
  rw [List.drop_zero, h, List.reverse_append, List.reverse_replicate, tw_rep k q.reverse hq, Array.toList_extract, List.extract_eq_drop_take, h, hl]
  simp
theorem up_range : ∀ p x : List Nat, (∀ c ∈ p, c ∈ signs.cps.toList) → (∀ c ∈ x, c ∈ signs.cps.toList) → ((¬ x < p ∧ ∀ u, upL p = some u → x < u) ↔ p <+: x)
  | [], x, _, _ => ⟨fun _ => List.nil_prefix, fun _ => ⟨List.not_lt_nil _, fun u e => nomatch e⟩⟩
  | c :: r, [], _, _ => ⟨fun h => absurd (List.nil_lt_cons c r) h.1, fun h => absurd h (by simp)⟩
  | c :: r, d :: y, hp, hx => by
    have ih := up_range r y (fun e h => hp e (List.mem_cons_of_mem _ h)) (fun e h => hx e (List.mem_cons_of_mem _ h))
    have hc := hp c List.mem_cons_self
    have hd := hx d List.mem_cons_self
    rw [List.cons_prefix_cons]
    have eu : upL (c :: r) = (match upL r with | some u => some (c :: u) | none => if c = 126 then none else some [nxc c]) := rfl
    cases hu : upL r with
    | some u =>
      rw [hu] at ih eu
      rw [eu]
      constructor
      · rintro ⟨h1, h2⟩
        have h3 := h2 _ rfl
        rcases List.cons_lt_cons_iff.mp h3 with h4 | ⟨h4, h5⟩
        · exact absurd (List.cons_lt_cons_iff.mpr (.inl h4)) h1
        · subst h4
          exact ⟨rfl, ih.mp ⟨fun h => h1 (List.cons_lt_cons_iff.mpr (.inr ⟨rfl, h⟩)), fun v e => by cases e; exact h5⟩⟩
      · rintro ⟨rfl, h⟩
        obtain ⟨h1, h2⟩ := ih.mpr h
        refine ⟨fun h => ?_, fun v e => ?_⟩
        · rcases List.cons_lt_cons_iff.mp h with h4 | ⟨_, h4⟩
          · exact absurd h4 (Nat.lt_irrefl _)
          · exact h1 h4
        · cases e
          exact List.cons_lt_cons_iff.mpr (.inr ⟨rfl, h2 _ rfl⟩)
    | none =>
      rw [hu] at ih eu
      have ih' : ¬ y < r ↔ r <+: y := ⟨fun h => ih.mp ⟨h, fun u e => nomatch e⟩, fun h => (ih.mpr h).1⟩
      by_cases h126 : c = 126
      · have eu' : upL (c :: r) = none := by rw [eu]; show (if c = 126 then none else some [nxc c]) = none; rw [if_pos h126]
        rw [eu']
        constructor
        · rintro ⟨h1, _⟩
          have hle := sg_top d hd
          have hdc : d = c := by
            by_cases h : d < c
            · exact absurd (List.cons_lt_cons_iff.mpr (.inl h)) h1
            · omega
          subst hdc
          exact ⟨rfl, ih'.mp fun h => h1 (List.cons_lt_cons_iff.mpr (.inr ⟨rfl, h⟩))⟩
        · rintro ⟨rfl, h⟩
          refine ⟨fun k => ?_, fun u e => nomatch e⟩
          rcases List.cons_lt_cons_iff.mp k with h4 | ⟨_, h4⟩
          · exact absurd h4 (Nat.lt_irrefl _)
          · exact ih'.mpr h h4
      · have eu' : upL (c :: r) = some [nxc c] := by rw [eu]; show (if c = 126 then none else some [nxc c]) = _; rw [if_neg h126]
        rw [eu']
        have hg := (sg_gap c hc).resolve_left h126
        have hn := ((sg_next c hc).resolve_left h126).1
        constructor
        · rintro ⟨h1, h2⟩
          have h3 := h2 _ rfl
          have h4 : d < nxc c := by
            rcases List.cons_lt_cons_iff.mp h3 with h | ⟨_, h⟩
            · exact h
            · exact absurd h (List.not_lt_nil _)
          have h5 := hg d hd h4
          have hdc : d = c := by
            by_cases h : d < c
            · exact absurd (List.cons_lt_cons_iff.mpr (.inl h)) h1
            · omega
          subst hdc
          exact ⟨rfl, ih'.mp fun h => h1 (List.cons_lt_cons_iff.mpr (.inr ⟨rfl, h⟩))⟩
        · rintro ⟨rfl, h⟩
          refine ⟨fun k => ?_, fun u e => ?_⟩
          · rcases List.cons_lt_cons_iff.mp k with h4 | ⟨_, h4⟩
            · exact absurd h4 (Nat.lt_irrefl _)
            · exact ih'.mpr h h4
          · cases e
            exact List.cons_lt_cons_iff.mpr (.inl hn)
def spUp : Sp := fun vs H Q _ => ∃ z : Str, vs = [.str z] ∧ z.length ≤ 1000 ∧ (∀ c ∈ z.cps.toList, c ∈ signs.cps.toList) ∧ Q (upV z) H
theorem atI_end {α : Type} {xs : List α} {v : α} {l : List α} (h : l = xs ++ [v]) : atI l (-1) = some v := by rw [h]; exact atI_last xs v
section
variable {P : Program} {w : World} {K : PySem.W.Frag} {mg : Str → Option Value} {base : Heap}
theorem ok_up (T : Txt K mg) : Def P w K mg base 1 "up" ["text"] spUp := by
  obtain ⟨f, fd, h⟩ := T.d_up
  obtain ⟨t_SIGNS, G_SIGNS⟩ := T.k_SIGNS
  refine h.def (Fun.okM h.fn sc_up (fun vs H Q E h => ?_) (fun cdv A outer s H vs Q E hr h => ?_))
  · obtain ⟨z, rfl, _⟩ := h
    rfl
  · obtain ⟨z, rfl, hz, hs, k⟩ := h
    refine ⟨_, (pss_cons (ps_set (i := 1) sc_up.nd rfl (Or.inl rfl) (pe_m1 PySem.F.slot_str_rstrip PySem.F.type_str_rstrip mt_rstripChars (pv 0) (pe_ix (ix_seqG (K := K) rfl) (pe_glob (v := .str C_SIGNS) rfl G_SIGNS ⟨_, rfl⟩) (pe_un un_negG pe_int) (fun _ _ => rfl))))
  (pss_cons (ps_if (pt_cmpR op_eq (pv 1) pe_str (nomark _))
  (pss_one (ps_ret pe_non))
  pss_nil)
  (pss_cons (ps_set (i := 2) sc_up.nd rfl (Or.inl rfl) (pe_m1 PySem.F.slot_str_find PySem.F.type_str_find mt_find (pe_glob (v := .str C_SIGNS) rfl G_SIGNS ⟨_, rfl⟩) (pe_ix (ix_seqG (K := K) rfl) (pv 1) (pe_un un_negG pe_int) (fun _ _ => rfl))))
  (pss_one (ps_ret (pe_op op_addG (pe_slice (sl_G (K := K) rfl) (pv 1) po_none (po_some (pe_un un_negG pe_int))) (pe_ix (ix_seqG (K := K) rfl) (pe_glob (v := .str C_SIGNS) rfl G_SIGNS ⟨_, rfl⟩) (pe_op op_addG (pv 2) pe_int) (fun _ _ => rfl)))))))), ?_⟩
    walk_at "g"
    refine g_ixS (n := 126) (by decide +kernel) (by decide +kernel) ?_
    refine ⟨_, _, rfl, rfl, by rw [sizeLine_eq]; omega, ?_⟩
    generalize hk : PySem.Txt.rstripChars z ⟨#[126]⟩ = kept
    rcases tildes z.cps.toList with ⟨n, e⟩ | ⟨q, c, n, e, nc⟩
    · have hkc : kept.cps.toList = [] := by rw [← hk]; exact rstrip_cps (q := []) (by rw [e]; rfl) (fun _ _ h => nomatch h)
      have hke : kept = Str.ofString "" := str_ext (by rw [hkc]; decide +kernel)
      subst hke
      walk_at "g"
      refine g_T ?_
      walk_at "g"
      have : upV z = .non := by unfold upV; rw [e, upL_rep]
      rw [← this]
      exact k
    · have hkc : kept.cps.toList = q ++ [c] := by
        rw [← hk]
        refine rstrip_cps (q := q ++ [c]) (by rw [e, List.append_assoc]; rfl) (fun a r h => ?_)
        rw [List.reverse_append] at h
        injection h with h1 _
        rw [← h1]; exact nc
      have hcm : c ∈ signs.cps.toList := hs c (by rw [e]; simp)
      have hkn : ¬ kept = Str.ofString "" := fun h => by
        rw [h] at hkc
        have : (Str.ofString "").cps.toList = [] := by decide +kernel
        rw [this] at hkc
        simp at hkc
      have hlen : kept.length = q.length + 1 := by
        show kept.cps.size = _
        rw [← Array.length_toList, hkc]; simp
      have hzl : z.length = q.length + 1 + n := by
        show z.cps.size = _
        rw [← Array.length_toList, e]; simp; omega
      walk_at "g"
      refine g_dec (fun h => absurd h hkn) (fun _ => ?_)
      walk_at "g"
      refine g_ixS (n := c) (by rw [sizeLine_eq]; omega) (atI_end hkc) ?_
      refine ⟨_, _, rfl, rfl, ?_⟩
      have hf : PySem.Txt.find signs ⟨#[c]⟩ = (signs.cps.toList.idxOf c : Nat) := by
        unfold PySem.Txt.find
        rw [sg_find c hcm]
      rw [show C_SIGNS = signs from rfl, hf]
      walk_at "g"
      refine g_slS (by rw [sizeLine_eq]; omega) ?_
      walk_at "g"
      refine g_ixS (n := nxc c) (by decide +kernel) (atI_nat (j := signs.cps.toList.idxOf c + 1) ((sg_next c hcm).resolve_left nc).2) ?_
      have hcut : (cutS kept none (some (-1))).cps.toList = q := by
        show ((kept.cps.toList.drop 0).take (HT.sIx kept.length kept.length (some (-1)) - 0)) = q
        have : HT.sIx kept.length kept.length (some (-1)) = q.length := by
          show (if (-1 : Int) < 0 then ((-1 : Int) + (kept.length : Int)).toNat else min (-1 : Int).toNat kept.length) = _
          rw [if_pos (by decide), hlen]; omega
        rw [this, hkc]
        simp
      have hcl : (cutS kept none (some (-1))).length = q.length := by
        show (cutS kept none (some (-1))).cps.size = _
        rw [← Array.length_toList, hcut]
      refine g_addS (by rw [sizeLine_eq, hcl]; show q.length + 1 ≤ _; omega) ?_
      walk_at "g"
      have : upV z = .str (cutS kept none (some (-1)) ++ ⟨#[nxc c]⟩) := by
        unfold upV
        rw [e, upL_at nc]
        refine congrArg V.str (str_ext ?_)
        rw [PySem.W.KT.app_list, hcut]
      rw [← this]
      exact k
end
theorem cut_take {z : Str} {n : Nat} (h : n ≤ z.length) : (cutS z none (some (n : Int))).cps.toList = z.cps.toList.take n := by
  show ((z.cps.toList.drop 0).take (HT.sIx z.length z.length (some (n : Int)) - 0)) = _
  rw [HT.sIx_nat, Nat.min_eq_left h]
  rfl
section
variable {P : Program} {w : World} {K : PySem.W.Frag} {mg : Str → Option Value} {base : Heap}
theorem tld : (⟨#[126]⟩ : Str) = Str.ofString "~" := by decide +kernel
theorem ok__law_up (T : Txt K mg) : Def P w K mg base 2 "_law_up" ["_law_text_here"] spUp := by
  obtain ⟨f, fd, h⟩ := T.d__law_up
  refine h.def (Fun.okM h.fn sc__law_up (fun vs H Q E h => ?_) (fun cdv A outer s H vs Q E hr h => ?_))
  · obtain ⟨z, rfl, _⟩ := h
    rfl
  · obtain ⟨z, rfl, hz, hs, k⟩ := h
    refine ⟨_, (pss_cons (ps_set (i := 1) sc__law_up.nd rfl (Or.inl rfl) (pe_def0 (ok__law_chars T) hr rfl))
  (pss_cons (ps_set (i := 2) sc__law_up.nd rfl (Or.inl rfl) (pe_callB (call_lenG (K := K) rfl) (by rfl) T.h_len (by decide +kernel) (pa_cons (pv 0) pa_nil)))
  (pss_cons (ps_for PassesOwn.never rfl (pi_range1 rfl T.h_range (pa_cons (pe_callB (call_lenG (K := K) rfl) (by rfl) T.h_len (by decide +kernel) (pa_cons (pv 0) pa_nil)) pa_nil)) (pg_name (i := 3) sc__law_up.nd rfl (Or.inl rfl))
  (pss_one (ps_if (PW.pt (pw_and (pt_cmpR op_gtG (pv 2) pe_int (nomark _)) (pw_and1 (pt_cmpR op_eq (pe_ix (ix_seqG (K := K) rfl) (pv 0) (pe_op op_subG (pv 2) pe_int) (fun _ _ => rfl)) pe_str (nomark _)))))
  (pss_one (ps_set (i := 2) sc__law_up.nd rfl (Or.inl rfl) (pe_op op_subG (pv 2) pe_int)))
  pss_nil)))
  (pss_cons (ps_if (pt_cmpR op_eq (pv 2) pe_int (nomark _))
  (pss_one (ps_ret pe_non))
  pss_nil)
  (pss_one (ps_ret (pe_op op_addG (pe_slice (sl_G (K := K) rfl) (pv 0) po_none (po_some (pe_op op_subG (pv 2) pe_int))) (pe_ix (ix_seqG (K := K) rfl) (pv 1) (pe_op op_addG (pe_m1 PySem.F.slot_str_index PySem.F.type_str_index mt_sindex (pv 1) (pe_ix (ix_seqG (K := K) rfl) (pv 0) (pe_op op_subG (pv 2) pe_int) (fun _ _ => rfl))) pe_int) (fun _ _ => rfl))))))))), ?_⟩
    obtain ⟨l, n, e, hl⟩ : ∃ l n, z.cps.toList = l ++ List.replicate n 126 ∧ (l = [] ∨ ∃ q c, l = q ++ [c] ∧ c ≠ 126) := by
      rcases tildes z.cps.toList with ⟨n, e⟩ | ⟨q, c, n, e, nc⟩
      · exact ⟨[], n, e, .inl rfl⟩
      · exact ⟨q ++ [c], n, by rw [e, List.append_assoc]; rfl, .inr ⟨q, c, rfl, nc⟩⟩
    have hzl : z.length = l.length + n := by
      show z.cps.size = _
      rw [← Array.length_toList, e]; simp
    walk_at "g"
    refine ⟨rfl, ?_⟩
    walk_at "g"
    refine g_lenS (by rw [sizeLine_eq]; omega) ?_
    walk_at "g"
    refine g_lenS (by rw [sizeLine_eq]; omega) ?_
    refine ⟨_, rfl, by omega, by omega, ?_⟩
    refine for_rangeA (fun i σ' H' => H' = H ∧ ∃ s3, σ' = [some (.str z), some (.str signs), some (.int ((z.length - min i n : Nat) : Int)), s3]) ⟨rfl, none, by simp; rfl⟩ ?_ ?_
    · rintro i σ' H' D' hi ⟨rfl, s3, rfl⟩ hnx hct hbk hrt
      have hi' : i < z.length := by simpa using hi
      walk_at "g"
      refine g_dec (fun h0 => ?_) (fun h0 => ?_)
      · walk_at "g"
        by_cases hin : i < n
        · have hm : min i n = i := by omega
          refine g_ixS (n := 126) (by rw [sizeLine_eq]; omega) ?_ ?_
          · rw [show ((z.length - min i n : Nat) : Int) - 1 = ((z.length - min i n - 1 : Nat) : Int) by omega]
            refine atI_nat ?_
            rw [e, List.getElem?_append_right (by omega), List.getElem?_replicate, if_pos (by omega)]
          walk_at "g"
          refine g_dec (fun _ => ?_) (fun h => absurd tld h)
          walk_at "g"
          refine hnx _ _ ⟨rfl, some (.int (0 + (i : Int))), ?_⟩
          rw [show ((z.length - min i n : Nat) : Int) - 1 = ((z.length - min (i + 1) n : Nat) : Int) by omega]
          rfl
        · obtain ⟨q, c, hq, nc⟩ : ∃ q c, l = q ++ [c] ∧ c ≠ 126 := hl.resolve_left fun h => by rw [h] at hzl; simp at hzl; omega
          have hql : l.length = q.length + 1 := by rw [hq]; simp
          refine g_ixS (n := c) (by rw [sizeLine_eq]; omega) ?_ ?_
          · rw [show ((z.length - min i n : Nat) : Int) - 1 = ((q.length : Nat) : Int) by omega]
            refine atI_nat ?_
            rw [e, hq]; simp
          walk_at "g"
          refine g_dec (fun h => ?_) (fun h => ?_)
          · rw [← tld] at h
            injection h with h
            simp at h
            exact absurd h nc
          walk_at "g"
          refine hnx _ _ ⟨rfl, some (.int (0 + (i : Int))), ?_⟩
          rw [show min i n = min (i + 1) n by omega]
          rfl
      · walk_at "g"
        refine hnx _ _ ⟨rfl, some (.int (0 + (i : Int))), ?_⟩
        rw [show z.length - min i n = z.length - min (i + 1) n by omega]
        rfl
    · rintro σ' H' ⟨rfl, s3, rfl⟩
      have hE : z.length - min ((z.length : Int)).toNat n = l.length := by omega
      rw [hE]
      walk_at "g"
      rcases hl with rfl | ⟨q, c, rfl, nc⟩
      · refine g_T ?_
        walk_at "g"
        have : upV z = .non := by unfold upV; rw [e, List.nil_append, upL_rep]
        rw [← this]
        exact k
      · have hql : (q ++ [c]).length = q.length + 1 := by simp
        have hcm : c ∈ signs.cps.toList := hs c (by rw [e]; simp)
        refine g_dec (fun h => by rw [hql] at h; omega) (fun _ => ?_)
        walk_at "g"
        refine g_slS (by rw [sizeLine_eq]; omega) ?_
        walk_at "g"
        rw [show (((q ++ [c]).length : Nat) : Int) - 1 = ((q.length : Nat) : Int) by rw [hql]; omega]
        refine g_ixS (n := c) (by rw [sizeLine_eq]; omega) (atI_nat (by rw [e]; simp)) ?_
        refine ⟨_, _, _, _, rfl, rfl, sg_find c hcm, ?_⟩
        walk_at "g"
        refine g_ixS (n := nxc c) (by decide +kernel) (atI_nat (j := signs.cps.toList.idxOf c + 1) ((sg_next c hcm).resolve_left nc).2) ?_
        have hcut : (cutS z none (some ((q.length : Nat) : Int))).cps.toList = q := by
          rw [cut_take (by omega), e, List.append_assoc]; simp
        have hcl : (cutS z none (some ((q.length : Nat) : Int))).length = q.length := by
          show (cutS z none (some ((q.length : Nat) : Int))).cps.size = _
          rw [← Array.length_toList, hcut]
        refine g_addS (by rw [sizeLine_eq, hcl]; show q.length + 1 ≤ _; omega) ?_
        walk_at "g"
        have : upV z = .str (cutS z none (some ((q.length : Nat) : Int)) ++ ⟨#[nxc c]⟩) := by
          unfold upV
          rw [e, List.append_assoc, show [c] ++ List.replicate n 126 = c :: List.replicate n 126 from rfl, upL_at nc]
          refine congrArg V.str (str_ext ?_)
          rw [PySem.W.KT.app_list, hcut]
        rw [← this]
        exact k
end
theorem nodup_le {α : Type} [DecidableEq α] : ∀ {ys xs : List α}, ys.Nodup → (∀ y ∈ ys, y ∈ xs) → ys.length ≤ xs.length
  | [], _, _, _ => Nat.zero_le _
  | y :: ys, xs, nd, h => by
    obtain ⟨n1, n2⟩ := List.nodup_cons.mp nd
    have hy := h y List.mem_cons_self
    have h2 : ys.length ≤ (xs.erase y).length := nodup_le n2 fun z hz => (List.mem_erase_of_ne (fun e : z = y => n1 (by rw [← e]; exact hz))).mpr (h z (List.mem_cons_of_mem _ hz))
    rw [List.length_erase_of_mem hy] at h2
    have := List.length_pos_of_mem hy
    simp
    omega
def digS (k : Nat) : Str := Str.ofString (toString (k : Int))
theorem dig_inj : ((List.range 60).map digS).Nodup := by decide +kernel
theorem dig_ok : ∀ k ∈ List.range 60, (digS k).length ≤ 2 ∧ (digS k).length ≠ 0 ∧ (∀ c ∈ (digS k).cps.toList, c ∈ nameSigns ∧ c < 97) := by decide +kernel
theorem kept_big : ∀ z ∈ keptWords, ∀ c ∈ z.cps.toList, 97 ≤ c := by decide +kernel
theorem app_inj {z a b : Str} (h : z ++ a = z ++ b) : a = b := by
  refine str_ext ?_
  have h2 := congrArg (fun s : Str => s.cps.toList) h
  simp only [PySem.W.KT.app_list] at h2
  exact List.append_cancel_left h2
theorem pick_at {ws : List Nat} {m : Nat} (hw : ws.length = m) {r : Int} (r0 : 0 ≤ r) (r1 : r < (m : Int)) : ∃ c, c ∈ ws ∧ atI ws r = some c := by
  obtain ⟨k4, rfl⟩ := Int.eq_ofNat_of_zero_le r0
  have hk : k4 < ws.length := by omega
  exact ⟨_, List.getElem_mem hk, atI_nat (List.getElem?_eq_getElem hk)⟩
/-- a name but for the words that are kept -/
def preP (z : Str) : Prop := z.length ≠ 0 ∧ z.length ≤ 8 ∧ (∀ c r, z.cps.toList = c :: r → c ∈ letters) ∧ ∀ c ∈ z.cps.toList, c ∈ nameSigns
def spName : Sp := fun vs H Q _ => ∃ (d sc : Addr) (ns : List Int) (L : Addr) (xs : List Str), vs = [.ref d, .ref L] ∧ Dr H d sc ns ∧ L ≠ d ∧ H L = some (.lst (xs.map V.str)) ∧ xs.length < 60 ∧ ∀ z H', nameP z → z ∉ xs → Dr H' d sc ns → Keep d H H' → Q (.str z) H'
section
variable {P : Program} {w : World} {K : PySem.W.Frag} {mg : Str → Option Value} {base : Heap}
theorem ok__law_name (T : Txt K mg) : Def P w K mg base 2 "_law_name" ["_law_draw", "_law_taken"] spName := by
  obtain ⟨f, fd, h⟩ := T.d__law_name
  refine h.def (Fun.okM h.fn sc__law_name (fun vs H Q E h => ?_) (fun cdv A outer s H vs Q E hr h => ?_))
  · obtain ⟨d, sc, ns, L, xs, rfl, _⟩ := h
    rfl
  · obtain ⟨d, sc, ns, L, xs, rfl, hD, hLd, hL, hx, k⟩ := h
    refine ⟨_, (pss_cons (ps_set (i := 2) sc__law_name.nd rfl (Or.inl rfl) pe_str)
  (pss_cons (ps_set (i := 3) sc__law_name.nd rfl (Or.inl rfl) (pe_op op_addG (pv 2) pe_str))
  (pss_cons (ps_set (i := 4) sc__law_name.nd rfl (Or.inl rfl) (pe_ix (ix_seqG (K := K) rfl) (pv 2) (pe_def (ok__law_take T) hr rfl (pa_cons (pv 0) (pa_cons pe_int pa_nil))) (fun _ _ => rfl)))
  (pss_cons (ps_for PassesOwn.never rfl (pi_range1 rfl T.h_range (pa_cons (pe_def (ok__law_take T) hr rfl (pa_cons (pv 0) (pa_cons pe_int pa_nil))) pa_nil)) (pg_name (i := 5) sc__law_name.nd rfl (Or.inl rfl))
  (pss_one (ps_set (i := 4) sc__law_name.nd rfl (Or.inl rfl) (pe_op op_addG (pv 4) (pe_ix (ix_seqG (K := K) rfl) (pv 3) (pe_def (ok__law_take T) hr rfl (pa_cons (pv 0) (pa_cons pe_int pa_nil))) (fun _ _ => rfl))))))
  (pss_cons (ps_set (i := 6) sc__law_name.nd rfl (Or.inl rfl) (pe_lst (pa_cons pe_str (pa_cons pe_str (pa_cons pe_str (pa_cons pe_str (pa_cons pe_str (pa_cons pe_str (pa_cons pe_str (pa_cons pe_str (pa_cons pe_str (pa_cons pe_str pa_nil))))))))))))
  (pss_cons (ps_if (PW.pt (pw_or (pt_cmpR (op_inG (K := K) rfl) (pv 4) (pv 6) (by rfl)) (pw_or1 (pt_cmpR (op_inG (K := K) rfl) (pv 4) (pv 1) (by rfl)))))
  (pss_cons (ps_set (i := 4) sc__law_name.nd rfl (Or.inl rfl) (pe_slice (sl_G (K := K) rfl) (pv 4) po_none (po_some pe_int)))
  (pss_one (ps_for PassesOwn.never rfl (pi_range1 rfl T.h_range (pa_cons pe_int pa_nil)) (pg_name (i := 5) sc__law_name.nd rfl (Or.inl rfl))
  (pss_one (ps_if (pt_cmpR (op_notInG (K := K) rfl) (pe_op op_addG (pv 4) (pe_callTy call_str_int (by rfl) T.h_str (by decide +kernel) (pa_cons (pv 5) pa_nil))) (pv 1) (by rfl))
  (pss_one (ps_ret (pe_op op_addG (pv 4) (pe_callTy call_str_int (by rfl) T.h_str (by decide +kernel) (pa_cons (pv 5) pa_nil)))))
  pss_nil)))))
  pss_nil)
  (pss_one (ps_ret (pv 4))))))))), ?_⟩
    walk_at "g"
    have hll : letters.length = 26 := by decide +kernel
    have hnl : nameSigns.length = 36 := by decide +kernel
    have hns : (Str.ofString "abcdefghijklmnopqrstuvwxyz" ++ Str.ofString "0123456789").cps.toList = nameSigns := by decide +kernel
    have hsl : (Str.ofString "abcdefghijklmnopqrstuvwxyz" ++ Str.ofString "0123456789").length = 36 := by decide +kernel
    have hlet : (Str.ofString "abcdefghijklmnopqrstuvwxyz").cps.toList = letters := rfl
    have hlt : (Str.ofString "abcdefghijklmnopqrstuvwxyz").length = 26 := by decide +kernel
    refine g_addS (by decide +kernel) ?_
    generalize hS : Str.ofString "abcdefghijklmnopqrstuvwxyz" ++ Str.ofString "0123456789" = sg at hns hsl ⊢
    generalize hT : Str.ofString "abcdefghijklmnopqrstuvwxyz" = lt at hlet hlt ⊢
    walk_at "g"
    refine ⟨_, _, _, _, rfl, hD, by decide, by decide +kernel, fun r H1 r0 r1 D1 K1 => ?_⟩
    obtain ⟨c0, hc0, hat0⟩ := pick_at (ws := letters) hll r0 r1
    refine g_ixS (n := c0) (by rw [hlt]; decide) (by rw [hlet]; exact hat0) ?_
    walk_at "g"
    refine ⟨_, _, _, _, rfl, D1, by decide, by decide +kernel, fun r2 H2 r20 r21 D2 K2 => ?_⟩
    refine ⟨_, rfl, by omega, by omega, ?_⟩
    have hc0n : c0 ∈ nameSigns := by
      have : ∀ c ∈ letters, c ∈ nameSigns := by decide +kernel
      exact this _ hc0
    refine for_rangeA (fun i σ' H' => ∃ (z : Str) (kv : Option V), σ' = [some (.ref d), some (.ref L), some (.str lt), some (.str sg), some (.str z), kv, none] ∧ z.length = i + 1 ∧ preP z ∧ Dr H' d sc ns ∧ Keep d H H') ⟨⟨#[c0]⟩, none, rfl, rfl, ⟨by show (1 : Nat) ≠ 0; decide, by show (1 : Nat) ≤ 8; decide, fun c r h => by cases h; exact hc0, fun c h => by simp at h; rw [h]; exact hc0n⟩, D2, K1.trans K2⟩ ?_ ?_
    · rintro i σ' H3 D' hi ⟨z, kv, rfl, hz, hp, D3, K3⟩ hnx hct hbk hrt
      walk_at "g"
      refine ⟨_, _, _, _, rfl, D3, by decide, by decide +kernel, fun r4 H4 r40 r41 D4 K4 => ?_⟩
      obtain ⟨c, hc, hat⟩ := pick_at (ws := nameSigns) hnl r40 r41
      refine g_ixS (n := c) (by rw [hsl]; decide) (by rw [hns]; exact hat) ?_
      have hi8 : i < 8 := by omega
      have hl1 : (z ++ (⟨#[c]⟩ : Str)).length = i + 1 + 1 := by rw [PySem.Str.length_append, hz]; rfl
      refine g_addS (by rw [sizeLine_eq, hz]; show i + 1 + 1 ≤ _; omega) ?_
      walk_at "g"
      refine hnx _ _ ⟨_, _, rfl, hl1, ⟨by omega, by omega, fun a r h => ?_, fun a h => ?_⟩, D4, K3.trans K4⟩
      · rw [PySem.W.KT.app_list] at h
        cases e : z.cps.toList with
        | nil =>
          have : z.cps.toList.length = z.length := Array.length_toList
          rw [e, hz] at this; simp at this
        | cons b s =>
          rw [e] at h
          injection h with h1 _
          rw [← h1]
          exact hp.2.2.1 b s e
      · rw [PySem.W.KT.app_list] at h
        rcases List.mem_append.mp h with h | h
        · exact hp.2.2.2 a h
        · have : a = c := by simpa using h
          rw [this]; exact hc
    · rintro σ' H3 ⟨z, kv, rfl, hz, hp, D3, K3⟩
      walk_at "g"
      refine ⟨by show 10 ≤ sizeLine; decide, fun q hq => ?_⟩
      obtain ⟨hqd, hqs⟩ := D3.ne hq
      have D4 := D3.new (o := .lst ((keptWords).map V.str)) hq
      have K4 := K3.new (o := .lst ((keptWords).map V.str)) (K3.back hqd hq)
      have hL4 : (upd H3 q (.lst (keptWords.map V.str))) L = some (.lst (xs.map V.str)) := K4 L _ hLd hL
      walk_at "g"
      refine .inr ⟨_, keptWords.map V.str, rfl, .inl (SqL.of upd_same), rfl, Tw.flat_strs _, ?_⟩
      rw [if_neg Bool.false_ne_true, inV_strs]
      have hfl : (keptWords.map V.str) = [V.str (Str.ofString "and"), V.str (Str.ofString "or"), V.str (Str.ofString "not"), V.str (Str.ofString "sure"), V.str (Str.ofString "in"), V.str (Str.ofString "is"), V.str (Str.ofString "empty"), V.str (Str.ofString "begins"), V.str (Str.ofString "always"), V.str (Str.ofString "never")] := rfl
      rw [← hfl]
      walk_at "g"
      have h6 : (cutS z none (some 6)).cps.toList = z.cps.toList.take 6 := by
        show ((z.cps.toList.drop 0).take (HT.sIx z.length z.length (some ((6 : Nat) : Int)) - 0)) = _
        rw [HT.sIx_nat]
        have : z.cps.toList.length = z.length := Array.length_toList
        rw [List.drop_zero, Nat.sub_zero]
        by_cases h : 6 ≤ z.length
        · rw [Nat.min_eq_left h]
        · rw [Nat.min_eq_right (by omega), ← this, List.take_length, List.take_of_length_le (by omega)]
      have hl6 : (cutS z none (some 6)).length = min 6 z.length := by
        show (cutS z none (some 6)).cps.size = _
        have : z.cps.toList.length = z.length := Array.length_toList
        rw [← Array.length_toList, h6, List.length_take, this]
      have good : ∀ i, i < 60 → nameP (cutS z none (some 6) ++ digS i) := fun i hi => by
        obtain ⟨d1, d2, d3⟩ := dig_ok i (List.mem_range.mpr hi)
        have hlen : (cutS z none (some 6) ++ digS i).length = min 6 z.length + (digS i).length := by rw [PySem.Str.length_append, hl6]
        have hz0 := hp.1
        have hcp : (cutS z none (some 6) ++ digS i).cps.toList = z.cps.toList.take 6 ++ (digS i).cps.toList := by rw [PySem.W.KT.app_list, h6]
        refine ⟨by omega, by omega, fun c r h => ?_, fun hk => ?_, fun c h => ?_⟩
        · rw [hcp] at h
          cases e : z.cps.toList with
          | nil =>
            have : z.cps.toList.length = z.length := Array.length_toList
            rw [e] at this; simp at this; omega
          | cons b s =>
            rw [e] at h
            injection h with h1 _
            rw [← h1]
            exact hp.2.2.1 b s e
        · have hdl : (digS i).cps.toList.length = (digS i).length := Array.length_toList
          obtain ⟨c, hc⟩ : ∃ c, c ∈ (digS i).cps.toList := by
            cases e : (digS i).cps.toList with
            | nil => rw [e] at hdl; simp at hdl; omega
            | cons c r => exact ⟨c, List.mem_cons_self⟩
          have h1 := kept_big _ hk c (by rw [hcp]; exact List.mem_append.mpr (.inr hc))
          have h2 := (d3 c hc).2
          omega
        · rw [hcp] at h
          rcases List.mem_append.mp h with h | h
          · exact hp.2.2.2 c (List.mem_of_mem_take h)
          · exact (d3 c h).1
      refine g_dec (fun h1 => ?_) (fun h1 => ?_)
      rotate_left
      · walk_at "g"
        refine .inr ⟨_, xs.map V.str, rfl, .inl (SqL.of hL4), rfl, Tw.flat_strs _, ?_⟩
        rw [if_neg Bool.false_ne_true, inV_strs]
        walk_at "g"
        refine g_dec (fun h2 => ?_) (fun h2 => ?_)
        rotate_left
        · walk_at "g"
          exact k z _ ⟨hp.1, hp.2.1, hp.2.2.1, h1, hp.2.2.2⟩ h2 D4 K4
        walk_at "g"
        refine g_slS (by rw [sizeLine_eq]; omega) ?_
        walk_at "g"
        refine ⟨_, rfl, by omega, by omega, ?_⟩
        refine for_rangeA (fun i σ' H' => H' = upd H3 q (.lst (keptWords.map V.str)) ∧ (∃ v5, σ' = [some (.ref d), some (.ref L), some (.str lt), some (.str sg), some (.str (cutS z none (some 6))), v5, some (.ref q)]) ∧ ∀ j < i, cutS z none (some 6) ++ digS j ∈ xs) ⟨rfl, ⟨_, rfl⟩, fun j hj => absurd hj (Nat.not_lt_zero _)⟩ ?_ ?_
        · rintro i σ' H5 D' hi ⟨rfl, ⟨v5, rfl⟩, hall⟩ hnx hct hbk hrt
          have hi60 : i < 60 := by simpa using hi
          have hdg := (dig_ok i (List.mem_range.mpr hi60)).1
          have e0 : Str.ofString (toString (0 + (i : Int))) = digS i := by rw [Int.zero_add]; rfl
          have hlog : (0 + (i : Int)).natAbs.log2 < 1920 := by
            have : (0 + (i : Int)).natAbs < 2 ^ 64 := by omega
            exact Nat.lt_of_lt_of_le (PySem.Flt.log2_lt_of (by decide) this) (by decide)
          walk_at "g"
          refine ⟨_, rfl, hlog, ?_⟩
          rw [e0]
          refine g_addS (by rw [sizeLine_eq, hl6]; omega) ?_
          walk_at "g"
          refine .inr ⟨_, xs.map V.str, rfl, .inl (SqL.of hL4), rfl, Tw.flat_strs _, ?_⟩
          rw [if_pos rfl, inV_strs]
          walk_at "g"
          refine g_ndec (fun hn => ?_) (fun hn => ?_)
          · walk_at "g"
            rw [hrt]
            refine ⟨_, rfl, hlog, ?_⟩
            rw [e0]
            refine g_addS (by rw [sizeLine_eq, hl6]; omega) ?_
            walk_at "g"
            exact k _ _ (good i hi60) hn D4 K4
          · walk_at "g"
            refine hnx _ _ ⟨rfl, ⟨_, rfl⟩, fun j hj => ?_⟩
            rcases Nat.lt_or_ge j i with h | h
            · exact hall j h
            · obtain rfl : j = i := by omega
              exact hn
        · rintro σ' H5 ⟨rfl, ⟨v5, rfl⟩, hall⟩
          have hnd : ((List.range 60).map fun j => cutS z none (some 6) ++ digS j).Nodup := by
            have h := dig_inj
            rw [List.nodup_iff_pairwise_ne, List.pairwise_map] at h ⊢
            exact h.imp fun hab he => hab (app_inj he)
          have := nodup_le hnd (xs := xs) fun y hy => by
            obtain ⟨j, hj, rfl⟩ := List.mem_map.mp hy
            exact hall j (by simpa using hj)
          simp at this
          omega
      walk_at "g"
      refine g_slS (by rw [sizeLine_eq]; omega) ?_
      walk_at "g"
      refine ⟨_, rfl, by omega, by omega, ?_⟩
      refine for_rangeA (fun i σ' H' => H' = upd H3 q (.lst (keptWords.map V.str)) ∧ (∃ v5, σ' = [some (.ref d), some (.ref L), some (.str lt), some (.str sg), some (.str (cutS z none (some 6))), v5, some (.ref q)]) ∧ ∀ j < i, cutS z none (some 6) ++ digS j ∈ xs) ⟨rfl, ⟨_, rfl⟩, fun j hj => absurd hj (Nat.not_lt_zero _)⟩ ?_ ?_
      · rintro i σ' H5 D' hi ⟨rfl, ⟨v5, rfl⟩, hall⟩ hnx hct hbk hrt
        have hi60 : i < 60 := by simpa using hi
        have hdg := (dig_ok i (List.mem_range.mpr hi60)).1
        have e0 : Str.ofString (toString (0 + (i : Int))) = digS i := by rw [Int.zero_add]; rfl
        have hlog : (0 + (i : Int)).natAbs.log2 < 1920 := by
          have : (0 + (i : Int)).natAbs < 2 ^ 64 := by omega
          exact Nat.lt_of_lt_of_le (PySem.Flt.log2_lt_of (by decide) this) (by decide)
        walk_at "g"
        refine ⟨_, rfl, hlog, ?_⟩
        rw [e0]
        refine g_addS (by rw [sizeLine_eq, hl6]; omega) ?_
        walk_at "g"
        refine .inr ⟨_, xs.map V.str, rfl, .inl (SqL.of hL4), rfl, Tw.flat_strs _, ?_⟩
        rw [if_pos rfl, inV_strs]
        walk_at "g"
        refine g_ndec (fun hn => ?_) (fun hn => ?_)
        · walk_at "g"
          rw [hrt]
          refine ⟨_, rfl, hlog, ?_⟩
          rw [e0]
          refine g_addS (by rw [sizeLine_eq, hl6]; omega) ?_
          walk_at "g"
          exact k _ _ (good i hi60) hn D4 K4
        · walk_at "g"
          refine hnx _ _ ⟨rfl, ⟨_, rfl⟩, fun j hj => ?_⟩
          rcases Nat.lt_or_ge j i with h | h
          · exact hall j h
          · obtain rfl : j = i := by omega
            exact hn
      · rintro σ' H5 ⟨rfl, ⟨v5, rfl⟩, hall⟩
        have hnd : ((List.range 60).map fun j => cutS z none (some 6) ++ digS j).Nodup := by
          have h := dig_inj
          rw [List.nodup_iff_pairwise_ne, List.pairwise_map] at h ⊢
          exact h.imp fun hab he => hab (app_inj he)
        have := nodup_le hnd (xs := xs) fun y hy => by
          obtain ⟨j, hj, rfl⟩ := List.mem_map.mp hy
          exact hall j (by simpa using hj)
        simp at this
        omega
end
theorem cut_mem {z : Str} {lo hi : Option Int} {c : Nat} (h : c ∈ (cutS z lo hi).cps.toList) : c ∈ z.cps.toList := by
  have h' : c ∈ ((z.cps.toList.drop (HT.sIx z.length 0 lo)).take (HT.sIx z.length z.length hi - HT.sIx z.length 0 lo)) := h
  exact List.mem_of_mem_drop (List.mem_of_mem_take h')
theorem cut40 {z : Str} : (cutS z none (some 40)).length ≤ 40 := by
  show (((z.cps.toList.drop (HT.sIx z.length 0 none)).take (HT.sIx z.length z.length (some 40) - HT.sIx z.length 0 none)).toArray).size ≤ 40
  have e := HT.sIx_nat z.length z.length 40
  have e' : HT.sIx z.length z.length (some 40) = min 40 z.length := e
  rw [List.size_toArray, List.length_take, e', HT.sIx_none]
  omega
theorem mem_app {z w : Str} {c : Nat} (h : c ∈ (z ++ w).cps.toList) : c ∈ z.cps.toList ∨ c ∈ w.cps.toList := by
  rw [PySem.W.KT.app_list] at h
  exact List.mem_append.mp h
theorem cut_len {z : Str} {lo hi : Option Int} : (cutS z lo hi).length ≤ z.length := by
  show (cutS z lo hi).cps.size ≤ z.cps.size
  unfold cutS
  rw [List.size_toArray, List.length_take, List.length_drop, Array.length_toList]
  omega
def isL (v : V) : Prop := ∃ z : Str, v = .str z ∧ z.length ≤ 300 ∧ ∀ c ∈ z.cps.toList, c ∈ signs.cps.toList
def spCand : Sp := fun vs H Q _ => ∃ (d sc : Addr) (ns : List Int) (p : Str), vs = [.ref d, .str p] ∧ Dr H d sc ns ∧ p.length ≤ 100 ∧ (∀ c ∈ p.cps.toList, c ∈ signs.cps.toList) ∧ ∀ v H', isL v → Dr H' d sc ns → Keep d H H' → Q v H'
section
variable {P : Program} {w : World} {K : PySem.W.Frag} {mg : Str → Option Value} {base : Heap}
theorem ok__law_candidate (T : Txt K mg) : Def P w K mg base 3 "_law_candidate" ["_law_draw", "_law_prefix"] spCand := by
  obtain ⟨f, fd, h⟩ := T.d__law_candidate
  refine h.def (Fun.okM h.fn sc__law_candidate (fun vs H Q E h => ?_) (fun cdv A outer s H vs Q E hr h => ?_))
  · obtain ⟨d, sc, ns, p, rfl, _⟩ := h
    rfl
  · obtain ⟨d, sc, ns, p, rfl, hD, hp, hs, k⟩ := h
    refine ⟨_, (pss_cons (ps_set (i := 2) sc__law_candidate.nd rfl (Or.inl rfl) (pe_def (ok__law_take T) hr rfl (pa_cons (pv 0) (pa_cons pe_int pa_nil))))
  (pss_cons (ps_set (i := 3) sc__law_candidate.nd rfl (Or.inl rfl) (pe_def0 (ok__law_chars T) hr rfl))
  (pss_cons (ps_if (pt_cmpR op_eq (pv 2) pe_int (nomark _))
  (pss_one (ps_ret (pe_slice (sl_G (K := K) rfl) (pe_op op_addG (pv 1) (pe_def (ok__law_text T) hr rfl (pa_cons (pv 0) pa_nil))) po_none (po_some pe_int))))
  pss_nil)
  (pss_cons (ps_if (pt_cmpR op_eq (pv 2) pe_int (nomark _))
  (pss_one (ps_ret (pe_slice (sl_G (K := K) rfl) (pv 1) po_none (po_some (pe_callB (call_max2G rfl) (by rfl) T.h_max (by decide +kernel) (pa_cons pe_int (pa_cons (pe_op op_subG (pe_callB (call_lenG (K := K) rfl) (by rfl) T.h_len (by decide +kernel) (pa_cons (pv 1) pa_nil)) pe_int) pa_nil)))))))
  pss_nil)
  (pss_cons (ps_if (PW.pt (pw_and (pt_cmpR op_eq (pv 2) pe_int (nomark _)) (pw_and1 (pt_cmpR op_gtG (pe_callB (call_lenG (K := K) rfl) (by rfl) T.h_len (by decide +kernel) (pa_cons (pv 1) pa_nil)) pe_int (nomark _)))))
  (pss_cons (ps_set (i := 4) sc__law_candidate.nd rfl (Or.inl rfl) (pe_def (ok__law_take T) hr rfl (pa_cons (pv 0) (pa_cons (pe_callB (call_lenG (K := K) rfl) (by rfl) T.h_len (by decide +kernel) (pa_cons (pv 1) pa_nil)) pa_nil))))
  (pss_one (ps_ret (pe_op op_addG (pe_op op_addG (pe_slice (sl_G (K := K) rfl) (pv 1) po_none (po_some (pv 4))) (pe_ix (ix_seqG (K := K) rfl) (pv 3) (pe_def (ok__law_take T) hr rfl (pa_cons (pv 0) (pa_cons pe_int pa_nil))) (fun _ _ => rfl))) (pe_slice (sl_G (K := K) rfl) (pv 1) (po_some (pe_op op_addG (pv 4) pe_int)) po_none)))))
  pss_nil)
  (pss_one (ps_ret (pe_def (ok__law_text T) hr rfl (pa_cons (pv 0) pa_nil))))))))), ?_⟩
    walk_at "g"
    refine ⟨_, _, _, _, rfl, hD, by decide, by decide +kernel, fun r H1 r0 r1 D1 K1 => ?_⟩
    walk_at "g"
    refine ⟨rfl, ?_⟩
    walk_at "g"
    refine g_dec (fun _ => ?_) (fun _ => ?_)
    · walk_at "g"
      refine ⟨_, _, _, rfl, D1, fun v H2 hv D2 K2 => ?_⟩
      obtain ⟨z, rfl, hz, hzs⟩ := hv
      refine g_addS (by rw [sizeLine_eq]; omega) ?_
      walk_at "g"
      refine g_slS (by rw [sizeLine_eq, PySem.Str.length_append]; omega) ?_
      walk_at "g"
      refine k _ _ ⟨_, rfl, Nat.le_trans cut40 (by decide), fun c hc => ?_⟩ D2 (K1.trans K2)
      rcases mem_app (cut_mem hc) with h | h
      · exact hs c h
      · exact hzs c h
    walk_at "g"
    refine g_dec (fun _ => ?_) (fun _ => ?_)
    · walk_at "g"
      refine g_lenS (by rw [sizeLine_eq]; omega) ?_
      walk_at "g"
      refine g_slS (by rw [sizeLine_eq]; omega) ?_
      walk_at "g"
      exact k _ _ ⟨_, rfl, Nat.le_trans cut_len (by omega), fun c hc => hs c (cut_mem hc)⟩ D1 K1
    walk_at "g"
    have fin : ∀ H2, Dr H2 d sc ns → Keep d H H2 → ∀ v H3, isL v → Dr H3 d sc ns → Keep d H2 H3 → Q v H3 := fun H2 D2 K2 v H3 hv D3 K3 => k v H3 hv D3 (K2.trans K3)
    refine g_dec (fun _ => ?_) (fun _ => ?_)
    rotate_left
    · walk_at "g"
      refine ⟨_, _, _, rfl, D1, fun v H2 hv D2 K2 => ?_⟩
      walk_at "g"
      obtain ⟨z, rfl, hz, hzs⟩ := hv
      exact k _ _ ⟨z, rfl, by omega, hzs⟩ D2 (K1.trans K2)
    walk_at "g"
    refine g_lenS (by rw [sizeLine_eq]; omega) ?_
    walk_at "g"
    refine g_dec (fun hpos => ?_) (fun _ => ?_)
    rotate_left
    · walk_at "g"
      refine ⟨_, _, _, rfl, D1, fun v H2 hv D2 K2 => ?_⟩
      walk_at "g"
      obtain ⟨z, rfl, hz, hzs⟩ := hv
      exact k _ _ ⟨z, rfl, by omega, hzs⟩ D2 (K1.trans K2)
    walk_at "g"
    refine g_lenS (by rw [sizeLine_eq]; omega) ?_
    walk_at "g"
    refine ⟨_, _, _, _, rfl, D1, by omega, ?_, fun r2 H2 r20 r21 D2 K2 => ?_⟩
    · have : (p.length : Int).natAbs < 2 ^ 64 := by omega
      exact Nat.lt_of_lt_of_le (PySem.Flt.log2_lt_of (by decide) this) (by decide)
    walk_at "g"
    refine g_slS (by rw [sizeLine_eq]; omega) ?_
    walk_at "g"
    refine ⟨_, _, _, _, rfl, D2, by decide, by decide +kernel, fun r3 H3 r30 r31 D3 K3 => ?_⟩
    obtain ⟨c, hc, hat⟩ := pick_at (ws := signs.cps.toList) (m := 94) (by decide +kernel) r30 r31
    refine g_ixS (n := c) (by decide +kernel) hat ?_
    have hc1 := cut_len (z := p) (lo := none) (hi := some r2)
    have hc2 := cut_len (z := p) (lo := some (r2 + 1)) (hi := none)
    have h1 : ((⟨#[c]⟩ : Str)).length = 1 := rfl
    refine g_addS (by rw [sizeLine_eq, h1]; omega) ?_
    walk_at "g"
    refine g_slS (by rw [sizeLine_eq]; omega) ?_
    refine g_addS (by rw [sizeLine_eq, PySem.Str.length_append, h1]; omega) ?_
    walk_at "g"
    refine k _ _ ⟨_, rfl, by rw [PySem.Str.length_append, PySem.Str.length_append, h1]; omega, fun b hb => ?_⟩ D3 ((K1.trans K2).trans K3)
    rcases mem_app hb with h | h
    · rcases mem_app h with h | h
      · exact hs b (cut_mem h)
      · have : b = c := by simpa using h
        rw [this]; exact hc
    · exact hs b (cut_mem h)
end
def spLaw (K : PySem.W.Frag) : Sp := fun vs H Q _ => ∃ (a : Addr) (ns : List Int), vs = [.ref a] ∧ SqL K H a (ns.map V.int) ∧ ns.length ≤ 63 ∧ ∀ H', Q (.bl true) H'
theorem upL_ok : ∀ {l u : List Nat}, (∀ c ∈ l, c ∈ signs.cps.toList) → upL l = some u → u.length ≤ l.length ∧ ∀ c ∈ u, c ∈ signs.cps.toList
  | [], u, _, h => nomatch h
  | c :: r, u, hs, h => by
    have hc := hs c List.mem_cons_self
    have eu : upL (c :: r) = (match upL r with | some u => some (c :: u) | none => if c = 126 then none else some [nxc c]) := rfl
    rw [eu] at h
    cases e : upL r with
    | some v =>
      rw [e] at h
      cases h
      obtain ⟨h1, h2⟩ := upL_ok (fun a ha => hs a (List.mem_cons_of_mem _ ha)) e
      refine ⟨Nat.succ_le_succ h1, fun a ha => ?_⟩
      rcases List.mem_cons.mp ha with rfl | ha
      · exact hc
      · exact h2 a ha
    | none =>
      rw [e] at h
      have h' : (if c = 126 then none else some [nxc c]) = some u := h
      by_cases h126 : c = 126
      · rw [if_pos h126] at h'; cases h'
      · rw [if_neg h126] at h'
        cases h'
        refine ⟨by simp, fun a ha => ?_⟩
        have : a = nxc c := by simpa using ha
        rw [this]
        exact sg_nx hc h126
theorem begB_eq {x p : Str} : begB x p = decide (p.cps.toList <+: x.cps.toList) := by
  unfold begB PySem.Txt.startswith
  rw [PySem.StrLaws.subAt_eq]
  have hx : x.cps.toList.length = x.length := Array.length_toList
  have hp : p.cps.toList.length = p.length := Array.length_toList
  rw [Bool.eq_iff_iff, Bool.and_eq_true, decide_eq_true_eq, decide_eq_true_eq, beq_iff_eq, List.drop_zero, List.prefix_iff_eq_take, hp]
  constructor
  · rintro ⟨_, h⟩
    exact h.symm
  · intro h
    refine ⟨?_, h.symm⟩
    have := congrArg List.length h
    rw [List.length_take] at this
    omega
theorem cut_takeG {z : Str} {n : Nat} : (cutS z none (some (n : Int))).cps.toList = z.cps.toList.take n := by
  show ((z.cps.toList.drop 0).take (HT.sIx z.length z.length (some (n : Int)) - 0)) = _
  rw [HT.sIx_nat, List.drop_zero, Nat.sub_zero]
  have : z.cps.toList.length = z.length := Array.length_toList
  by_cases h : n ≤ z.length
  · rw [Nat.min_eq_left h]
  · rw [Nat.min_eq_right (by omega), ← this, List.take_length, List.take_of_length_le (by omega)]
/-- what lies between a prefix and what up says of it -/
def insideB (x p : Str) : Bool := decide (p.cps.toList <+: x.cps.toList)
theorem AtomAt.keepD {C : Addr} {H H' : Hp} {d p : Addr} {w : Str} {fs : List Str} {ts : List V} (A : AtomAt C H p w fs ts) (hd : ∃ xs, H d = some (.lst xs)) (k : Keep d H H') : AtomAt C H' p w fs ts := by
  obtain ⟨dx, i, f, t, a, b, c, e⟩ := A.ex
  obtain ⟨xs, hd⟩ := hd
  have ne : ∀ {q : Addr} {o : HO}, H q = some o → o ≠ .lst xs → q ≠ d := fun h n z => n (by rw [z, hd] at h; injection h with h; exact h.symm)
  exact ⟨dx, i, f, t, k _ _ (ne a (by intro z; cases z)) a, k _ _ (ne b (by intro z; cases z)) b, k _ _ (ne c (by intro z; cases z)) c, k _ _ (ne e (by intro z; cases z)) e⟩
theorem Dr.keepAll {H H' : Hp} {d sc : Addr} {ns : List Int} (D : Dr H d sc ns) (k : ∀ p o, H p = some o → H' p = some o) : Dr H' d sc ns := by
  obtain ⟨i, b, c, e, h1, h2, h3, h4⟩ := D.ex
  exact ⟨i, b, c, e, h1, h2, k _ _ h3, k _ _ h4⟩
theorem inside_cut {x p : Str} : insideB x p = decide (cutS x none (some (p.length : Int)) = p) := by
  unfold insideB
  rw [Bool.eq_iff_iff, decide_eq_true_eq, decide_eq_true_eq, List.prefix_iff_eq_take]
  have hp : p.cps.toList.length = p.length := Array.length_toList
  rw [hp]
  constructor
  · intro h
    exact str_ext (by rw [cut_takeG]; exact h.symm)
  · intro h
    have h2 := congrArg (fun s : Str => s.cps.toList) h
    simp only [cut_takeG] at h2
    exact h2.symm
section
variable {P : Program} {w : World} {K : PySem.W.Frag} {mg : Str → Option Value} {base : Heap}
theorem ok_law (T : Txt K mg) {f : Addr} {fd : FuncData} (F : Fun K "law" "law" S_law f fd) : FnOk P w K mg base CX0 5 f fd ["_law_script"] (spLaw K) := by
  refine Fun.okM F sc_law (fun vs H Q E h => ?_) (fun cdv A outer s H vs Q E hr h => ?_)
  · obtain ⟨a, ns, rfl, _⟩ := h
    rfl
  · obtain ⟨a, ns, rfl, hS, hlen, k⟩ := h
    refine ⟨_, (pss_cons (ps_set (i := 1) sc_law.nd rfl (Or.inr rfl) (pe_def (ok__law_begin T) hr rfl (pa_cons (pv 0) pa_nil)))
  (pss_cons (ps_set (i := 2) sc_law.nd rfl (Or.inr rfl) (pe_def (ok__law_text T) hr rfl (pa_cons (pv 1) pa_nil)))
  (Evl.pss_cut (ps_if (pt_cmpR op_eq (pe_def (ok__law_take T) hr rfl (pa_cons (pv 1) (pa_cons pe_int pa_nil))) pe_int (nomark _))
  (pss_one (ps_set (i := 2) sc_law.nd rfl (Or.inr rfl) (pe_slice (sl_G (K := K) rfl) (pe_op op_addG (pv 2) (pe_slice (sl_G (K := K) rfl) pe_str po_none (po_some (pe_def (ok__law_take T) hr rfl (pa_cons (pv 1) (pa_cons pe_int pa_nil)))))) po_none (po_some pe_int))))
  pss_nil)
  (pss_cons (ps_set (i := 3) sc_law.nd rfl (Or.inl rfl) (pe_def (ok__law_up T) hr rfl (pa_cons (pv 2) pa_nil)))
  (pss_cons (ps_set (i := 4) sc_law.nd rfl (Or.inl rfl) (pe_def (ok_up T) hr rfl (pa_cons (pv 2) pa_nil)))
  (Evl.pss_cut (ps_if (pt_cmpR op_isNG (pv 3) pe_non (nomark _))
  (pss_one (ps_if (pt_cmpR op_notNG (pv 4) pe_non (nomark _))
  (pss_one (ps_ret pe_bl))
  pss_nil))
  (pss_one (ps_if (PW.pt (pw_or (pt_not (pt_val (pe_def (ok__law_is_text T) hr rfl (pa_cons (pv 4) pa_nil)))) (pw_or1 (pt_cmpR op_ne (pv 4) (pv 3) (nomark _)))))
  (pss_one (ps_ret pe_bl))
  pss_nil)))
  (pss_cons (ps_set (i := 5) sc_law.nd rfl (Or.inl rfl) (pe_def (ok__law_name T) hr rfl (pa_cons (pv 1) (pa_cons (pe_lst pa_nil) pa_nil))))
  (pss_cons (ps_set (i := 6) sc_law.nd rfl (Or.inl rfl) (pe_def (ok_begins T) hr rfl (pa_cons (pv 5) (pa_cons (pv 2) pa_nil))))
  (pss_cons (ps_setLc (i := 7) (own := [("_law_k", 10)]) rfl sc_law.nd rfl rfl (sw_true rfl rfl rfl (by decide +kernel)) (pi_range1 rfl T.h_range (pa_cons (pe_op op_addG pe_int (pe_def (ok__law_take T) hr rfl (pa_cons (pv 1) (pa_cons pe_int pa_nil)))) pa_nil)) (blkOk_by (N := N_law) (sc := defScope S_law) (by decide +kernel)) (fun _ _ _ _ _ => pg_name (i := 10) sc_law.nd rfl (Or.inl rfl)) (fun _ _ _ _ _ => pts_nil) (fun _ _ _ _ _ => (pe_def (ok__law_candidate T) hr rfl (pa_cons (pv 1) (pa_cons (pv 2) pa_nil)))))
  (Evl.pss_cut (ps_if (pt_cmpR op_notNG (pv 3) pe_non (nomark _))
  (pss_one (ps_expr (pe_bm PySem.F.plainAttrs_list PySem.F.slot_list_append PySem.F.type_list_append mt_append (pv 7) (pa_cons (pv 3) pa_nil))))
  pss_nil)
  (pss_cons (ps_for PassesOwn.never rfl (pi_list (pv 7)) (pg_name (i := 8) sc_law.nd rfl (Or.inl rfl))
  (Evl.pss_cut (ps_set (i := 9) sc_law.nd rfl (Or.inl rfl) (pe_and (pe_cmpR op_geG (pv 8) (pv 2) (nomark _)) (pe_one (pe_or (pe_cmpR op_isNG (pv 3) pe_non (nomark _)) (pe_one (pe_cmpR op_ltG (pv 8) (pv 3) (nomark _)))))))
  (pss_cons (ps_if (pt_not (pt_val (pe_def (ok__law_flag T) hr rfl (pa_cons (pe_me (pv 6) T.cl_Test (ok_Test_truth T) hr (pa_cons (pe_disp (pps_cons (pv 5) (pv 8) pps_nil) (by rfl) (by rfl) (fun z => by cases z) (by decide)) pa_nil)) (pa_cons (pv 9) pa_nil)))))
  (pss_one (ps_ret pe_bl))
  pss_nil)
  (pss_one (ps_if (pt_cmpR op_ne (pv 9) (pe_cmpR op_eq (pe_slice (sl_G (K := K) rfl) (pv 8) po_none (po_some (pe_callB (call_lenG (K := K) rfl) (by rfl) T.h_len (by decide +kernel) (pa_cons (pv 2) pa_nil)))) (pv 2) (nomark _)) (nomark _))
  (pss_one (ps_ret pe_bl))
  pss_nil)))))
  (pss_one (ps_ret pe_bl))))))))))))), ?_⟩
    walk_at "g"
    refine ⟨_, _, rfl, hS, fun d sc ms H1 hd S1 D1 => ?_⟩
    walk_at "g"
    refine ⟨_, _, _, rfl, D1, fun v H2 hv D2 K2 => ?_⟩
    obtain ⟨p0, rfl, hp0, hs0⟩ := hv
    walk_at "g"
    refine g_cutA (M := fun σ' H' => ∃ p : Str, σ' = [some (.ref a), some (.ref d), some (.str p), none, none, none, none, none, none, none, none] ∧ p.length ≤ 100 ∧ (∀ c ∈ p.cps.toList, c ∈ signs.cps.toList) ∧ Dr H' d sc ms) (fun D' hnx hrt _ _ => ?_) ?_
    · walk_at "g"
      refine ⟨_, _, _, _, rfl, D2, by decide, by decide +kernel, fun r H3 r0 r1 D3 K3 => ?_⟩
      walk_at "g"
      refine g_dec (fun _ => ?_) (fun _ => ?_)
      · walk_at "g"
        refine ⟨_, _, _, _, rfl, D3, by decide, by decide +kernel, fun r2 H4 r20 r21 D4 K4 => ?_⟩
        walk_at "g"
        refine g_slS (by decide +kernel) ?_
        have hcl := cut_len (z := Str.ofString "~~~") (lo := none) (hi := some r2)
        have h3 : (Str.ofString "~~~").length = 3 := by decide +kernel
        refine g_addS (by rw [sizeLine_eq]; omega) ?_
        walk_at "g"
        refine g_slS (by rw [sizeLine_eq, PySem.Str.length_append]; omega) ?_
        walk_at "g"
        refine hnx _ _ ⟨_, rfl, Nat.le_trans cut40 (by decide), fun c hc => ?_, D4⟩
        rcases mem_app (cut_mem hc) with h | h
        · exact hs0 c h
        · have h5 : ∀ b ∈ (Str.ofString "~~~").cps.toList, b ∈ signs.cps.toList := by decide +kernel
          exact h5 c (cut_mem h)
      · walk_at "g"
        exact hnx _ _ ⟨_, rfl, hp0, hs0, D3⟩
    · rintro σ' H3 ⟨p, rfl, hp, hs, D3⟩
      walk_at "g"
      refine ⟨_, rfl, by omega, hs, ?_⟩
      walk_at "g"
      refine ⟨_, rfl, by omega, hs, ?_⟩
      walk_at "g"
      refine g_cutA (M := fun σ' H' => σ' = [some (.ref a), some (.ref d), some (.str p), some (upV p), some (upV p), none, none, none, none, none, none] ∧ Dr H' d sc ms) (fun D' hnx hrt _ _ => ?_) ?_
      · cases e : upL p.cps.toList with
        | none =>
          have eu : upV p = .non := by unfold upV; rw [e]
          rw [eu]
          walk_at "g"
          exact hnx _ _ ⟨by rw [eu]; rfl, D3⟩
        | some u =>
          obtain ⟨ul, us⟩ := upL_ok hs e
          have eu : upV p = .str ⟨u.toArray⟩ := by unfold upV; rw [e]
          have hpl : p.cps.toList.length = p.length := Array.length_toList
          rw [eu]
          walk_at "g"
          refine ⟨_, rfl, .inr (.inr (.inr (.inl ⟨_, rfl, by show u.toArray.size ≤ 100; rw [List.size_toArray]; omega⟩))), fun H4 k4 => ?_⟩
          have ht : isTxtB (.str ⟨u.toArray⟩) = true := by
            show txtB ⟨u.toArray⟩ = true
            unfold txtB
            rw [List.all_eq_true]
            intro c hc
            exact decide_eq_true (us c (by simpa using hc))
          rw [ht]
          walk_at "g"
          refine g_ndec (fun h => absurd rfl h) (fun _ => ?_)
          walk_at "g"
          exact hnx _ _ ⟨by rw [eu]; rfl, D3.keepAll k4⟩
      · rintro σ' H4 ⟨rfl, D4⟩
        walk_at "g"
        refine ⟨by show 0 ≤ sizeLine; decide, fun q hq => ?_⟩
        obtain ⟨hqd, hqs⟩ := D4.ne hq
        walk_at "g"
        refine ⟨d, sc, ms, q, [], rfl, D4.new hq, hqd, upd_same, by decide, fun nm H5 hnm _ D5 K5 => ?_⟩
        walk_at "g"
        have hT : isTxtB (.str p) = true := by
          show txtB p = true
          unfold txtB
          rw [List.all_eq_true]
          exact fun c hc => decide_eq_true (hs c hc)
        refine ⟨nm, p, rfl, hnm, hp, hT, fun t H6 k6 A6 => ?_⟩
        have D6 := D5.keepAll k6
        walk_at "g"
        refine ⟨_, _, _, _, rfl, D6, by decide, by decide +kernel, fun r7 H7 r70 r71 D7 K7 => ?_⟩
        have A7 := A6.keepD D6.at K7
        walk_at "g"
        refine ⟨_, rfl, by omega, by omega, fun L hL => ?_⟩
        obtain ⟨hLd, hLs⟩ := D7.ne hL
        refine lc_range (fun i Hi => AtomAt (cadr mg "Test") Hi t "begins" [nm] [.str p] ∧ H7 L = none ∧ Dr Hi d sc ms ∧ ∃ ys : List Str, ys.length = i ∧ Hi L = some (.lst (ys.map V.str)) ∧ ∀ y ∈ ys, y.length ≤ 300 ∧ ∀ c ∈ y.cps.toList, c ∈ signs.cps.toList) ?_ ?_ ?_
        · refine ⟨A7.keep fun b o h => by rw [upd_ne (ne_of_none h hL)]; exact h, hL, D7.new hL, [], rfl, upd_same, fun y hy => nomatch hy⟩
        · rintro i Hi hi ⟨Ai, hL0, Di, ys, rfl, hLi, hys⟩
          refine ⟨rfl, ?_⟩
          walk_at "g"
          refine ⟨d, sc, ms, p, rfl, Di, hp, hs, fun v H8 hv D8 K8 => ?_⟩
          obtain ⟨z, rfl, hz, hzs⟩ := hv
          have e8 := K8 L _ hLd hLi
          have A8 := Ai.keepD Di.at K8
          refine ⟨_, e8, ?_, ?_, hL0, D8.other hLd hLs, ys ++ [z], by simp, ?_, ?_⟩
          · rw [List.length_map, sizeLine_eq]; omega
          · obtain ⟨dx, a1, a2, a3, b1, b2, b3, b4⟩ := A8.ex
            have ne : ∀ {q : Addr} {o : HO}, H8 q = some o → o ≠ .lst (ys.map V.str) → q ≠ L := fun h n z => n (by rw [z, e8] at h; injection h with h; exact h.symm)
            exact ⟨dx, a1, a2, a3, by rw [upd_ne (ne b1 (by intro z; cases z))]; exact b1, by rw [upd_ne (ne b2 (by intro z; cases z))]; exact b2, by rw [upd_ne (ne b3 (by intro z; cases z))]; exact b3, by rw [upd_ne (ne b4 (by intro z; cases z))]; exact b4⟩
          · rw [upd_same, List.map_append]; rfl
          · intro y hy
            rcases List.mem_append.mp hy with hy | hy
            · exact hys y hy
            · rw [List.mem_singleton.mp hy]; exact ⟨hz, hzs⟩
        · rintro H8 ⟨A8, hL0, D8, ys, hyl, hL8, hys⟩
          walk_at "g"
          refine g_cutA (M := fun σ' H' => σ' = [some (.ref a), some (.ref d), some (.str p), some (upV p), some (upV p), some (.str nm), some (.ref t), some (.ref L), none, none, none] ∧ AtomAt (cadr mg "Test") H' t "begins" [nm] [.str p] ∧ ∃ zs : List Str, H' L = some (.lst (zs.map V.str)) ∧ zs.length ≤ 100 ∧ ∀ y ∈ zs, y.length ≤ 300 ∧ ∀ c ∈ y.cps.toList, c ∈ signs.cps.toList) (fun D' hnx hrt _ _ => ?_) ?_
          · have hyl2 : ys.length ≤ 10 := by omega
            cases e : upL p.cps.toList with
            | none =>
              have eu : upV p = .non := by unfold upV; rw [e]
              rw [eu]
              walk_at "g"
              exact hnx _ _ ⟨by rw [eu]; rfl, A8, ys, hL8, by omega, hys⟩
            | some u =>
              obtain ⟨ul, us⟩ := upL_ok hs e
              have eu : upV p = .str ⟨u.toArray⟩ := by unfold upV; rw [e]
              have hpl : p.cps.toList.length = p.length := Array.length_toList
              rw [eu]
              walk_at "g"
              refine hnx _ _ ⟨by rw [eu]; rfl, ?_, ys ++ [⟨u.toArray⟩], by rw [upd_same, List.map_append]; rfl, by simp; omega, fun y hy => ?_⟩
              · obtain ⟨dx, a1, a2, a3, b1, b2, b3, b4⟩ := A8.ex
                have ne : ∀ {q : Addr} {o : HO}, H8 q = some o → o ≠ .lst (ys.map V.str) → q ≠ L := fun h n z => n (by rw [z, hL8] at h; injection h with h; exact h.symm)
                exact ⟨dx, a1, a2, a3, by rw [upd_ne (ne b1 (by intro z; cases z))]; exact b1, by rw [upd_ne (ne b2 (by intro z; cases z))]; exact b2, by rw [upd_ne (ne b3 (by intro z; cases z))]; exact b3, by rw [upd_ne (ne b4 (by intro z; cases z))]; exact b4⟩
              · rcases List.mem_append.mp hy with hy | hy
                · exact hys y hy
                · rw [List.mem_singleton.mp hy]
                  exact ⟨by show u.toArray.size ≤ 300; rw [List.size_toArray]; omega, fun c hc => us c (by simpa using hc)⟩
          · rintro σ' H9 ⟨rfl, A9, zs, hL9, hzl, hzs⟩
            walk_at "g"
            refine ⟨L, rfl, ⟨_, SqL.of hL9⟩, ?_⟩
            refine for_listA (xs := zs.map V.str) (fun i σ' H' => (∃ s8 s9, σ' = [some (.ref a), some (.ref d), some (.str p), some (upV p), some (upV p), some (.str nm), some (.ref t), some (.ref L), s8, s9, none]) ∧ AtomAt (cadr mg "Test") H' t "begins" [nm] [.str p] ∧ H' L = some (.lst (zs.map V.str))) ⟨⟨_, _, rfl⟩, A9, hL9⟩ (fun _ _ _ _ e => SqL.of e.2.2) ?_ ?_
            · rintro i y σ' Hi D' hi ⟨⟨s8, s9, rfl⟩, Ai, hLi⟩ hnx hct hbk hrt
              obtain ⟨x, hx, rfl⟩ := List.mem_map.mp (List.mem_of_getElem? hi)
              obtain ⟨hx1, hx2⟩ := hzs x hx
              walk_at "g"
              refine g_cutA (M := fun σ' H' => σ' = [some (.ref a), some (.ref d), some (.str p), some (upV p), some (upV p), some (.str nm), some (.ref t), some (.ref L), some (.str x), some (.bl (insideB x p)), none] ∧ H' = Hi) (fun D' hnx hrt _ _ => ?_) ?_
              · have hr := up_range p.cps.toList x.cps.toList hs hx2
                walk_at "g"
                have one : insideB x p = false → D'.nx ([some (.ref a), some (.ref d), some (.str p), some (upV p), some (upV p), some (.str nm), some (.ref t), some (.ref L), some (.str x), some (.bl false), none]) Hi := fun h => hnx _ _ ⟨by rw [h], rfl⟩
                have two : insideB x p = true → D'.nx ([some (.ref a), some (.ref d), some (.str p), some (upV p), some (upV p), some (.str nm), some (.ref t), some (.ref L), some (.str x), some (.bl true), none]) Hi := fun h => hnx _ _ ⟨by rw [h], rfl⟩
                unfold insideB at one two
                refine g_ndec (fun h1 => ?_) (fun h1 => ?_)
                · cases e : upL p.cps.toList with
                  | none =>
                    have eu : upV p = .non := by unfold upV; rw [e]
                    rw [eu] at one two ⊢
                    walk_at "g"
                    exact two (decide_eq_true (hr.mp ⟨h1, fun u he => by rw [e] at he; cases he⟩))
                  | some u =>
                    have eu : upV p = .str ⟨u.toArray⟩ := by unfold upV; rw [e]
                    rw [eu] at one two ⊢
                    walk_at "g"
                    by_cases h2 : x.cps.toList < u
                    · rw [show decide (x.cps.toList < (⟨u.toArray⟩ : Str).cps.toList) = true from decide_eq_true (by simpa using h2)]
                      exact two (decide_eq_true (hr.mp ⟨h1, fun v he => by rw [e] at he; cases he; exact h2⟩))
                    · rw [show decide (x.cps.toList < (⟨u.toArray⟩ : Str).cps.toList) = false from decide_eq_false (by simpa using h2)]
                      exact one (decide_eq_false fun h => h2 ((hr.mpr h).2 u e))
                · exact one (decide_eq_false fun h => (hr.mpr h).1 h1)
              · rintro σ' H10 ⟨rfl, rfl⟩
                walk_at "g"
                obtain ⟨dx, i1, f1, t1, hp1, _, _, _⟩ := A9.ex
                obtain ⟨dx2, i2, f2, t2, hp2, _, _, _⟩ := Ai.ex
                refine ⟨t, dx2, _, rfl, hp2, tf_truth, ?_⟩
                walk_at "g"
                intro r hr
                refine ⟨_, rfl, _, rfl, ?_⟩
                refine ⟨upd_same, [(Sum.inr nm, .str x)], rfl, by show 1 ≤ 15; decide, ?_⟩
                walk_at "g"
                have kp : ∀ q o, H10 q = some o → (upd (upd H10 r (.dK [])) r (.dK (mergeK [] [(Sum.inr nm, V.str x)]))) q = some o := fun q o h => by
                  rw [upd_ne (ne_of_none h hr), upd_ne (ne_of_none h hr)]; exact h
                refine ⟨t, r, nm, x, p, rfl, Ai.keep kp, by rw [upd_same]; rfl, fun H11 k11 => ?_⟩
                walk_at "g"
                have eB : decide (begB x p = insideB x p) = true := decide_eq_true begB_eq
                refine ⟨_, _, rfl, ?_⟩
                rw [eB]
                walk_at "g"
                refine g_lenS (by rw [sizeLine_eq]; omega) ?_
                walk_at "g"
                refine g_slS (by rw [sizeLine_eq]; omega) ?_
                walk_at "g"
                rw [← inside_cut]
                refine g_ndec (fun h => absurd rfl h) (fun _ => ?_)
                walk_at "g"
                exact hnx _ _ ⟨⟨_, _, rfl⟩, (Ai.keep kp).keep k11, k11 _ _ (kp _ _ hLi)⟩
            · rintro σ' H10 ⟨⟨s8, s9, rfl⟩, A10, hL10⟩
              walk_at "g"
              exact k _
end
theorem all_mk {l : PySem.W.OpenLaw} {w : World} {K : PySem.W.Frag} {h : Heap} {mg : Str → Option Value} {fa f_is_text f_is_name f_up f_Test_init f_Test_atoms f_Test_names f_Test_truth f_size_of f_depth_of f_need_column f_begins f_and_truth f_or_truth f_not_truth f_combined_truth f_truth_at f_atom_truth f_values_truth f_moved f_related f__law_begin f__law_take f__law_chars f__law_is_text f__law_text f__law_up f__law_name f__law_flag f__law_candidate f_law : Addr} {c_Test : Addr} (X : K.In h) (G : h.Ns mainGlobals mg) (hfa : mg "law" = some (.ref fa))
    {od_is_text an_is_text : Option Addr} {sl_is_text : Array (Option Value)} {oc_is_text kV_is_text dc_is_text pm_is_text cd_is_text ct_is_text : Value}
    {od_is_name an_is_name : Option Addr} {sl_is_name : Array (Option Value)} {oc_is_name kV_is_name dc_is_name pm_is_name cd_is_name ct_is_name : Value}
    {od_up an_up : Option Addr} {sl_up : Array (Option Value)} {oc_up kV_up dc_up pm_up cd_up ct_up : Value}
    {od_Test_init an_Test_init : Option Addr} {sl_Test_init : Array (Option Value)} {oc_Test_init kV_Test_init dc_Test_init pm_Test_init cd_Test_init ct_Test_init : Value}
    {od_Test_atoms an_Test_atoms : Option Addr} {sl_Test_atoms : Array (Option Value)} {oc_Test_atoms kV_Test_atoms dc_Test_atoms pm_Test_atoms cd_Test_atoms ct_Test_atoms : Value}
    {od_Test_names an_Test_names : Option Addr} {sl_Test_names : Array (Option Value)} {oc_Test_names kV_Test_names dc_Test_names pm_Test_names cd_Test_names ct_Test_names : Value}
    {od_Test_truth an_Test_truth : Option Addr} {sl_Test_truth : Array (Option Value)} {oc_Test_truth kV_Test_truth dc_Test_truth pm_Test_truth cd_Test_truth ct_Test_truth : Value}
    {od_size_of an_size_of : Option Addr} {sl_size_of : Array (Option Value)} {oc_size_of kV_size_of dc_size_of pm_size_of cd_size_of ct_size_of : Value}
    {od_depth_of an_depth_of : Option Addr} {sl_depth_of : Array (Option Value)} {oc_depth_of kV_depth_of dc_depth_of pm_depth_of cd_depth_of ct_depth_of : Value}
    {od_need_column an_need_column : Option Addr} {sl_need_column : Array (Option Value)} {oc_need_column kV_need_column dc_need_column pm_need_column cd_need_column ct_need_column : Value}
    {od_begins an_begins : Option Addr} {sl_begins : Array (Option Value)} {oc_begins kV_begins dc_begins pm_begins cd_begins ct_begins : Value}
    {od_and_truth an_and_truth : Option Addr} {sl_and_truth : Array (Option Value)} {oc_and_truth kV_and_truth dc_and_truth pm_and_truth cd_and_truth ct_and_truth : Value}
    {od_or_truth an_or_truth : Option Addr} {sl_or_truth : Array (Option Value)} {oc_or_truth kV_or_truth dc_or_truth pm_or_truth cd_or_truth ct_or_truth : Value}
    {od_not_truth an_not_truth : Option Addr} {sl_not_truth : Array (Option Value)} {oc_not_truth kV_not_truth dc_not_truth pm_not_truth cd_not_truth ct_not_truth : Value}
    {od_combined_truth an_combined_truth : Option Addr} {sl_combined_truth : Array (Option Value)} {oc_combined_truth kV_combined_truth dc_combined_truth pm_combined_truth cd_combined_truth ct_combined_truth : Value}
    {od_truth_at an_truth_at : Option Addr} {sl_truth_at : Array (Option Value)} {oc_truth_at kV_truth_at dc_truth_at pm_truth_at cd_truth_at ct_truth_at : Value}
    {od_atom_truth an_atom_truth : Option Addr} {sl_atom_truth : Array (Option Value)} {oc_atom_truth kV_atom_truth dc_atom_truth pm_atom_truth cd_atom_truth ct_atom_truth : Value}
    {od_values_truth an_values_truth : Option Addr} {sl_values_truth : Array (Option Value)} {oc_values_truth kV_values_truth dc_values_truth pm_values_truth cd_values_truth ct_values_truth : Value}
    {od_moved an_moved : Option Addr} {sl_moved : Array (Option Value)} {oc_moved kV_moved dc_moved pm_moved cd_moved ct_moved : Value}
    {od_related an_related : Option Addr} {sl_related : Array (Option Value)} {oc_related kV_related dc_related pm_related cd_related ct_related : Value}
    {od__law_begin an__law_begin : Option Addr} {sl__law_begin : Array (Option Value)} {oc__law_begin kV__law_begin dc__law_begin pm__law_begin cd__law_begin ct__law_begin : Value}
    {od__law_take an__law_take : Option Addr} {sl__law_take : Array (Option Value)} {oc__law_take kV__law_take dc__law_take pm__law_take cd__law_take ct__law_take : Value}
    {od__law_chars an__law_chars : Option Addr} {sl__law_chars : Array (Option Value)} {oc__law_chars kV__law_chars dc__law_chars pm__law_chars cd__law_chars ct__law_chars : Value}
    {od__law_is_text an__law_is_text : Option Addr} {sl__law_is_text : Array (Option Value)} {oc__law_is_text kV__law_is_text dc__law_is_text pm__law_is_text cd__law_is_text ct__law_is_text : Value}
    {od__law_text an__law_text : Option Addr} {sl__law_text : Array (Option Value)} {oc__law_text kV__law_text dc__law_text pm__law_text cd__law_text ct__law_text : Value}
    {od__law_up an__law_up : Option Addr} {sl__law_up : Array (Option Value)} {oc__law_up kV__law_up dc__law_up pm__law_up cd__law_up ct__law_up : Value}
    {od__law_name an__law_name : Option Addr} {sl__law_name : Array (Option Value)} {oc__law_name kV__law_name dc__law_name pm__law_name cd__law_name ct__law_name : Value}
    {od__law_flag an__law_flag : Option Addr} {sl__law_flag : Array (Option Value)} {oc__law_flag kV__law_flag dc__law_flag pm__law_flag cd__law_flag ct__law_flag : Value}
    {od__law_candidate an__law_candidate : Option Addr} {sl__law_candidate : Array (Option Value)} {oc__law_candidate kV__law_candidate dc__law_candidate pm__law_candidate cd__law_candidate ct__law_candidate : Value}
    {od_law an_law : Option Addr} {sl_law : Array (Option Value)} {oc_law kV_law dc_law pm_law cd_law ct_law : Value}
    (a_Test : PySem.W.nsIn K mainGlobals "Test" = some (some (.ref c_Test))) (pg_Test : PySem.W.plainGet K c_Test Str.empty = true) (hd_Test : PySem.W.hasDictIn K c_Test = true) (po_Test : PySem.W.plainOver K c_Test = true) (sa_Test : PySem.W.findIn K (.ref c_Test) "__setattr__" = some (some (.builtin "object.__setattr__"))) (mk_Test : PySem.W.makesIn K c_Test = true) (kc_Test : PySem.W.keepIn K (.ref c_Test) = true)
    (n_Test_word : PySem.W.findIn K (.ref c_Test) "word" = some none)
    (n_Test_inner : PySem.W.findIn K (.ref c_Test) "inner" = some none)
    (n_Test_fields : PySem.W.findIn K (.ref c_Test) "fields" = some none)
    (n_Test_terms : PySem.W.findIn K (.ref c_Test) "terms" = some none)
    (n_Test_size : PySem.W.findIn K (.ref c_Test) "size" = some none)
    (n_Test_depth : PySem.W.findIn K (.ref c_Test) "depth" = some none)
    (a_is_text : PySem.W.nsIn K mainGlobals "is_text" = some (some (.ref f_is_text))) (l_is_text : K.lookup f_is_text = some ⟨oc_is_text, od_is_text, .func (PySem.W.fnOf "is_text" "is_text" (defArgs S_is_text) (defBody S_is_text) (defScope S_is_text) .none kV_is_text dc_is_text pm_is_text an_is_text cd_is_text ct_is_text), sl_is_text⟩) (c_is_text : PySem.W.codeIn K cd_is_text "is_text" = true) (k_is_text : PySem.W.keepIn K (.ref f_is_text) = true)
    (a_is_name : PySem.W.nsIn K mainGlobals "is_name" = some (some (.ref f_is_name))) (l_is_name : K.lookup f_is_name = some ⟨oc_is_name, od_is_name, .func (PySem.W.fnOf "is_name" "is_name" (defArgs S_is_name) (defBody S_is_name) (defScope S_is_name) .none kV_is_name dc_is_name pm_is_name an_is_name cd_is_name ct_is_name), sl_is_name⟩) (c_is_name : PySem.W.codeIn K cd_is_name "is_name" = true) (k_is_name : PySem.W.keepIn K (.ref f_is_name) = true)
    (a_up : PySem.W.nsIn K mainGlobals "up" = some (some (.ref f_up))) (l_up : K.lookup f_up = some ⟨oc_up, od_up, .func (PySem.W.fnOf "up" "up" (defArgs S_up) (defBody S_up) (defScope S_up) .none kV_up dc_up pm_up an_up cd_up ct_up), sl_up⟩) (c_up : PySem.W.codeIn K cd_up "up" = true) (k_up : PySem.W.keepIn K (.ref f_up) = true)
    (a_Test_init : PySem.W.findIn K (.ref c_Test) "__init__" = some (some (.ref f_Test_init))) (i_Test_init : PySem.W.isFn K (.ref f_Test_init) = true) (l_Test_init : K.lookup f_Test_init = some ⟨oc_Test_init, od_Test_init, .func (PySem.W.fnOf "__init__" "Test.__init__" (defArgs S_Test_init) (defBody S_Test_init) (defScope S_Test_init) .none kV_Test_init dc_Test_init pm_Test_init an_Test_init cd_Test_init ct_Test_init), sl_Test_init⟩) (c_Test_init : PySem.W.codeIn K cd_Test_init "Test.__init__" = true) (k_Test_init : PySem.W.keepIn K (.ref f_Test_init) = true)
    (a_Test_atoms : PySem.W.findIn K (.ref c_Test) "atoms" = some (some (.ref f_Test_atoms))) (i_Test_atoms : PySem.W.isFn K (.ref f_Test_atoms) = true) (l_Test_atoms : K.lookup f_Test_atoms = some ⟨oc_Test_atoms, od_Test_atoms, .func (PySem.W.fnOf "atoms" "Test.atoms" (defArgs S_Test_atoms) (defBody S_Test_atoms) (defScope S_Test_atoms) .none kV_Test_atoms dc_Test_atoms pm_Test_atoms an_Test_atoms cd_Test_atoms ct_Test_atoms), sl_Test_atoms⟩) (c_Test_atoms : PySem.W.codeIn K cd_Test_atoms "Test.atoms" = true) (k_Test_atoms : PySem.W.keepIn K (.ref f_Test_atoms) = true)
    (a_Test_names : PySem.W.findIn K (.ref c_Test) "names" = some (some (.ref f_Test_names))) (i_Test_names : PySem.W.isFn K (.ref f_Test_names) = true) (l_Test_names : K.lookup f_Test_names = some ⟨oc_Test_names, od_Test_names, .func (PySem.W.fnOf "names" "Test.names" (defArgs S_Test_names) (defBody S_Test_names) (defScope S_Test_names) .none kV_Test_names dc_Test_names pm_Test_names an_Test_names cd_Test_names ct_Test_names), sl_Test_names⟩) (c_Test_names : PySem.W.codeIn K cd_Test_names "Test.names" = true) (k_Test_names : PySem.W.keepIn K (.ref f_Test_names) = true)
    (a_Test_truth : PySem.W.findIn K (.ref c_Test) "truth" = some (some (.ref f_Test_truth))) (i_Test_truth : PySem.W.isFn K (.ref f_Test_truth) = true) (l_Test_truth : K.lookup f_Test_truth = some ⟨oc_Test_truth, od_Test_truth, .func (PySem.W.fnOf "truth" "Test.truth" (defArgs S_Test_truth) (defBody S_Test_truth) (defScope S_Test_truth) .none kV_Test_truth dc_Test_truth pm_Test_truth an_Test_truth cd_Test_truth ct_Test_truth), sl_Test_truth⟩) (c_Test_truth : PySem.W.codeIn K cd_Test_truth "Test.truth" = true) (k_Test_truth : PySem.W.keepIn K (.ref f_Test_truth) = true)
    (a_size_of : PySem.W.nsIn K mainGlobals "size_of" = some (some (.ref f_size_of))) (l_size_of : K.lookup f_size_of = some ⟨oc_size_of, od_size_of, .func (PySem.W.fnOf "size_of" "size_of" (defArgs S_size_of) (defBody S_size_of) (defScope S_size_of) .none kV_size_of dc_size_of pm_size_of an_size_of cd_size_of ct_size_of), sl_size_of⟩) (c_size_of : PySem.W.codeIn K cd_size_of "size_of" = true) (k_size_of : PySem.W.keepIn K (.ref f_size_of) = true)
    (a_depth_of : PySem.W.nsIn K mainGlobals "depth_of" = some (some (.ref f_depth_of))) (l_depth_of : K.lookup f_depth_of = some ⟨oc_depth_of, od_depth_of, .func (PySem.W.fnOf "depth_of" "depth_of" (defArgs S_depth_of) (defBody S_depth_of) (defScope S_depth_of) .none kV_depth_of dc_depth_of pm_depth_of an_depth_of cd_depth_of ct_depth_of), sl_depth_of⟩) (c_depth_of : PySem.W.codeIn K cd_depth_of "depth_of" = true) (k_depth_of : PySem.W.keepIn K (.ref f_depth_of) = true)
    (a_need_column : PySem.W.nsIn K mainGlobals "need_column" = some (some (.ref f_need_column))) (l_need_column : K.lookup f_need_column = some ⟨oc_need_column, od_need_column, .func (PySem.W.fnOf "need_column" "need_column" (defArgs S_need_column) (defBody S_need_column) (defScope S_need_column) .none kV_need_column dc_need_column pm_need_column an_need_column cd_need_column ct_need_column), sl_need_column⟩) (c_need_column : PySem.W.codeIn K cd_need_column "need_column" = true) (k_need_column : PySem.W.keepIn K (.ref f_need_column) = true)
    (a_begins : PySem.W.nsIn K mainGlobals "begins" = some (some (.ref f_begins))) (l_begins : K.lookup f_begins = some ⟨oc_begins, od_begins, .func (PySem.W.fnOf "begins" "begins" (defArgs S_begins) (defBody S_begins) (defScope S_begins) .none kV_begins dc_begins pm_begins an_begins cd_begins ct_begins), sl_begins⟩) (c_begins : PySem.W.codeIn K cd_begins "begins" = true) (k_begins : PySem.W.keepIn K (.ref f_begins) = true)
    (a_and_truth : PySem.W.nsIn K mainGlobals "and_truth" = some (some (.ref f_and_truth))) (l_and_truth : K.lookup f_and_truth = some ⟨oc_and_truth, od_and_truth, .func (PySem.W.fnOf "and_truth" "and_truth" (defArgs S_and_truth) (defBody S_and_truth) (defScope S_and_truth) .none kV_and_truth dc_and_truth pm_and_truth an_and_truth cd_and_truth ct_and_truth), sl_and_truth⟩) (c_and_truth : PySem.W.codeIn K cd_and_truth "and_truth" = true) (k_and_truth : PySem.W.keepIn K (.ref f_and_truth) = true)
    (a_or_truth : PySem.W.nsIn K mainGlobals "or_truth" = some (some (.ref f_or_truth))) (l_or_truth : K.lookup f_or_truth = some ⟨oc_or_truth, od_or_truth, .func (PySem.W.fnOf "or_truth" "or_truth" (defArgs S_or_truth) (defBody S_or_truth) (defScope S_or_truth) .none kV_or_truth dc_or_truth pm_or_truth an_or_truth cd_or_truth ct_or_truth), sl_or_truth⟩) (c_or_truth : PySem.W.codeIn K cd_or_truth "or_truth" = true) (k_or_truth : PySem.W.keepIn K (.ref f_or_truth) = true)
    (a_not_truth : PySem.W.nsIn K mainGlobals "not_truth" = some (some (.ref f_not_truth))) (l_not_truth : K.lookup f_not_truth = some ⟨oc_not_truth, od_not_truth, .func (PySem.W.fnOf "not_truth" "not_truth" (defArgs S_not_truth) (defBody S_not_truth) (defScope S_not_truth) .none kV_not_truth dc_not_truth pm_not_truth an_not_truth cd_not_truth ct_not_truth), sl_not_truth⟩) (c_not_truth : PySem.W.codeIn K cd_not_truth "not_truth" = true) (k_not_truth : PySem.W.keepIn K (.ref f_not_truth) = true)
    (a_combined_truth : PySem.W.nsIn K mainGlobals "combined_truth" = some (some (.ref f_combined_truth))) (l_combined_truth : K.lookup f_combined_truth = some ⟨oc_combined_truth, od_combined_truth, .func (PySem.W.fnOf "combined_truth" "combined_truth" (defArgs S_combined_truth) (defBody S_combined_truth) (defScope S_combined_truth) .none kV_combined_truth dc_combined_truth pm_combined_truth an_combined_truth cd_combined_truth ct_combined_truth), sl_combined_truth⟩) (c_combined_truth : PySem.W.codeIn K cd_combined_truth "combined_truth" = true) (k_combined_truth : PySem.W.keepIn K (.ref f_combined_truth) = true)
    (a_truth_at : PySem.W.nsIn K mainGlobals "truth_at" = some (some (.ref f_truth_at))) (l_truth_at : K.lookup f_truth_at = some ⟨oc_truth_at, od_truth_at, .func (PySem.W.fnOf "truth_at" "truth_at" (defArgs S_truth_at) (defBody S_truth_at) (defScope S_truth_at) .none kV_truth_at dc_truth_at pm_truth_at an_truth_at cd_truth_at ct_truth_at), sl_truth_at⟩) (c_truth_at : PySem.W.codeIn K cd_truth_at "truth_at" = true) (k_truth_at : PySem.W.keepIn K (.ref f_truth_at) = true)
    (a_atom_truth : PySem.W.nsIn K mainGlobals "atom_truth" = some (some (.ref f_atom_truth))) (l_atom_truth : K.lookup f_atom_truth = some ⟨oc_atom_truth, od_atom_truth, .func (PySem.W.fnOf "atom_truth" "atom_truth" (defArgs S_atom_truth) (defBody S_atom_truth) (defScope S_atom_truth) .none kV_atom_truth dc_atom_truth pm_atom_truth an_atom_truth cd_atom_truth ct_atom_truth), sl_atom_truth⟩) (c_atom_truth : PySem.W.codeIn K cd_atom_truth "atom_truth" = true) (k_atom_truth : PySem.W.keepIn K (.ref f_atom_truth) = true)
    (a_values_truth : PySem.W.nsIn K mainGlobals "values_truth" = some (some (.ref f_values_truth))) (l_values_truth : K.lookup f_values_truth = some ⟨oc_values_truth, od_values_truth, .func (PySem.W.fnOf "values_truth" "values_truth" (defArgs S_values_truth) (defBody S_values_truth) (defScope S_values_truth) .none kV_values_truth dc_values_truth pm_values_truth an_values_truth cd_values_truth ct_values_truth), sl_values_truth⟩) (c_values_truth : PySem.W.codeIn K cd_values_truth "values_truth" = true) (k_values_truth : PySem.W.keepIn K (.ref f_values_truth) = true)
    (a_moved : PySem.W.nsIn K mainGlobals "moved" = some (some (.ref f_moved))) (l_moved : K.lookup f_moved = some ⟨oc_moved, od_moved, .func (PySem.W.fnOf "moved" "moved" (defArgs S_moved) (defBody S_moved) (defScope S_moved) .none kV_moved dc_moved pm_moved an_moved cd_moved ct_moved), sl_moved⟩) (c_moved : PySem.W.codeIn K cd_moved "moved" = true) (k_moved : PySem.W.keepIn K (.ref f_moved) = true)
    (a_related : PySem.W.nsIn K mainGlobals "related" = some (some (.ref f_related))) (l_related : K.lookup f_related = some ⟨oc_related, od_related, .func (PySem.W.fnOf "related" "related" (defArgs S_related) (defBody S_related) (defScope S_related) .none kV_related dc_related pm_related an_related cd_related ct_related), sl_related⟩) (c_related : PySem.W.codeIn K cd_related "related" = true) (k_related : PySem.W.keepIn K (.ref f_related) = true)
    (a__law_begin : PySem.W.nsIn K mainGlobals "_law_begin" = some (some (.ref f__law_begin))) (l__law_begin : K.lookup f__law_begin = some ⟨oc__law_begin, od__law_begin, .func (PySem.W.fnOf "_law_begin" "_law_begin" (defArgs S__law_begin) (defBody S__law_begin) (defScope S__law_begin) .none kV__law_begin dc__law_begin pm__law_begin an__law_begin cd__law_begin ct__law_begin), sl__law_begin⟩) (c__law_begin : PySem.W.codeIn K cd__law_begin "_law_begin" = true) (k__law_begin : PySem.W.keepIn K (.ref f__law_begin) = true)
    (a__law_take : PySem.W.nsIn K mainGlobals "_law_take" = some (some (.ref f__law_take))) (l__law_take : K.lookup f__law_take = some ⟨oc__law_take, od__law_take, .func (PySem.W.fnOf "_law_take" "_law_take" (defArgs S__law_take) (defBody S__law_take) (defScope S__law_take) .none kV__law_take dc__law_take pm__law_take an__law_take cd__law_take ct__law_take), sl__law_take⟩) (c__law_take : PySem.W.codeIn K cd__law_take "_law_take" = true) (k__law_take : PySem.W.keepIn K (.ref f__law_take) = true)
    (a__law_chars : PySem.W.nsIn K mainGlobals "_law_chars" = some (some (.ref f__law_chars))) (l__law_chars : K.lookup f__law_chars = some ⟨oc__law_chars, od__law_chars, .func (PySem.W.fnOf "_law_chars" "_law_chars" (defArgs S__law_chars) (defBody S__law_chars) (defScope S__law_chars) .none kV__law_chars dc__law_chars pm__law_chars an__law_chars cd__law_chars ct__law_chars), sl__law_chars⟩) (c__law_chars : PySem.W.codeIn K cd__law_chars "_law_chars" = true) (k__law_chars : PySem.W.keepIn K (.ref f__law_chars) = true)
    (a__law_is_text : PySem.W.nsIn K mainGlobals "_law_is_text" = some (some (.ref f__law_is_text))) (l__law_is_text : K.lookup f__law_is_text = some ⟨oc__law_is_text, od__law_is_text, .func (PySem.W.fnOf "_law_is_text" "_law_is_text" (defArgs S__law_is_text) (defBody S__law_is_text) (defScope S__law_is_text) .none kV__law_is_text dc__law_is_text pm__law_is_text an__law_is_text cd__law_is_text ct__law_is_text), sl__law_is_text⟩) (c__law_is_text : PySem.W.codeIn K cd__law_is_text "_law_is_text" = true) (k__law_is_text : PySem.W.keepIn K (.ref f__law_is_text) = true)
    (a__law_text : PySem.W.nsIn K mainGlobals "_law_text" = some (some (.ref f__law_text))) (l__law_text : K.lookup f__law_text = some ⟨oc__law_text, od__law_text, .func (PySem.W.fnOf "_law_text" "_law_text" (defArgs S__law_text) (defBody S__law_text) (defScope S__law_text) .none kV__law_text dc__law_text pm__law_text an__law_text cd__law_text ct__law_text), sl__law_text⟩) (c__law_text : PySem.W.codeIn K cd__law_text "_law_text" = true) (k__law_text : PySem.W.keepIn K (.ref f__law_text) = true)
    (a__law_up : PySem.W.nsIn K mainGlobals "_law_up" = some (some (.ref f__law_up))) (l__law_up : K.lookup f__law_up = some ⟨oc__law_up, od__law_up, .func (PySem.W.fnOf "_law_up" "_law_up" (defArgs S__law_up) (defBody S__law_up) (defScope S__law_up) .none kV__law_up dc__law_up pm__law_up an__law_up cd__law_up ct__law_up), sl__law_up⟩) (c__law_up : PySem.W.codeIn K cd__law_up "_law_up" = true) (k__law_up : PySem.W.keepIn K (.ref f__law_up) = true)
    (a__law_name : PySem.W.nsIn K mainGlobals "_law_name" = some (some (.ref f__law_name))) (l__law_name : K.lookup f__law_name = some ⟨oc__law_name, od__law_name, .func (PySem.W.fnOf "_law_name" "_law_name" (defArgs S__law_name) (defBody S__law_name) (defScope S__law_name) .none kV__law_name dc__law_name pm__law_name an__law_name cd__law_name ct__law_name), sl__law_name⟩) (c__law_name : PySem.W.codeIn K cd__law_name "_law_name" = true) (k__law_name : PySem.W.keepIn K (.ref f__law_name) = true)
    (a__law_flag : PySem.W.nsIn K mainGlobals "_law_flag" = some (some (.ref f__law_flag))) (l__law_flag : K.lookup f__law_flag = some ⟨oc__law_flag, od__law_flag, .func (PySem.W.fnOf "_law_flag" "_law_flag" (defArgs S__law_flag) (defBody S__law_flag) (defScope S__law_flag) .none kV__law_flag dc__law_flag pm__law_flag an__law_flag cd__law_flag ct__law_flag), sl__law_flag⟩) (c__law_flag : PySem.W.codeIn K cd__law_flag "_law_flag" = true) (k__law_flag : PySem.W.keepIn K (.ref f__law_flag) = true)
    (a__law_candidate : PySem.W.nsIn K mainGlobals "_law_candidate" = some (some (.ref f__law_candidate))) (l__law_candidate : K.lookup f__law_candidate = some ⟨oc__law_candidate, od__law_candidate, .func (PySem.W.fnOf "_law_candidate" "_law_candidate" (defArgs S__law_candidate) (defBody S__law_candidate) (defScope S__law_candidate) .none kV__law_candidate dc__law_candidate pm__law_candidate an__law_candidate cd__law_candidate ct__law_candidate), sl__law_candidate⟩) (c__law_candidate : PySem.W.codeIn K cd__law_candidate "_law_candidate" = true) (k__law_candidate : PySem.W.keepIn K (.ref f__law_candidate) = true)
    (a_law : PySem.W.nsIn K mainGlobals "law" = some (some (.ref f_law))) (l_law : K.lookup f_law = some ⟨oc_law, od_law, .func (PySem.W.fnOf "law" "law" (defArgs S_law) (defBody S_law) (defScope S_law) .none kV_law dc_law pm_law an_law cd_law ct_law), sl_law⟩) (c_law : PySem.W.codeIn K cd_law "law" = true) (k_law : PySem.W.keepIn K (.ref f_law) = true)
    (z_all : PySem.W.nsIn K mainGlobals "all" = some none)
    (z_isinstance : PySem.W.nsIn K mainGlobals "isinstance" = some none)
    (z_str : PySem.W.nsIn K mainGlobals "str" = some none)
    (z_len : PySem.W.nsIn K mainGlobals "len" = some none)
    (z_sorted : PySem.W.nsIn K mainGlobals "sorted" = some none)
    (z_set : PySem.W.nsIn K mainGlobals "set" = some none)
    (z_dict : PySem.W.nsIn K mainGlobals "dict" = some none)
    (z_sum : PySem.W.nsIn K mainGlobals "sum" = some none)
    (z_list : PySem.W.nsIn K mainGlobals "list" = some none)
    (z_int : PySem.W.nsIn K mainGlobals "int" = some none)
    (z_range : PySem.W.nsIn K mainGlobals "range" = some none)
    (z_bool : PySem.W.nsIn K mainGlobals "bool" = some none)
    (z_max : PySem.W.nsIn K mainGlobals "max" = some none)
    {t_SIGNS : Tok} (g_SIGNS : PySem.W.nsIn K mainGlobals "SIGNS" = some (some (.str C_SIGNS t_SIGNS)))
    {t_LONGEST_NAME : Tok} (g_LONGEST_NAME : PySem.W.nsIn K mainGlobals "LONGEST_NAME" = some (some (.int 8 t_LONGEST_NAME)))
    {t_LETTERS : Tok} (g_LETTERS : PySem.W.nsIn K mainGlobals "LETTERS" = some (some (.str C_LETTERS t_LETTERS)))
    {ca_WORDS : Addr} {co_WORDS : Obj} {ci_WORDS : Array Value} {cn_WORDS : Nat} (g_WORDS : PySem.W.nsIn K mainGlobals "WORDS" = some (some (.ref ca_WORDS))) (gl_WORDS : K.lookup ca_WORDS = some co_WORDS) (gc_WORDS : co_WORDS.cls = .type "tuple") (gd_WORDS : co_WORDS.data = .seq ci_WORDS cn_WORDS) (gs_WORDS : ci_WORDS.size ≤ sizeLine) (gv_WORDS : Vals C_WORDS ci_WORDS.toList)
    {t_NAME_SIGNS : Tok} (g_NAME_SIGNS : PySem.W.nsIn K mainGlobals "NAME_SIGNS" = some (some (.str C_NAME_SIGNS t_NAME_SIGNS)))
    : ∃ fd : FuncData, (∀ (s : Shared) (v : Value), BindsTo s fd ⟨[v], []⟩ [("_law_script", v)]) ∧ ∀ base : Heap, K.In base → base.Ns mainGlobals mg → FnOk l.prog w K mg base CX0 5 fa fd ["_law_script"] (spLaw K) := by
  have e := hfa.symm.trans (PySem.W.mg_of X G a_law)
  cases e
  have hc_Test : cadr mg "Test" = c_Test := cadr_of (PySem.W.mg_of X G a_Test)
  have T : Txt K mg := {
    h_all := PySem.W.mg_none_of X G z_all
    h_isinstance := PySem.W.mg_none_of X G z_isinstance
    h_str := PySem.W.mg_none_of X G z_str
    h_len := PySem.W.mg_none_of X G z_len
    h_sorted := PySem.W.mg_none_of X G z_sorted
    h_set := PySem.W.mg_none_of X G z_set
    h_dict := PySem.W.mg_none_of X G z_dict
    h_sum := PySem.W.mg_none_of X G z_sum
    h_list := PySem.W.mg_none_of X G z_list
    h_int := PySem.W.mg_none_of X G z_int
    h_range := PySem.W.mg_none_of X G z_range
    h_bool := PySem.W.mg_none_of X G z_bool
    h_max := PySem.W.mg_none_of X G z_max
    d_is_text := ⟨f_is_text, _, fun_mk (st := S_is_text) l_is_text c_is_text k_is_text, PySem.W.mg_of X G a_is_text, (fun_mk (st := S_is_text) l_is_text c_is_text k_is_text).binds (ps := ["thing"]) fun _ _ _ _ _ _ us hl => match us, hl with | [_], _ => rfl⟩
    d_is_name := ⟨f_is_name, _, fun_mk (st := S_is_name) l_is_name c_is_name k_is_name, PySem.W.mg_of X G a_is_name, (fun_mk (st := S_is_name) l_is_name c_is_name k_is_name).binds (ps := ["thing"]) fun _ _ _ _ _ _ us hl => match us, hl with | [_], _ => rfl⟩
    d_up := ⟨f_up, _, fun_mk (st := S_up) l_up c_up k_up, PySem.W.mg_of X G a_up, (fun_mk (st := S_up) l_up c_up k_up).binds (ps := ["text"]) fun _ _ _ _ _ _ us hl => match us, hl with | [_], _ => rfl⟩
    d_Test_init := by rw [hc_Test]; exact ⟨f_Test_init, _, fun_mk (st := S_Test_init) l_Test_init c_Test_init k_Test_init, ⟨mk_Test, a_Test_init, i_Test_init, kc_Test⟩, (fun_mk (st := S_Test_init) l_Test_init c_Test_init k_Test_init).binds (ps := ["self", "word", "inner", "fields", "terms"]) fun _ _ _ _ _ _ us hl => match us, hl with | [_, _, _, _, _], _ => rfl⟩
    d_Test_atoms := by rw [hc_Test]; exact ⟨f_Test_atoms, _, fun_mk (st := S_Test_atoms) l_Test_atoms c_Test_atoms k_Test_atoms, ⟨a_Test_atoms, i_Test_atoms, k_Test_atoms⟩, (fun_mk (st := S_Test_atoms) l_Test_atoms c_Test_atoms k_Test_atoms).binds (ps := ["self"]) fun _ _ _ _ _ _ us hl => match us, hl with | [_], _ => rfl⟩
    d_Test_names := by rw [hc_Test]; exact ⟨f_Test_names, _, fun_mk (st := S_Test_names) l_Test_names c_Test_names k_Test_names, ⟨a_Test_names, i_Test_names, k_Test_names⟩, (fun_mk (st := S_Test_names) l_Test_names c_Test_names k_Test_names).binds (ps := ["self"]) fun _ _ _ _ _ _ us hl => match us, hl with | [_], _ => rfl⟩
    d_Test_truth := by rw [hc_Test]; exact ⟨f_Test_truth, _, fun_mk (st := S_Test_truth) l_Test_truth c_Test_truth k_Test_truth, ⟨a_Test_truth, i_Test_truth, k_Test_truth⟩, (fun_mk (st := S_Test_truth) l_Test_truth c_Test_truth k_Test_truth).binds (ps := ["self", "row"]) fun _ _ _ _ _ _ us hl => match us, hl with | [_, _], _ => rfl⟩
    d_size_of := ⟨f_size_of, _, fun_mk (st := S_size_of) l_size_of c_size_of k_size_of, PySem.W.mg_of X G a_size_of, (fun_mk (st := S_size_of) l_size_of c_size_of k_size_of).binds (ps := ["inner"]) fun _ _ _ _ _ _ us hl => match us, hl with | [_], _ => rfl⟩
    d_depth_of := ⟨f_depth_of, _, fun_mk (st := S_depth_of) l_depth_of c_depth_of k_depth_of, PySem.W.mg_of X G a_depth_of, (fun_mk (st := S_depth_of) l_depth_of c_depth_of k_depth_of).binds (ps := ["inner"]) fun _ _ _ _ _ _ us hl => match us, hl with | [_], _ => rfl⟩
    d_need_column := ⟨f_need_column, _, fun_mk (st := S_need_column) l_need_column c_need_column k_need_column, PySem.W.mg_of X G a_need_column, (fun_mk (st := S_need_column) l_need_column c_need_column k_need_column).binds (ps := ["thing"]) fun _ _ _ _ _ _ us hl => match us, hl with | [_], _ => rfl⟩
    d_begins := ⟨f_begins, _, fun_mk (st := S_begins) l_begins c_begins k_begins, PySem.W.mg_of X G a_begins, (fun_mk (st := S_begins) l_begins c_begins k_begins).binds (ps := ["column", "prefix"]) fun _ _ _ _ _ _ us hl => match us, hl with | [_, _], _ => rfl⟩
    d_and_truth := ⟨f_and_truth, _, fun_mk (st := S_and_truth) l_and_truth c_and_truth k_and_truth, PySem.W.mg_of X G a_and_truth, (fun_mk (st := S_and_truth) l_and_truth c_and_truth k_and_truth).binds (ps := ["one", "other"]) fun _ _ _ _ _ _ us hl => match us, hl with | [_, _], _ => rfl⟩
    d_or_truth := ⟨f_or_truth, _, fun_mk (st := S_or_truth) l_or_truth c_or_truth k_or_truth, PySem.W.mg_of X G a_or_truth, (fun_mk (st := S_or_truth) l_or_truth c_or_truth k_or_truth).binds (ps := ["one", "other"]) fun _ _ _ _ _ _ us hl => match us, hl with | [_, _], _ => rfl⟩
    d_not_truth := ⟨f_not_truth, _, fun_mk (st := S_not_truth) l_not_truth c_not_truth k_not_truth, PySem.W.mg_of X G a_not_truth, (fun_mk (st := S_not_truth) l_not_truth c_not_truth k_not_truth).binds (ps := ["one"]) fun _ _ _ _ _ _ us hl => match us, hl with | [_], _ => rfl⟩
    d_combined_truth := ⟨f_combined_truth, _, fun_mk (st := S_combined_truth) l_combined_truth c_combined_truth k_combined_truth, PySem.W.mg_of X G a_combined_truth, (fun_mk (st := S_combined_truth) l_combined_truth c_combined_truth k_combined_truth).binds (ps := ["word", "truths"]) fun _ _ _ _ _ _ us hl => match us, hl with | [_, _], _ => rfl⟩
    d_truth_at := ⟨f_truth_at, _, fun_mk (st := S_truth_at) l_truth_at c_truth_at k_truth_at, PySem.W.mg_of X G a_truth_at, (fun_mk (st := S_truth_at) l_truth_at c_truth_at k_truth_at).binds (ps := ["test", "row"]) fun _ _ _ _ _ _ us hl => match us, hl with | [_, _], _ => rfl⟩
    d_atom_truth := ⟨f_atom_truth, _, fun_mk (st := S_atom_truth) l_atom_truth c_atom_truth k_atom_truth, PySem.W.mg_of X G a_atom_truth, (fun_mk (st := S_atom_truth) l_atom_truth c_atom_truth k_atom_truth).binds (ps := ["atom", "row"]) fun _ _ _ _ _ _ us hl => match us, hl with | [_, _], _ => rfl⟩
    d_values_truth := ⟨f_values_truth, _, fun_mk (st := S_values_truth) l_values_truth c_values_truth k_values_truth, PySem.W.mg_of X G a_values_truth, (fun_mk (st := S_values_truth) l_values_truth c_values_truth k_values_truth).binds (ps := ["atom", "held"]) fun _ _ _ _ _ _ us hl => match us, hl with | [_, _], _ => rfl⟩
    d_moved := ⟨f_moved, _, fun_mk (st := S_moved) l_moved c_moved k_moved, PySem.W.mg_of X G a_moved, (fun_mk (st := S_moved) l_moved c_moved k_moved).binds (ps := ["value", "more"]) fun _ _ _ _ _ _ us hl => match us, hl with | [_, _], _ => rfl⟩
    d_related := ⟨f_related, _, fun_mk (st := S_related) l_related c_related k_related, PySem.W.mg_of X G a_related, (fun_mk (st := S_related) l_related c_related k_related).binds (ps := ["one", "op", "other"]) fun _ _ _ _ _ _ us hl => match us, hl with | [_, _, _], _ => rfl⟩
    d__law_begin := ⟨f__law_begin, _, fun_mk (st := S__law_begin) l__law_begin c__law_begin k__law_begin, PySem.W.mg_of X G a__law_begin, (fun_mk (st := S__law_begin) l__law_begin c__law_begin k__law_begin).binds (ps := ["_law_script"]) fun _ _ _ _ _ _ us hl => match us, hl with | [_], _ => rfl⟩
    d__law_take := ⟨f__law_take, _, fun_mk (st := S__law_take) l__law_take c__law_take k__law_take, PySem.W.mg_of X G a__law_take, (fun_mk (st := S__law_take) l__law_take c__law_take k__law_take).binds (ps := ["_law_draw", "_law_many"]) fun _ _ _ _ _ _ us hl => match us, hl with | [_, _], _ => rfl⟩
    d__law_chars := ⟨f__law_chars, _, fun_mk (st := S__law_chars) l__law_chars c__law_chars k__law_chars, PySem.W.mg_of X G a__law_chars, (fun_mk (st := S__law_chars) l__law_chars c__law_chars k__law_chars).binds (ps := []) fun _ _ _ _ _ _ us hl => match us, hl with | [], _ => rfl⟩
    d__law_is_text := ⟨f__law_is_text, _, fun_mk (st := S__law_is_text) l__law_is_text c__law_is_text k__law_is_text, PySem.W.mg_of X G a__law_is_text, (fun_mk (st := S__law_is_text) l__law_is_text c__law_is_text k__law_is_text).binds (ps := ["_law_thing"]) fun _ _ _ _ _ _ us hl => match us, hl with | [_], _ => rfl⟩
    d__law_text := ⟨f__law_text, _, fun_mk (st := S__law_text) l__law_text c__law_text k__law_text, PySem.W.mg_of X G a__law_text, (fun_mk (st := S__law_text) l__law_text c__law_text k__law_text).binds (ps := ["_law_draw"]) fun _ _ _ _ _ _ us hl => match us, hl with | [_], _ => rfl⟩
    d__law_up := ⟨f__law_up, _, fun_mk (st := S__law_up) l__law_up c__law_up k__law_up, PySem.W.mg_of X G a__law_up, (fun_mk (st := S__law_up) l__law_up c__law_up k__law_up).binds (ps := ["_law_text_here"]) fun _ _ _ _ _ _ us hl => match us, hl with | [_], _ => rfl⟩
    d__law_name := ⟨f__law_name, _, fun_mk (st := S__law_name) l__law_name c__law_name k__law_name, PySem.W.mg_of X G a__law_name, (fun_mk (st := S__law_name) l__law_name c__law_name k__law_name).binds (ps := ["_law_draw", "_law_taken"]) fun _ _ _ _ _ _ us hl => match us, hl with | [_, _], _ => rfl⟩
    d__law_flag := ⟨f__law_flag, _, fun_mk (st := S__law_flag) l__law_flag c__law_flag k__law_flag, PySem.W.mg_of X G a__law_flag, (fun_mk (st := S__law_flag) l__law_flag c__law_flag k__law_flag).binds (ps := ["_law_thing", "_law_due"]) fun _ _ _ _ _ _ us hl => match us, hl with | [_, _], _ => rfl⟩
    d__law_candidate := ⟨f__law_candidate, _, fun_mk (st := S__law_candidate) l__law_candidate c__law_candidate k__law_candidate, PySem.W.mg_of X G a__law_candidate, (fun_mk (st := S__law_candidate) l__law_candidate c__law_candidate k__law_candidate).binds (ps := ["_law_draw", "_law_prefix"]) fun _ _ _ _ _ _ us hl => match us, hl with | [_, _], _ => rfl⟩
    e_Test := by rw [hc_Test]; exact PySem.W.mg_of X G a_Test
    cl_Test := by rw [hc_Test]; exact ⟨pg_Test, hd_Test, po_Test, sa_Test⟩
    n_Test_word := by rw [hc_Test]; exact n_Test_word
    n_Test_inner := by rw [hc_Test]; exact n_Test_inner
    n_Test_fields := by rw [hc_Test]; exact n_Test_fields
    n_Test_terms := by rw [hc_Test]; exact n_Test_terms
    n_Test_size := by rw [hc_Test]; exact n_Test_size
    n_Test_depth := by rw [hc_Test]; exact n_Test_depth
    k_SIGNS := ⟨t_SIGNS, PySem.W.mg_of X G g_SIGNS⟩
    k_LONGEST_NAME := ⟨t_LONGEST_NAME, PySem.W.mg_of X G g_LONGEST_NAME⟩
    k_LETTERS := ⟨t_LETTERS, PySem.W.mg_of X G g_LETTERS⟩
    k_WORDS := ⟨ca_WORDS, PySem.W.mg_of X G g_WORDS, fun _ => Or.inr ⟨co_WORDS, ci_WORDS, cn_WORDS, gl_WORDS, gc_WORDS, gd_WORDS, gs_WORDS, gv_WORDS⟩⟩
    k_NAME_SIGNS := ⟨t_NAME_SIGNS, PySem.W.mg_of X G g_NAME_SIGNS⟩ }
  exact ⟨PySem.W.fnOf "law" "law" (defArgs S_law) (defBody S_law) (defScope S_law) .none kV_law dc_law pm_law an_law cd_law ct_law, fun s v => .of_eq rfl, fun base _ _ => ok_law T (fun_mk (st := S_law) l_law c_law k_law)⟩
theorem walk {l : PySem.W.OpenLaw} {q : Program} {loose : List Str} {XP : (Str → Option Value) → Heap → Prop} {YP : World → Heap → Prop} {d : DefRec} {K : Params → PySem.W.Frag} (hn : l.most = some 63) (hdf : d.params.defaults = [])
    (hY : ∀ (w : World) (h : Heap), YP w h → (K w.params).In h)
    (F : ∀ (w : World) (mg : Str → Option Value) (fa : Addr) (h : Heap), (K w.params).In h → h.Ns mainGlobals mg → mg d.name = some (.ref fa) →
      ∃ fd : FuncData, (∀ (s : Shared) (u : Value), BindsTo s fd ⟨[u], []⟩ [("_law_script", u)]) ∧ ∀ base : Heap, (K w.params).In base → base.Ns mainGlobals mg → FnOk l.prog w (K w.params) mg base CX0 5 fa fd ["_law_script"] (spLaw (K w.params))) :
    PySem.W.WalkO q loose XP YP l.row.toRowW d [] (fun f vs => PySem.call f vs) :=
  L2.walk_of (n := 63) (k := 5) (x := "_law_script") (CX := fun _ => CX0) (sp := fun w => spLaw (K w.params)) hn (by decide) hdf ⟨rfl, by decide, by decide⟩ hY F (fun _ _ a ns hl _ hS => ⟨a, ns, rfl, hS, hl, fun _ => rfl⟩) fun _ _ _ _ _ z => z
end L
open PySem PySem.W PyProof.Rows
set_option maxRecDepth 100000 in
set_option maxHeartbeats 0 in
theorem PySem.Challenge.cw_tworows_k02_begins_is_a_range_holds : PySem.Challenge.rw_tworows_k02_begins_is_a_range.Holds := by
  w_on; o_law; k_head; (case hw => w_witness2)
  k_fill
  refine L.walk (l := PySem.Challenge.rw_tworows_k02_begins_is_a_range) rfl rfl (fun w h Y => PySem.W.kIn_of Y) ?F
  case F =>
    intro w mg fa h KX G hmg
    refine' L.all_mk KX G hmg ?a_Test ?pg_Test ?hd_Test ?po_Test ?sa_Test ?mk_Test ?kc_Test ?n_Test_word ?n_Test_inner ?n_Test_fields ?n_Test_terms ?n_Test_size ?n_Test_depth ?a_is_text ?l_is_text ?c_is_text ?k_is_text ?a_is_name ?l_is_name ?c_is_name ?k_is_name ?a_up ?l_up ?c_up ?k_up ?a_Test_init ?i_Test_init ?l_Test_init ?c_Test_init ?k_Test_init ?a_Test_atoms ?i_Test_atoms ?l_Test_atoms ?c_Test_atoms ?k_Test_atoms ?a_Test_names ?i_Test_names ?l_Test_names ?c_Test_names ?k_Test_names ?a_Test_truth ?i_Test_truth ?l_Test_truth ?c_Test_truth ?k_Test_truth ?a_size_of ?l_size_of ?c_size_of ?k_size_of ?a_depth_of ?l_depth_of ?c_depth_of ?k_depth_of ?a_need_column ?l_need_column ?c_need_column ?k_need_column ?a_begins ?l_begins ?c_begins ?k_begins ?a_and_truth ?l_and_truth ?c_and_truth ?k_and_truth ?a_or_truth ?l_or_truth ?c_or_truth ?k_or_truth ?a_not_truth ?l_not_truth ?c_not_truth ?k_not_truth ?a_combined_truth ?l_combined_truth ?c_combined_truth ?k_combined_truth ?a_truth_at ?l_truth_at ?c_truth_at ?k_truth_at ?a_atom_truth ?l_atom_truth ?c_atom_truth ?k_atom_truth ?a_values_truth ?l_values_truth ?c_values_truth ?k_values_truth ?a_moved ?l_moved ?c_moved ?k_moved ?a_related ?l_related ?c_related ?k_related ?a__law_begin ?l__law_begin ?c__law_begin ?k__law_begin ?a__law_take ?l__law_take ?c__law_take ?k__law_take ?a__law_chars ?l__law_chars ?c__law_chars ?k__law_chars ?a__law_is_text ?l__law_is_text ?c__law_is_text ?k__law_is_text ?a__law_text ?l__law_text ?c__law_text ?k__law_text ?a__law_up ?l__law_up ?c__law_up ?k__law_up ?a__law_name ?l__law_name ?c__law_name ?k__law_name ?a__law_flag ?l__law_flag ?c__law_flag ?k__law_flag ?a__law_candidate ?l__law_candidate ?c__law_candidate ?k__law_candidate ?a_law ?l_law ?c_law ?k_law ?z_all ?z_isinstance ?z_str ?z_len ?z_sorted ?z_set ?z_dict ?z_sum ?z_list ?z_int ?z_range ?z_bool ?z_max ?g_SIGNS ?g_LONGEST_NAME ?g_LETTERS ?g_WORDS ?gl_WORDS ?gc_WORDS ?gd_WORDS ?gs_WORDS ?gv_WORDS ?g_NAME_SIGNS
    (case a_Test => k_is)
    (case pg_Test => k_is)
    (case hd_Test => k_is)
    (case po_Test => k_is)
    (case sa_Test => k_is)
    (case mk_Test => k_is)
    (case kc_Test => k_is)
    (case n_Test_word => k_is)
    (case n_Test_inner => k_is)
    (case n_Test_fields => k_is)
    (case n_Test_terms => k_is)
    (case n_Test_size => k_is)
    (case n_Test_depth => k_is)
    (case a_is_text => k_is)
    (case l_is_text => k_is)
    (case c_is_text => k_is)
    (case k_is_text => k_is)
    (case a_is_name => k_is)
    (case l_is_name => k_is)
    (case c_is_name => k_is)
    (case k_is_name => k_is)
    (case a_up => k_is)
    (case l_up => k_is)
    (case c_up => k_is)
    (case k_up => k_is)
    (case a_Test_init => k_is)
    (case i_Test_init => k_is)
    (case l_Test_init => k_is)
    (case c_Test_init => k_is)
    (case k_Test_init => k_is)
    (case a_Test_atoms => k_is)
    (case i_Test_atoms => k_is)
    (case l_Test_atoms => k_is)
    (case c_Test_atoms => k_is)
    (case k_Test_atoms => k_is)
    (case a_Test_names => k_is)
    (case i_Test_names => k_is)
    (case l_Test_names => k_is)
    (case c_Test_names => k_is)
    (case k_Test_names => k_is)
    (case a_Test_truth => k_is)
    (case i_Test_truth => k_is)
    (case l_Test_truth => k_is)
    (case c_Test_truth => k_is)
    (case k_Test_truth => k_is)
    (case a_size_of => k_is)
    (case l_size_of => k_is)
    (case c_size_of => k_is)
    (case k_size_of => k_is)
    (case a_depth_of => k_is)
    (case l_depth_of => k_is)
    (case c_depth_of => k_is)
    (case k_depth_of => k_is)
    (case a_need_column => k_is)
    (case l_need_column => k_is)
    (case c_need_column => k_is)
    (case k_need_column => k_is)
    (case a_begins => k_is)
    (case l_begins => k_is)
    (case c_begins => k_is)
    (case k_begins => k_is)
    (case a_and_truth => k_is)
    (case l_and_truth => k_is)
    (case c_and_truth => k_is)
    (case k_and_truth => k_is)
    (case a_or_truth => k_is)
    (case l_or_truth => k_is)
    (case c_or_truth => k_is)
    (case k_or_truth => k_is)
    (case a_not_truth => k_is)
    (case l_not_truth => k_is)
    (case c_not_truth => k_is)
    (case k_not_truth => k_is)
    (case a_combined_truth => k_is)
    (case l_combined_truth => k_is)
    (case c_combined_truth => k_is)
    (case k_combined_truth => k_is)
    (case a_truth_at => k_is)
    (case l_truth_at => k_is)
    (case c_truth_at => k_is)
    (case k_truth_at => k_is)
    (case a_atom_truth => k_is)
    (case l_atom_truth => k_is)
    (case c_atom_truth => k_is)
    (case k_atom_truth => k_is)
    (case a_values_truth => k_is)
    (case l_values_truth => k_is)
    (case c_values_truth => k_is)
    (case k_values_truth => k_is)
    (case a_moved => k_is)
    (case l_moved => k_is)
    (case c_moved => k_is)
    (case k_moved => k_is)
    (case a_related => k_is)
    (case l_related => k_is)
    (case c_related => k_is)
    (case k_related => k_is)
    (case a__law_begin => k_is)
    (case l__law_begin => k_is)
    (case c__law_begin => k_is)
    (case k__law_begin => k_is)
    (case a__law_take => k_is)
    (case l__law_take => k_is)
    (case c__law_take => k_is)
    (case k__law_take => k_is)
    (case a__law_chars => k_is)
    (case l__law_chars => k_is)
    (case c__law_chars => k_is)
    (case k__law_chars => k_is)
    (case a__law_is_text => k_is)
    (case l__law_is_text => k_is)
    (case c__law_is_text => k_is)
    (case k__law_is_text => k_is)
    (case a__law_text => k_is)
    (case l__law_text => k_is)
    (case c__law_text => k_is)
    (case k__law_text => k_is)
    (case a__law_up => k_is)
    (case l__law_up => k_is)
    (case c__law_up => k_is)
    (case k__law_up => k_is)
    (case a__law_name => k_is)
    (case l__law_name => k_is)
    (case c__law_name => k_is)
    (case k__law_name => k_is)
    (case a__law_flag => k_is)
    (case l__law_flag => k_is)
    (case c__law_flag => k_is)
    (case k__law_flag => k_is)
    (case a__law_candidate => k_is)
    (case l__law_candidate => k_is)
    (case c__law_candidate => k_is)
    (case k__law_candidate => k_is)
    (case a_law => k_is)
    (case l_law => k_is)
    (case c_law => k_is)
    (case k_law => k_is)
    (case z_all => k_is)
    (case z_isinstance => k_is)
    (case z_str => k_is)
    (case z_len => k_is)
    (case z_sorted => k_is)
    (case z_set => k_is)
    (case z_dict => k_is)
    (case z_sum => k_is)
    (case z_list => k_is)
    (case z_int => k_is)
    (case z_range => k_is)
    (case z_bool => k_is)
    (case z_max => k_is)
    (case g_SIGNS => k_is)
    (case g_LONGEST_NAME => k_is)
    (case g_LETTERS => k_is)
    (case g_WORDS => k_is)
    (case gl_WORDS => k_is)
    (case gc_WORDS => rfl)
    (case gd_WORDS => rfl)
    (case gs_WORDS => decide)
    (case gv_WORDS => (repeat (first | exact .nil | refine .cons ⟨_, rfl⟩ ?_)))
    (case g_NAME_SIGNS => k_is)
#print axioms PySem.Challenge.cw_tworows_k02_begins_is_a_range_holds
