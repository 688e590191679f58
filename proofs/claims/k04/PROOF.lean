import PyProof.Rows.All
import Wide.All
import OpenK.AllK
import Wide.FinOn
import HandS.ForMost
import HandS.Wide
import HandS.IsInst
import HandS.Flow
import HandS.TupLe
import HandS.StrMore
import HandS.Evl
import HandS.Walk
import KE.KxText
import PySem.Challenge.RW_tworows_k04_names_and_kinds
set_option Elab.async false
set_option linter.all false
set_option maxRecDepth 100000
set_option maxHeartbeats 4000000
namespace Tw
open PySem L2

/-! ### a def of the text with its promise -/
structure Def (P : Program) (w : World) (K : PySem.W.Frag) (mg : Str → Option Value) (base : Heap) (k : Nat) (x : Str) (ps : List Str) (sp : Sp) : Prop where
  ex : ∃ (f : Addr) (fd : FuncData), FnOk P w K mg base CX0 k f fd ps sp ∧ mg x = some (.ref f) ∧ PySem.W.keepIn K (.ref f) = true ∧ Binds K fd ps []
/-- where a def of the text stands -/
structure Here (K : PySem.W.Frag) (mg : Str → Option Value) (x : Str) (st : Stmt) (ps : List Str) (f : Addr) (fd : FuncData) : Prop where
  fn : Fun K x x st f fd
  mg : mg x = some (.ref f)
  bd : Binds K fd ps []
section
variable {X : Cx} {k j : Nat} {x : Str} {p pos : Pos} {e : Expr} {es : List Expr} {ps : List Str} {sp : Sp} {t : TA}
theorem Here.def {P : Program} {w : World} {K : PySem.W.Frag} {mg : Str → Option Value} {base : Heap} {st : Stmt} {f : Addr} {fd : FuncData} (h : Here K mg x st ps f fd) (F : FnOk P w K mg base CX0 k f fd ps sp) : Def P w K mg base k x ps sp :=
  ⟨f, fd, F, h.mg, h.fn.kp, h.bd⟩
def tDef (sp : Sp) (t : TA) : TE := fun σ H Q => t σ H fun vs H1 => sp vs H1 Q E0
theorem tDef_eq {sp : Sp} {t : TA} : tCall sp [] E0 t = tDef sp t := by
  funext σ H Q
  unfold tCall tDef
  simp only [List.append_nil]
theorem pe_def (D : Def X.prog X.w X.K X.mg X.base k x ps sp) (hr : Room j X.A) (hg : Gl X x) (ha : PA X (e :: es) t) (hk : k ≤ j := by decide) (hdb : (x == ("__debug__" : Str)) = false := by decide)
    (he : starEach (e :: es) X.env = (false, eval e X.env) :: starEach es X.env := by rfl) (hpl : (backTo pos (starEach es X.env)).any (·.1) = false := by rfl) : PE X (.Call (.Name x p) (e :: es) [] pos) (tDef sp t) := by
  obtain ⟨f, fd, F, hm, hkp, hb⟩ := D.ex
  rw [← tDef_eq]
  exact pe_call F (hr.mono hk) hg hm hkp hb .nil pass0 ha hdb he hpl
theorem pe_def0 (D : Def X.prog X.w X.K X.mg X.base k x ps sp) (hr : Room j X.A) (hg : Gl X x) (hk : k ≤ j := by decide) (hdb : (x == ("__debug__" : Str)) = false := by decide) : PE X (.Call (.Name x p) [] [] pos) (tDef sp tNil) := by
  obtain ⟨f, fd, F, hm, hkp, hb⟩ := D.ex
  rw [← tDef_eq]
  exact pe_call0 F (hr.mono hk) hg hm hkp hb .nil pass0 hdb
end

/-! ### operators for values of any kind -/
def rStr2 (C : Str → Str → Prop) (g : Str → Str → V) : R2 := fun x y H Q => ∃ i j, x = .str i ∧ y = .str j ∧ C i j ∧ Q (g i j) H
def rAddG : R2 := fun x y H Q => (∃ i j, x = .int i ∧ y = .int j ∧ Q (.int (i + j)) H) ∨ (∃ i j, x = .str i ∧ y = .str j ∧ i.length + j.length ≤ sizeLine ∧ Q (.str (i ++ j)) H) ∨ rCat x y H Q
def rLtG : R2 := fun x y H Q => (∃ i j, x = .int i ∧ y = .int j ∧ Q (.bl (decide (i < j))) H) ∨ ∃ i j, x = .str i ∧ y = .str j ∧ Q (.bl (decide (i.cps.toList < j.cps.toList))) H
def CPowG (i j : Int) : Prop := 0 ≤ j ∧ (Builtin.Int.intBits i : Int) * j ≤ 2 ^ 27
section
variable {X : Cx} {H : Hp} {Q : VK}
theorem op_addG : OpR X (binaryOp .Add) rAddG := op_add.or (op_add_str.or op_cat)
theorem op_ltG : OpR X (compareOp .Lt) rLtG := op_lt.or op_lt_str
theorem op_powG : OpR X (binaryOp .Pow) (rI CPowG fun i j => .int (i ^ j.toNat)) := opI fun _ _ _ _ _ _ _ hc q => PyProof.Rows.pow_int hc.1 hc.2 q
def rFdG : R2 := rI CDivW fun i j => .int (i / j)
theorem op_fdG : OpR X (binaryOp .FloorDiv) rFdG := op_fdivW
def rModG : R2 := rI (fun _ j => 0 < j) fun i j => .int (i % j)
theorem op_modG : OpR X (binaryOp .Mod) rModG := op_mod
def rSubG : R2 := rI0 fun i j => .int (i - j)
theorem op_subG : OpR X (binaryOp .Sub) rSubG := op_sub
def rMulG : R2 := rI CMul fun i j => .int (i * j)
theorem op_mulG : OpR X (binaryOp .Mult) rMulG := op_mul
def rPowG : R2 := rI CPowG fun i j => .int (i ^ j.toNat)
theorem op_powG' : OpR X (binaryOp .Pow) rPowG := op_powG
def rLeG : R2 := rI0 fun i j => .bl (decide (i ≤ j))
theorem op_leG : OpR X (compareOp .LtE) rLeG := op_le
def rGtG : R2 := rI0 fun i j => .bl (decide (j < i))
theorem op_gtG : OpR X (compareOp .Gt) rGtG := op_gt
def rGeG : R2 := fun x y H Q => (rI0 fun i j => .bl (decide (j ≤ i))) x y H Q ∨ ∃ i j, x = .str i ∧ y = .str j ∧ Q (.bl (!decide (i.cps.toList < j.cps.toList))) H
theorem op_geG : OpR X (compareOp .GtE) rGeG := op_ge.or op_ge_str
def rIsNG : R2 := fun x y H Q => y = .non ∧ Q (.bl (decide (x = .non))) H
theorem op_isNG : OpR X (compareOp .Is) rIsNG := op_isN
def rNotNG : R2 := fun x y H Q => y = .non ∧ Q (.bl (!decide (x = .non))) H
theorem op_notNG : OpR X (compareOp .IsNot) rNotNG := op_notN
def rNegG : V → Hp → VK → Prop := rU fun i => .int (-i)
theorem un_negG : UnR X (unaryOp .USub) rNegG := un_neg
/-! rules that hang on the written part, the part told by a letter (so that they stand in a comprehension's block, too) -/
def rLenG (K : PySem.W.Frag) : List V → Hp → VK → Prop := fun xs H Q => ∃ x n, xs = [x] ∧ LenV K x H n ∧ Q (.int n) H
theorem call_lenG {K : PySem.W.Frag} (h : X.K = K) : CallR X (.builtin "len") (rLenG K) := by subst h; exact call_len
theorem ix_seqG {K : PySem.W.Frag} (h : X.K = K) : IxR X (rIx K) := by subst h; exact ix_seq
theorem call_isiG {K : PySem.W.Frag} (h : X.K = K) : CallR X (.builtin "isinstance") (rIsi K) := by subst h; exact call_isi
theorem sl_listG {K : PySem.W.Frag} (h : X.K = K) : SlR X (rSlL K) := by subst h; exact sl_list
def rSlG (K : PySem.W.Frag) : V → Option Int → Option Int → Hp → VK → Prop := fun x lo hi H Q => rSlL K x lo hi H Q ∨ (L2.rSlS x lo hi H Q ∨ rSlT K x lo hi H Q)
theorem sl_G {K : PySem.W.Frag} (h : X.K = K) : SlR X (rSlG K) := by subst h; exact sl_list.or (sl_str.or sl_tup)
def rInSign : R2 := fun x y H Q => ∃ (c : Nat) (z : Str), x = .str ⟨#[c]⟩ ∧ y = .str z ∧ Q (.bl (decide (c ∈ z.cps.toList))) H
def rNotInSign : R2 := fun x y H Q => ∃ (c : Nat) (z : Str), x = .str ⟨#[c]⟩ ∧ y = .str z ∧ Q (.bl (!decide (c ∈ z.cps.toList))) H
def rInG (K : PySem.W.Frag) : R2 := fun x y H Q => rInSign x y H Q ∨ rIn K false x y H Q
def rNotInG (K : PySem.W.Frag) : R2 := fun x y H Q => rNotInSign x y H Q ∨ rIn K true x y H Q
theorem op_inG {K : PySem.W.Frag} (h : X.K = K) : OpR X (compareOp .In) (rInG K) := by subst h; exact (show OpR X (compareOp .In) rInSign from op_in_sign).or op_in_seq
theorem op_notInG {K : PySem.W.Frag} (h : X.K = K) : OpR X (compareOp .NotIn) (rNotInG K) := by subst h; exact (show OpR X (compareOp .NotIn) rNotInSign from op_notIn_sign).or op_notIn_seq
def rMax2 : List V → Hp → VK → Prop := fun xs H Q => ∃ i j, xs = [.int i, .int j] ∧ Q (.int (if j > i then j else i)) H
theorem call_max2G (h : X.calm = true) : CallR X (.builtin "max") rMax2 := call_max2 h
def rGeS : R2 := fun x y H Q => ∃ i j, x = .str i ∧ y = .str j ∧ Q (.bl (!decide (i.cps.toList < j.cps.toList))) H
def rIsBl : R2 := fun x y H Q => ∃ a b, x = .bl a ∧ y = .bl b ∧ Q (.bl (decide (a = b))) H
def rNotBl : R2 := fun x y H Q => ∃ a b, x = .bl a ∧ y = .bl b ∧ Q (.bl (!decide (a = b))) H
theorem op_isBl : OpR X (compareOp .Is) rIsBl := op_is_bl
theorem op_notBl : OpR X (compareOp .IsNot) rNotBl := op_isnot_bl
def rListG (K : PySem.W.Frag) : List V → Hp → VK → Prop := fun xs H Q => ∃ p ys, xs = [.ref p] ∧ (SqL K H p ys ∨ SqT K H p ys) ∧ ∀ l, H l = none → Q (.ref l) (upd H l (.lst ys))
theorem call_listG {K : PySem.W.Frag} (h : X.K = K) : CallR X (.type "list") (rListG K) := by subst h; exact call_list_of
def rIntG : List V → Hp → VK → Prop := fun xs H Q => (∃ i, xs = [.int i] ∧ Q (.int i) H) ∨ ∃ k, xs = [.bl k] ∧ Q (.int (if k then 1 else 0)) H
theorem call_intG : CallR X (.type "int") rIntG := call_int1
def rBoolG : List V → Hp → VK → Prop := fun xs H Q => (∃ i, xs = [.int i] ∧ Q (.bl (i != 0)) H) ∨ ∃ k, xs = [.bl k] ∧ Q (.bl k) H
theorem call_boolG : CallR X (.type "bool") rBoolG := call_bool1
def rJoinG (K : PySem.W.Frag) : V → List V → Hp → VK → Prop := fun x xs H Q => ∃ a p, ∃ ys : List Str, x = .str a ∧ xs = [.ref p] ∧ (SqL K H p (ys.map V.str) ∨ SqT K H p (ys.map V.str)) ∧
    (ys.map (·.length)).sum + ys.length * a.length ≤ 16777216 ∧ Q (.str (PySem.Txt.join a ys)) H
theorem mt_joinG {K : PySem.W.Frag} (h : X.K = K) : MtR X "str.join" (rJoinG K) := by subst h; exact mt_join
/-- is True, is False: of bools -/
def rIsB : R2 := fun x y H Q => ∃ i j, x = .bl i ∧ y = .bl j ∧ Q (.bl (decide (i = j))) H
end

/-- what is wanted behind a statement, in a word that is no constructor -/
def mkE (nx : L2.St → Hp → Prop) (rt : VK) (bk ct : L2.St → Hp → Prop) : Ends := ⟨nx, rt, bk, ct⟩
theorem Fun.okM {P : Program} {w : World} {K : PySem.W.Frag} {mg : Str → Option Value} {base : Heap} {x qual : Str} {st : Stmt} {f : Addr} {fd : FuncData} {N ps : List Str} {k : Nat} {sp : Sp} (F : Fun K x qual st f fd) (S : FnScope N ps (defScope st)) (len : ∀ vs H Q E, sp vs H Q E → vs.length = ps.length)
    (hbody : ∀ (cdv : Value) (A : Around) (outer : List Env) (s : Shared) (H : Hp) (vs : List V) (Q : VK) (E : XK), Room k (A.deeper (PyProof.Rows.envOfC qual (defScope st) s.heap.objs.size f cdv)) → sp vs H Q E →
      ∃ t, PSs (cxOf CX0 P w K mg base N qual (defScope st) f cdv A outer s H E).nox (defBody st) t ∧ t (mkE (fun _ H' => Q .non H') Q (fun _ _ => False) (fun _ _ => False)) (L2.start N vs) H) : FnOk P w K mg base CX0 (k + 1) f fd ps sp := F.ok S len hbody
/-! ### readings, step by step -/
section
variable {K : PySem.W.Frag} {σ : L2.St} {H : Hp} {Q : VK} {QT : Bool → Hp → Prop} {QA : List V → Hp → Prop} {D : Ends} {ta tb te : TE} {tr t : TA} {u c : TT} {ts tz : TS} {x y v : V} {a b : Bool} {i j : Int}
theorem g_var {n : Nat} (h : σ[n]? = some (some v)) (q : Q v H) : tVar n σ H Q := ⟨v, h, q⟩
theorem g_var0 {n : Nat} (q : ∃ v, σ[n]? = some (some v) ∧ Q v H) : tVar n σ H Q := q
theorem g_c (q : Q v H) : tC v σ H Q := q
theorem g_op {r : R2} (q : ta σ H fun x H1 => tb σ H1 fun y H2 => r x y H2 Q) : tOp r ta tb σ H Q := q
theorem g_un {r : V → Hp → VK → Prop} (q : ta σ H fun x H1 => r x H1 Q) : tUn r ta σ H Q := q
theorem g_nil (q : QA [] H) : tNil σ H QA := q
theorem g_cons (q : ta σ H fun x H1 => tr σ H1 fun xs H2 => QA (x :: xs) H2) : tCons ta tr σ H QA := q
theorem g_def {sp : Sp} (q : t σ H fun vs H1 => sp vs H1 Q E0) : tDef sp t σ H Q := q
theorem g_cb {r : List V → Hp → VK → Prop} (q : t σ H fun vs H1 => r vs H1 Q) : tCB r t σ H Q := q
theorem g_tup (q : t σ H fun xs H1 => xs.length ≤ sizeLine ∧ ∀ p, H1 p = none → Q (.ref p) (upd H1 p (.tup xs))) : tTup t σ H Q := q
theorem g_lst (q : t σ H fun xs H1 => xs.length ≤ sizeLine ∧ ∀ p, H1 p = none → Q (.ref p) (upd H1 p (.lst xs))) : tLst t σ H Q := q
theorem g_addI (q : Q (.int (i + j)) H) : rAddG (.int i) (.int j) H Q := .inl ⟨i, j, rfl, rfl, q⟩
theorem g_addS {z w : Str} (h : z.length + w.length ≤ sizeLine) (q : Q (.str (z ++ w)) H) : rAddG (.str z) (.str w) H Q := .inr (.inl ⟨z, w, rfl, rfl, h, q⟩)
theorem g_subI (q : Q (.int (i - j)) H) : rSubG (.int i) (.int j) H Q := ⟨i, j, rfl, rfl, q⟩
theorem g_mulI (h : CMul i j) (q : Q (.int (i * j)) H) : rMulG (.int i) (.int j) H Q := ⟨i, j, rfl, rfl, h, q⟩
theorem g_powI (h : CPowG i j) (q : Q (.int (i ^ j.toNat)) H) : rPowG (.int i) (.int j) H Q := ⟨i, j, rfl, rfl, h, q⟩
theorem g_modI (h : 0 < j) (q : Q (.int (i % j)) H) : rModG (.int i) (.int j) H Q := ⟨i, j, rfl, rfl, h, q⟩
theorem g_fdI (h : CDivW i j) (q : Q (.int (i / j)) H) : rFdG (.int i) (.int j) H Q := ⟨i, j, rfl, rfl, h, q⟩
theorem g_negI (q : Q (.int (-i)) H) : rNegG (.int i) H Q := ⟨i, rfl, q⟩
theorem g_ltI (q : Q (.bl (decide (i < j))) H) : rLtG (.int i) (.int j) H Q := .inl ⟨i, j, rfl, rfl, q⟩
theorem g_ltS {z w : Str} (q : Q (.bl (decide (z.cps.toList < w.cps.toList))) H) : rLtG (.str z) (.str w) H Q := .inr ⟨z, w, rfl, rfl, q⟩
theorem g_leI (q : Q (.bl (decide (i ≤ j))) H) : rLeG (.int i) (.int j) H Q := ⟨i, j, rfl, rfl, q⟩
theorem g_gtI (q : Q (.bl (decide (j < i))) H) : rGtG (.int i) (.int j) H Q := ⟨i, j, rfl, rfl, q⟩
theorem g_geI (q : Q (.bl (decide (j ≤ i))) H) : rGeG (.int i) (.int j) H Q := .inl ⟨i, j, rfl, rfl, q⟩
theorem g_geS {z w : Str} (q : Q (.bl (!decide (z.cps.toList < w.cps.toList))) H) : rGeG (.str z) (.str w) H Q := .inr ⟨z, w, rfl, rfl, q⟩
theorem g_slL {p : Addr} {xs : List V} {lo hi : Option Int} (h : SqL K H p xs) (q : ∀ l, H l = none → Q (.ref l) (upd H l (.lst (cutV xs lo hi)))) : rSlG K (.ref p) lo hi H Q := .inl ⟨p, xs, rfl, h, q⟩
theorem g_slS {z : Str} {lo hi : Option Int} (h : z.length ≤ sizeLine) (q : Q (.str (cutS z lo hi)) H) : rSlG K (.str z) lo hi H Q := .inr (.inl ⟨z, rfl, h, q⟩)
theorem g_inS {n : Nat} {z : Str} (q : Q (.bl (decide (n ∈ z.cps.toList))) H) : rInG K (.str ⟨#[n]⟩) (.str z) H Q := .inl ⟨n, z, rfl, rfl, q⟩
theorem g_notInS {n : Nat} {z : Str} (q : Q (.bl (!decide (n ∈ z.cps.toList))) H) : rNotInG K (.str ⟨#[n]⟩) (.str z) H Q := .inl ⟨n, z, rfl, rfl, q⟩
theorem g_max2 (q : Q (.int (if j > i then j else i)) H) : rMax2 [.int i, .int j] H Q := ⟨i, j, rfl, q⟩
theorem g_isBl_tt (q : Q (.bl true) H) : rIsBl (.bl true) (.bl true) H Q := ⟨true, true, rfl, rfl, q⟩
theorem g_notBl_tt (q : Q (.bl false) H) : rNotBl (.bl true) (.bl true) H Q := ⟨true, true, rfl, rfl, q⟩
theorem g_isBl_tf (q : Q (.bl false) H) : rIsBl (.bl true) (.bl false) H Q := ⟨true, false, rfl, rfl, q⟩
theorem g_notBl_tf (q : Q (.bl true) H) : rNotBl (.bl true) (.bl false) H Q := ⟨true, false, rfl, rfl, q⟩
theorem g_isBl_ft (q : Q (.bl false) H) : rIsBl (.bl false) (.bl true) H Q := ⟨false, true, rfl, rfl, q⟩
theorem g_notBl_ft (q : Q (.bl true) H) : rNotBl (.bl false) (.bl true) H Q := ⟨false, true, rfl, rfl, q⟩
theorem g_isBl_ff (q : Q (.bl true) H) : rIsBl (.bl false) (.bl false) H Q := ⟨false, false, rfl, rfl, q⟩
theorem g_notBl_ff (q : Q (.bl false) H) : rNotBl (.bl false) (.bl false) H Q := ⟨false, false, rfl, rfl, q⟩
theorem g_isBl (q : Q (.bl (decide (a = b))) H) : rIsBl (.bl a) (.bl b) H Q := ⟨a, b, rfl, rfl, q⟩
theorem g_notBl (q : Q (.bl (!decide (a = b))) H) : rNotBl (.bl a) (.bl b) H Q := ⟨a, b, rfl, rfl, q⟩
theorem g_istr {R : It → Hp → Prop} (q : ta σ H fun v H1 => ∃ x, v = .str x ∧ R (Its x) H1) : iStr ta σ H R := q
theorem g_str1 {p : Str → Prop} {z : Str} (q : p z) : ∃ x, V.str z = .str x ∧ p x := ⟨z, rfl, q⟩
theorem g_strE {z : Str} {R : Prop} (q : R) : (∃ a, V.str z = .str a) ∧ R := ⟨⟨z, rfl⟩, q⟩
theorem g_isN (q : Q (.bl (decide (x = .non))) H) : rIsNG x .non H Q := ⟨rfl, q⟩
theorem g_notN (q : Q (.bl (!decide (x = .non))) H) : rNotNG x .non H Q := ⟨rfl, q⟩
theorem g_isN_non (q : Q (.bl true) H) : rIsNG .non .non H Q := ⟨rfl, by rw [decide_eq_true rfl]; exact q⟩
theorem g_isN_int (q : Q (.bl false) H) : rIsNG (.int i) .non H Q := ⟨rfl, by rw [decide_eq_false (fun z => nomatch z)]; exact q⟩
theorem g_isN_str {z : Str} (q : Q (.bl false) H) : rIsNG (.str z) .non H Q := ⟨rfl, by rw [decide_eq_false (fun z => nomatch z)]; exact q⟩
theorem g_isN_bl (q : Q (.bl false) H) : rIsNG (.bl a) .non H Q := ⟨rfl, by rw [decide_eq_false (fun z => nomatch z)]; exact q⟩
theorem g_isN_ref {p : Addr} (q : Q (.bl false) H) : rIsNG (.ref p) .non H Q := ⟨rfl, by rw [decide_eq_false (fun z => nomatch z)]; exact q⟩
theorem g_notN_non (q : Q (.bl false) H) : rNotNG .non .non H Q := ⟨rfl, by rw [decide_eq_true rfl]; exact q⟩
theorem g_notN_int (q : Q (.bl true) H) : rNotNG (.int i) .non H Q := ⟨rfl, by rw [decide_eq_false (fun z => nomatch z)]; exact q⟩
theorem g_notN_str {z : Str} (q : Q (.bl true) H) : rNotNG (.str z) .non H Q := ⟨rfl, by rw [decide_eq_false (fun z => nomatch z)]; exact q⟩
theorem g_notN_bl (q : Q (.bl true) H) : rNotNG (.bl a) .non H Q := ⟨rfl, by rw [decide_eq_false (fun z => nomatch z)]; exact q⟩
theorem g_notN_ref {p : Addr} (q : Q (.bl true) H) : rNotNG (.ref p) .non H Q := ⟨rfl, by rw [decide_eq_false (fun z => nomatch z)]; exact q⟩
theorem g_Tn {A B : Prop} (h : B) : if (!true) = true then A else B := by rw [if_neg (by decide)]; exact h
theorem g_Fn {A B : Prop} (h : A) : if (!false) = true then A else B := by rw [if_pos (by decide)]; exact h
theorem dI (i j : Int) : decide (V.int i = V.int j) = decide (i = j) := by
  by_cases h : i = j
  · subst h; simp
  · rw [decide_eq_false h]; exact decide_eq_false fun z => h (V.int.inj z)
theorem dS (i j : Str) : decide (V.str i = V.str j) = decide (i = j) := by
  by_cases h : i = j
  · subst h; simp
  · rw [decide_eq_false h]; exact decide_eq_false fun z => h (V.str.inj z)
theorem dB (i j : Bool) : decide (V.bl i = V.bl j) = decide (i = j) := by
  by_cases h : i = j
  · subst h; simp
  · rw [decide_eq_false h]; exact decide_eq_false fun z => h (V.bl.inj z)
theorem g_eqI (q : Q (.bl (decide (i = j))) H) : rEq (.int i) (.int j) H Q := ⟨rfl, by rw [dI]; exact q⟩
theorem g_eqS {z w : Str} (q : Q (.bl (decide (z = w))) H) : rEq (.str z) (.str w) H Q := ⟨rfl, by rw [dS]; exact q⟩
theorem g_eqB (q : Q (.bl (decide (a = b))) H) : rEq (.bl a) (.bl b) H Q := ⟨rfl, by rw [dB]; exact q⟩
theorem g_neI (q : Q (.bl (!decide (i = j))) H) : rNe (.int i) (.int j) H Q := ⟨rfl, by rw [dI]; exact q⟩
theorem g_neS {z w : Str} (q : Q (.bl (!decide (z = w))) H) : rNe (.str z) (.str w) H Q := ⟨rfl, by rw [dS]; exact q⟩
theorem g_int1 (q : Q (.int i) H) : rIntG [V.int i] H Q := .inl ⟨i, rfl, q⟩
theorem g_int1B (q : Q (.int (if a then 1 else 0)) H) : rIntG [V.bl a] H Q := .inr ⟨a, rfl, q⟩
theorem g_bool1B (q : Q (.bl a) H) : rBoolG [V.bl a] H Q := .inr ⟨a, rfl, q⟩
theorem g_bool1I (q : Q (.bl (i != 0)) H) : rBoolG [V.int i] H Q := .inl ⟨i, rfl, q⟩
theorem g_ixL {p : Addr} {xs : List V} (h : SqL K H p xs) (e : atI xs i = some v) (q : Q v H) : rIx K (.ref p) (.int i) H Q := .inl ⟨p, xs, i, v, rfl, rfl, h, e, q⟩
theorem g_ixL0 {p : Addr} (q : ∃ xs v, H p = some (.lst xs) ∧ atI xs i = some v ∧ Q v H) : rIx K (.ref p) (.int i) H Q := by
  obtain ⟨xs, v, h, e, q⟩ := q
  exact g_ixL (SqL.of h) e q
theorem g_lenL0 {p : Addr} (q : ∃ xs, H p = some (.lst xs) ∧ Q (.int (xs.length : Int)) H) : rLenG K [.ref p] H Q := by
  obtain ⟨xs, h, q⟩ := q
  exact ⟨_, _, rfl, .inl ⟨xs, SqL.of h, rfl⟩, q⟩
theorem g_setL0 {p : Addr} {QH : Hp → Prop} (q : ∃ xs n, H p = some (.lst xs) ∧ ixN xs.length i = some n ∧ QH (upd H p (.lst (xs.set n v)))) : rSetL (.ref p) (.int i) v H QH := by
  obtain ⟨xs, n, h, e, q⟩ := q
  exact ⟨p, xs, i, n, rfl, rfl, h, e, q⟩
theorem g_ixT {p : Addr} {xs : List V} (h : SqT K H p xs) (e : atI xs i = some v) (q : Q v H) : rIx K (.ref p) (.int i) H Q := .inr (.inl ⟨p, xs, i, v, rfl, rfl, h, e, q⟩)
theorem g_ixS {z : Str} {n : Nat} (h : z.length ≤ sizeLine) (e : atI z.cps.toList i = some n) (q : Q (.str ⟨#[n]⟩) H) : rIx K (.str z) (.int i) H Q := .inr (.inr ⟨z, i, n, rfl, rfl, h, e, q⟩)
theorem g_lenL {p : Addr} {xs : List V} (h : SqL K H p xs) (q : Q (.int (xs.length : Int)) H) : rLenG K [.ref p] H Q := ⟨_, _, rfl, .inl ⟨xs, h, rfl⟩, q⟩
theorem g_lenT {p : Addr} {xs : List V} (h : SqT K H p xs) (q : Q (.int (xs.length : Int)) H) : rLenG K [.ref p] H Q := ⟨_, _, rfl, .inr ⟨xs, h, rfl⟩, q⟩
theorem g_lenS {z : Str} (h : z.length ≤ sizeLine) (q : Q (.int (z.length : Int)) H) : rLenG K [.str z] H Q := ⟨_, _, rfl, ⟨h, rfl⟩, q⟩
theorem g_list {p : Addr} {xs : List V} (h : SqL K H p xs) (q : ∀ l, H l = none → Q (.ref l) (upd H l (.lst xs))) : rListG K [.ref p] H Q := ⟨p, xs, rfl, .inl h, q⟩
theorem g_join {z : Str} {p : Addr} {ys : List Str} (h : SqL K H p (ys.map V.str)) (hz : (ys.map (·.length)).sum + ys.length * z.length ≤ 16777216) (q : Q (.str (PySem.Txt.join z ys)) H) : rJoinG K (.str z) [.ref p] H Q :=
  ⟨z, p, ys, rfl, rfl, .inl h, hz, q⟩
/-- the kind of a value, by its form -/
def kindS : V → String
  | .non => "NoneType" | .bl _ => "bool" | .int _ => "int" | .str _ => "str" | .flt _ => "float" | _ => ""
theorem g_isi {c : String} (ty : TyX K H x (.type n)) (h : kitB n c = some b) (q : Q (.bl b) H) : rIsi K [x, .ty c] H Q := ⟨x, .ty c, .type n, .type c, b, rfl, .ty c, ty, kit_ty h, q⟩
theorem g_isiI {c : String} (h : kitB "int" c = some b) (q : Q (.bl b) H) : rIsi K [.int i, .ty c] H Q := g_isi (.base (.int i)) h q
theorem g_isiS {c : String} {z : Str} (h : kitB "str" c = some b) (q : Q (.bl b) H) : rIsi K [.str z, .ty c] H Q := g_isi (.base (.str z)) h q
theorem g_isiB {c : String} (h : kitB "bool" c = some b) (q : Q (.bl b) H) : rIsi K [.bl a, .ty c] H Q := g_isi (.base (.bl a)) h q
theorem g_isiN {c : String} (h : kitB "NoneType" c = some b) (q : Q (.bl b) H) : rIsi K [.non, .ty c] H Q := g_isi (.base .non) h q
theorem kb_ii : kitB "int" "int" = some true := by decide +kernel
theorem kb_is : kitB "int" "str" = some false := by decide +kernel
theorem kb_ib : kitB "int" "bool" = some false := by decide +kernel
theorem kb_si : kitB "str" "int" = some false := by decide +kernel
theorem kb_ss : kitB "str" "str" = some true := by decide +kernel
theorem kb_sb : kitB "str" "bool" = some false := by decide +kernel
theorem kb_bi : kitB "bool" "int" = some true := by decide +kernel
theorem kb_bs : kitB "bool" "str" = some false := by decide +kernel
theorem kb_bb : kitB "bool" "bool" = some true := by decide +kernel
theorem kb_ni : kitB "NoneType" "int" = some false := by decide +kernel
theorem kb_ns : kitB "NoneType" "str" = some false := by decide +kernel
theorem kb_nb : kitB "NoneType" "bool" = some false := by decide +kernel
theorem g_sl {r : V → Option Int → Option Int → Hp → VK → Prop} {tl th : TO} (q : te σ H fun x H1 => tl σ H1 fun l H2 => th σ H2 fun u H3 => r x l u H3 Q) : tSl r te tl th σ H Q := q
theorem g_noPart {QO : Option Int → Hp → Prop} (q : QO none H) : tNoPart σ H QO := q
theorem g_part {QO : Option Int → Hp → Prop} (q : te σ H fun x H1 => ∃ i, x = .int i ∧ QO (some i) H1) : tPart te σ H QO := q
theorem g_int {p : Int → Prop} (q : p i) : ∃ k, V.int i = .int k ∧ p k := ⟨i, rfl, q⟩
theorem g_m1 {r : V → List V → Hp → VK → Prop} (q : ta σ H fun x H1 => (∃ a, x = .str a) ∧ tb σ H1 fun y H2 => r x [y] H2 Q) : tM1 r ta tb σ H Q := q
theorem g_m0 {r : V → List V → Hp → VK → Prop} (q : ta σ H fun x H1 => (∃ a, x = .str a) ∧ r x [] H1 Q) : tM0 r ta σ H Q := q
theorem g_lc {wi : TI} {g : TG} {tt : TT} {vs : List Nat} (q : wi σ H fun J H1 => ∀ D, H1 D = none → ∃ W : Nat → Nat → Hp → Prop, (∃ m, W 0 m (upd H1 D (.lst []))) ∧ ∀ i m H, W i m H →
  (J.stop i H ∧ Q (.ref D) H) ∨ (J.go i H ∧ ∃ Nx : Hp → Prop, (∀ H', Nx H' → ∃ m', m' < m ∧ W (i + 1) m' H') ∧ ∀ x H', J.yld i H x H' → g x (wipe σ vs) H' fun σ2 H2 => wipe σ2 vs = wipe σ vs ∧ tt σ2 H2 fun b H3 =>
    if b = true then te σ2 H3 fun y H4 => ∃ acc, H4 D = some (.lst acc) ∧ acc.length < sizeLine ∧ Nx (upd H4 D (.lst (acc ++ [y]))) else Nx H3)) : tLc wi g tt te vs σ H Q := q
theorem g_rng1 {R : It → Hp → Prop} (q : t σ H fun vs H1 => ∃ j : Int, vs = [.int j] ∧ -(2 ^ 62) ≤ j ∧ j < 2 ^ 62 ∧ R (Itr 0 j.toNat) H1) : iRng1 t σ H R := q
theorem g_ilist {R : It → Hp → Prop} (q : ta σ H fun x H1 => ∃ a, x = .ref a ∧ (∃ xs, SqL K H1 a xs) ∧ R (Itl K a) H1) : iList K ta σ H R := q
theorem g_for {wi : TI} {g : TG} (q : wi σ H fun J H1 => ∃ W : Nat → Nat → L2.St → Hp → Prop, (∃ m, W 0 m σ H1) ∧ ∀ i m σ H, W i m σ H →
  (J.stop i H ∧ D.nx σ H) ∨ (J.go i H ∧ ∃ N : L2.St → Hp → Prop, (∀ σ' H', N σ' H' → ∃ m', m' < m ∧ W (i + 1) m' σ' H') ∧ ∀ x H', J.yld i H x H' → g x σ H' fun σ2 H2 => ts { D with nx := N, ct := N, bk := D.nx } σ2 H2)) : tFor wi g ts D σ H := q
theorem g_cut {M : L2.St → Hp → Prop} (h : ts (mkE M D.rt D.bk D.ct) σ H) (k : ∀ σ' H', M σ' H' → tz D σ' H') : Evl.tCut ts tz D σ H := ⟨M, h, k⟩
theorem g_yes (q : QT true H) : tYes σ H QT := q
/-- a comprehension over a text whose turns leave the heap -/
theorem lc_text {z : Str} {g : TG} {tt : TT} {vs : List Nat} {H1 : Hp} {Dl : Addr} {Qd : Hp → Prop} (f : Nat → Bool) (v : Nat → V) (hz : z.length ≤ 1000000)
    (hs : ∀ (n : Nat) (Hh : Hp) (R : V → Hp → Prop) (S : Hp → Prop), n ∈ z.cps.toList → (∀ p o, p ≠ Dl → H1 p = some o → Hh p = some o) → (f n = true → R (v n) Hh) → (f n = false → S Hh) →
      g (.str ⟨#[n]⟩) (wipe σ vs) Hh fun σ2 H2 => wipe σ2 vs = wipe σ vs ∧ tt σ2 H2 fun b H3 => if b = true then te σ2 H3 R else S H3)
    (hd : ∀ H, (∀ p o, p ≠ Dl → H1 p = some o → H p = some o) → H Dl = some (.lst ((z.cps.toList.filter f).map v)) → Qd H) :
    ∃ W : Nat → Nat → Hp → Prop, (∃ m, W 0 m (upd H1 Dl (.lst []))) ∧ ∀ i m H, W i m H →
      ((Its z).stop i H ∧ Qd H) ∨ ((Its z).go i H ∧ ∃ Nx : Hp → Prop, (∀ H', Nx H' → ∃ m', m' < m ∧ W (i + 1) m' H') ∧ ∀ x H', (Its z).yld i H x H' → g x (wipe σ vs) H' fun σ2 H2 => wipe σ2 vs = wipe σ vs ∧ tt σ2 H2 fun b H3 =>
        if b = true then te σ2 H3 fun y H4 => ∃ acc, H4 Dl = some (.lst acc) ∧ acc.length < sizeLine ∧ Nx (upd H4 Dl (.lst (acc ++ [y]))) else Nx H3) := by
  have hsz : z.cps.size = z.cps.toList.length := Array.length_toList.symm
  refine ⟨fun i m H => m = z.cps.size - i ∧ i ≤ z.cps.size ∧ H Dl = some (.lst (((z.cps.toList.take i).filter f).map v)) ∧ ∀ p o, p ≠ Dl → H1 p = some o → H p = some o, ⟨z.cps.size, by simp, Nat.zero_le _, upd_same, fun p o n h => by rw [upd_ne n]; exact h⟩, ?_⟩
  rintro i m H ⟨rfl, hi, hD, hK⟩
  by_cases hlt : i < z.cps.size
  · refine .inr ⟨hlt, fun H' => H' Dl = some (.lst (((z.cps.toList.take (i + 1)).filter f).map v)) ∧ ∀ p o, p ≠ Dl → H1 p = some o → H' p = some o, fun H' w => ⟨z.cps.size - (i + 1), by omega, rfl, hlt, w⟩, ?_⟩
    rintro x H' ⟨rfl, n, hn, rfl⟩
    have hn' : z.cps.toList[i]? = some n := by rw [Array.getElem?_toList]; exact hn
    have e1 : z.cps.toList.take (i + 1) = z.cps.toList.take i ++ [n] := by rw [List.take_succ, hn']; rfl
    refine hs n H' _ _ (List.mem_of_getElem? hn') hK (fun hf => ?_) (fun hf => ?_)
    · refine ⟨_, hD, ?_, ?_, fun p o n h => by rw [upd_ne n]; exact hK p o n h⟩
      · rw [List.length_map, sizeLine_eq]
        have h1 := List.length_filter_le f (z.cps.toList.take i)
        have h2 : (z.cps.toList.take i).length ≤ z.cps.toList.length := by rw [List.length_take]; omega
        have h3 : z.cps.toList.length ≤ 1000000 := by rw [← hsz]; exact hz
        omega
      · rw [upd_same, e1, List.filter_append, List.filter_cons, if_pos hf, List.map_append]; rfl
    · refine ⟨?_, hK⟩
      rw [hD, e1, List.filter_append, List.filter_cons, if_neg (by rw [hf]; exact Bool.false_ne_true)]
      simp
  · have e : i = z.cps.size := by omega
    subst e
    refine .inl ⟨Nat.le_refl _, hd H hK ?_⟩
    rw [hD, hsz, List.take_length]
theorem join_cps (ys : List Str) : (PySem.Txt.join (Str.ofString "") ys).cps.toList = ys.flatMap fun y => y.cps.toList := by
  show (Builtin.Str.glued (Str.ofString "") ys).cps.toList = _
  rw [StrLaws.glued_eq_join]
  induction ys with
  | nil => rfl
  | cons y r ih =>
    cases r with
    | nil => show y.cps.toList = y.cps.toList ++ []; rw [List.append_nil]
    | cons z r =>
      show ((y ++ Str.ofString "") ++ Str.join (Str.ofString "") (z :: r)).cps.toList = _
      rw [PySem.W.KT.app_list, PySem.W.KT.app_list, ih, show (Str.ofString "").cps.toList = [] by decide +kernel, List.append_nil]
      rfl
theorem g_name {n : Nat} {QS : L2.St → Hp → Prop} (q : QS (σ.set n (some v)) H) : gName n v σ H QS := q
theorem g_inr {R : It → Hp → Prop} {p : Addr} {J : Addr → It} (q : (∃ xs, SqL K H p xs) ∧ R (J p) H) : ∃ a, V.ref p = .ref a ∧ (∃ xs, SqL K H a xs) ∧ R (J a) H := ⟨p, rfl, q⟩
theorem lex_trans {a b c : List Nat} (h : a < b) (k : b < c) : a < c := List.lt_trans h k
theorem lex_asymm {a b : List Nat} (h : a < b) : ¬ b < a := List.lt_asymm h
theorem lex_irrefl (a : List Nat) : ¬ a < a := List.lt_irrefl a
theorem lex_total {a b : List Nat} (h : ¬ a < b) (k : ¬ b < a) : a = b := List.le_antisymm (List.not_lt.mp k) (List.not_lt.mp h)
theorem str_ext {a b : Str} (h : a.cps.toList = b.cps.toList) : a = b := congrArg Str.mk (Array.toList_inj.mp h)
/-- a list, a tuple, a dict -/
def isRef (H : Hp) (p : Addr) : Prop := (∃ xs, H p = some (.lst xs)) ∨ (∃ xs, H p = some (.tup xs)) ∨ ∃ kvs, H p = some (.dK kvs)
theorem isRef.keep {H H' : Hp} {p : Addr} (h : isRef H p) (k : ∀ p o, H p = some o → H' p = some o) : isRef H' p := by
  rcases h with ⟨xs, h⟩ | ⟨xs, h⟩ | ⟨xs, h⟩
  · exact .inl ⟨xs, k _ _ h⟩
  · exact .inr (.inl ⟨xs, k _ _ h⟩)
  · exact .inr (.inr ⟨xs, k _ _ h⟩)
theorem g_isiR {p : Addr} {c : String} (h : isRef H p) (hc : c = "int" ∨ c = "str" ∨ c = "bool") (q : Q (.bl false) H) : rIsi K [.ref p, .ty c] H Q := by
  rcases h with ⟨xs, h⟩ | ⟨xs, h⟩ | ⟨xs, h⟩
  · exact g_isi (.base (.lst h)) (by rcases hc with rfl | rfl | rfl <;> decide +kernel) q
  · exact g_isi (.base (.tup h)) (by rcases hc with rfl | rfl | rfl <;> decide +kernel) q
  · exact g_isi (.base (.dK h)) (by rcases hc with rfl | rfl | rfl <;> decide +kernel) q
/-- a thing of any kind that a law draws -/
def thing (H : Hp) (v : V) : Prop := v = .non ∨ (∃ b, v = .bl b) ∨ (∃ i, v = .int i) ∨ (∃ z : Str, v = .str z ∧ z.length ≤ 100) ∨ ∃ p, v = .ref p ∧ isRef H p
theorem thing.keep {H H' : Hp} {v : V} (h : thing H v) (k : ∀ p o, H p = some o → H' p = some o) : thing H' v := by
  rcases h with h | h | h | h | ⟨p, e, h⟩
  · exact .inl h
  · exact .inr (.inl h)
  · exact .inr (.inr (.inl h))
  · exact .inr (.inr (.inr (.inl h)))
  · exact .inr (.inr (.inr (.inr ⟨p, e, h.keep k⟩)))
def isIntB : V → Bool
  | .int _ => true
  | _ => false
theorem inV_strs {z : Str} {ws : List Str} : inV (.str z) (ws.map V.str) = decide (z ∈ ws) := by
  unfold inV
  rw [List.any_map]
  rw [Bool.eq_iff_iff, decide_eq_true_eq, List.any_eq_true]
  constructor
  · rintro ⟨y, hy, h⟩
    have : y = z := by simpa [eqV] using h
    rw [← this]; exact hy
  · intro h
    exact ⟨z, h, by simp [eqV]⟩
theorem flat_strs (ws : List Str) : (ws.map V.str).all flatV = true := by
  rw [List.all_map, List.all_eq_true]
  intro x _
  rfl
theorem atI_strs {ws : List Str} {i : Int} (h0 : 0 ≤ i) (h1 : i < ws.length) : ∃ z, z ∈ ws ∧ atI (ws.map V.str) i = some (.str z) := by
  obtain ⟨k, rfl⟩ := Int.eq_ofNat_of_zero_le h0
  have hk : k < ws.length := by omega
  refine ⟨ws[k], List.getElem_mem hk, atI_nat ?_⟩
  rw [List.getElem?_map, List.getElem?_eq_getElem hk]; rfl
theorem g_tupE {p : Addr} {R : Prop} (q : R) : R := q
theorem g_test (q : ta σ H fun x H' => ∃ k, x = .bl k ∧ QT k H') : tTest ta σ H QT := q
theorem g_B (q : ta σ H fun x H' => ∃ k, x = .bl k ∧ QT k H') : tB ta σ H QT := q
theorem g_bl {p : Bool → Prop} (q : p a) : ∃ k, V.bl a = .bl k ∧ p k := ⟨a, rfl, q⟩
theorem g_tand (q : c σ H fun d H1 => if d = true then u σ H1 QT else QT false H1) : tAnd c u σ H QT := q
theorem g_tor (q : c σ H fun d H1 => if d = true then QT true H1 else u σ H1 QT) : tOr c u σ H QT := q
theorem g_tnot (q : c σ H fun d H1 => QT (!d) H1) : tNot c σ H QT := q
theorem g_vand (q : ta σ H fun x H1 => ∃ c, x = .bl c ∧ if c = true then tb σ H1 Q else Q (.bl false) H1) : tAndV ta tb σ H Q := q
theorem g_vor (q : ta σ H fun x H1 => ∃ c, x = .bl c ∧ if c = true then Q (.bl true) H1 else tb σ H1 Q) : tOrV ta tb σ H Q := q
theorem g_vnot (q : ta σ H fun x H1 => ∃ c, x = .bl c ∧ Q (.bl (!c)) H1) : tNotV ta σ H Q := q
theorem g_eif (q : c σ H fun d H1 => if d = true then ta σ H1 Q else tb σ H1 Q) : tIf c ta tb σ H Q := q
theorem g_seq (q : ts (mkE (tz D) D.rt D.bk D.ct) σ H) : tSeq ts tz D σ H := q
theorem g_asg {n : Nat} (q : te σ H fun x H1 => D.nx (σ.set n (some x)) H1) : tAsg te (gName n) D σ H := q
theorem g_asgSub {to ti : TE} {s : TSet} (q : te σ H fun x H1 => to σ H1 fun o H2 => ti σ H2 fun i H3 => s o i x H3 fun H4 => D.nx σ H4) : tAsg te (gSub to ti s) D σ H := q
theorem g_ret (q : te σ H D.rt) : tRet te D σ H := q
theorem g_drop (q : te σ H fun _ H1 => D.nx σ H1) : tDrop te D σ H := q
theorem g_if {t1 t2 : TS} (q : c σ H fun d H1 => if d = true then t1 D σ H1 else t2 D σ H1) : tIfS c t1 t2 D σ H := q
theorem g_next (q : D.nx σ H) : tNext D σ H := q
variable {nx : L2.St → Hp → Prop} {rt : VK} {bk ct : L2.St → Hp → Prop}
theorem g_nx (q : nx σ H) : (mkE nx rt bk ct).nx σ H := q
theorem g_rt (q : rt v H) : (mkE nx rt bk ct).rt v H := q
theorem g_bk (q : bk σ H) : (mkE nx rt bk ct).bk σ H := q
theorem g_ct (q : ct σ H) : (mkE nx rt bk ct).ct σ H := q
theorem g_ctS (q : D.ct σ H) : tCont D σ H := q
theorem g_bkS (q : D.bk σ H) : tBreak D σ H := q
/-! sizes, places -/
theorem cpow_small (h0 : 0 ≤ j) (h1 : j ≤ 1000000) (h2 : -(2 ^ 64) < i) (h3 : i < 2 ^ 64) : CPowG i j := by
  have h := PySem.intBits_le_64 h2 h3
  have h4 : ((Builtin.Int.intBits i : Nat) : Int) ≤ 64 := by omega
  refine ⟨h0, ?_⟩
  have h5 : ((Builtin.Int.intBits i : Nat) : Int) * j ≤ 64 * j := Int.mul_le_mul_of_nonneg_right h4 h0
  omega
theorem atI_map {ns : List Int} {n : Int} (h : 0 ≤ n ∧ n < ((ns.map V.int).length : Nat)) : atI (ns.map V.int) n = some (.int (ns.getD n.toNat 0)) := by
  rw [List.length_map] at h
  obtain ⟨h0, h⟩ := h
  obtain ⟨k, rfl⟩ := Int.eq_ofNat_of_zero_le h0
  refine atI_nat ?_
  rw [List.getElem?_map, List.getD_eq_getElem?_getD, Int.toNat_natCast, List.getElem?_eq_getElem (by omega)]
  rfl
theorem atI_get {α : Type} {xs : List α} {n : Nat} {v : α} (h : xs[n]? = some v) : atI xs (n : Int) = some v := atI_nat h
/-! tests -/
theorem g_T {A B : Prop} (h : A) : if true = true then A else B := by rw [if_pos rfl]; exact h
theorem g_F {A B : Prop} (h : B) : if false = true then A else B := by rw [if_neg Bool.false_ne_true]; exact h
theorem g_split {A B : Prop} {k : Bool} (h1 : k = true → A) (h2 : k = false → B) : if k = true then A else B := by
  cases k
  · exact g_F (h2 rfl)
  · exact g_T (h1 rfl)
theorem g_dec {A B p : Prop} [Decidable p] (h1 : p → A) (h2 : ¬ p → B) : if decide p = true then A else B :=
  g_split (fun h => h1 (of_decide_eq_true h)) (fun h => h2 (of_decide_eq_false h))
theorem g_ndec {A B p : Prop} [Decidable p] (h1 : ¬ p → A) (h2 : p → B) : if (!decide p) = true then A else B := by
  by_cases h : p
  · rw [decide_eq_true h]; exact g_F (h2 h)
  · rw [decide_eq_false h]; exact g_T (h1 h)
theorem g_nsplit {A B : Prop} {k : Bool} (h1 : k = false → A) (h2 : k = true → B) : if (!k) = true then A else B := by
  cases k
  · exact g_Fn (h1 rfl)
  · exact g_Tn (h2 rfl)
/-! loops whose turns don't see what follows -/
theorem for_rangeA {lo : Int} {n : Nat} {g : TG} {tb : TS} (Pv : Nat → L2.St → Hp → Prop) (h0 : Pv 0 σ H)
    (hs : ∀ i σ H (D' : Ends), i < n → Pv i σ H → (∀ σ H, Pv (i + 1) σ H → D'.nx σ H) → (∀ σ H, Pv (i + 1) σ H → D'.ct σ H) → (∀ σ H, D.nx σ H → D'.bk σ H) → D'.rt = D.rt → g (.int (lo + i)) σ H fun σ2 H2 => tb D' σ2 H2) (hd : ∀ σ H, Pv n σ H → D.nx σ H) :
    ∃ W : Nat → Nat → L2.St → Hp → Prop, (∃ m, W 0 m σ H) ∧ ∀ i m σ H, W i m σ H →
      ((Itr lo n).stop i H ∧ D.nx σ H) ∨ ((Itr lo n).go i H ∧ ∃ N : L2.St → Hp → Prop, (∀ σ' H', N σ' H' → ∃ m', m' < m ∧ W (i + 1) m' σ' H') ∧ ∀ x H', (Itr lo n).yld i H x H' → g x σ H' fun σ2 H2 => tb { D with nx := N, ct := N, bk := D.nx } σ2 H2) :=
  for_range Pv h0 (fun i σ H hi p => hs i σ H _ hi p (fun _ _ h => h) (fun _ _ h => h) (fun _ _ h => h) rfl) hd
theorem for_listA {p : Addr} {xs : List V} {g : TG} {tb : TS} (Pv : Nat → L2.St → Hp → Prop) (h0 : Pv 0 σ H) (hl : ∀ i σ H, i ≤ xs.length → Pv i σ H → SqL K H p xs)
    (hs : ∀ i x σ H (D' : Ends), xs[i]? = some x → Pv i σ H → (∀ σ H, Pv (i + 1) σ H → D'.nx σ H) → (∀ σ H, Pv (i + 1) σ H → D'.ct σ H) → (∀ σ H, D.nx σ H → D'.bk σ H) → D'.rt = D.rt → g x σ H fun σ2 H2 => tb D' σ2 H2) (hd : ∀ σ H, Pv xs.length σ H → D.nx σ H) :
    ∃ W : Nat → Nat → L2.St → Hp → Prop, (∃ m, W 0 m σ H) ∧ ∀ i m σ H, W i m σ H →
      ((Itl K p).stop i H ∧ D.nx σ H) ∨ ((Itl K p).go i H ∧ ∃ N : L2.St → Hp → Prop, (∀ σ' H', N σ' H' → ∃ m', m' < m ∧ W (i + 1) m' σ' H') ∧ ∀ x H', (Itl K p).yld i H x H' → g x σ H' fun σ2 H2 => tb { D with nx := N, ct := N, bk := D.nx } σ2 H2) :=
  for_list Pv h0 hl (fun i x σ H hi p => hs i x σ H _ hi p (fun _ _ h => h) (fun _ _ h => h) (fun _ _ h => h) rfl) hd
theorem g_cutA {M : L2.St → Hp → Prop} (h : ∀ D' : Ends, (∀ σ H, M σ H → D'.nx σ H) → D'.rt = D.rt → D'.bk = D.bk → D'.ct = D.ct → ts D' σ H) (k : ∀ σ' H', M σ' H' → tz D σ' H') : Evl.tCut ts tz D σ H :=
  ⟨M, h _ (fun _ _ h => h) rfl rfl rfl, k⟩
/-! stores -/
theorem g_setL {p : Addr} {xs : List V} {n : Nat} {QH : Hp → Prop} (h : H p = some (.lst xs)) (e : ixN xs.length i = some n) (q : QH (upd H p (.lst (xs.set n v)))) : rSetL (.ref p) (.int i) v H QH := ⟨p, xs, i, n, rfl, rfl, h, e, q⟩
theorem g_app {p : Addr} {xs : List V} (h : H p = some (.lst xs)) (hz : xs.length < 10000000) (q : Q .non (upd H p (.lst (xs ++ [v])))) : rAppend (.ref p) [v] H Q := ⟨p, xs, v, rfl, rfl, h, by rw [sizeLine_eq]; omega, q⟩
theorem g_bm {r : V → List V → Hp → VK → Prop} {T : String} (q : ta σ H fun x H1 => tyV K T x H1 ∧ t σ H1 fun xs H2 => r x xs H2 Q) : tBM K T r ta t σ H Q := q
theorem tyL {p : Addr} {xs : List V} (h : H p = some (.lst xs)) : tyV K "list" (.ref p) H := .inl ⟨rfl, xs, SqL.of h⟩
theorem g_tyL {p : Addr} {R : Prop} (q : (∃ xs, H p = some (.lst xs)) ∧ R) : tyV K "list" (.ref p) H ∧ R := ⟨let ⟨_, h⟩ := q.1; tyL h, q.2⟩
end
end Tw

set_option Elab.async false
set_option linter.all false
set_option maxRecDepth 100000
set_option maxHeartbeats 4000000
namespace L
open PySem L2 Tw
local macro_rules | `(tactic| walk_at "hp") => `(tactic| first
  | assumption
  | exact upd_same
  | (refine Eq.trans (upd_ne ?hn) ?hr; (case hn => first | assumption | exact Ne.symm (by assumption)); (case hr => walk_at "hp")))
local macro_rules | `(tactic| walk_at "g1") => `(tactic| first
  | with_reducible refine g_nx ?_
  | with_reducible refine g_rt ?_
  | with_reducible refine g_seq ?_
  | with_reducible refine g_ret ?_
  | with_reducible refine g_if ?_
  | with_reducible refine g_asg ?_
  | with_reducible refine g_drop ?_
  | with_reducible refine g_asgSub ?_
  | with_reducible refine g_next ?_
  | with_reducible refine g_op ?_
  | ((with_reducible refine g_var0 ?_); refine ⟨_, rfl, ?_⟩)
  | with_reducible refine g_c ?_
  | with_reducible refine g_cons ?_
  | with_reducible refine g_nil ?_
  | with_reducible refine g_def ?_
  | with_reducible refine g_cb ?_
  | with_reducible refine g_test ?_
  | with_reducible refine g_B ?_
  | with_reducible refine g_bl ?_
  | with_reducible refine g_sl ?_
  | with_reducible refine g_name ?_
  | with_reducible refine g_lc ?_
  | with_reducible refine g_rng1 ?_
  | with_reducible refine g_for ?_
  | with_reducible refine g_yes ?_
  | with_reducible refine g_ilist ?_
  | ((with_reducible refine g_m1 ?_))
  | with_reducible refine g_m0 ?_
  | with_reducible refine g_noPart ?_
  | with_reducible refine g_part ?_
  | with_reducible refine g_int ?_
  | with_reducible refine g_tand ?_
  | with_reducible refine g_tor ?_
  | with_reducible refine g_tnot ?_
  | with_reducible refine g_vand ?_
  | with_reducible refine g_vor ?_
  | with_reducible refine g_vnot ?_
  | with_reducible refine g_eif ?_
  | with_reducible refine g_un ?_
  | with_reducible refine g_addI ?_
  | with_reducible refine g_subI ?_
  | with_reducible refine g_negI ?_
  | with_reducible refine g_ltI ?_
  | with_reducible refine g_ltS ?_
  | with_reducible refine g_leI ?_
  | with_reducible refine g_geS ?_
  | with_reducible refine g_inS ?_
  | with_reducible refine g_notInS ?_
  | with_reducible refine g_max2 ?_
  | with_reducible refine g_isiR (by assumption) (by decide) ?_
  | with_reducible refine g_isBl_tt ?_
  | with_reducible refine g_notBl_tt ?_
  | with_reducible refine g_isBl_tf ?_
  | with_reducible refine g_notBl_tf ?_
  | with_reducible refine g_isBl_ft ?_
  | with_reducible refine g_notBl_ft ?_
  | with_reducible refine g_isBl_ff ?_
  | with_reducible refine g_notBl_ff ?_
  | with_reducible refine g_isBl ?_
  | with_reducible refine g_notBl ?_
  | with_reducible refine g_istr ?_
  | with_reducible refine g_str1 ?_
  | with_reducible refine g_strE ?_
  | with_reducible refine g_gtI ?_
  | with_reducible refine g_geI ?_
  | with_reducible refine g_isN_non ?_
  | with_reducible refine g_isN_int ?_
  | with_reducible refine g_isN_str ?_
  | with_reducible refine g_isN_bl ?_
  | with_reducible refine g_isN_ref ?_
  | with_reducible refine g_notN_non ?_
  | with_reducible refine g_notN_int ?_
  | with_reducible refine g_notN_str ?_
  | with_reducible refine g_notN_bl ?_
  | with_reducible refine g_notN_ref ?_
  | with_reducible refine g_isN ?_
  | with_reducible refine g_notN ?_
  | with_reducible refine g_isiI kb_ii ?_
  | with_reducible refine g_isiI kb_is ?_
  | with_reducible refine g_isiI kb_ib ?_
  | with_reducible refine g_isiS kb_si ?_
  | with_reducible refine g_isiS kb_ss ?_
  | with_reducible refine g_isiS kb_sb ?_
  | with_reducible refine g_isiB kb_bi ?_
  | with_reducible refine g_isiB kb_bs ?_
  | with_reducible refine g_isiB kb_bb ?_
  | with_reducible refine g_isiN kb_ni ?_
  | with_reducible refine g_isiN kb_ns ?_
  | with_reducible refine g_isiN kb_nb ?_
  | with_reducible refine g_eqI ?_
  | with_reducible refine g_eqS ?_
  | with_reducible refine g_eqB ?_
  | with_reducible refine g_neI ?_
  | with_reducible refine g_neS ?_
  | with_reducible refine g_int1 ?_
  | with_reducible refine g_int1B ?_
  | with_reducible refine g_bool1B ?_
  | with_reducible refine g_bool1I ?_
  | ((with_reducible refine g_modI ?gm ?_); (case gm => first | assumption | decide | omega))
  | ((with_reducible refine g_mulI ?gm ?_); (case gm => first | exact Or.inl ⟨by decide, by decide⟩ | exact Or.inr ⟨by decide, by decide⟩ | (unfold CMul; omega)))
  | with_reducible refine g_tup ?_
  | with_reducible refine g_lst ?_
  | with_reducible refine g_bm ?_
  | ((with_reducible refine g_tyL ?_); refine ⟨⟨_, by walk_at "hp"⟩, ?_⟩)
  | (with_reducible refine g_app (by walk_at "hp") (by first | assumption | (simp only [List.length_map, List.length_append, List.length_cons, List.length_nil]; omega) | omega) ?_)
  | ((with_reducible refine g_ixL0 ?_); (refine' ⟨_, _, ?ga, ?gb, ?_⟩; (case ga => walk_at "hp"); (case gb => exact rfl)))
  | ((with_reducible refine g_ixL0 ?_); (refine' ⟨_, _, ?ga, atI_map ?gb, ?_⟩; (case ga => walk_at "hp"); (case gb => omega)))
  | ((with_reducible refine g_powI ?gm ?_); (case gm => first | exact ⟨by decide, by decide +kernel⟩ | exact cpow_small (by decide) (by decide) (by omega) (by omega)))
  | ((with_reducible refine g_fdI ?gm ?_); (case gm => first | exact ⟨by assumption, by assumption⟩ | exact ⟨by decide, by decide +kernel⟩))
  | ((with_reducible refine g_lenL0 ?_); (refine' ⟨_, ?ga, ?_⟩; (case ga => walk_at "hp")))
  | ((with_reducible refine g_setL0 ?_); (refine' ⟨_, _, ?ga, ?gb, ?_⟩; (case ga => walk_at "hp"); (case gb => exact rfl)))
  | with_reducible refine g_T ?_
  | with_reducible refine g_F ?_
  | with_reducible refine g_Tn ?_
  | with_reducible refine g_Fn ?_
  | with_reducible refine g_bk ?_
  | with_reducible refine g_ct ?_
  | with_reducible refine g_ctS ?_
  | with_reducible refine g_bkS ?_)
local macro_rules | `(tactic| walk_at "g") => `(tactic| repeat walk_at "g1")
local macro_rules | `(tactic| walk_at "G") => `(tactic| (walk_at "g"; try ((first | with_reducible refine g_dec (fun _ => ?_) (fun _ => ?_) | with_reducible refine g_ndec (fun _ => ?_) (fun _ => ?_)) <;> walk_at "G")))
def C_SIGNS : Str := Str.ofString " !\"#$&'()*+,-./0123456789:;<=>?@ABCDEFGHIJKLMNOPQRSTUVWXYZ[\\]^_`abcdefghijklmnopqrstuvwxyz{|}~"
def C_LETTERS : Str := Str.ofString "abcdefghijklmnopqrstuvwxyz"
def C_WORDS : List V := [.str "and", .str "or", .str "not", .str "sure", .str "in", .str "is", .str "empty", .str "begins", .str "always", .str "never"]
def C_NAME_SIGNS : Str := Str.ofString "abcdefghijklmnopqrstuvwxyz0123456789"
def top (i : Nat) : Stmt := PySem.Challenge.pw_tworows_k04_names_and_kinds.main.body.getD i (.Pass ⟨0, 0, 0, 0⟩)
abbrev S_is_integer : Stmt := top 6
abbrev N_is_integer : List Str := ["thing"]
theorem sc_is_integer : FnScope N_is_integer ["thing"] (defScope S_is_integer) := ⟨rfl, rfl, rfl, by decide +kernel, rfl, by decide +kernel, by decide +kernel⟩
abbrev S_is_text : Stmt := top 7
abbrev N_is_text : List Str := ["thing", "sign"]
theorem sc_is_text : FnScope N_is_text ["thing"] (defScope S_is_text) := ⟨rfl, rfl, rfl, by decide +kernel, rfl, by decide +kernel, by decide +kernel⟩
abbrev S_is_name : Stmt := top 8
abbrev N_is_name : List Str := ["thing", "sign"]
theorem sc_is_name : FnScope N_is_name ["thing"] (defScope S_is_name) := ⟨rfl, rfl, rfl, by decide +kernel, rfl, by decide +kernel, by decide +kernel⟩
abbrev S_kind_of : Stmt := top 9
abbrev N_kind_of : List Str := ["value"]
theorem sc_kind_of : FnScope N_kind_of ["value"] (defScope S_kind_of) := ⟨rfl, rfl, rfl, by decide +kernel, rfl, by decide +kernel, by decide +kernel⟩
abbrev S_is_value : Stmt := top 10
abbrev N_is_value : List Str := ["kind", "thing"]
theorem sc_is_value : FnScope N_is_value ["kind", "thing"] (defScope S_is_value) := ⟨rfl, rfl, rfl, by decide +kernel, rfl, by decide +kernel, by decide +kernel⟩
abbrev S__law_begin : Stmt := top 12
abbrev N__law_begin : List Str := ["_law_script"]
theorem sc__law_begin : FnScope N__law_begin ["_law_script"] (defScope S__law_begin) := ⟨rfl, rfl, rfl, by decide +kernel, rfl, by decide +kernel, by decide +kernel⟩
abbrev S__law_take : Stmt := top 13
abbrev N__law_take : List Str := ["_law_draw", "_law_many", "_law_cell", "_law_digit", "_law_mixed"]
theorem sc__law_take : FnScope N__law_take ["_law_draw", "_law_many"] (defScope S__law_take) := ⟨rfl, rfl, rfl, by decide +kernel, rfl, by decide +kernel, by decide +kernel⟩
abbrev S__law_is_integer : Stmt := top 14
abbrev N__law_is_integer : List Str := ["_law_thing_here"]
theorem sc__law_is_integer : FnScope N__law_is_integer ["_law_thing_here"] (defScope S__law_is_integer) := ⟨rfl, rfl, rfl, by decide +kernel, rfl, by decide +kernel, by decide +kernel⟩
abbrev S__law_chars : Stmt := top 15
abbrev N__law_chars : List Str := ["_law_chars_here"]
theorem sc__law_chars : FnScope N__law_chars [] (defScope S__law_chars) := ⟨rfl, rfl, rfl, by decide +kernel, rfl, by decide +kernel, by decide +kernel⟩
abbrev S__law_is_text : Stmt := top 16
abbrev N__law_is_text : List Str := ["_law_thing_here", "_law_char"]
theorem sc__law_is_text : FnScope N__law_is_text ["_law_thing_here"] (defScope S__law_is_text) := ⟨rfl, rfl, rfl, by decide +kernel, rfl, by decide +kernel, by decide +kernel⟩
abbrev S__law_number : Stmt := top 17
abbrev N__law_number : List Str := ["_law_draw", "_law_choice"]
theorem sc__law_number : FnScope N__law_number ["_law_draw"] (defScope S__law_number) := ⟨rfl, rfl, rfl, by decide +kernel, rfl, by decide +kernel, by decide +kernel⟩
abbrev S__law_text : Stmt := top 18
abbrev N__law_text : List Str := ["_law_draw", "_law_chars_here", "_law_size", "_law_k"]
theorem sc__law_text : FnScope N__law_text ["_law_draw"] (defScope S__law_text) := ⟨rfl, rfl, rfl, by decide +kernel, rfl, by decide +kernel, by decide +kernel⟩
abbrev S__law_thing : Stmt := top 19
abbrev N__law_thing : List Str := ["_law_draw", "_law_choice"]
theorem sc__law_thing : FnScope N__law_thing ["_law_draw"] (defScope S__law_thing) := ⟨rfl, rfl, rfl, by decide +kernel, rfl, by decide +kernel, by decide +kernel⟩
abbrev S__law_flag : Stmt := top 20
abbrev N__law_flag : List Str := ["_law_thing_here", "_law_due"]
theorem sc__law_flag : FnScope N__law_flag ["_law_thing_here", "_law_due"] (defScope S__law_flag) := ⟨rfl, rfl, rfl, by decide +kernel, rfl, by decide +kernel, by decide +kernel⟩
abbrev S__law_string : Stmt := top 21
abbrev N__law_string : List Str := ["_law_draw", "_law_plain", "_law_odd", "_law_text_here", "_law_k"]
theorem sc__law_string : FnScope N__law_string ["_law_draw"] (defScope S__law_string) := ⟨rfl, rfl, rfl, by decide +kernel, rfl, by decide +kernel, by decide +kernel⟩
abbrev S__law_kept_word : Stmt := top 22
abbrev N__law_kept_word : List Str := ["_law_draw", "_law_kept", "_law_word"]
theorem sc__law_kept_word : FnScope N__law_kept_word ["_law_draw"] (defScope S__law_kept_word) := ⟨rfl, rfl, rfl, by decide +kernel, rfl, by decide +kernel, by decide +kernel⟩
abbrev S__law_name_due : Stmt := top 23
abbrev N__law_name_due : List Str := ["_law_thing_here", "_law_kept", "_law_letters", "_law_char"]
theorem sc__law_name_due : FnScope N__law_name_due ["_law_thing_here"] (defScope S__law_name_due) := ⟨rfl, rfl, rfl, by decide +kernel, rfl, by decide +kernel, by decide +kernel⟩
abbrev S_law : Stmt := top 24
abbrev N_law : List Str := ["_law_script", "_law_draw", "_law_k", "_law_choice", "_law_thing_here", "_law_kind"]
theorem sc_law : FnScope N_law ["_law_script"] (defScope S_law) := ⟨rfl, rfl, rfl, by decide +kernel, rfl, by decide +kernel, by decide +kernel⟩
structure Txt (K : PySem.W.Frag) (mg : Str → Option Value) : Prop where
  h_isinstance : mg "isinstance" = none
  h_int : mg "int" = none
  h_bool : mg "bool" = none
  h_all : mg "all" = none
  h_str : mg "str" = none
  h_len : mg "len" = none
  h_list : mg "list" = none
  h_range : mg "range" = none
  d_is_integer : ∃ f fd, Here K mg "is_integer" S_is_integer ["thing"] f fd
  d_is_text : ∃ f fd, Here K mg "is_text" S_is_text ["thing"] f fd
  d_is_name : ∃ f fd, Here K mg "is_name" S_is_name ["thing"] f fd
  d_kind_of : ∃ f fd, Here K mg "kind_of" S_kind_of ["value"] f fd
  d_is_value : ∃ f fd, Here K mg "is_value" S_is_value ["kind", "thing"] f fd
  d__law_begin : ∃ f fd, Here K mg "_law_begin" S__law_begin ["_law_script"] f fd
  d__law_take : ∃ f fd, Here K mg "_law_take" S__law_take ["_law_draw", "_law_many"] f fd
  d__law_is_integer : ∃ f fd, Here K mg "_law_is_integer" S__law_is_integer ["_law_thing_here"] f fd
  d__law_chars : ∃ f fd, Here K mg "_law_chars" S__law_chars [] f fd
  d__law_is_text : ∃ f fd, Here K mg "_law_is_text" S__law_is_text ["_law_thing_here"] f fd
  d__law_number : ∃ f fd, Here K mg "_law_number" S__law_number ["_law_draw"] f fd
  d__law_text : ∃ f fd, Here K mg "_law_text" S__law_text ["_law_draw"] f fd
  d__law_thing : ∃ f fd, Here K mg "_law_thing" S__law_thing ["_law_draw"] f fd
  d__law_flag : ∃ f fd, Here K mg "_law_flag" S__law_flag ["_law_thing_here", "_law_due"] f fd
  d__law_string : ∃ f fd, Here K mg "_law_string" S__law_string ["_law_draw"] f fd
  d__law_kept_word : ∃ f fd, Here K mg "_law_kept_word" S__law_kept_word ["_law_draw"] f fd
  d__law_name_due : ∃ f fd, Here K mg "_law_name_due" S__law_name_due ["_law_thing_here"] f fd
  k_SIGNS : ∃ t, mg "SIGNS" = some (.str C_SIGNS t)
  k_LONGEST_NAME : ∃ t, mg "LONGEST_NAME" = some (.int 8 t)
  k_LETTERS : ∃ t, mg "LETTERS" = some (.str C_LETTERS t)
  k_WORDS : ∃ a, mg "WORDS" = some (.ref a) ∧ ∀ H : Hp, SqT K H a C_WORDS
  k_NAME_SIGNS : ∃ t, mg "NAME_SIGNS" = some (.str C_NAME_SIGNS t)
def signs : Str := Str.ofString " !\"#$&'()*+,-./0123456789:;<=>?@ABCDEFGHIJKLMNOPQRSTUVWXYZ[\\]^_`abcdefghijklmnopqrstuvwxyz{|}~"
/-! the draws -/
structure Dr (H : Hp) (d sc : Addr) (ns : List Int) : Prop where
  ex : ∃ (i b c e : Int), sc ≠ d ∧ 0 ≤ i ∧ H d = some (.lst [.ref sc, .int i, .int b, .int c, .int e]) ∧ H sc = some (.lst (ns.map V.int))
def Keep (d : Addr) (H H' : Hp) : Prop := ∀ p o, p ≠ d → H p = some o → H' p = some o
theorem Keep.refl (d : Addr) (H : Hp) : Keep d H H := fun _ _ _ h => h
theorem Keep.trans {d : Addr} {H H1 H2 : Hp} (a : Keep d H H1) (b : Keep d H1 H2) : Keep d H H2 := fun p o n h => b p o n (a p o n h)
theorem Dr.new {H : Hp} {d sc p : Addr} {ns : List Int} {o : HO} (D : Dr H d sc ns) (hp : H p = none) : Dr (upd H p o) d sc ns := by
  obtain ⟨i, b, c, e, h1, h2, h3, h4⟩ := D.ex
  exact ⟨i, b, c, e, h1, h2, by rw [upd_ne (ne_of_none h3 hp)]; exact h3, by rw [upd_ne (ne_of_none h4 hp)]; exact h4⟩
theorem Dr.at {H : Hp} {d sc : Addr} {ns : List Int} (D : Dr H d sc ns) : ∃ xs, H d = some (.lst xs) := by
  obtain ⟨i, b, c, e, h1, h2, h3, h4⟩ := D.ex
  exact ⟨_, h3⟩
theorem Dr.sc {H : Hp} {d sc : Addr} {ns : List Int} (D : Dr H d sc ns) : H sc = some (.lst (ns.map V.int)) := by
  obtain ⟨i, b, c, e, h1, h2, h3, h4⟩ := D.ex
  exact h4
theorem Dr.ne {H : Hp} {d sc p : Addr} {ns : List Int} (D : Dr H d sc ns) (hp : H p = none) : p ≠ d ∧ p ≠ sc := by
  obtain ⟨i, b, c, e, h1, h2, h3, h4⟩ := D.ex
  exact ⟨Ne.symm (ne_of_none h3 hp), Ne.symm (ne_of_none h4 hp)⟩
theorem Dr.other {H : Hp} {d sc p : Addr} {ns : List Int} {o : HO} (D : Dr H d sc ns) (h1 : p ≠ d) (h2 : p ≠ sc) : Dr (upd H p o) d sc ns := by
  obtain ⟨i, b, c, e, g1, g2, g3, g4⟩ := D.ex
  exact ⟨i, b, c, e, g1, g2, by rw [upd_ne (Ne.symm h1)]; exact g3, by rw [upd_ne (Ne.symm h2)]; exact g4⟩
theorem Keep.new {d p : Addr} {H H1 : Hp} {o : HO} (a : Keep d H H1) (hp : H p = none) : Keep d H (L2.upd H1 p o) := fun q u n h => by rw [upd_ne (ne_of_none h hp)]; exact a q u n h
theorem Keep.back {d p : Addr} {H H1 : Hp} (a : Keep d H H1) (n : p ≠ d) (h : H1 p = none) : H p = none := by
  cases hh : H p with
  | none => rfl
  | some o => rw [a p o n hh] at h; cases h
theorem Keep.upd {d : Addr} {H H1 : Hp} {o : HO} (a : Keep d H H1) : Keep d H (L2.upd H1 d o) := fun p u n h => by rw [upd_ne n]; exact a p u n h
def spTake : Sp := fun vs H Q _ => ∃ d sc ns m, vs = [.ref d, .int m] ∧ Dr H d sc ns ∧ 0 < m ∧ m.natAbs.log2 < 9000 ∧ ∀ r H', 0 ≤ r → r < m → Dr H' d sc ns → Keep d H H' → Q (.int r) H'
section
variable {P : Program} {w : World} {K : PySem.W.Frag} {mg : Str → Option Value} {base : Heap}
theorem ok__law_take (T : Txt K mg) : Def P w K mg base 1 "_law_take" ["_law_draw", "_law_many"] spTake := by
  obtain ⟨f, fd, h⟩ := T.d__law_take
  refine h.def (Fun.okM h.fn sc__law_take (fun vs H Q E h => ?_) (fun cdv A outer s H vs Q E hr h => ?_))
  · obtain ⟨d, sc, ns, m, rfl, _⟩ := h
    rfl
  · obtain ⟨d, sc, ns, m, rfl, ⟨i, b, c, e, hne, hi, hd, hs⟩, hm, hml, k⟩ := h
    refine ⟨_, (pss_cons (ps_if (PW.pt (pw_and (pt_cmpR op_eq (pe_ix (ix_seqG (K := K) rfl) (pv 0) pe_int (fun _ _ => rfl)) pe_int (nomark _)) (pw_and1 (pt_cmpR op_ltG (pe_ix (ix_seqG (K := K) rfl) (pv 0) pe_int (fun _ _ => rfl)) (pe_callB (call_lenG (K := K) rfl) (by rfl) T.h_len (by decide +kernel) (pa_cons (pe_ix (ix_seqG (K := K) rfl) (pv 0) pe_int (fun _ _ => rfl)) pa_nil)) (nomark _)))))
  (pss_cons (ps_set (i := 2) sc__law_take.nd rfl (Or.inl rfl) (pe_ix (ix_seqG (K := K) rfl) (pe_ix (ix_seqG (K := K) rfl) (pv 0) pe_int (fun _ _ => rfl)) (pe_ix (ix_seqG (K := K) rfl) (pv 0) pe_int (fun _ _ => rfl)) (fun _ _ => rfl)))
  (pss_cons (ps_asg (pe_op op_addG (pe_ix (ix_seqG (K := K) rfl) (pv 0) pe_int (fun _ _ => rfl)) pe_int) (pg_sub (pv 0) pe_int set_list))
  (pss_one (ps_if (pt_cmpR op_geG (pv 2) (pe_op op_powG' pe_int pe_int) (nomark _))
  (pss_one (ps_asg (pe_op op_modG (pe_callTy call_intG (by rfl) T.h_int (by decide +kernel) (pa_cons (pv 2) pa_nil)) (pe_op op_powG' (pe_op op_powG' pe_int pe_int) pe_int)) (pg_sub (pv 0) pe_int set_list)))
  (pss_one (ps_asg (pe_op op_modG (pe_callTy call_intG (by rfl) T.h_int (by decide +kernel) (pa_cons (pe_op op_addG (pe_op op_addG (pe_op op_mulG (pe_ix (ix_seqG (K := K) rfl) (pv 0) pe_int (fun _ _ => rfl)) pe_int) (pe_op op_modG (pe_callTy call_intG (by rfl) T.h_int (by decide +kernel) (pa_cons (pv 2) pa_nil)) pe_int)) pe_int) pa_nil)) pe_int) (pg_sub (pv 0) pe_int set_list)))))))
  pss_nil)
  (pss_cons (ps_if (pt_cmpR op_gtG (pe_ix (ix_seqG (K := K) rfl) (pv 0) pe_int (fun _ _ => rfl)) pe_int (nomark _))
  (pss_cons (ps_set (i := 3) sc__law_take.nd rfl (Or.inl rfl) (pe_op op_modG (pe_callTy call_intG (by rfl) T.h_int (by decide +kernel) (pa_cons (pe_ix (ix_seqG (K := K) rfl) (pv 0) pe_int (fun _ _ => rfl)) pa_nil)) (pv 1)))
  (pss_cons (ps_asg (pe_op op_fdG (pe_ix (ix_seqG (K := K) rfl) (pv 0) pe_int (fun _ _ => rfl)) (pv 1)) (pg_sub (pv 0) pe_int set_list))
  (pss_one (ps_ret (pv 3)))))
  pss_nil)
  (pss_cons (ps_asg (pe_op op_addG (pe_ix (ix_seqG (K := K) rfl) (pv 0) pe_int (fun _ _ => rfl)) pe_int) (pg_sub (pv 0) pe_int set_list))
  (pss_cons (ps_set (i := 4) sc__law_take.nd rfl (Or.inl rfl) (pe_op op_modG (pe_callTy call_intG (by rfl) T.h_int (by decide +kernel) (pa_cons (pe_op op_addG (pe_ix (ix_seqG (K := K) rfl) (pv 0) pe_int (fun _ _ => rfl)) (pe_op op_mulG pe_int (pe_ix (ix_seqG (K := K) rfl) (pv 0) pe_int (fun _ _ => rfl)))) pa_nil)) pe_int))
  (pss_cons (ps_set (i := 4) sc__law_take.nd rfl (Or.inl rfl) (pe_op op_modG (pe_callTy call_intG (by rfl) T.h_int (by decide +kernel) (pa_cons (pe_op op_powG' (pv 4) pe_int) pa_nil)) pe_int))
  (pss_cons (ps_asg (pe_op op_modG (pe_callTy call_intG (by rfl) T.h_int (by decide +kernel) (pa_cons (pe_op op_addG (pe_op op_mulG (pv 4) pe_int) (pe_ix (ix_seqG (K := K) rfl) (pv 0) pe_int (fun _ _ => rfl))) pa_nil)) pe_int) (pg_sub (pv 0) pe_int set_list))
  (pss_one (ps_ret (pe_op op_modG (pe_callTy call_intG (by rfl) T.h_int (by decide +kernel) (pa_cons (pe_op op_fdG (pe_ix (ix_seqG (K := K) rfl) (pv 0) pe_int (fun _ _ => rfl)) pe_int) pa_nil)) (pv 1)))))))))), ?_⟩
    walk_at "G"
    all_goals refine k _ _ (Int.emod_nonneg _ (by omega)) (Int.emod_lt_of_pos _ hm) ?_ ?_
    all_goals first
      | exact ⟨_, _, _, _, hne, by omega, upd_same, by walk_at "hp"⟩
      | (repeat (first | exact Keep.refl _ _ | refine Keep.upd ?_))
end
/-! more draws -/
def spBegin (K : PySem.W.Frag) : Sp := fun vs H Q _ => ∃ (a : Addr) (ns : List Int), vs = [.ref a] ∧ SqL K H a (ns.map V.int) ∧ ∀ d sc ms H', H d = none → Same H H' → Dr H' d sc ms → Q (.ref d) H'
theorem cut_map (ns : List Int) (lo hi : Option Int) : ∃ ms : List Int, cutV (ns.map V.int) lo hi = ms.map V.int := ⟨_, by unfold cutV; rw [← List.map_drop, ← List.map_take]⟩
section
variable {P : Program} {w : World} {K : PySem.W.Frag} {mg : Str → Option Value} {base : Heap}
theorem ok__law_begin (T : Txt K mg) : Def P w K mg base 1 "_law_begin" ["_law_script"] (spBegin K) := by
  obtain ⟨f, fd, h⟩ := T.d__law_begin
  refine h.def (Fun.okM h.fn sc__law_begin (fun vs H Q E h => ?_) (fun cdv A outer s H vs Q E hr h => ?_))
  · obtain ⟨x, y, rfl, _⟩ := h
    rfl
  · obtain ⟨a, ns, rfl, hS, k⟩ := h
    refine ⟨_, (pss_one (ps_ret (pe_lst (pa_cons (pe_callTy (call_listG (K := K) rfl) (by rfl) T.h_list (by decide +kernel) (pa_cons (pe_slice (sl_G (K := K) rfl) (pv 0) po_none (po_some pe_int)) pa_nil)) (pa_cons pe_int (pa_cons pe_int (pa_cons pe_int (pa_cons pe_int pa_nil)))))))), ?_⟩
    walk_at "g"
    obtain ⟨ms, hms⟩ := cut_map ns none (some 63)
    refine g_slL hS (fun p hp => ?_)
    rw [hms]
    walk_at "g"
    refine ⟨p, _, rfl, .inl (SqL.of upd_same), fun l hl => ?_⟩
    walk_at "g"
    refine ⟨by show 5 ≤ sizeLine; decide, fun d hd => ?_⟩
    walk_at "g"
    have n1 : l ≠ d := ne_of_none upd_same hd
    have n2 : l ≠ p := fun z => by rw [z, upd_same] at hl; cases hl
    have hpd : d ≠ p := fun z => by rw [z, upd_ne (fun z => n2 z.symm), upd_same] at hd; cases hd
    refine k d l ms _ ?_ (fun b o hb => ?_) ⟨0, 0, 1, 0, n1, by decide, upd_same, by rw [upd_ne n1, upd_same]⟩
    · rw [upd_ne (fun z => n1 z.symm), upd_ne hpd] at hd
      exact hd
    · have b1 : b ≠ p := ne_of_none hb hp
      have b2 : b ≠ l := fun z => by rw [upd_ne n2] at hl; rw [z, hl] at hb; cases hb
      have b3 : b ≠ d := fun z => by rw [upd_ne (fun z => n1 z.symm), upd_ne hpd] at hd; rw [z, hd] at hb; cases hb
      rw [upd_ne b3, upd_ne b2, upd_ne b1]
      exact hb
/-- a text of the 94 signs -/
def spChars : Sp := fun vs H Q _ => vs = [] ∧ Q (.str signs) H
theorem ok__law_chars (T : Txt K mg) : Def P w K mg base 1 "_law_chars" [] spChars := by
  obtain ⟨f, fd, h⟩ := T.d__law_chars
  refine h.def (Fun.okM h.fn sc__law_chars (fun vs H Q E h => ?_) (fun cdv A outer s H vs Q E hr h => ?_))
  · obtain ⟨rfl, _⟩ := h
    rfl
  · obtain ⟨rfl, k⟩ := h
    refine ⟨_, (pss_cons (ps_set (i := 0) sc__law_chars.nd rfl (Or.inl rfl) pe_str)
  (pss_one (ps_ret (pe_op op_addG (pv 0) pe_str)))), ?_⟩
    walk_at "g"
    refine g_addS (by decide +kernel) ?_
    walk_at "g"
    exact k
/-- a drawn value -/
def spDraw (G : V → Prop) : Sp := fun vs H Q _ => ∃ d sc ns, vs = [.ref d] ∧ Dr H d sc ns ∧ ∀ v H', G v → Dr H' d sc ns → Keep d H H' → Q v H'
def isI (v : V) : Prop := ∃ i, v = .int i
def isS (v : V) : Prop := ∃ z : Str, v = .str z ∧ z.length ≤ 100 ∧ ∀ c ∈ z.cps.toList, c ∈ signs.cps.toList
theorem ok__law_number (T : Txt K mg) : Def P w K mg base 2 "_law_number" ["_law_draw"] (spDraw isI) := by
  obtain ⟨f, fd, h⟩ := T.d__law_number
  refine h.def (Fun.okM h.fn sc__law_number (fun vs H Q E h => ?_) (fun cdv A outer s H vs Q E hr h => ?_))
  · obtain ⟨d, sc, ns, rfl, _⟩ := h
    rfl
  · obtain ⟨d, sc, ns, rfl, hD, k⟩ := h
    refine ⟨_, (pss_cons (ps_set (i := 1) sc__law_number.nd rfl (Or.inl rfl) (pe_def (ok__law_take T) hr rfl (pa_cons (pv 0) (pa_cons pe_int pa_nil))))
  (pss_cons (ps_if (pt_cmpR op_eq (pv 1) pe_int (nomark _))
  (pss_one (ps_ret (pe_op op_addG (pe_op op_subG (pe_def (ok__law_take T) hr rfl (pa_cons (pv 0) (pa_cons (pe_op op_subG (pe_op op_mulG pe_int (pe_op op_powG' pe_int pe_int)) pe_int) pa_nil))) (pe_op op_powG' pe_int pe_int)) pe_int)))
  pss_nil)
  (pss_cons (ps_if (pt_cmpR op_eq (pv 1) pe_int (nomark _))
  (pss_one (ps_ret (pe_op op_subG (pe_def (ok__law_take T) hr rfl (pa_cons (pv 0) (pa_cons pe_int pa_nil))) pe_int)))
  pss_nil)
  (pss_one (ps_ret (pe_op op_subG (pe_def (ok__law_take T) hr rfl (pa_cons (pv 0) (pa_cons pe_int pa_nil))) pe_int)))))), ?_⟩
    walk_at "g"
    refine ⟨_, _, _, _, rfl, hD, by decide, by decide +kernel, fun r H1 r0 r1 D1 K1 => ?_⟩
    walk_at "G"
    all_goals refine ⟨_, _, _, _, rfl, D1, by decide +kernel, by decide +kernel, fun r2 H2 r20 r21 D2 K2 => ?_⟩
    all_goals walk_at "g"
    all_goals exact k _ _ ⟨_, rfl⟩ D2 (K1.trans K2)
end
section
variable {P : Program} {w : World} {K : PySem.W.Frag} {mg : Str → Option Value} {base : Heap}
theorem ok__law_text (T : Txt K mg) : Def P w K mg base 2 "_law_text" ["_law_draw"] (spDraw isS) := by
  obtain ⟨f, fd, h⟩ := T.d__law_text
  refine h.def (Fun.okM h.fn sc__law_text (fun vs H Q E h => ?_) (fun cdv A outer s H vs Q E hr h => ?_))
  · obtain ⟨d, sc, ns, rfl, _⟩ := h
    rfl
  · obtain ⟨d, sc, ns, rfl, hD, k⟩ := h
    refine ⟨_, (pss_cons (ps_set (i := 1) sc__law_text.nd rfl (Or.inr rfl) pe_str)
  (pss_cons (ps_set (i := 2) sc__law_text.nd rfl (Or.inl rfl) (pe_def (ok__law_take T) hr rfl (pa_cons (pv 0) (pa_cons pe_int pa_nil))))
  (Evl.pss_cut (ps_if (pt_cmpR op_eq (pe_def (ok__law_take T) hr rfl (pa_cons (pv 0) (pa_cons pe_int pa_nil))) pe_int (nomark _))
  (pss_cons (ps_set (i := 1) sc__law_text.nd rfl (Or.inr rfl) (pe_def0 (ok__law_chars T) hr rfl))
  (pss_one (ps_set (i := 2) sc__law_text.nd rfl (Or.inl rfl) (pe_def (ok__law_take T) hr rfl (pa_cons (pv 0) (pa_cons pe_int pa_nil))))))
  pss_nil)
  (pss_one (ps_ret (pe_m1 PySem.F.slot_str_join PySem.F.type_str_join (mt_joinG (K := K) rfl) pe_str (pe_lc (own := [("_law_k", 3)]) rfl sc__law_text.nd (pi_range1 rfl T.h_range (pa_cons (pv 2) pa_nil)) (blkOk_by (N := N__law_text) (sc := defScope S__law_text) (by decide +kernel)) (fun _ _ _ _ _ => pg_name (i := 3) sc__law_text.nd rfl (Or.inl rfl)) (fun _ _ _ _ _ => pts_nil) (fun _ _ _ _ _ => (pe_ix (ix_seqG (K := K) rfl) (pv 1) (pe_def (ok__law_take T) hr rfl (pa_cons (pv 0) (pa_cons (pe_callB (call_lenG (K := K) rfl) (by rfl) T.h_len (by decide +kernel) (pa_cons (pv 1) pa_nil)) pa_nil))) (fun _ _ => rfl)))))))))), ?_⟩
    walk_at "g"
    refine ⟨_, _, _, _, rfl, hD, by decide, by decide +kernel, fun r H1 r0 r1 D1 K1 => ?_⟩
    walk_at "g"
    refine g_cut (M := fun σ' H' => ∃ (z : Str) (n : Int), σ' = [some (.ref d), some (.str z), some (.int n), none] ∧ 0 ≤ n ∧ n < 39 ∧ 0 < z.length ∧ z.length ≤ 100 ∧ (∀ c ∈ z.cps.toList, c ∈ signs.cps.toList) ∧ Dr H' d sc ns ∧ Keep d H H') ?_ ?_
    · walk_at "g"
      refine ⟨_, _, _, _, rfl, D1, by decide, by decide +kernel, fun r2 H2 r20 r21 D2 K2 => ?_⟩
      walk_at "G"
      · refine ⟨rfl, ?_⟩
        walk_at "g"
        refine ⟨_, _, _, _, rfl, D2, by decide, by decide +kernel, fun r3 H3 r30 r31 D3 K3 => ?_⟩
        walk_at "g"
        exact ⟨_, _, rfl, r30, r31, by decide +kernel, by decide +kernel, fun c hc => hc, D3, (K1.trans K2).trans K3⟩
      · exact ⟨_, _, rfl, r0, by omega, by decide +kernel, by decide +kernel, by decide +kernel, D2, K1.trans K2⟩
    · rintro σ' H' ⟨z, n, rfl, n0, n1, z0, z1, hz, DD, KK⟩
      walk_at "g"
      walk_at "g"
      refine ⟨n, rfl, by omega, by omega, fun L hL => ?_⟩
      obtain ⟨hLd, hLs⟩ := DD.ne hL
      refine lc_range (fun i Hi => H L = none ∧ Dr Hi d sc ns ∧ Keep d H Hi ∧ ∃ ys : List Str, ys.length = i ∧ Hi L = some (.lst (ys.map V.str)) ∧ ∀ y ∈ ys, ∃ c, c ∈ signs.cps.toList ∧ y = ⟨#[c]⟩) ?_ ?_ ?_
      · refine ⟨?_, ?_, ?_, [], rfl, upd_same, fun y hy => nomatch hy⟩
        · exact KK.back hLd hL
        · exact DD.new hL
        · exact KK.new (KK.back hLd hL)
      · rintro i Hi hi ⟨hL0, DDi, KKi, ys, rfl, hLi, hys⟩
        refine ⟨rfl, ?_⟩
        walk_at "g"
        refine g_lenS (Nat.le_trans z1 (by decide)) ?_
        walk_at "g"
        refine ⟨_, _, _, _, rfl, DDi, by omega, ?_, fun r4 H4 r40 r41 D4 K4 => ?_⟩
        · have : (z.length : Int).natAbs < 2 ^ 64 := by omega
          exact Nat.lt_of_lt_of_le (PySem.Flt.log2_lt_of (by decide) this) (by decide)
        · obtain ⟨k4, rfl⟩ := Int.eq_ofNat_of_zero_le r40
          have hk4 : k4 < z.cps.toList.length := by
            have e : z.cps.toList.length = z.length := Array.length_toList
            omega
          refine g_ixS (n := z.cps.toList[k4]) (Nat.le_trans z1 (by decide)) (atI_nat (List.getElem?_eq_getElem hk4)) ?_
          have e4 := K4 L _ hLd hLi
          refine ⟨_, e4, ?_, hL0, ?_, ?_, ys ++ [⟨#[z.cps.toList[k4]]⟩], by simp, ?_, ?_⟩
          · rw [List.length_map, sizeLine_eq]; omega
          · exact D4.other hLd hLs
          · exact (KKi.trans K4).new hL0
          · rw [upd_same, List.map_append]; rfl
          · intro y hy
            rcases List.mem_append.mp hy with hy | hy
            · exact hys y hy
            · exact ⟨_, hz _ (List.getElem_mem hk4), List.mem_singleton.mp hy⟩
      · rintro Hi ⟨hL0, DDi, KKi, ys, hyl, hLi, hys⟩
        have hy1 : ∀ y ∈ ys, y.length = 1 := fun y hy => by obtain ⟨c, _, rfl⟩ := hys y hy; rfl
        have hsum : (ys.map (·.length)).sum = ys.length := by
          clear hyl hLi hys
          induction ys with
          | nil => rfl
          | cons y r ih =>
            rw [List.map_cons, List.sum_cons, ih (fun y hy => hy1 y (List.mem_cons_of_mem _ hy)), hy1 y List.mem_cons_self, List.length_cons]
            omega
        refine g_join (SqL.of hLi) ?_ ?_
        · rw [hsum, show (Str.ofString "").length = 0 by decide +kernel]
          omega
        · walk_at "g"
          refine k _ _ ⟨_, rfl, ?_, ?_⟩ DDi KKi
          · show (Txt.join (Str.ofString "") ys).cps.size ≤ 100
            rw [← Array.length_toList, join_cps, List.length_flatMap]
            have : (ys.map fun y => y.cps.toList.length).sum = (ys.map (·.length)).sum := rfl
            rw [this, hsum]
            omega
          · intro c hc
            rw [join_cps] at hc
            obtain ⟨y, hy, hc⟩ := List.mem_flatMap.mp hc
            obtain ⟨c', h', rfl⟩ := hys y hy
            have : c = c' := by simpa using hc
            rw [this]
            exact h'
end
/-! texts of the 94 signs -/
def txtB (z : Str) : Bool := z.cps.toList.all fun c => decide (c ∈ signs.cps.toList)
def isTxtB : V → Bool
  | .str z => txtB z
  | _ => false
theorem none_bad {l : List Nat} {p : Nat → Bool} {f : Nat → V} : decide ((((l.filter fun n => !p n).map f).length : Int) = 0) = l.all p := by
  rw [List.length_map, Bool.eq_iff_iff, decide_eq_true_eq, List.all_eq_true]
  constructor
  · intro h c hc
    have h' : (l.filter fun n => !p n) = [] := List.length_eq_zero_iff.mp (by omega)
    have := (List.filter_eq_nil_iff.mp h') c hc
    simpa using this
  · intro h
    have h' : (l.filter fun n => !p n) = [] := List.filter_eq_nil_iff.mpr fun c hc => by
      have := h c hc
      simpa using this
    rw [h']
    rfl
def spThingB (F : V → Bool) : Sp := fun vs H Q _ => ∃ v, vs = [v] ∧ thing H v ∧ ∀ H', (∀ p o, H p = some o → H' p = some o) → Q (.bl (F v)) H'
def letters : List Nat := (Str.ofString "abcdefghijklmnopqrstuvwxyz").cps.toList
def nameSigns : List Nat := (Str.ofString "abcdefghijklmnopqrstuvwxyz0123456789").cps.toList
def keptWords : List Str := ["and", "or", "not", "sure", "in", "is", "empty", "begins", "always", "never"]
def nameP (z : Str) : Prop := z.length ≠ 0 ∧ z.length ≤ 8 ∧ (∀ c r, z.cps.toList = c :: r → c ∈ letters) ∧ z ∉ keptWords ∧ ∀ c ∈ z.cps.toList, c ∈ nameSigns
noncomputable def nameB : V → Bool
  | .str z => @decide (nameP z) (Classical.propDecidable _)
  | _ => false
theorem nameB_str {z : Str} : nameB (.str z) = true ↔ nameP z := by
  unfold nameB
  exact @decide_eq_true_iff _ (Classical.propDecidable _)
theorem nameB_no {z : Str} (h : ¬ nameP z) : nameB (.str z) = false := by
  cases e : nameB (.str z) with
  | false => rfl
  | true => exact absurd (nameB_str.mp e) h
theorem nameB_is {z : Str} {b : Bool} (h : nameP z ↔ b = true) : nameB (.str z) = b := by
  cases b with
  | true => exact nameB_str.mpr (h.mpr rfl)
  | false => exact nameB_no fun z => absurd (h.mp z) Bool.false_ne_true
def kindV : V → V
  | .int _ => .str (Str.ofString "number")
  | .str z => if txtB z = true then .str (Str.ofString "text") else .non
  | _ => .non
section
variable {P : Program} {w : World} {K : PySem.W.Frag} {mg : Str → Option Value} {base : Heap}
theorem ok_is_integer (T : Txt K mg) : Def P w K mg base 1 "is_integer" ["thing"] (spThingB isIntB) := by
  obtain ⟨f, fd, h⟩ := T.d_is_integer
  refine h.def (Fun.okM h.fn sc_is_integer (fun vs H Q E h => ?_) (fun cdv A outer s H vs Q E hr h => ?_))
  · obtain ⟨x, rfl, _⟩ := h
    rfl
  · obtain ⟨x, rfl, hx, k⟩ := h
    have k' := k H fun _ _ h => h
    refine ⟨_, (pss_one (ps_ret (pe_and (pe_callB (call_isiG (K := K) rfl) (by rfl) T.h_isinstance (by decide +kernel) (pa_cons (pv 0) (pa_cons (pe_bltn (v := .ty "int") (by rfl) T.h_int (by decide +kernel) rfl) pa_nil))) (pe_one (pe_not (pe_callB (call_isiG (K := K) rfl) (by rfl) T.h_isinstance (by decide +kernel) (pa_cons (pv 0) (pa_cons (pe_bltn (v := .ty "bool") (by rfl) T.h_bool (by decide +kernel) rfl) pa_nil)))))))), ?_⟩
    rcases hx with rfl | ⟨b, rfl⟩ | ⟨i, rfl⟩ | ⟨z, rfl, hz⟩ | ⟨p, rfl, hp⟩ <;> walk_at "g" <;> exact k'
theorem ok_is_text (T : Txt K mg) : Def P w K mg base 1 "is_text" ["thing"] (spThingB isTxtB) := by
  obtain ⟨f, fd, h⟩ := T.d_is_text
  obtain ⟨t_SIGNS, G_SIGNS⟩ := T.k_SIGNS
  refine h.def (Fun.okM h.fn sc_is_text (fun vs H Q E h => ?_) (fun cdv A outer s H vs Q E hr h => ?_))
  · obtain ⟨x, rfl, _⟩ := h
    rfl
  · obtain ⟨x, rfl, hx, k⟩ := h
    have k' := k H fun _ _ h => h
    refine ⟨_, (pss_cons (ps_if (pt_not (pt_val (pe_callB (call_isiG (K := K) rfl) (by rfl) T.h_isinstance (by decide +kernel) (pa_cons (pv 0) (pa_cons (pe_bltn (v := .ty "str") (by rfl) T.h_str (by decide +kernel) rfl) pa_nil)))))
  (pss_one (ps_ret pe_bl))
  pss_nil)
  (pss_one (ps_ret (pe_callB (cr_all rfl) (by rfl) T.h_all (by decide +kernel) (pa_cons (pe_lc (own := [("sign", 1)]) rfl sc_is_text.nd (pi_str (pv 0)) (blkOk_by (N := N_is_text) (sc := defScope S_is_text) (by decide +kernel)) (fun _ _ _ _ _ => pg_name (i := 1) sc_is_text.nd rfl (Or.inl rfl)) (fun _ _ _ _ _ => pts_nil) (fun _ _ _ _ _ => (pe_cmpR (op_inG (K := K) rfl) (pv 1) (pe_glob (v := .str C_SIGNS) rfl G_SIGNS ⟨_, rfl⟩) (by rfl)))) pa_nil))))), ?_⟩
    rcases hx with rfl | ⟨b, rfl⟩ | ⟨i, rfl⟩ | ⟨z, rfl, hz⟩ | ⟨p, rfl, hp⟩
    case inr.inr.inr.inl =>
      walk_at "g"
      refine fun L hL => ?_
      refine lc_text (fun _ => true) (fun n => .bl (decide (n ∈ signs.cps.toList))) (by omega) (fun n Hh R S hn hK hR hS => ?_) (fun H2 hK hL2 => ?_)
      · walk_at "g"
        refine ⟨rfl, ?_⟩
        walk_at "g"
        exact hR rfl
      · walk_at "g"
        refine ⟨L, z.cps.toList.map fun n => decide (n ∈ signs.cps.toList), rfl, SqL.of ?_, ?_⟩
        · rw [hL2, List.filter_eq_self.mpr (fun _ _ => rfl), List.map_map]; rfl
        · walk_at "g"
          have e : (z.cps.toList.map fun n => decide (n ∈ signs.cps.toList)).all id = isTxtB (.str z) := by
            show _ = txtB z
            unfold txtB
            rw [List.all_map]; rfl
          rw [e]
          exact k _ fun p o h => hK p o (ne_of_none h hL) h
    all_goals (walk_at "g"; exact k')
theorem ok_is_name (T : Txt K mg) : Def P w K mg base 1 "is_name" ["thing"] (spThingB nameB) := by
  obtain ⟨f, fd, h⟩ := T.d_is_name
  obtain ⟨t_LONGEST_NAME, G_LONGEST_NAME⟩ := T.k_LONGEST_NAME
  obtain ⟨t_LETTERS, G_LETTERS⟩ := T.k_LETTERS
  obtain ⟨t_WORDS, G_WORDS, Q_WORDS⟩ := T.k_WORDS
  obtain ⟨t_NAME_SIGNS, G_NAME_SIGNS⟩ := T.k_NAME_SIGNS
  refine h.def (Fun.okM h.fn sc_is_name (fun vs H Q E h => ?_) (fun cdv A outer s H vs Q E hr h => ?_))
  · obtain ⟨x, rfl, _⟩ := h
    rfl
  · obtain ⟨x, rfl, hx, k⟩ := h
    have k' := k H fun _ _ h => h
    refine ⟨_, (pss_cons (ps_if (pt_not (pt_val (pe_callB (call_isiG (K := K) rfl) (by rfl) T.h_isinstance (by decide +kernel) (pa_cons (pv 0) (pa_cons (pe_bltn (v := .ty "str") (by rfl) T.h_str (by decide +kernel) rfl) pa_nil)))))
  (pss_one (ps_ret pe_bl))
  pss_nil)
  (pss_cons (ps_if (PW.pt (pw_or (pt_cmpR op_eq (pe_callB (call_lenG (K := K) rfl) (by rfl) T.h_len (by decide +kernel) (pa_cons (pv 0) pa_nil)) pe_int (nomark _)) (pw_or1 (pt_cmpR op_gtG (pe_callB (call_lenG (K := K) rfl) (by rfl) T.h_len (by decide +kernel) (pa_cons (pv 0) pa_nil)) (pe_glob (v := .int 8) rfl G_LONGEST_NAME ⟨_, rfl⟩) (nomark _)))))
  (pss_one (ps_ret pe_bl))
  pss_nil)
  (pss_cons (ps_if (PW.pt (pw_or (pt_cmpR (op_notInG (K := K) rfl) (pe_ix (ix_seqG (K := K) rfl) (pv 0) pe_int (fun _ _ => rfl)) (pe_glob (v := .str C_LETTERS) rfl G_LETTERS ⟨_, rfl⟩) (by rfl)) (pw_or1 (pt_cmpR (op_inG (K := K) rfl) (pv 0) (pe_glob (v := .ref t_WORDS) rfl G_WORDS rfl) (by rfl)))))
  (pss_one (ps_ret pe_bl))
  pss_nil)
  (pss_one (ps_ret (pe_callB (cr_all rfl) (by rfl) T.h_all (by decide +kernel) (pa_cons (pe_lc (own := [("sign", 1)]) rfl sc_is_name.nd (pi_str (pv 0)) (blkOk_by (N := N_is_name) (sc := defScope S_is_name) (by decide +kernel)) (fun _ _ _ _ _ => pg_name (i := 1) sc_is_name.nd rfl (Or.inl rfl)) (fun _ _ _ _ _ => pts_nil) (fun _ _ _ _ _ => (pe_cmpR (op_inG (K := K) rfl) (pv 1) (pe_glob (v := .str C_NAME_SIGNS) rfl G_NAME_SIGNS ⟨_, rfl⟩) (by rfl)))) pa_nil))))))), ?_⟩
    rcases hx with rfl | ⟨b, rfl⟩ | ⟨i, rfl⟩ | ⟨z, rfl, hz⟩ | ⟨p, rfl, hp⟩
    case inr.inr.inr.inl =>
      walk_at "g"
      refine g_lenS (by rw [sizeLine_eq]; omega) ?_
      have no : ¬ nameP z → Q (.bl false) H := fun h => by rw [← nameB_no h]; exact k'
      walk_at "g"
      refine g_dec (fun h0 => ?_) (fun h0 => ?_)
      · walk_at "g"
        exact no fun n => n.1 (by omega)
      walk_at "g"
      refine g_lenS (by rw [sizeLine_eq]; omega) ?_
      walk_at "g"
      refine g_dec (fun h8 => ?_) (fun h8 => ?_)
      · walk_at "g"
        exact no fun n => by have := n.2.1; omega
      walk_at "g"
      obtain ⟨c, r, hcr⟩ : ∃ c r, z.cps.toList = c :: r := by
        cases e : z.cps.toList with
        | nil => exact absurd (by have e2 : z.cps.toList.length = z.length := Array.length_toList
                                  rw [e] at e2; simpa using e2.symm) h0
        | cons c r => exact ⟨c, r, rfl⟩
      refine g_ixS (n := c) (by rw [sizeLine_eq]; omega) (atI_nat (j := 0) (by rw [hcr]; rfl)) ?_
      walk_at "g"
      refine g_ndec (fun hc => ?_) (fun hc => ?_)
      · walk_at "g"
        exact no fun n => hc (n.2.2.1 c r hcr)
      walk_at "g"
      refine .inr ⟨_, keptWords.map V.str, rfl, .inr (Q_WORDS _), rfl, flat_strs _, ?_⟩
      walk_at "g"
      rw [if_neg Bool.false_ne_true, inV_strs]
      refine g_dec (fun hw => ?_) (fun hw => ?_)
      · walk_at "g"
        exact no fun n => n.2.2.2.1 hw
      walk_at "g"
      refine fun L hL => ?_
      refine lc_text (fun _ => true) (fun n => .bl (decide (n ∈ nameSigns))) (by omega) (fun n Hh R S hn hK hR hS => ?_) (fun H2 hK hL2 => ?_)
      · walk_at "g"
        refine ⟨rfl, ?_⟩
        walk_at "g"
        exact hR rfl
      · walk_at "g"
        refine ⟨L, z.cps.toList.map fun n => decide (n ∈ nameSigns), rfl, SqL.of ?_, ?_⟩
        · rw [hL2, List.filter_eq_self.mpr (fun _ _ => rfl), List.map_map]; rfl
        · walk_at "g"
          have e : nameB (.str z) = (z.cps.toList.map fun n => decide (n ∈ nameSigns)).all id := by
            refine nameB_is ?_
            rw [List.all_map, List.all_eq_true]
            constructor
            · intro n c hc
              exact decide_eq_true (n.2.2.2.2 c hc)
            · intro h
              exact ⟨by omega, by omega, fun c' r' e' => by rw [hcr] at e'; injection e' with e1 _; rw [← e1]; exact hc, hw, fun c hc => of_decide_eq_true (h c hc)⟩
          rw [← e]
          exact k _ fun p o h => hK p o (ne_of_none h hL) h
    all_goals (walk_at "g"; exact k')
end
section
variable {P : Program} {w : World} {K : PySem.W.Frag} {mg : Str → Option Value} {base : Heap}
def spKind : Sp := fun vs H Q _ => ∃ v, vs = [v] ∧ thing H v ∧ ∀ H', (∀ p o, H p = some o → H' p = some o) → Q (kindV v) H'
theorem ok_kind_of (T : Txt K mg) : Def P w K mg base 2 "kind_of" ["value"] spKind := by
  obtain ⟨f, fd, h⟩ := T.d_kind_of
  refine h.def (Fun.okM h.fn sc_kind_of (fun vs H Q E h => ?_) (fun cdv A outer s H vs Q E hr h => ?_))
  · obtain ⟨x, rfl, _⟩ := h
    rfl
  · obtain ⟨x, rfl, hx, k⟩ := h
    refine ⟨_, (pss_cons (ps_if (pt_val (pe_def (ok_is_integer T) hr rfl (pa_cons (pv 0) pa_nil)))
  (pss_one (ps_ret pe_str))
  pss_nil)
  (pss_cons (ps_if (pt_val (pe_def (ok_is_text T) hr rfl (pa_cons (pv 0) pa_nil)))
  (pss_one (ps_ret pe_str))
  pss_nil)
  (pss_one (ps_ret pe_non)))), ?_⟩
    walk_at "g"
    refine ⟨_, rfl, hx, fun H1 h1 => ?_⟩
    have hx1 := hx.keep h1
    rcases hx with rfl | ⟨b, rfl⟩ | ⟨i, rfl⟩ | ⟨z, rfl, hz⟩ | ⟨p, rfl, hp⟩
    case inr.inr.inl =>
      rw [show isIntB (.int i) = true from rfl]
      walk_at "g"
      exact k _ h1
    all_goals
      walk_at "g"
      refine g_split (fun z => absurd z Bool.false_ne_true) (fun _ => ?_)
      walk_at "g"
      refine ⟨_, rfl, hx1, fun H2 h2 => ?_⟩
      have k2 := k H2 fun p o h => h2 p o (h1 p o h)
    case inr.inr.inr.inl =>
      walk_at "g"
      refine g_split (fun e => ?_) (fun e => ?_)
      · walk_at "g"
        have e' : txtB z = true := e
        have k2 : Q (if txtB z = true then V.str (Str.ofString "text") else V.non) H2 := k2
        rw [if_pos e'] at k2
        exact k2
      · walk_at "g"
        have e' : txtB z = false := e
        have k2 : Q (if txtB z = true then V.str (Str.ofString "text") else V.non) H2 := k2
        rw [if_neg (by rw [e']; exact Bool.false_ne_true)] at k2
        exact k2
    all_goals
      walk_at "g"
      refine g_split (fun z => absurd z Bool.false_ne_true) (fun _ => ?_)
      walk_at "g"
      exact k2
def spIsVal : Sp := fun vs H Q _ => ∃ kd v, vs = [.str kd, v] ∧ thing H v ∧ ∀ H', (∀ p o, H p = some o → H' p = some o) → Q (.bl (decide (kindV v = .str kd))) H'
theorem scal_kind {v : V} {kd : Str} : scal (kindV v) (.str kd) = true := by
  cases v with
  | str z =>
    show scal (if txtB z = true then V.str (Str.ofString "text") else V.non) (.str kd) = true
    by_cases h : txtB z = true
    · rw [if_pos h]; rfl
    · rw [if_neg h]; rfl
  | _ => rfl
theorem ok_is_value (T : Txt K mg) : Def P w K mg base 3 "is_value" ["kind", "thing"] spIsVal := by
  obtain ⟨f, fd, h⟩ := T.d_is_value
  refine h.def (Fun.okM h.fn sc_is_value (fun vs H Q E h => ?_) (fun cdv A outer s H vs Q E hr h => ?_))
  · obtain ⟨kd, x, rfl, _⟩ := h
    rfl
  · obtain ⟨kd, x, rfl, hx, k⟩ := h
    refine ⟨_, (pss_one (ps_ret (pe_cmpR op_eq (pe_def (ok_kind_of T) hr rfl (pa_cons (pv 1) pa_nil)) (pv 0) (nomark _)))), ?_⟩
    walk_at "g"
    refine ⟨_, rfl, hx, fun H1 h1 => ?_⟩
    walk_at "g"
    refine ⟨scal_kind, ?_⟩
    walk_at "g"
    exact k _ h1
/-! the law's own reading -/
theorem ok__law_is_integer (T : Txt K mg) : Def P w K mg base 1 "_law_is_integer" ["_law_thing_here"] (spThingB isIntB) := by
  obtain ⟨f, fd, h⟩ := T.d__law_is_integer
  refine h.def (Fun.okM h.fn sc__law_is_integer (fun vs H Q E h => ?_) (fun cdv A outer s H vs Q E hr h => ?_))
  · obtain ⟨x, rfl, _⟩ := h
    rfl
  · obtain ⟨x, rfl, hx, k⟩ := h
    have k' := k H fun _ _ h => h
    refine ⟨_, (pss_one (ps_ret (pe_and (pe_callB (call_isiG (K := K) rfl) (by rfl) T.h_isinstance (by decide +kernel) (pa_cons (pv 0) (pa_cons (pe_bltn (v := .ty "int") (by rfl) T.h_int (by decide +kernel) rfl) pa_nil))) (pe_one (pe_not (pe_callB (call_isiG (K := K) rfl) (by rfl) T.h_isinstance (by decide +kernel) (pa_cons (pv 0) (pa_cons (pe_bltn (v := .ty "bool") (by rfl) T.h_bool (by decide +kernel) rfl) pa_nil)))))))), ?_⟩
    rcases hx with rfl | ⟨b, rfl⟩ | ⟨i, rfl⟩ | ⟨z, rfl, hz⟩ | ⟨p, rfl, hp⟩ <;> walk_at "g" <;> exact k'
theorem ok__law_is_text (T : Txt K mg) : Def P w K mg base 2 "_law_is_text" ["_law_thing_here"] (spThingB isTxtB) := by
  obtain ⟨f, fd, h⟩ := T.d__law_is_text
  refine h.def (Fun.okM h.fn sc__law_is_text (fun vs H Q E h => ?_) (fun cdv A outer s H vs Q E hr h => ?_))
  · obtain ⟨x, rfl, _⟩ := h
    rfl
  · obtain ⟨x, rfl, hx, k⟩ := h
    have k' := k H fun _ _ h => h
    refine ⟨_, (pss_cons (ps_if (pt_not (pt_val (pe_callB (call_isiG (K := K) rfl) (by rfl) T.h_isinstance (by decide +kernel) (pa_cons (pv 0) (pa_cons (pe_bltn (v := .ty "str") (by rfl) T.h_str (by decide +kernel) rfl) pa_nil)))))
  (pss_one (ps_ret pe_bl))
  pss_nil)
  (pss_one (ps_ret (pe_cmpR op_eq (pe_callB (call_lenG (K := K) rfl) (by rfl) T.h_len (by decide +kernel) (pa_cons (pe_lc (own := [("_law_char", 1)]) rfl sc__law_is_text.nd (pi_str (pv 0)) (blkOk_by (N := N__law_is_text) (sc := defScope S__law_is_text) (by decide +kernel)) (fun _ _ _ _ _ => pg_name (i := 1) sc__law_is_text.nd rfl (Or.inl rfl)) (fun _ _ _ _ _ => pts_one (pt_cmpR (op_notInG (K := K) rfl) (pv 1) (pe_def0 (ok__law_chars T) hr rfl) (by rfl))) (fun _ _ _ _ _ => (pv 1))) pa_nil)) pe_int (nomark _))))), ?_⟩
    rcases hx with rfl | ⟨b, rfl⟩ | ⟨i, rfl⟩ | ⟨z, rfl, hz⟩ | ⟨p, rfl, hp⟩
    case inr.inr.inr.inl =>
      walk_at "g"
      refine fun L hL => ?_
      refine lc_text (fun n => !decide (n ∈ signs.cps.toList)) (fun n => .str ⟨#[n]⟩) (by omega) (fun n Hh R S hn hK hR hS => ?_) (fun H2 hK hL2 => ?_)
      · walk_at "g"
        refine ⟨rfl, ?_⟩
        walk_at "g"
        refine ⟨rfl, ?_⟩
        walk_at "g"
        refine g_split (fun h => ?_) (fun h => ?_)
        · walk_at "g"; exact hR h
        · exact hS h
      · walk_at "g"
        rw [none_bad (p := fun n => decide (n ∈ signs.cps.toList))]
        exact k _ fun p o h => hK p o (ne_of_none h hL) h
    all_goals (walk_at "g"; exact k')
theorem letters_eq {n : Nat} : n ∈ nameSigns ↔ n ∈ (Str.ofString "abcdefghijklmnopqrstuvwxyz" ++ Str.ofString "0123456789").cps.toList := by
  have e : (Str.ofString "abcdefghijklmnopqrstuvwxyz" ++ Str.ofString "0123456789").cps.toList = nameSigns := by decide +kernel
  rw [e]
theorem ok__law_name_due (T : Txt K mg) : Def P w K mg base 1 "_law_name_due" ["_law_thing_here"] (spThingB nameB) := by
  obtain ⟨f, fd, h⟩ := T.d__law_name_due
  refine h.def (Fun.okM h.fn sc__law_name_due (fun vs H Q E h => ?_) (fun cdv A outer s H vs Q E hr h => ?_))
  · obtain ⟨x, rfl, _⟩ := h
    rfl
  · obtain ⟨x, rfl, hx, k⟩ := h
    have k' := k H fun _ _ h => h
    refine ⟨_, (pss_cons (ps_if (PW.pt (pw_or (pt_not (pt_val (pe_callB (call_isiG (K := K) rfl) (by rfl) T.h_isinstance (by decide +kernel) (pa_cons (pv 0) (pa_cons (pe_bltn (v := .ty "str") (by rfl) T.h_str (by decide +kernel) rfl) pa_nil))))) (pw_or (pt_cmpR op_ltG (pe_callB (call_lenG (K := K) rfl) (by rfl) T.h_len (by decide +kernel) (pa_cons (pv 0) pa_nil)) pe_int (nomark _)) (pw_or1 (pt_cmpR op_gtG (pe_callB (call_lenG (K := K) rfl) (by rfl) T.h_len (by decide +kernel) (pa_cons (pv 0) pa_nil)) pe_int (nomark _))))))
  (pss_one (ps_ret pe_bl))
  pss_nil)
  (pss_cons (ps_set (i := 1) sc__law_name_due.nd rfl (Or.inl rfl) (pe_lst (pa_cons pe_str (pa_cons pe_str (pa_cons pe_str (pa_cons pe_str (pa_cons pe_str (pa_cons pe_str (pa_cons pe_str (pa_cons pe_str (pa_cons pe_str (pa_cons pe_str pa_nil))))))))))))
  (pss_cons (ps_set (i := 2) sc__law_name_due.nd rfl (Or.inr rfl) pe_str)
  (pss_cons (ps_if (PW.pt (pw_or (pt_cmpR (op_inG (K := K) rfl) (pv 0) (pv 1) (by rfl)) (pw_or1 (pt_cmpR (op_notInG (K := K) rfl) (pe_ix (ix_seqG (K := K) rfl) (pv 0) pe_int (fun _ _ => rfl)) (pv 2) (by rfl)))))
  (pss_one (ps_ret pe_bl))
  pss_nil)
  (pss_one (ps_ret (pe_cmpR op_eq (pe_callB (call_lenG (K := K) rfl) (by rfl) T.h_len (by decide +kernel) (pa_cons (pe_lc (own := [("_law_char", 3)]) rfl sc__law_name_due.nd (pi_str (pv 0)) (blkOk_by (N := N__law_name_due) (sc := defScope S__law_name_due) (by decide +kernel)) (fun _ _ _ _ _ => pg_name (i := 3) sc__law_name_due.nd rfl (Or.inl rfl)) (fun _ _ _ _ _ => pts_one (pt_cmpR (op_notInG (K := K) rfl) (pv 3) (pe_op op_addG (pv 2) pe_str) (by rfl))) (fun _ _ _ _ _ => (pv 3))) pa_nil)) pe_int (nomark _)))))))), ?_⟩
    rcases hx with rfl | ⟨b, rfl⟩ | ⟨i, rfl⟩ | ⟨z, rfl, hz⟩ | ⟨p, rfl, hp⟩
    case inr.inr.inr.inl =>
      have no : ∀ H', (∀ p o, H p = some o → H' p = some o) → ¬ nameP z → Q (.bl false) H' := fun H' h' h => by rw [← nameB_no h]; exact k _ h'
      walk_at "g"
      refine g_lenS (by rw [sizeLine_eq]; omega) ?_
      walk_at "g"
      refine g_dec (fun h0 => ?_) (fun h0 => ?_)
      · walk_at "g"
        exact no _ (fun _ _ h => h) fun n => n.1 (by omega)
      walk_at "g"
      refine g_lenS (by rw [sizeLine_eq]; omega) ?_
      walk_at "g"
      refine g_dec (fun h8 => ?_) (fun h8 => ?_)
      · walk_at "g"
        exact no _ (fun _ _ h => h) fun n => by have := n.2.1; omega
      walk_at "g"
      refine ⟨by show 10 ≤ sizeLine; decide, fun W hW => ?_⟩
      have kW : ∀ p o, H p = some o → upd H W (.lst (keptWords.map V.str)) p = some o := fun p o h => by rw [upd_ne (ne_of_none h hW)]; exact h
      walk_at "g"
      refine .inr ⟨_, keptWords.map V.str, rfl, .inl (SqL.of upd_same), rfl, flat_strs _, ?_⟩
      walk_at "g"
      rw [if_neg Bool.false_ne_true, inV_strs]
      refine g_dec (fun hw => ?_) (fun hw => ?_)
      · walk_at "g"
        exact no _ kW fun n => n.2.2.2.1 hw
      walk_at "g"
      obtain ⟨c, r, hcr⟩ : ∃ c r, z.cps.toList = c :: r := by
        cases e : z.cps.toList with
        | nil =>
          have e2 : z.cps.toList.length = z.length := Array.length_toList
          rw [e] at e2
          have : z.length = 0 := by simpa using e2.symm
          omega
        | cons c r => exact ⟨c, r, rfl⟩
      refine g_ixS (n := c) (by rw [sizeLine_eq]; omega) (atI_nat (j := 0) (by rw [hcr]; rfl)) ?_
      walk_at "g"
      refine g_ndec (fun hc => ?_) (fun hc => ?_)
      · walk_at "g"
        exact no _ kW fun n => hc (n.2.2.1 c r hcr)
      walk_at "g"
      refine fun L hL => ?_
      refine lc_text (fun n => !decide (n ∈ nameSigns)) (fun n => .str ⟨#[n]⟩) (by omega) (fun n Hh R S hn hK hR hS => ?_) (fun H2 hK hL2 => ?_)
      · walk_at "g"
        refine ⟨rfl, ?_⟩
        walk_at "g"
        refine g_addS (by decide +kernel) ?_
        walk_at "g"
        refine g_ndec (fun h => ?_) (fun h => ?_)
        · walk_at "g"
          exact hR (by rw [decide_eq_false (fun z => h (letters_eq.mp z))]; rfl)
        · exact hS (by rw [decide_eq_true (letters_eq.mpr h)]; rfl)
      · walk_at "g"
        rw [none_bad (p := fun n => decide (n ∈ nameSigns))]
        have e : nameB (.str z) = z.cps.toList.all fun n => decide (n ∈ nameSigns) := by
          refine nameB_is ?_
          rw [List.all_eq_true]
          constructor
          · intro n c hc
            exact decide_eq_true (n.2.2.2.2 c hc)
          · intro h
            exact ⟨by omega, by omega, fun c' r' e' => by rw [hcr] at e'; injection e' with e1 _; rw [← e1]; exact hc, hw, fun c hc => of_decide_eq_true (h c hc)⟩
        rw [← e]
        exact k _ fun p o h => hK p o (ne_of_none (kW p o h) hL) (kW p o h)
    all_goals (walk_at "g"; exact k')
end
def isT100 (v : V) : Prop := ∃ z : Str, v = .str z ∧ z.length ≤ 100
section
variable {P : Program} {w : World} {K : PySem.W.Frag} {mg : Str → Option Value} {base : Heap}
theorem ok__law_string (T : Txt K mg) : Def P w K mg base 2 "_law_string" ["_law_draw"] (spDraw isT100) := by
  obtain ⟨f, fd, h⟩ := T.d__law_string
  refine h.def (Fun.okM h.fn sc__law_string (fun vs H Q E h => ?_) (fun cdv A outer s H vs Q E hr h => ?_))
  · obtain ⟨d, sc, ns, rfl, _⟩ := h
    rfl
  · obtain ⟨d, sc, ns, rfl, hD, k⟩ := h
    refine ⟨_, (pss_cons (ps_set (i := 1) sc__law_string.nd rfl (Or.inl rfl) pe_str)
  (pss_cons (ps_set (i := 2) sc__law_string.nd rfl (Or.inl rfl) (pe_op op_addG pe_str (pe_def0 (ok__law_chars T) hr rfl)))
  (pss_cons (ps_set (i := 3) sc__law_string.nd rfl (Or.inl rfl) pe_str)
  (pss_cons (ps_for PassesOwn.never rfl (pi_range1 rfl T.h_range (pa_cons (pe_def (ok__law_take T) hr rfl (pa_cons (pv 0) (pa_cons pe_int pa_nil))) pa_nil)) (pg_name (i := 4) sc__law_string.nd rfl (Or.inl rfl))
  (pss_one (ps_if (pt_cmpR op_eq (pe_def (ok__law_take T) hr rfl (pa_cons (pv 0) (pa_cons pe_int pa_nil))) pe_int (nomark _))
  (pss_one (ps_set (i := 3) sc__law_string.nd rfl (Or.inl rfl) (pe_op op_addG (pv 3) (pe_ix (ix_seqG (K := K) rfl) (pv 2) (pe_def (ok__law_take T) hr rfl (pa_cons (pv 0) (pa_cons (pe_callB (call_lenG (K := K) rfl) (by rfl) T.h_len (by decide +kernel) (pa_cons (pv 2) pa_nil)) pa_nil))) (fun _ _ => rfl)))))
  (pss_one (ps_set (i := 3) sc__law_string.nd rfl (Or.inl rfl) (pe_op op_addG (pv 3) (pe_ix (ix_seqG (K := K) rfl) (pv 1) (pe_def (ok__law_take T) hr rfl (pa_cons (pv 0) (pa_cons pe_int pa_nil))) (fun _ _ => rfl))))))))
  (pss_one (ps_ret (pv 3))))))), ?_⟩
    walk_at "g"
    refine ⟨rfl, ?_⟩
    refine g_addS (by decide +kernel) ?_
    walk_at "g"
    refine ⟨_, _, _, _, rfl, hD, by decide, by decide +kernel, fun r H1 r0 r1 D1 K1 => ?_⟩
    walk_at "g"
    refine ⟨_, rfl, by omega, by omega, ?_⟩
    have hodd : (Str.ofString "ABZ_ -\n\t" ++ signs).length = 102 := by decide +kernel
    have hpl : (Str.ofString "abcdefghijklmnopqrstuvwxyz0123456789").length = 36 := by decide +kernel
    generalize hO : Str.ofString "ABZ_ -\n\t" ++ signs = odd at hodd ⊢
    generalize hP : Str.ofString "abcdefghijklmnopqrstuvwxyz0123456789" = plain at hpl ⊢
    refine for_rangeA (fun i σ' H' => ∃ (z : Str) (kv : Option V), σ' = [some (.ref d), some (.str plain), some (.str odd), some (.str z), kv] ∧ z.length ≤ i ∧ Dr H' d sc ns ∧ Keep d H H') ⟨Str.ofString "", none, rfl, by decide +kernel, D1, K1⟩ ?_ ?_
    · rintro i σ' H2 D' hi ⟨z, kv, rfl, hz, D2, K2⟩ hnx hct hbk hrt
      have pick : ∀ {ws : Str} {m : Nat}, ws.length = m → ∀ {r : Int}, 0 ≤ r → r < (m : Int) → ∃ c, atI ws.cps.toList r = some c := fun {ws m} hw {r} r0 r1 => by
        obtain ⟨k4, rfl⟩ := Int.eq_ofNat_of_zero_le r0
        have e : ws.cps.toList.length = ws.length := Array.length_toList
        exact ⟨_, atI_nat (List.getElem?_eq_getElem (by omega))⟩
      walk_at "g"
      refine ⟨_, _, _, _, rfl, D2, by decide, by decide +kernel, fun r3 H3 r30 r31 D3 K3 => ?_⟩
      walk_at "G"
      · refine g_lenS (by rw [sizeLine_eq]; omega) ?_
        walk_at "g"
        rw [hodd]
        refine ⟨_, _, _, _, rfl, D3, by decide, by decide +kernel, fun r4 H4 r40 r41 D4 K4 => ?_⟩
        obtain ⟨c, hc⟩ := pick hodd r40 r41
        refine g_ixS (by rw [sizeLine_eq]; omega) hc ?_
        refine g_addS (by rw [sizeLine_eq]; show z.length + 1 ≤ _; omega) ?_
        walk_at "g"
        exact hnx _ _ ⟨_, _, rfl, by rw [PySem.Str.length_append]; show z.length + 1 ≤ _; omega, D4, (K2.trans K3).trans K4⟩
      · refine ⟨_, _, _, _, rfl, D3, by decide, by decide +kernel, fun r4 H4 r40 r41 D4 K4 => ?_⟩
        obtain ⟨c, hc⟩ := pick hpl r40 r41
        refine g_ixS (by rw [sizeLine_eq]; omega) hc ?_
        refine g_addS (by rw [sizeLine_eq]; show z.length + 1 ≤ _; omega) ?_
        walk_at "g"
        exact hnx _ _ ⟨_, _, rfl, by rw [PySem.Str.length_append]; show z.length + 1 ≤ _; omega, D4, (K2.trans K3).trans K4⟩
    · rintro σ' H2 ⟨z, kv, rfl, hz, D2, K2⟩
      walk_at "g"
      exact k _ _ ⟨z, rfl, by omega⟩ D2 K2
theorem ok__law_kept_word (T : Txt K mg) : Def P w K mg base 2 "_law_kept_word" ["_law_draw"] (spDraw isT100) := by
  obtain ⟨f, fd, h⟩ := T.d__law_kept_word
  refine h.def (Fun.okM h.fn sc__law_kept_word (fun vs H Q E h => ?_) (fun cdv A outer s H vs Q E hr h => ?_))
  · obtain ⟨d, sc, ns, rfl, _⟩ := h
    rfl
  · obtain ⟨d, sc, ns, rfl, hD, k⟩ := h
    refine ⟨_, (pss_cons (ps_set (i := 1) sc__law_kept_word.nd rfl (Or.inl rfl) (pe_lst (pa_cons pe_str (pa_cons pe_str (pa_cons pe_str (pa_cons pe_str (pa_cons pe_str (pa_cons pe_str (pa_cons pe_str (pa_cons pe_str (pa_cons pe_str (pa_cons pe_str pa_nil))))))))))))
  (pss_cons (ps_set (i := 2) sc__law_kept_word.nd rfl (Or.inl rfl) (pe_ix (ix_seqG (K := K) rfl) (pv 1) (pe_def (ok__law_take T) hr rfl (pa_cons (pv 0) (pa_cons pe_int pa_nil))) (fun _ _ => rfl)))
  (pss_one (ps_ret (pe_op op_addG (pv 2) (pe_ix (ix_seqG (K := K) rfl) (pe_lst (pa_cons pe_str (pa_cons pe_str (pa_cons pe_str (pa_cons pe_str (pa_cons pe_str pa_nil)))))) (pe_def (ok__law_take T) hr rfl (pa_cons (pv 0) (pa_cons pe_int pa_nil))) (fun _ _ => rfl))))))), ?_⟩
    walk_at "g"
    refine ⟨by show 10 ≤ sizeLine; decide, fun L hL => ?_⟩
    walk_at "g"
    obtain ⟨hLd, hLs⟩ := hD.ne hL
    refine ⟨_, _, _, _, rfl, hD.new hL, by decide, by decide +kernel, fun r H1 r0 r1 D1 K1 => ?_⟩
    have hL1 : H1 L = some (.lst (keptWords.map V.str)) := K1 L _ hLd upd_same
    obtain ⟨z, hz, ha⟩ := atI_strs (ws := keptWords) r0 r1
    have hzl : z.length ≤ 10 := (show ∀ z ∈ keptWords, z.length ≤ 10 by decide +kernel) z hz
    refine g_ixL (SqL.of hL1) ha ?_
    walk_at "g"
    refine ⟨by show 5 ≤ sizeLine; decide, fun M hM => ?_⟩
    obtain ⟨hMd, hMs⟩ := D1.ne hM
    walk_at "g"
    refine ⟨_, _, _, _, rfl, D1.new hM, by decide, by decide +kernel, fun r2 H2 r20 r21 D2 K2 => ?_⟩
    have hM2 : H2 M = some (.lst (["", "", "s", "1", "x"].map fun s => V.str (Str.ofString s))) := K2 M _ hMd upd_same
    obtain ⟨z2, hz2, ha2⟩ := atI_strs (ws := ["", "", "s", "1", "x"].map fun s => Str.ofString s) r20 r21
    have hz2l : z2.length ≤ 1 := (show ∀ z ∈ ["", "", "s", "1", "x"].map (fun s => Str.ofString s), z.length ≤ 1 by decide +kernel) z2 hz2
    refine g_ixL (SqL.of hM2) ha2 ?_
    refine g_addS (by rw [sizeLine_eq]; omega) ?_
    walk_at "g"
    have KA : Keep d H H1 := fun p o hp h => K1 p o hp (by rw [upd_ne (ne_of_none h hL)]; exact h)
    exact k _ _ ⟨_, rfl, by rw [PySem.Str.length_append]; omega⟩ D2 fun p o hp h => K2 p o hp (by rw [upd_ne (ne_of_none (KA p o hp h) hM)]; exact KA p o hp h)
def spThing : Sp := fun vs H Q _ => ∃ d sc ns, vs = [.ref d] ∧ Dr H d sc ns ∧ ∀ v H', thing H' v → Dr H' d sc ns → Q v H'
theorem thI {H : Hp} {v : V} (h : isI v) : thing H v := .inr (.inr (.inl h))
theorem thS {H : Hp} {v : V} (h : isS v) : thing H v := let ⟨z, e, l, _⟩ := h; .inr (.inr (.inr (.inl ⟨z, e, l⟩)))
theorem thR {H : Hp} {p : Addr} (h : isRef H p) : thing H (.ref p) := .inr (.inr (.inr (.inr ⟨p, rfl, h⟩)))
theorem ok__law_thing (T : Txt K mg) : Def P w K mg base 3 "_law_thing" ["_law_draw"] spThing := by
  obtain ⟨f, fd, h⟩ := T.d__law_thing
  refine h.def (Fun.okM h.fn sc__law_thing (fun vs H Q E h => ?_) (fun cdv A outer s H vs Q E hr h => ?_))
  · obtain ⟨d, sc, ns, rfl, _⟩ := h
    rfl
  · obtain ⟨d, sc, ns, rfl, hD, k⟩ := h
    refine ⟨_, (pss_cons (ps_set (i := 1) sc__law_thing.nd rfl (Or.inl rfl) (pe_def (ok__law_take T) hr rfl (pa_cons (pv 0) (pa_cons pe_int pa_nil))))
  (pss_cons (ps_if (pt_cmpR op_eq (pv 1) pe_int (nomark _))
  (pss_one (ps_ret (pe_def (ok__law_number T) hr rfl (pa_cons (pv 0) pa_nil))))
  pss_nil)
  (pss_cons (ps_if (PW.pt (pw_or (pt_cmpR op_eq (pv 1) pe_int (nomark _)) (pw_or1 (pt_cmpR op_eq (pv 1) pe_int (nomark _)))))
  (pss_one (ps_ret (pe_def (ok__law_text T) hr rfl (pa_cons (pv 0) pa_nil))))
  pss_nil)
  (pss_cons (ps_if (pt_cmpR op_eq (pv 1) pe_int (nomark _))
  (pss_one (ps_ret (pe_lst (pa_cons (pe_def (ok__law_number T) hr rfl (pa_cons (pv 0) pa_nil)) (pa_cons (pe_def (ok__law_text T) hr rfl (pa_cons (pv 0) pa_nil)) pa_nil)))))
  pss_nil)
  (pss_cons (ps_if (pt_cmpR op_eq (pv 1) pe_int (nomark _))
  (pss_one (ps_ret (pe_tup (pa_cons (pe_def (ok__law_text T) hr rfl (pa_cons (pv 0) pa_nil)) (pa_cons (pe_def (ok__law_number T) hr rfl (pa_cons (pv 0) pa_nil)) (pa_cons pe_non pa_nil))))))
  pss_nil)
  (pss_cons (ps_if (pt_cmpR op_eq (pv 1) pe_int (nomark _))
  (pss_one (ps_ret (pe_disp (pps_cons (pe_def (ok__law_text T) hr rfl (pa_cons (pv 0) pa_nil)) (pe_lst (pa_cons (pe_def (ok__law_number T) hr rfl (pa_cons (pv 0) pa_nil)) pa_nil)) pps_nil) (by rfl) (by rfl) (fun z => by cases z) (by decide))))
  pss_nil)
  (pss_cons (ps_if (pt_cmpR op_eq (pv 1) pe_int (nomark _))
  (pss_one (ps_ret pe_dnewK))
  pss_nil)
  (pss_one (ps_ret (pe_ix (ix_seqG (K := K) rfl) (pe_lst (pa_cons pe_non (pa_cons pe_bl (pa_cons pe_bl (pa_cons pe_int (pa_cons pe_int (pa_cons pe_int (pa_cons pe_int (pa_cons pe_int (pa_cons pe_int (pa_cons pe_int (pa_cons (pe_lst pa_nil) (pa_cons (pe_tup pa_nil) pa_nil))))))))))))) (pv 1) (fun _ _ => rfl))))))))))), ?_⟩
    walk_at "g"
    refine ⟨_, _, _, _, rfl, hD, by decide, by decide +kernel, fun r H1 r0 r1 D1 K1 => ?_⟩
    walk_at "G"
    · refine ⟨_, _, _, rfl, D1, fun v H2 hv D2 K2 => ?_⟩
      walk_at "g"
      exact k _ _ (thI hv) D2
    · refine ⟨_, _, _, rfl, D1, fun v H2 hv D2 K2 => ?_⟩
      walk_at "g"
      exact k _ _ (thS hv) D2
    · refine ⟨_, _, _, rfl, D1, fun v H2 hv D2 K2 => ?_⟩
      walk_at "g"
      exact k _ _ (thS hv) D2
    · refine ⟨_, _, _, rfl, D1, fun v H2 hv D2 K2 => ?_⟩
      walk_at "g"
      refine ⟨_, _, _, rfl, D2, fun v3 H3 hv3 D3 K3 => ?_⟩
      walk_at "g"
      refine ⟨by show 2 ≤ sizeLine; decide, fun p hp => ?_⟩
      walk_at "g"
      exact k _ _ (thR (.inl ⟨_, upd_same⟩)) (D3.new hp)
    · refine ⟨_, _, _, rfl, D1, fun v H2 hv D2 K2 => ?_⟩
      walk_at "g"
      refine ⟨_, _, _, rfl, D2, fun v3 H3 hv3 D3 K3 => ?_⟩
      walk_at "g"
      refine ⟨by show 3 ≤ sizeLine; decide, fun p hp => ?_⟩
      walk_at "g"
      exact k _ _ (thR (.inr (.inl ⟨_, upd_same⟩))) (D3.new hp)
    · intro p hp
      obtain ⟨hpd, hps⟩ := D1.ne hp
      refine g_def ?_
      walk_at "g"
      refine ⟨_, _, _, rfl, D1.new hp, fun v H2 hv D2 K2 => ?_⟩
      walk_at "g"
      refine ⟨_, _, _, rfl, D2, fun v3 H3 hv3 D3 K3 => ?_⟩
      have hp3 : H3 p = some (.dK []) := K3 p _ hpd (K2 p _ hpd upd_same)
      obtain ⟨z, rfl, hz, _⟩ := hv
      walk_at "g"
      refine ⟨by show 1 ≤ sizeLine; decide, fun q hq => ?_⟩
      have hqp : p ≠ q := ne_of_none hp3 hq
      refine ⟨by rw [upd_ne hqp]; exact hp3, [(Sum.inr z, .ref q)], rfl, by show 1 ≤ 15; decide, ?_⟩
      walk_at "g"
      exact k _ _ (thR (.inr (.inr ⟨_, upd_same⟩))) ((D3.new hq).other hpd hps)
    · intro p hp
      walk_at "g"
      exact k _ _ (thR (.inr (.inr ⟨_, upd_same⟩))) (D1.new hp)
    · refine ⟨by show 0 ≤ sizeLine; decide, fun p hp => ?_⟩
      walk_at "g"
      refine ⟨by show 0 ≤ sizeLine; decide, fun q hq => ?_⟩
      walk_at "g"
      refine ⟨by show 12 ≤ sizeLine; decide, fun L hL => ?_⟩
      have n1 : p ≠ q := ne_of_none upd_same hq
      have n2 : q ≠ L := ne_of_none upd_same hL
      have n3 : p ≠ L := fun e => by rw [← e, upd_ne n1, upd_same] at hL; cases hL
      have DD := ((D1.new (o := .lst []) hp).new (o := .tup []) hq).new (o := .lst [.non, .bl true, .bl false, .int 0, .int 0, .int 0, .int 0, .int 0, .int 0, .int 0, .ref p, .ref q]) hL
      walk_at "g"
      have hcases : r = 0 ∨ r = 1 ∨ r = 2 ∨ r = 3 ∨ r = 4 ∨ r = 5 ∨ r = 6 ∨ r = 7 ∨ r = 8 ∨ r = 9 ∨ r = 10 ∨ r = 11 := by omega
      rcases hcases with rfl | rfl | rfl | rfl | rfl | rfl | rfl | rfl | rfl | rfl | rfl | rfl
      all_goals (walk_at "g"; refine k _ _ ?_ DD)
      · exact .inl rfl
      · exact .inr (.inl ⟨_, rfl⟩)
      · exact .inr (.inl ⟨_, rfl⟩)
      all_goals first | exact thI ⟨_, rfl⟩ | exact thR (.inl ⟨_, by rw [upd_ne n3, upd_ne n1, upd_same]⟩) | exact thR (.inr (.inl ⟨_, by rw [upd_ne n2, upd_same]⟩))
end
def spFlag : Sp := fun vs H Q _ => ∃ a b, vs = [.bl a, .bl b] ∧ Q (.bl (decide (a = b))) H
section
variable {P : Program} {w : World} {K : PySem.W.Frag} {mg : Str → Option Value} {base : Heap}
theorem ok__law_flag (T : Txt K mg) : Def P w K mg base 1 "_law_flag" ["_law_thing_here", "_law_due"] spFlag := by
  obtain ⟨f, fd, h⟩ := T.d__law_flag
  refine h.def (Fun.okM h.fn sc__law_flag (fun vs H Q E h => ?_) (fun cdv A outer s H vs Q E hr h => ?_))
  · obtain ⟨a, b, rfl, _⟩ := h
    rfl
  · obtain ⟨a, b, rfl, k⟩ := h
    refine ⟨_, (pss_one (ps_ret (pe_and (pe_callB (call_isiG (K := K) rfl) (by rfl) T.h_isinstance (by decide +kernel) (pa_cons (pv 0) (pa_cons (pe_bltn (v := .ty "bool") (by rfl) T.h_bool (by decide +kernel) rfl) pa_nil))) (pe_one (pe_cmpR op_eq (pv 0) (pe_callTy call_boolG (by rfl) T.h_bool (by decide +kernel) (pa_cons (pv 1) pa_nil)) (nomark _)))))), ?_⟩
    walk_at "g"
    exact k
end
def spLaw (K : PySem.W.Frag) : Sp := fun vs H Q _ => ∃ (a : Addr) (ns : List Int), vs = [.ref a] ∧ SqL K H a (ns.map V.int) ∧ ns.length ≤ 63 ∧ ∀ H', Q (.bl true) H'
section
variable {P : Program} {w : World} {K : PySem.W.Frag} {mg : Str → Option Value} {base : Heap}
theorem Dr.keepAll {H H' : Hp} {d sc : Addr} {ns : List Int} (D : Dr H d sc ns) (k : ∀ p o, H p = some o → H' p = some o) : Dr H' d sc ns := by
  obtain ⟨i, b, c, e, h1, h2, h3, h4⟩ := D.ex
  exact ⟨i, b, c, e, h1, h2, k _ _ h3, k _ _ h4⟩
theorem ok_law (T : Txt K mg) {f : Addr} {fd : FuncData} (F : Fun K "law" "law" S_law f fd) : FnOk P w K mg base CX0 4 f fd ["_law_script"] (spLaw K) := by
  refine Fun.okM F sc_law (fun vs H Q E h => ?_) (fun cdv A outer s H vs Q E hr h => ?_)
  · obtain ⟨a, ns, rfl, _⟩ := h
    rfl
  · obtain ⟨a, ns, rfl, hS, hlen, k⟩ := h
    refine ⟨_, (pss_cons (ps_set (i := 1) sc_law.nd rfl (Or.inl rfl) (pe_def (ok__law_begin T) hr rfl (pa_cons (pv 0) pa_nil)))
  (pss_cons (ps_for PassesOwn.never rfl (pi_range1 rfl T.h_range (pa_cons (pe_op op_addG pe_int (pe_def (ok__law_take T) hr rfl (pa_cons (pv 1) (pa_cons pe_int pa_nil)))) pa_nil)) (pg_name (i := 2) sc_law.nd rfl (Or.inl rfl))
  (pss_cons (ps_set (i := 3) sc_law.nd rfl (Or.inl rfl) (pe_def (ok__law_take T) hr rfl (pa_cons (pv 1) (pa_cons pe_int pa_nil))))
  (pss_cons (ps_set (i := 4) sc_law.nd rfl (Or.inl rfl) (pe_def (ok__law_string T) hr rfl (pa_cons (pv 1) pa_nil)))
  (Evl.pss_cut (ps_if (pt_cmpR op_eq (pv 3) pe_int (nomark _))
  (pss_one (ps_set (i := 4) sc_law.nd rfl (Or.inl rfl) (pe_def (ok__law_kept_word T) hr rfl (pa_cons (pv 1) pa_nil))))
  pss_nil)
  (Evl.pss_cut (ps_if (pt_cmpR op_eq (pv 3) pe_int (nomark _))
  (pss_one (ps_set (i := 4) sc_law.nd rfl (Or.inl rfl) (pe_def (ok__law_thing T) hr rfl (pa_cons (pv 1) pa_nil))))
  pss_nil)
  (pss_cons (ps_if (pt_not (pt_val (pe_def (ok__law_flag T) hr rfl (pa_cons (pe_def (ok_is_name T) hr rfl (pa_cons (pv 4) pa_nil)) (pa_cons (pe_def (ok__law_name_due T) hr rfl (pa_cons (pv 4) pa_nil)) pa_nil)))))
  (pss_one (ps_ret pe_bl))
  pss_nil)
  (pss_cons (ps_set (i := 5) sc_law.nd rfl (Or.inl rfl) pe_non)
  (Evl.pss_cut (ps_if (pt_val (pe_def (ok__law_is_integer T) hr rfl (pa_cons (pv 4) pa_nil)))
  (pss_one (ps_set (i := 5) sc_law.nd rfl (Or.inl rfl) pe_str))
  (pss_one (ps_if (pt_val (pe_def (ok__law_is_text T) hr rfl (pa_cons (pv 4) pa_nil)))
  (pss_one (ps_set (i := 5) sc_law.nd rfl (Or.inl rfl) pe_str))
  pss_nil)))
  (pss_cons (ps_if (pt_cmpR op_ne (pe_def (ok_kind_of T) hr rfl (pa_cons (pv 4) pa_nil)) (pv 5) (nomark _))
  (pss_one (ps_ret pe_bl))
  pss_nil)
  (pss_one (ps_if (PW.pt (pw_or (pt_not (pt_val (pe_def (ok__law_flag T) hr rfl (pa_cons (pe_def (ok_is_value T) hr rfl (pa_cons pe_str (pa_cons (pv 4) pa_nil))) (pa_cons (pe_cmpR op_eq (pv 5) pe_str (nomark _)) pa_nil))))) (pw_or1 (pt_not (pt_val (pe_def (ok__law_flag T) hr rfl (pa_cons (pe_def (ok_is_value T) hr rfl (pa_cons pe_str (pa_cons (pv 4) pa_nil))) (pa_cons (pe_cmpR op_eq (pv 5) pe_str (nomark _)) pa_nil))))))))
  (pss_one (ps_ret pe_bl))
  pss_nil)))))))))))
  (pss_one (ps_ret (pe_and (pe_cmpR op_isBl (pe_def (ok_is_name T) hr rfl (pa_cons pe_str pa_nil)) pe_bl (nomark _)) (pe_and (pe_cmpR op_eq (pe_def (ok_kind_of T) hr rfl (pa_cons pe_str pa_nil)) pe_str (nomark _)) (pe_one (pe_cmpR op_isNG (pe_def (ok_kind_of T) hr rfl (pa_cons pe_bl pa_nil)) pe_non (nomark _))))))))), ?_⟩
    walk_at "g"
    refine ⟨_, _, rfl, hS, fun d sc ms H1 hd S1 D1 => ?_⟩
    walk_at "g"
    refine ⟨_, _, _, _, rfl, D1, by decide, by decide +kernel, fun r H2 r0 r1 D2 K2 => ?_⟩
    walk_at "g"
    refine ⟨_, rfl, by omega, by omega, ?_⟩
    refine for_rangeA (fun i σ' H' => ∃ (s2 s3 s4 s5 : Option V), σ' = [some (.ref a), some (.ref d), s2, s3, s4, s5] ∧ Dr H' d sc ms) ⟨none, none, none, none, rfl, D2⟩ ?_ ?_
    · rintro i σ' H3 D' hi ⟨s2, s3, s4, s5, rfl, D3⟩ hnx hct hbk hrt
      walk_at "g"
      refine ⟨_, _, _, _, rfl, D3, by decide, by decide +kernel, fun r4 H4 r40 r41 D4 K4 => ?_⟩
      walk_at "g"
      refine ⟨_, _, _, rfl, D4, fun v H5 ⟨z, e, hz⟩ D5 K5 => ?_⟩
      subst e
      walk_at "g"
      refine g_cutA (M := fun σ' H' => ∃ v, σ' = [some (.ref a), some (.ref d), some (.int (0 + (i : Int))), some (.int r4), some v, s5] ∧ thing H' v ∧ Dr H' d sc ms) (fun D1' hn1 _ _ _ => ?_) ?_
      · walk_at "G"
        · refine ⟨_, _, _, rfl, D5, fun v H6 ⟨z, e, hz⟩ D6 K6 => ?_⟩
          walk_at "g"
          exact hn1 _ _ ⟨_, rfl, .inr (.inr (.inr (.inl ⟨z, e, hz⟩))), D6⟩
        · exact hn1 _ _ ⟨_, rfl, .inr (.inr (.inr (.inl ⟨z, rfl, hz⟩))), D5⟩
      rintro σ' H6 ⟨v, rfl, hv, D6⟩
      walk_at "g"
      refine g_cutA (M := fun σ' H' => ∃ v, σ' = [some (.ref a), some (.ref d), some (.int (0 + (i : Int))), some (.int r4), some v, s5] ∧ thing H' v ∧ Dr H' d sc ms) (fun D1' hn1 _ _ _ => ?_) ?_
      · walk_at "G"
        · refine ⟨_, _, _, rfl, D6, fun v H7 hv D7 => ?_⟩
          walk_at "g"
          exact hn1 _ _ ⟨_, rfl, hv, D7⟩
        · exact hn1 _ _ ⟨_, rfl, hv, D6⟩
      rintro σ' H6 ⟨v, rfl, hv, D6⟩
      walk_at "g"
      refine ⟨_, rfl, hv, fun H7 h7 => ?_⟩
      have hv7 := hv.keep h7
      have D7 := D6.keepAll h7
      walk_at "g"
      refine ⟨_, rfl, hv7, fun H8 h8 => ?_⟩
      have hv8 := hv7.keep h8
      have D8 := D7.keepAll h8
      walk_at "g"
      refine ⟨_, _, rfl, ?_⟩
      walk_at "g"
      refine g_ndec (fun h => absurd rfl h) (fun _ => ?_)
      walk_at "g"
      refine g_cutA (M := fun σ' H' => σ' = [some (.ref a), some (.ref d), some (.int (0 + (i : Int))), some (.int r4), some v, some (kindV v)] ∧ thing H' v ∧ Dr H' d sc ms) (fun D1' hn1 _ _ _ => ?_) ?_
      · walk_at "g"
        refine ⟨_, rfl, hv8, fun H9 h9 => ?_⟩
        have hv9 := hv8.keep h9
        have D9 := D8.keepAll h9
        walk_at "g"
        refine g_split (fun e => ?_) (fun e => ?_)
        · walk_at "g"
          refine hn1 _ _ ⟨?_, hv9, D9⟩
          cases v <;> first | rfl | exact absurd e Bool.false_ne_true
        · walk_at "g"
          refine ⟨_, rfl, hv9, fun H10 h10 => ?_⟩
          walk_at "g"
          refine g_split (fun e2 => ?_) (fun e2 => ?_)
          · walk_at "g"
            refine hn1 _ _ ⟨?_, hv9.keep h10, D9.keepAll h10⟩
            cases v with
            | str z =>
              have e2' : txtB z = true := e2
              show _ = [_, _, _, _, _, some (if txtB z = true then V.str (Str.ofString "text") else V.non)]
              rw [if_pos e2']; rfl
            | _ => exact absurd e2 Bool.false_ne_true
          · walk_at "g"
            refine hn1 _ _ ⟨?_, hv9.keep h10, D9.keepAll h10⟩
            cases v with
            | str z =>
              have e2' : txtB z = false := e2
              show _ = [_, _, _, _, _, some (if txtB z = true then V.str (Str.ofString "text") else V.non)]
              rw [if_neg (by rw [e2']; exact Bool.false_ne_true)]; rfl
            | int i => exact Bool.noConfusion (show true = false from e)
            | _ => rfl
      rintro σ' H9 ⟨rfl, hv9, D9⟩
      walk_at "g"
      refine ⟨_, rfl, hv9, fun H10 h10 => ?_⟩
      have hv10 := hv9.keep h10
      have D10 := D9.keepAll h10
      walk_at "g"
      have hsc : scal (kindV v) (kindV v) = true := by
        cases v with
        | str z =>
          show scal (if txtB z = true then V.str (Str.ofString "text") else V.non) (if txtB z = true then V.str (Str.ofString "text") else V.non) = true
          by_cases h : txtB z = true
          · rw [if_pos h]; rfl
          · rw [if_neg h]; rfl
        | _ => rfl
      refine ⟨hsc, ?_⟩
      walk_at "g"
      refine g_ndec (fun h => absurd rfl h) (fun _ => ?_)
      walk_at "g"
      refine ⟨_, _, rfl, hv10, fun H11 h11 => ?_⟩
      have hv11 := hv10.keep h11
      have D11 := D10.keepAll h11
      walk_at "g"
      refine ⟨scal_kind, ?_⟩
      walk_at "g"
      refine ⟨_, _, rfl, ?_⟩
      walk_at "g"
      refine g_ndec (fun h => absurd rfl h) (fun _ => ?_)
      walk_at "g"
      refine ⟨_, _, rfl, hv11, fun H12 h12 => ?_⟩
      have D12 := D11.keepAll h12
      walk_at "g"
      refine ⟨scal_kind, ?_⟩
      walk_at "g"
      refine ⟨_, _, rfl, ?_⟩
      walk_at "g"
      refine g_ndec (fun h => absurd rfl h) (fun _ => ?_)
      walk_at "g"
      exact hnx _ _ ⟨_, _, _, _, rfl, D12⟩
    · rintro σ' H3 ⟨s2, s3, s4, s5, rfl, D3⟩
      walk_at "g"
      refine ⟨_, rfl, .inr (.inr (.inr (.inl ⟨_, rfl, by decide +kernel⟩))), fun H4 h4 => ?_⟩
      rw [nameB_no (fun n => n.1 (by decide +kernel))]
      walk_at "g"
      refine ⟨_, rfl, .inr (.inr (.inr (.inl ⟨_, rfl, by decide +kernel⟩))), fun H5 h5 => ?_⟩
      have e : kindV (.str (Str.ofString "")) = .str (Str.ofString "text") := by
        show (if txtB (Str.ofString "") = true then V.str (Str.ofString "text") else V.non) = _
        rw [if_pos (by decide +kernel)]
      rw [e]
      walk_at "g"
      refine ⟨_, rfl, .inr (.inl ⟨_, rfl⟩), fun H6 h6 => ?_⟩
      rw [show kindV (.bl true) = .non from rfl]
      walk_at "g"
      exact k _
end
theorem all_mk {l : PySem.W.OpenLaw} {w : World} {K : PySem.W.Frag} {h : Heap} {mg : Str → Option Value} {fa f_is_integer f_is_text f_is_name f_kind_of f_is_value f__law_begin f__law_take f__law_is_integer f__law_chars f__law_is_text f__law_number f__law_text f__law_thing f__law_flag f__law_string f__law_kept_word f__law_name_due f_law : Addr} (X : K.In h) (G : h.Ns mainGlobals mg) (hfa : mg "law" = some (.ref fa))
    {od_is_integer an_is_integer : Option Addr} {sl_is_integer : Array (Option Value)} {oc_is_integer kV_is_integer dc_is_integer pm_is_integer cd_is_integer ct_is_integer : Value}
    {od_is_text an_is_text : Option Addr} {sl_is_text : Array (Option Value)} {oc_is_text kV_is_text dc_is_text pm_is_text cd_is_text ct_is_text : Value}
    {od_is_name an_is_name : Option Addr} {sl_is_name : Array (Option Value)} {oc_is_name kV_is_name dc_is_name pm_is_name cd_is_name ct_is_name : Value}
    {od_kind_of an_kind_of : Option Addr} {sl_kind_of : Array (Option Value)} {oc_kind_of kV_kind_of dc_kind_of pm_kind_of cd_kind_of ct_kind_of : Value}
    {od_is_value an_is_value : Option Addr} {sl_is_value : Array (Option Value)} {oc_is_value kV_is_value dc_is_value pm_is_value cd_is_value ct_is_value : Value}
    {od__law_begin an__law_begin : Option Addr} {sl__law_begin : Array (Option Value)} {oc__law_begin kV__law_begin dc__law_begin pm__law_begin cd__law_begin ct__law_begin : Value}
    {od__law_take an__law_take : Option Addr} {sl__law_take : Array (Option Value)} {oc__law_take kV__law_take dc__law_take pm__law_take cd__law_take ct__law_take : Value}
    {od__law_is_integer an__law_is_integer : Option Addr} {sl__law_is_integer : Array (Option Value)} {oc__law_is_integer kV__law_is_integer dc__law_is_integer pm__law_is_integer cd__law_is_integer ct__law_is_integer : Value}
    {od__law_chars an__law_chars : Option Addr} {sl__law_chars : Array (Option Value)} {oc__law_chars kV__law_chars dc__law_chars pm__law_chars cd__law_chars ct__law_chars : Value}
    {od__law_is_text an__law_is_text : Option Addr} {sl__law_is_text : Array (Option Value)} {oc__law_is_text kV__law_is_text dc__law_is_text pm__law_is_text cd__law_is_text ct__law_is_text : Value}
    {od__law_number an__law_number : Option Addr} {sl__law_number : Array (Option Value)} {oc__law_number kV__law_number dc__law_number pm__law_number cd__law_number ct__law_number : Value}
    {od__law_text an__law_text : Option Addr} {sl__law_text : Array (Option Value)} {oc__law_text kV__law_text dc__law_text pm__law_text cd__law_text ct__law_text : Value}
    {od__law_thing an__law_thing : Option Addr} {sl__law_thing : Array (Option Value)} {oc__law_thing kV__law_thing dc__law_thing pm__law_thing cd__law_thing ct__law_thing : Value}
    {od__law_flag an__law_flag : Option Addr} {sl__law_flag : Array (Option Value)} {oc__law_flag kV__law_flag dc__law_flag pm__law_flag cd__law_flag ct__law_flag : Value}
    {od__law_string an__law_string : Option Addr} {sl__law_string : Array (Option Value)} {oc__law_string kV__law_string dc__law_string pm__law_string cd__law_string ct__law_string : Value}
    {od__law_kept_word an__law_kept_word : Option Addr} {sl__law_kept_word : Array (Option Value)} {oc__law_kept_word kV__law_kept_word dc__law_kept_word pm__law_kept_word cd__law_kept_word ct__law_kept_word : Value}
    {od__law_name_due an__law_name_due : Option Addr} {sl__law_name_due : Array (Option Value)} {oc__law_name_due kV__law_name_due dc__law_name_due pm__law_name_due cd__law_name_due ct__law_name_due : Value}
    {od_law an_law : Option Addr} {sl_law : Array (Option Value)} {oc_law kV_law dc_law pm_law cd_law ct_law : Value}
    (a_is_integer : PySem.W.nsIn K mainGlobals "is_integer" = some (some (.ref f_is_integer))) (l_is_integer : K.lookup f_is_integer = some ⟨oc_is_integer, od_is_integer, .func (PySem.W.fnOf "is_integer" "is_integer" (defArgs S_is_integer) (defBody S_is_integer) (defScope S_is_integer) .none kV_is_integer dc_is_integer pm_is_integer an_is_integer cd_is_integer ct_is_integer), sl_is_integer⟩) (c_is_integer : PySem.W.codeIn K cd_is_integer "is_integer" = true) (k_is_integer : PySem.W.keepIn K (.ref f_is_integer) = true)
    (a_is_text : PySem.W.nsIn K mainGlobals "is_text" = some (some (.ref f_is_text))) (l_is_text : K.lookup f_is_text = some ⟨oc_is_text, od_is_text, .func (PySem.W.fnOf "is_text" "is_text" (defArgs S_is_text) (defBody S_is_text) (defScope S_is_text) .none kV_is_text dc_is_text pm_is_text an_is_text cd_is_text ct_is_text), sl_is_text⟩) (c_is_text : PySem.W.codeIn K cd_is_text "is_text" = true) (k_is_text : PySem.W.keepIn K (.ref f_is_text) = true)
    (a_is_name : PySem.W.nsIn K mainGlobals "is_name" = some (some (.ref f_is_name))) (l_is_name : K.lookup f_is_name = some ⟨oc_is_name, od_is_name, .func (PySem.W.fnOf "is_name" "is_name" (defArgs S_is_name) (defBody S_is_name) (defScope S_is_name) .none kV_is_name dc_is_name pm_is_name an_is_name cd_is_name ct_is_name), sl_is_name⟩) (c_is_name : PySem.W.codeIn K cd_is_name "is_name" = true) (k_is_name : PySem.W.keepIn K (.ref f_is_name) = true)
    (a_kind_of : PySem.W.nsIn K mainGlobals "kind_of" = some (some (.ref f_kind_of))) (l_kind_of : K.lookup f_kind_of = some ⟨oc_kind_of, od_kind_of, .func (PySem.W.fnOf "kind_of" "kind_of" (defArgs S_kind_of) (defBody S_kind_of) (defScope S_kind_of) .none kV_kind_of dc_kind_of pm_kind_of an_kind_of cd_kind_of ct_kind_of), sl_kind_of⟩) (c_kind_of : PySem.W.codeIn K cd_kind_of "kind_of" = true) (k_kind_of : PySem.W.keepIn K (.ref f_kind_of) = true)
    (a_is_value : PySem.W.nsIn K mainGlobals "is_value" = some (some (.ref f_is_value))) (l_is_value : K.lookup f_is_value = some ⟨oc_is_value, od_is_value, .func (PySem.W.fnOf "is_value" "is_value" (defArgs S_is_value) (defBody S_is_value) (defScope S_is_value) .none kV_is_value dc_is_value pm_is_value an_is_value cd_is_value ct_is_value), sl_is_value⟩) (c_is_value : PySem.W.codeIn K cd_is_value "is_value" = true) (k_is_value : PySem.W.keepIn K (.ref f_is_value) = true)
    (a__law_begin : PySem.W.nsIn K mainGlobals "_law_begin" = some (some (.ref f__law_begin))) (l__law_begin : K.lookup f__law_begin = some ⟨oc__law_begin, od__law_begin, .func (PySem.W.fnOf "_law_begin" "_law_begin" (defArgs S__law_begin) (defBody S__law_begin) (defScope S__law_begin) .none kV__law_begin dc__law_begin pm__law_begin an__law_begin cd__law_begin ct__law_begin), sl__law_begin⟩) (c__law_begin : PySem.W.codeIn K cd__law_begin "_law_begin" = true) (k__law_begin : PySem.W.keepIn K (.ref f__law_begin) = true)
    (a__law_take : PySem.W.nsIn K mainGlobals "_law_take" = some (some (.ref f__law_take))) (l__law_take : K.lookup f__law_take = some ⟨oc__law_take, od__law_take, .func (PySem.W.fnOf "_law_take" "_law_take" (defArgs S__law_take) (defBody S__law_take) (defScope S__law_take) .none kV__law_take dc__law_take pm__law_take an__law_take cd__law_take ct__law_take), sl__law_take⟩) (c__law_take : PySem.W.codeIn K cd__law_take "_law_take" = true) (k__law_take : PySem.W.keepIn K (.ref f__law_take) = true)
    (a__law_is_integer : PySem.W.nsIn K mainGlobals "_law_is_integer" = some (some (.ref f__law_is_integer))) (l__law_is_integer : K.lookup f__law_is_integer = some ⟨oc__law_is_integer, od__law_is_integer, .func (PySem.W.fnOf "_law_is_integer" "_law_is_integer" (defArgs S__law_is_integer) (defBody S__law_is_integer) (defScope S__law_is_integer) .none kV__law_is_integer dc__law_is_integer pm__law_is_integer an__law_is_integer cd__law_is_integer ct__law_is_integer), sl__law_is_integer⟩) (c__law_is_integer : PySem.W.codeIn K cd__law_is_integer "_law_is_integer" = true) (k__law_is_integer : PySem.W.keepIn K (.ref f__law_is_integer) = true)
    (a__law_chars : PySem.W.nsIn K mainGlobals "_law_chars" = some (some (.ref f__law_chars))) (l__law_chars : K.lookup f__law_chars = some ⟨oc__law_chars, od__law_chars, .func (PySem.W.fnOf "_law_chars" "_law_chars" (defArgs S__law_chars) (defBody S__law_chars) (defScope S__law_chars) .none kV__law_chars dc__law_chars pm__law_chars an__law_chars cd__law_chars ct__law_chars), sl__law_chars⟩) (c__law_chars : PySem.W.codeIn K cd__law_chars "_law_chars" = true) (k__law_chars : PySem.W.keepIn K (.ref f__law_chars) = true)
    (a__law_is_text : PySem.W.nsIn K mainGlobals "_law_is_text" = some (some (.ref f__law_is_text))) (l__law_is_text : K.lookup f__law_is_text = some ⟨oc__law_is_text, od__law_is_text, .func (PySem.W.fnOf "_law_is_text" "_law_is_text" (defArgs S__law_is_text) (defBody S__law_is_text) (defScope S__law_is_text) .none kV__law_is_text dc__law_is_text pm__law_is_text an__law_is_text cd__law_is_text ct__law_is_text), sl__law_is_text⟩) (c__law_is_text : PySem.W.codeIn K cd__law_is_text "_law_is_text" = true) (k__law_is_text : PySem.W.keepIn K (.ref f__law_is_text) = true)
    (a__law_number : PySem.W.nsIn K mainGlobals "_law_number" = some (some (.ref f__law_number))) (l__law_number : K.lookup f__law_number = some ⟨oc__law_number, od__law_number, .func (PySem.W.fnOf "_law_number" "_law_number" (defArgs S__law_number) (defBody S__law_number) (defScope S__law_number) .none kV__law_number dc__law_number pm__law_number an__law_number cd__law_number ct__law_number), sl__law_number⟩) (c__law_number : PySem.W.codeIn K cd__law_number "_law_number" = true) (k__law_number : PySem.W.keepIn K (.ref f__law_number) = true)
    (a__law_text : PySem.W.nsIn K mainGlobals "_law_text" = some (some (.ref f__law_text))) (l__law_text : K.lookup f__law_text = some ⟨oc__law_text, od__law_text, .func (PySem.W.fnOf "_law_text" "_law_text" (defArgs S__law_text) (defBody S__law_text) (defScope S__law_text) .none kV__law_text dc__law_text pm__law_text an__law_text cd__law_text ct__law_text), sl__law_text⟩) (c__law_text : PySem.W.codeIn K cd__law_text "_law_text" = true) (k__law_text : PySem.W.keepIn K (.ref f__law_text) = true)
    (a__law_thing : PySem.W.nsIn K mainGlobals "_law_thing" = some (some (.ref f__law_thing))) (l__law_thing : K.lookup f__law_thing = some ⟨oc__law_thing, od__law_thing, .func (PySem.W.fnOf "_law_thing" "_law_thing" (defArgs S__law_thing) (defBody S__law_thing) (defScope S__law_thing) .none kV__law_thing dc__law_thing pm__law_thing an__law_thing cd__law_thing ct__law_thing), sl__law_thing⟩) (c__law_thing : PySem.W.codeIn K cd__law_thing "_law_thing" = true) (k__law_thing : PySem.W.keepIn K (.ref f__law_thing) = true)
    (a__law_flag : PySem.W.nsIn K mainGlobals "_law_flag" = some (some (.ref f__law_flag))) (l__law_flag : K.lookup f__law_flag = some ⟨oc__law_flag, od__law_flag, .func (PySem.W.fnOf "_law_flag" "_law_flag" (defArgs S__law_flag) (defBody S__law_flag) (defScope S__law_flag) .none kV__law_flag dc__law_flag pm__law_flag an__law_flag cd__law_flag ct__law_flag), sl__law_flag⟩) (c__law_flag : PySem.W.codeIn K cd__law_flag "_law_flag" = true) (k__law_flag : PySem.W.keepIn K (.ref f__law_flag) = true)
    (a__law_string : PySem.W.nsIn K mainGlobals "_law_string" = some (some (.ref f__law_string))) (l__law_string : K.lookup f__law_string = some ⟨oc__law_string, od__law_string, .func (PySem.W.fnOf "_law_string" "_law_string" (defArgs S__law_string) (defBody S__law_string) (defScope S__law_string) .none kV__law_string dc__law_string pm__law_string an__law_string cd__law_string ct__law_string), sl__law_string⟩) (c__law_string : PySem.W.codeIn K cd__law_string "_law_string" = true) (k__law_string : PySem.W.keepIn K (.ref f__law_string) = true)
    (a__law_kept_word : PySem.W.nsIn K mainGlobals "_law_kept_word" = some (some (.ref f__law_kept_word))) (l__law_kept_word : K.lookup f__law_kept_word = some ⟨oc__law_kept_word, od__law_kept_word, .func (PySem.W.fnOf "_law_kept_word" "_law_kept_word" (defArgs S__law_kept_word) (defBody S__law_kept_word) (defScope S__law_kept_word) .none kV__law_kept_word dc__law_kept_word pm__law_kept_word an__law_kept_word cd__law_kept_word ct__law_kept_word), sl__law_kept_word⟩) (c__law_kept_word : PySem.W.codeIn K cd__law_kept_word "_law_kept_word" = true) (k__law_kept_word : PySem.W.keepIn K (.ref f__law_kept_word) = true)
    (a__law_name_due : PySem.W.nsIn K mainGlobals "_law_name_due" = some (some (.ref f__law_name_due))) (l__law_name_due : K.lookup f__law_name_due = some ⟨oc__law_name_due, od__law_name_due, .func (PySem.W.fnOf "_law_name_due" "_law_name_due" (defArgs S__law_name_due) (defBody S__law_name_due) (defScope S__law_name_due) .none kV__law_name_due dc__law_name_due pm__law_name_due an__law_name_due cd__law_name_due ct__law_name_due), sl__law_name_due⟩) (c__law_name_due : PySem.W.codeIn K cd__law_name_due "_law_name_due" = true) (k__law_name_due : PySem.W.keepIn K (.ref f__law_name_due) = true)
    (a_law : PySem.W.nsIn K mainGlobals "law" = some (some (.ref f_law))) (l_law : K.lookup f_law = some ⟨oc_law, od_law, .func (PySem.W.fnOf "law" "law" (defArgs S_law) (defBody S_law) (defScope S_law) .none kV_law dc_law pm_law an_law cd_law ct_law), sl_law⟩) (c_law : PySem.W.codeIn K cd_law "law" = true) (k_law : PySem.W.keepIn K (.ref f_law) = true)
    (z_isinstance : PySem.W.nsIn K mainGlobals "isinstance" = some none)
    (z_int : PySem.W.nsIn K mainGlobals "int" = some none)
    (z_bool : PySem.W.nsIn K mainGlobals "bool" = some none)
    (z_all : PySem.W.nsIn K mainGlobals "all" = some none)
    (z_str : PySem.W.nsIn K mainGlobals "str" = some none)
    (z_len : PySem.W.nsIn K mainGlobals "len" = some none)
    (z_list : PySem.W.nsIn K mainGlobals "list" = some none)
    (z_range : PySem.W.nsIn K mainGlobals "range" = some none)
    {t_SIGNS : Tok} (g_SIGNS : PySem.W.nsIn K mainGlobals "SIGNS" = some (some (.str C_SIGNS t_SIGNS)))
    {t_LONGEST_NAME : Tok} (g_LONGEST_NAME : PySem.W.nsIn K mainGlobals "LONGEST_NAME" = some (some (.int 8 t_LONGEST_NAME)))
    {t_LETTERS : Tok} (g_LETTERS : PySem.W.nsIn K mainGlobals "LETTERS" = some (some (.str C_LETTERS t_LETTERS)))
    {ca_WORDS : Addr} {co_WORDS : Obj} {ci_WORDS : Array Value} {cn_WORDS : Nat} (g_WORDS : PySem.W.nsIn K mainGlobals "WORDS" = some (some (.ref ca_WORDS))) (gl_WORDS : K.lookup ca_WORDS = some co_WORDS) (gc_WORDS : co_WORDS.cls = .type "tuple") (gd_WORDS : co_WORDS.data = .seq ci_WORDS cn_WORDS) (gs_WORDS : ci_WORDS.size ≤ sizeLine) (gv_WORDS : Vals C_WORDS ci_WORDS.toList)
    {t_NAME_SIGNS : Tok} (g_NAME_SIGNS : PySem.W.nsIn K mainGlobals "NAME_SIGNS" = some (some (.str C_NAME_SIGNS t_NAME_SIGNS)))
    : ∃ fd : FuncData, (∀ (s : Shared) (v : Value), BindsTo s fd ⟨[v], []⟩ [("_law_script", v)]) ∧ ∀ base : Heap, K.In base → base.Ns mainGlobals mg → FnOk l.prog w K mg base CX0 4 fa fd ["_law_script"] (spLaw K) := by
  have e := hfa.symm.trans (PySem.W.mg_of X G a_law)
  cases e
  have T : Txt K mg := {
    h_isinstance := PySem.W.mg_none_of X G z_isinstance
    h_int := PySem.W.mg_none_of X G z_int
    h_bool := PySem.W.mg_none_of X G z_bool
    h_all := PySem.W.mg_none_of X G z_all
    h_str := PySem.W.mg_none_of X G z_str
    h_len := PySem.W.mg_none_of X G z_len
    h_list := PySem.W.mg_none_of X G z_list
    h_range := PySem.W.mg_none_of X G z_range
    d_is_integer := ⟨f_is_integer, _, fun_mk (st := S_is_integer) l_is_integer c_is_integer k_is_integer, PySem.W.mg_of X G a_is_integer, (fun_mk (st := S_is_integer) l_is_integer c_is_integer k_is_integer).binds (ps := ["thing"]) fun _ _ _ _ _ _ us hl => match us, hl with | [_], _ => rfl⟩
    d_is_text := ⟨f_is_text, _, fun_mk (st := S_is_text) l_is_text c_is_text k_is_text, PySem.W.mg_of X G a_is_text, (fun_mk (st := S_is_text) l_is_text c_is_text k_is_text).binds (ps := ["thing"]) fun _ _ _ _ _ _ us hl => match us, hl with | [_], _ => rfl⟩
    d_is_name := ⟨f_is_name, _, fun_mk (st := S_is_name) l_is_name c_is_name k_is_name, PySem.W.mg_of X G a_is_name, (fun_mk (st := S_is_name) l_is_name c_is_name k_is_name).binds (ps := ["thing"]) fun _ _ _ _ _ _ us hl => match us, hl with | [_], _ => rfl⟩
    d_kind_of := ⟨f_kind_of, _, fun_mk (st := S_kind_of) l_kind_of c_kind_of k_kind_of, PySem.W.mg_of X G a_kind_of, (fun_mk (st := S_kind_of) l_kind_of c_kind_of k_kind_of).binds (ps := ["value"]) fun _ _ _ _ _ _ us hl => match us, hl with | [_], _ => rfl⟩
    d_is_value := ⟨f_is_value, _, fun_mk (st := S_is_value) l_is_value c_is_value k_is_value, PySem.W.mg_of X G a_is_value, (fun_mk (st := S_is_value) l_is_value c_is_value k_is_value).binds (ps := ["kind", "thing"]) fun _ _ _ _ _ _ us hl => match us, hl with | [_, _], _ => rfl⟩
    d__law_begin := ⟨f__law_begin, _, fun_mk (st := S__law_begin) l__law_begin c__law_begin k__law_begin, PySem.W.mg_of X G a__law_begin, (fun_mk (st := S__law_begin) l__law_begin c__law_begin k__law_begin).binds (ps := ["_law_script"]) fun _ _ _ _ _ _ us hl => match us, hl with | [_], _ => rfl⟩
    d__law_take := ⟨f__law_take, _, fun_mk (st := S__law_take) l__law_take c__law_take k__law_take, PySem.W.mg_of X G a__law_take, (fun_mk (st := S__law_take) l__law_take c__law_take k__law_take).binds (ps := ["_law_draw", "_law_many"]) fun _ _ _ _ _ _ us hl => match us, hl with | [_, _], _ => rfl⟩
    d__law_is_integer := ⟨f__law_is_integer, _, fun_mk (st := S__law_is_integer) l__law_is_integer c__law_is_integer k__law_is_integer, PySem.W.mg_of X G a__law_is_integer, (fun_mk (st := S__law_is_integer) l__law_is_integer c__law_is_integer k__law_is_integer).binds (ps := ["_law_thing_here"]) fun _ _ _ _ _ _ us hl => match us, hl with | [_], _ => rfl⟩
    d__law_chars := ⟨f__law_chars, _, fun_mk (st := S__law_chars) l__law_chars c__law_chars k__law_chars, PySem.W.mg_of X G a__law_chars, (fun_mk (st := S__law_chars) l__law_chars c__law_chars k__law_chars).binds (ps := []) fun _ _ _ _ _ _ us hl => match us, hl with | [], _ => rfl⟩
    d__law_is_text := ⟨f__law_is_text, _, fun_mk (st := S__law_is_text) l__law_is_text c__law_is_text k__law_is_text, PySem.W.mg_of X G a__law_is_text, (fun_mk (st := S__law_is_text) l__law_is_text c__law_is_text k__law_is_text).binds (ps := ["_law_thing_here"]) fun _ _ _ _ _ _ us hl => match us, hl with | [_], _ => rfl⟩
    d__law_number := ⟨f__law_number, _, fun_mk (st := S__law_number) l__law_number c__law_number k__law_number, PySem.W.mg_of X G a__law_number, (fun_mk (st := S__law_number) l__law_number c__law_number k__law_number).binds (ps := ["_law_draw"]) fun _ _ _ _ _ _ us hl => match us, hl with | [_], _ => rfl⟩
    d__law_text := ⟨f__law_text, _, fun_mk (st := S__law_text) l__law_text c__law_text k__law_text, PySem.W.mg_of X G a__law_text, (fun_mk (st := S__law_text) l__law_text c__law_text k__law_text).binds (ps := ["_law_draw"]) fun _ _ _ _ _ _ us hl => match us, hl with | [_], _ => rfl⟩
    d__law_thing := ⟨f__law_thing, _, fun_mk (st := S__law_thing) l__law_thing c__law_thing k__law_thing, PySem.W.mg_of X G a__law_thing, (fun_mk (st := S__law_thing) l__law_thing c__law_thing k__law_thing).binds (ps := ["_law_draw"]) fun _ _ _ _ _ _ us hl => match us, hl with | [_], _ => rfl⟩
    d__law_flag := ⟨f__law_flag, _, fun_mk (st := S__law_flag) l__law_flag c__law_flag k__law_flag, PySem.W.mg_of X G a__law_flag, (fun_mk (st := S__law_flag) l__law_flag c__law_flag k__law_flag).binds (ps := ["_law_thing_here", "_law_due"]) fun _ _ _ _ _ _ us hl => match us, hl with | [_, _], _ => rfl⟩
    d__law_string := ⟨f__law_string, _, fun_mk (st := S__law_string) l__law_string c__law_string k__law_string, PySem.W.mg_of X G a__law_string, (fun_mk (st := S__law_string) l__law_string c__law_string k__law_string).binds (ps := ["_law_draw"]) fun _ _ _ _ _ _ us hl => match us, hl with | [_], _ => rfl⟩
    d__law_kept_word := ⟨f__law_kept_word, _, fun_mk (st := S__law_kept_word) l__law_kept_word c__law_kept_word k__law_kept_word, PySem.W.mg_of X G a__law_kept_word, (fun_mk (st := S__law_kept_word) l__law_kept_word c__law_kept_word k__law_kept_word).binds (ps := ["_law_draw"]) fun _ _ _ _ _ _ us hl => match us, hl with | [_], _ => rfl⟩
    d__law_name_due := ⟨f__law_name_due, _, fun_mk (st := S__law_name_due) l__law_name_due c__law_name_due k__law_name_due, PySem.W.mg_of X G a__law_name_due, (fun_mk (st := S__law_name_due) l__law_name_due c__law_name_due k__law_name_due).binds (ps := ["_law_thing_here"]) fun _ _ _ _ _ _ us hl => match us, hl with | [_], _ => rfl⟩
    k_SIGNS := ⟨t_SIGNS, PySem.W.mg_of X G g_SIGNS⟩
    k_LONGEST_NAME := ⟨t_LONGEST_NAME, PySem.W.mg_of X G g_LONGEST_NAME⟩
    k_LETTERS := ⟨t_LETTERS, PySem.W.mg_of X G g_LETTERS⟩
    k_WORDS := ⟨ca_WORDS, PySem.W.mg_of X G g_WORDS, fun _ => Or.inr ⟨co_WORDS, ci_WORDS, cn_WORDS, gl_WORDS, gc_WORDS, gd_WORDS, gs_WORDS, gv_WORDS⟩⟩
    k_NAME_SIGNS := ⟨t_NAME_SIGNS, PySem.W.mg_of X G g_NAME_SIGNS⟩ }
  exact ⟨PySem.W.fnOf "law" "law" (defArgs S_law) (defBody S_law) (defScope S_law) .none kV_law dc_law pm_law an_law cd_law ct_law, fun s v => .of_eq rfl, fun base _ _ => ok_law T (fun_mk (st := S_law) l_law c_law k_law)⟩
theorem walk {l : PySem.W.OpenLaw} {q : Program} {loose : List Str} {XP : (Str → Option Value) → Heap → Prop} {YP : World → Heap → Prop} {d : DefRec} {K : Params → PySem.W.Frag} (hn : l.most = some 63) (hdf : d.params.defaults = [])
    (hY : ∀ (w : World) (h : Heap), YP w h → (K w.params).In h)
    (F : ∀ (w : World) (mg : Str → Option Value) (fa : Addr) (h : Heap), (K w.params).In h → h.Ns mainGlobals mg → mg d.name = some (.ref fa) →
      ∃ fd : FuncData, (∀ (s : Shared) (u : Value), BindsTo s fd ⟨[u], []⟩ [("_law_script", u)]) ∧ ∀ base : Heap, (K w.params).In base → base.Ns mainGlobals mg → FnOk l.prog w (K w.params) mg base CX0 4 fa fd ["_law_script"] (spLaw (K w.params))) :
    PySem.W.WalkO q loose XP YP l.row.toRowW d [] (fun f vs => PySem.call f vs) :=
  L2.walk_of (n := 63) (k := 4) (x := "_law_script") (CX := fun _ => CX0) (sp := fun w => spLaw (K w.params)) hn (by decide) hdf ⟨rfl, by decide, by decide⟩ hY F (fun _ _ a ns hl _ hS => ⟨a, ns, rfl, hS, hl, fun _ => rfl⟩) fun _ _ _ _ _ z => z
end L
open PySem PySem.W PyProof.Rows
set_option maxRecDepth 100000 in
set_option maxHeartbeats 0 in
theorem PySem.Challenge.cw_tworows_k04_names_and_kinds_holds : PySem.Challenge.rw_tworows_k04_names_and_kinds.Holds := by
  w_on; o_law; k_head; (case hw => w_witness2)
  k_fill
  refine L.walk (l := PySem.Challenge.rw_tworows_k04_names_and_kinds) rfl rfl (fun w h Y => PySem.W.kIn_of Y) ?F
  case F =>
    intro w mg fa h KX G hmg
    refine' L.all_mk KX G hmg ?a_is_integer ?l_is_integer ?c_is_integer ?k_is_integer ?a_is_text ?l_is_text ?c_is_text ?k_is_text ?a_is_name ?l_is_name ?c_is_name ?k_is_name ?a_kind_of ?l_kind_of ?c_kind_of ?k_kind_of ?a_is_value ?l_is_value ?c_is_value ?k_is_value ?a__law_begin ?l__law_begin ?c__law_begin ?k__law_begin ?a__law_take ?l__law_take ?c__law_take ?k__law_take ?a__law_is_integer ?l__law_is_integer ?c__law_is_integer ?k__law_is_integer ?a__law_chars ?l__law_chars ?c__law_chars ?k__law_chars ?a__law_is_text ?l__law_is_text ?c__law_is_text ?k__law_is_text ?a__law_number ?l__law_number ?c__law_number ?k__law_number ?a__law_text ?l__law_text ?c__law_text ?k__law_text ?a__law_thing ?l__law_thing ?c__law_thing ?k__law_thing ?a__law_flag ?l__law_flag ?c__law_flag ?k__law_flag ?a__law_string ?l__law_string ?c__law_string ?k__law_string ?a__law_kept_word ?l__law_kept_word ?c__law_kept_word ?k__law_kept_word ?a__law_name_due ?l__law_name_due ?c__law_name_due ?k__law_name_due ?a_law ?l_law ?c_law ?k_law ?z_isinstance ?z_int ?z_bool ?z_all ?z_str ?z_len ?z_list ?z_range ?g_SIGNS ?g_LONGEST_NAME ?g_LETTERS ?g_WORDS ?gl_WORDS ?gc_WORDS ?gd_WORDS ?gs_WORDS ?gv_WORDS ?g_NAME_SIGNS
    (case a_is_integer => k_is)
    (case l_is_integer => k_is)
    (case c_is_integer => k_is)
    (case k_is_integer => k_is)
    (case a_is_text => k_is)
    (case l_is_text => k_is)
    (case c_is_text => k_is)
    (case k_is_text => k_is)
    (case a_is_name => k_is)
    (case l_is_name => k_is)
    (case c_is_name => k_is)
    (case k_is_name => k_is)
    (case a_kind_of => k_is)
    (case l_kind_of => k_is)
    (case c_kind_of => k_is)
    (case k_kind_of => k_is)
    (case a_is_value => k_is)
    (case l_is_value => k_is)
    (case c_is_value => k_is)
    (case k_is_value => k_is)
    (case a__law_begin => k_is)
    (case l__law_begin => k_is)
    (case c__law_begin => k_is)
    (case k__law_begin => k_is)
    (case a__law_take => k_is)
    (case l__law_take => k_is)
    (case c__law_take => k_is)
    (case k__law_take => k_is)
    (case a__law_is_integer => k_is)
    (case l__law_is_integer => k_is)
    (case c__law_is_integer => k_is)
    (case k__law_is_integer => k_is)
    (case a__law_chars => k_is)
    (case l__law_chars => k_is)
    (case c__law_chars => k_is)
    (case k__law_chars => k_is)
    (case a__law_is_text => k_is)
    (case l__law_is_text => k_is)
    (case c__law_is_text => k_is)
    (case k__law_is_text => k_is)
    (case a__law_number => k_is)
    (case l__law_number => k_is)
    (case c__law_number => k_is)
    (case k__law_number => k_is)
    (case a__law_text => k_is)
    (case l__law_text => k_is)
    (case c__law_text => k_is)
    (case k__law_text => k_is)
    (case a__law_thing => k_is)
    (case l__law_thing => k_is)
    (case c__law_thing => k_is)
    (case k__law_thing => k_is)
    (case a__law_flag => k_is)
    (case l__law_flag => k_is)
    (case c__law_flag => k_is)
    (case k__law_flag => k_is)
    (case a__law_string => k_is)
    (case l__law_string => k_is)
    (case c__law_string => k_is)
    (case k__law_string => k_is)
    (case a__law_kept_word => k_is)
    (case l__law_kept_word => k_is)
    (case c__law_kept_word => k_is)
    (case k__law_kept_word => k_is)
    (case a__law_name_due => k_is)
    (case l__law_name_due => k_is)
    (case c__law_name_due => k_is)
    (case k__law_name_due => k_is)
    (case a_law => k_is)
    (case l_law => k_is)
    (case c_law => k_is)
    (case k_law => k_is)
    (case z_isinstance => k_is)
    (case z_int => k_is)
    (case z_bool => k_is)
    (case z_all => k_is)
    (case z_str => k_is)
    (case z_len => k_is)
    (case z_list => k_is)
    (case z_range => k_is)
    (case g_SIGNS => k_is)
    (case g_LONGEST_NAME => k_is)
    (case g_LETTERS => k_is)
    (case g_WORDS => k_is)
    (case gl_WORDS => k_is)
    (case gc_WORDS => rfl)
    (case gd_WORDS => rfl)
    (case gs_WORDS => decide)
    (case gv_WORDS => (repeat (first | exact .nil | refine .cons ⟨_, rfl⟩ ?_)))
    (case g_NAME_SIGNS => k_is)
#print axioms PySem.Challenge.cw_tworows_k04_names_and_kinds_holds
