import PyProof.Rows.All
import Wide.All
import OpenK.AllK
import Wide.FinOn
import HandS.ForMost
import HandS.Wide
import HandS.IsInst
import HandS.Flow
import HandS.TupLe
import HandS.StrMore
import HandS.Evl
import HandS.Walk
import KE.KxText
import HandS.Set
import HandS.Strs
import HandS.SetFor
import PyProof.Rows.SortShellAny
import HandS.Replace
import KE.KOpsOwn
import HandS.ForExc
import HandS.TryMany
import HandS.TryOnly
import HandS.ExcSuper
import HandS.ExcOwn
import HandS.Defaults
import HandS.DictComp
import HandS.RaiseMore
import HandS.ListEq
import HandS.DeepEq
import HandS.Iter
import KE.GoesMore
import HandS.ExcIs
import HandS.MakeKw
import PyProof.InstEq
import OpenK.KOps
import HandS.OwnEq
import KE.GoesRaise
import HandS.FStr
import HandS.Deep
import PyProof.StrOps2
import PySem.Challenge.RW_tworows_k87_small_shapes_and_tests
set_option Elab.async false
set_option linter.all false
set_option maxRecDepth 100000
set_option maxHeartbeats 4000000
namespace Tw
open PySem L2

/-! ### a def of the text with its promise -/
structure Def (P : Program) (w : World) (K : PySem.W.Frag) (mg : Str → Option Value) (base : Heap) (k : Nat) (x : Str) (ps : List Str) (sp : Sp) : Prop where
  ex : ∃ (f : Addr) (fd : FuncData), FnOk P w K mg base CX0 k f fd ps sp ∧ mg x = some (.ref f) ∧ PySem.W.keepIn K (.ref f) = true ∧ Binds K fd ps []
/-- where a def of the text stands -/
structure Here (K : PySem.W.Frag) (mg : Str → Option Value) (x : Str) (st : Stmt) (ps : List Str) (f : Addr) (fd : FuncData) : Prop where
  fn : Fun K x x st f fd
  mg : mg x = some (.ref f)
  bd : Binds K fd ps []
section
variable {X : Cx} {k j : Nat} {x : Str} {p pos : Pos} {e : Expr} {es : List Expr} {ps : List Str} {sp : Sp} {t : TA}
theorem Here.def {P : Program} {w : World} {K : PySem.W.Frag} {mg : Str → Option Value} {base : Heap} {st : Stmt} {f : Addr} {fd : FuncData} (h : Here K mg x st ps f fd) (F : FnOk P w K mg base CX0 k f fd ps sp) : Def P w K mg base k x ps sp :=
  ⟨f, fd, F, h.mg, h.fn.kp, h.bd⟩
def tDef (sp : Sp) (t : TA) : TE := fun σ H Q => t σ H fun vs H1 => sp vs H1 Q E0
theorem tDef_eq {sp : Sp} {t : TA} : tCall sp [] E0 t = tDef sp t := by
  funext σ H Q
  unfold tCall tDef
  simp only [List.append_nil]
theorem pe_def (D : Def X.prog X.w X.K X.mg X.base k x ps sp) (hr : Room j X.A) (hg : Gl X x) (ha : PA X (e :: es) t) (hk : k ≤ j := by decide) (hdb : (x == ("__debug__" : Str)) = false := by decide)
    (he : starEach (e :: es) X.env = (false, eval e X.env) :: starEach es X.env := by rfl) (hpl : (backTo pos (starEach es X.env)).any (·.1) = false := by rfl) : PE X (.Call (.Name x p) (e :: es) [] pos) (tDef sp t) := by
  obtain ⟨f, fd, F, hm, hkp, hb⟩ := D.ex
  rw [← tDef_eq]
  exact pe_call F (hr.mono hk) hg hm hkp hb .nil pass0 ha hdb he hpl
theorem pe_def0 (D : Def X.prog X.w X.K X.mg X.base k x ps sp) (hr : Room j X.A) (hg : Gl X x) (hk : k ≤ j := by decide) (hdb : (x == ("__debug__" : Str)) = false := by decide) : PE X (.Call (.Name x p) [] [] pos) (tDef sp tNil) := by
  obtain ⟨f, fd, F, hm, hkp, hb⟩ := D.ex
  rw [← tDef_eq]
  exact pe_call0 F (hr.mono hk) hg hm hkp hb .nil pass0 hdb
end

/-! ### operators for values of any kind -/
def rStr2 (C : Str → Str → Prop) (g : Str → Str → V) : R2 := fun x y H Q => ∃ i j, x = .str i ∧ y = .str j ∧ C i j ∧ Q (g i j) H
def rAddG : R2 := fun x y H Q => (∃ i j, x = .int i ∧ y = .int j ∧ Q (.int (i + j)) H) ∨ (∃ i j, x = .str i ∧ y = .str j ∧ i.length + j.length ≤ sizeLine ∧ Q (.str (i ++ j)) H) ∨ rCat x y H Q
def rLtG : R2 := fun x y H Q => (∃ i j, x = .int i ∧ y = .int j ∧ Q (.bl (decide (i < j))) H) ∨ ∃ i j, x = .str i ∧ y = .str j ∧ Q (.bl (decide (i.cps.toList < j.cps.toList))) H
def CPowG (i j : Int) : Prop := 0 ≤ j ∧ (Builtin.Int.intBits i : Int) * j ≤ 2 ^ 27
section
variable {X : Cx} {H : Hp} {Q : VK}
theorem op_addG : OpR X (binaryOp .Add) rAddG := op_add.or (op_add_str.or op_cat)
theorem op_ltG : OpR X (compareOp .Lt) rLtG := op_lt.or op_lt_str
theorem op_powG : OpR X (binaryOp .Pow) (rI CPowG fun i j => .int (i ^ j.toNat)) := opI fun _ _ _ _ _ _ _ hc q => PyProof.Rows.pow_int hc.1 hc.2 q
def rFdG : R2 := rI CDivW fun i j => .int (i / j)
theorem op_fdG : OpR X (binaryOp .FloorDiv) rFdG := op_fdivW
def rModG : R2 := rI (fun _ j => 0 < j) fun i j => .int (i % j)
theorem op_modG : OpR X (binaryOp .Mod) rModG := op_mod
def rSubG : R2 := rI0 fun i j => .int (i - j)
theorem op_subG : OpR X (binaryOp .Sub) rSubG := op_sub
def rMulG : R2 := rI CMul fun i j => .int (i * j)
theorem op_mulG : OpR X (binaryOp .Mult) rMulG := op_mul
def rPowG : R2 := rI CPowG fun i j => .int (i ^ j.toNat)
theorem op_powG' : OpR X (binaryOp .Pow) rPowG := op_powG
def rLeG : R2 := rI0 fun i j => .bl (decide (i ≤ j))
theorem op_leG : OpR X (compareOp .LtE) rLeG := op_le
def rGtG : R2 := rI0 fun i j => .bl (decide (j < i))
theorem op_gtG : OpR X (compareOp .Gt) rGtG := op_gt
def rGeG : R2 := fun x y H Q => (rI0 fun i j => .bl (decide (j ≤ i))) x y H Q ∨ ∃ i j, x = .str i ∧ y = .str j ∧ Q (.bl (!decide (i.cps.toList < j.cps.toList))) H
theorem op_geG : OpR X (compareOp .GtE) rGeG := op_ge.or op_ge_str
def rIsNG : R2 := fun x y H Q => y = .non ∧ Q (.bl (decide (x = .non))) H
theorem op_isNG : OpR X (compareOp .Is) rIsNG := op_isN
def rNotNG : R2 := fun x y H Q => y = .non ∧ Q (.bl (!decide (x = .non))) H
theorem op_notNG : OpR X (compareOp .IsNot) rNotNG := op_notN
def rNegG : V → Hp → VK → Prop := rU fun i => .int (-i)
theorem un_negG : UnR X (unaryOp .USub) rNegG := un_neg
/-! rules that hang on the written part, the part told by a letter (so that they stand in a comprehension's block, too) -/
def rLenG (K : PySem.W.Frag) : List V → Hp → VK → Prop := fun xs H Q => ∃ x n, xs = [x] ∧ LenV K x H n ∧ Q (.int n) H
theorem call_lenG {K : PySem.W.Frag} (h : X.K = K) : CallR X (.builtin "len") (rLenG K) := by subst h; exact call_len
theorem ix_seqG {K : PySem.W.Frag} (h : X.K = K) : IxR X (rIx K) := by subst h; exact ix_seq
theorem call_isiG {K : PySem.W.Frag} (h : X.K = K) : CallR X (.builtin "isinstance") (rIsi K) := by subst h; exact call_isi
theorem sl_listG {K : PySem.W.Frag} (h : X.K = K) : SlR X (rSlL K) := by subst h; exact sl_list
def rSlG (K : PySem.W.Frag) : V → Option Int → Option Int → Hp → VK → Prop := fun x lo hi H Q => rSlL K x lo hi H Q ∨ (L2.rSlS x lo hi H Q ∨ rSlT K x lo hi H Q)
theorem sl_G {K : PySem.W.Frag} (h : X.K = K) : SlR X (rSlG K) := by subst h; exact sl_list.or (sl_str.or sl_tup)
def rInSign : R2 := fun x y H Q => ∃ (c : Nat) (z : Str), x = .str ⟨#[c]⟩ ∧ y = .str z ∧ Q (.bl (decide (c ∈ z.cps.toList))) H
def rNotInSign : R2 := fun x y H Q => ∃ (c : Nat) (z : Str), x = .str ⟨#[c]⟩ ∧ y = .str z ∧ Q (.bl (!decide (c ∈ z.cps.toList))) H
def rInG (K : PySem.W.Frag) : R2 := fun x y H Q => rInSign x y H Q ∨ rIn K false x y H Q
def rNotInG (K : PySem.W.Frag) : R2 := fun x y H Q => rNotInSign x y H Q ∨ rIn K true x y H Q
theorem op_inG {K : PySem.W.Frag} (h : X.K = K) : OpR X (compareOp .In) (rInG K) := by subst h; exact (show OpR X (compareOp .In) rInSign from op_in_sign).or op_in_seq
theorem op_notInG {K : PySem.W.Frag} (h : X.K = K) : OpR X (compareOp .NotIn) (rNotInG K) := by subst h; exact (show OpR X (compareOp .NotIn) rNotInSign from op_notIn_sign).or op_notIn_seq
def rMax2 : List V → Hp → VK → Prop := fun xs H Q => ∃ i j, xs = [.int i, .int j] ∧ Q (.int (if j > i then j else i)) H
theorem call_max2G (h : X.calm = true) : CallR X (.builtin "max") rMax2 := call_max2 h
def rGeS : R2 := fun x y H Q => ∃ i j, x = .str i ∧ y = .str j ∧ Q (.bl (!decide (i.cps.toList < j.cps.toList))) H
def rIsBl : R2 := fun x y H Q => ∃ a b, x = .bl a ∧ y = .bl b ∧ Q (.bl (decide (a = b))) H
def rNotBl : R2 := fun x y H Q => ∃ a b, x = .bl a ∧ y = .bl b ∧ Q (.bl (!decide (a = b))) H
theorem op_isBl : OpR X (compareOp .Is) rIsBl := op_is_bl
theorem op_notBl : OpR X (compareOp .IsNot) rNotBl := op_isnot_bl
def rListG (K : PySem.W.Frag) : List V → Hp → VK → Prop := fun xs H Q => ∃ p ys, xs = [.ref p] ∧ (SqL K H p ys ∨ SqT K H p ys) ∧ ∀ l, H l = none → Q (.ref l) (upd H l (.lst ys))
theorem call_listG {K : PySem.W.Frag} (h : X.K = K) : CallR X (.type "list") (rListG K) := by subst h; exact call_list_of
def rIntG : List V → Hp → VK → Prop := fun xs H Q => (∃ i, xs = [.int i] ∧ Q (.int i) H) ∨ ∃ k, xs = [.bl k] ∧ Q (.int (if k then 1 else 0)) H
theorem call_intG : CallR X (.type "int") rIntG := call_int1
def rBoolG : List V → Hp → VK → Prop := fun xs H Q => (∃ i, xs = [.int i] ∧ Q (.bl (i != 0)) H) ∨ ∃ k, xs = [.bl k] ∧ Q (.bl k) H
theorem call_boolG : CallR X (.type "bool") rBoolG := call_bool1
def rJoinG (K : PySem.W.Frag) : V → List V → Hp → VK → Prop := fun x xs H Q => ∃ a p, ∃ ys : List Str, x = .str a ∧ xs = [.ref p] ∧ (SqL K H p (ys.map V.str) ∨ SqT K H p (ys.map V.str)) ∧
    (ys.map (·.length)).sum + ys.length * a.length ≤ 16777216 ∧ Q (.str (PySem.Txt.join a ys)) H
theorem mt_joinG {K : PySem.W.Frag} (h : X.K = K) : MtR X "str.join" (rJoinG K) := by subst h; exact mt_join
/-- is True, is False: of bools -/
def rIsB : R2 := fun x y H Q => ∃ i j, x = .bl i ∧ y = .bl j ∧ Q (.bl (decide (i = j))) H
end

/-- what is wanted behind a statement, in a word that is no constructor -/
def mkE (nx : L2.St → Hp → Prop) (rt : VK) (bk ct : L2.St → Hp → Prop) : Ends := ⟨nx, rt, bk, ct⟩
theorem Fun.okM {P : Program} {w : World} {K : PySem.W.Frag} {mg : Str → Option Value} {base : Heap} {x qual : Str} {st : Stmt} {f : Addr} {fd : FuncData} {N ps : List Str} {k : Nat} {sp : Sp} (F : Fun K x qual st f fd) (S : FnScope N ps (defScope st)) (len : ∀ vs H Q E, sp vs H Q E → vs.length = ps.length)
    (hbody : ∀ (cdv : Value) (A : Around) (outer : List Env) (s : Shared) (H : Hp) (vs : List V) (Q : VK) (E : XK), Room k (A.deeper (PyProof.Rows.envOfC qual (defScope st) s.heap.objs.size f cdv)) → sp vs H Q E →
      ∃ t, PSs (cxOf CX0 P w K mg base N qual (defScope st) f cdv A outer s H E).nox (defBody st) t ∧ t (mkE (fun _ H' => Q .non H') Q (fun _ _ => False) (fun _ _ => False)) (L2.start N vs) H) : FnOk P w K mg base CX0 (k + 1) f fd ps sp := F.ok S len hbody
/-! ### readings, step by step -/
section
variable {K : PySem.W.Frag} {σ : L2.St} {H : Hp} {Q : VK} {QT : Bool → Hp → Prop} {QA : List V → Hp → Prop} {D : Ends} {ta tb te : TE} {tr t : TA} {u c : TT} {ts tz : TS} {x y v : V} {a b : Bool} {i j : Int}
theorem g_var {n : Nat} (h : σ[n]? = some (some v)) (q : Q v H) : tVar n σ H Q := ⟨v, h, q⟩
theorem g_var0 {n : Nat} (q : ∃ v, σ[n]? = some (some v) ∧ Q v H) : tVar n σ H Q := q
theorem g_c (q : Q v H) : tC v σ H Q := q
theorem g_op {r : R2} (q : ta σ H fun x H1 => tb σ H1 fun y H2 => r x y H2 Q) : tOp r ta tb σ H Q := q
theorem g_un {r : V → Hp → VK → Prop} (q : ta σ H fun x H1 => r x H1 Q) : tUn r ta σ H Q := q
theorem g_nil (q : QA [] H) : tNil σ H QA := q
theorem g_cons (q : ta σ H fun x H1 => tr σ H1 fun xs H2 => QA (x :: xs) H2) : tCons ta tr σ H QA := q
theorem g_def {sp : Sp} (q : t σ H fun vs H1 => sp vs H1 Q E0) : tDef sp t σ H Q := q
theorem g_cb {r : List V → Hp → VK → Prop} (q : t σ H fun vs H1 => r vs H1 Q) : tCB r t σ H Q := q
theorem g_tup (q : t σ H fun xs H1 => xs.length ≤ sizeLine ∧ ∀ p, H1 p = none → Q (.ref p) (upd H1 p (.tup xs))) : tTup t σ H Q := q
theorem g_lst (q : t σ H fun xs H1 => xs.length ≤ sizeLine ∧ ∀ p, H1 p = none → Q (.ref p) (upd H1 p (.lst xs))) : tLst t σ H Q := q
theorem g_addI (q : Q (.int (i + j)) H) : rAddG (.int i) (.int j) H Q := .inl ⟨i, j, rfl, rfl, q⟩
theorem g_addS {z w : Str} (h : z.length + w.length ≤ sizeLine) (q : Q (.str (z ++ w)) H) : rAddG (.str z) (.str w) H Q := .inr (.inl ⟨z, w, rfl, rfl, h, q⟩)
theorem g_subI (q : Q (.int (i - j)) H) : rSubG (.int i) (.int j) H Q := ⟨i, j, rfl, rfl, q⟩
theorem g_mulI (h : CMul i j) (q : Q (.int (i * j)) H) : rMulG (.int i) (.int j) H Q := ⟨i, j, rfl, rfl, h, q⟩
theorem g_powI (h : CPowG i j) (q : Q (.int (i ^ j.toNat)) H) : rPowG (.int i) (.int j) H Q := ⟨i, j, rfl, rfl, h, q⟩
theorem g_modI (h : 0 < j) (q : Q (.int (i % j)) H) : rModG (.int i) (.int j) H Q := ⟨i, j, rfl, rfl, h, q⟩
theorem g_fdI (h : CDivW i j) (q : Q (.int (i / j)) H) : rFdG (.int i) (.int j) H Q := ⟨i, j, rfl, rfl, h, q⟩
theorem g_negI (q : Q (.int (-i)) H) : rNegG (.int i) H Q := ⟨i, rfl, q⟩
theorem g_ltI (q : Q (.bl (decide (i < j))) H) : rLtG (.int i) (.int j) H Q := .inl ⟨i, j, rfl, rfl, q⟩
theorem g_ltS {z w : Str} (q : Q (.bl (decide (z.cps.toList < w.cps.toList))) H) : rLtG (.str z) (.str w) H Q := .inr ⟨z, w, rfl, rfl, q⟩
theorem g_leI (q : Q (.bl (decide (i ≤ j))) H) : rLeG (.int i) (.int j) H Q := ⟨i, j, rfl, rfl, q⟩
theorem g_gtI (q : Q (.bl (decide (j < i))) H) : rGtG (.int i) (.int j) H Q := ⟨i, j, rfl, rfl, q⟩
theorem g_geI (q : Q (.bl (decide (j ≤ i))) H) : rGeG (.int i) (.int j) H Q := .inl ⟨i, j, rfl, rfl, q⟩
theorem g_geS {z w : Str} (q : Q (.bl (!decide (z.cps.toList < w.cps.toList))) H) : rGeG (.str z) (.str w) H Q := .inr ⟨z, w, rfl, rfl, q⟩
theorem g_slL {p : Addr} {xs : List V} {lo hi : Option Int} (h : SqL K H p xs) (q : ∀ l, H l = none → Q (.ref l) (upd H l (.lst (cutV xs lo hi)))) : rSlG K (.ref p) lo hi H Q := .inl ⟨p, xs, rfl, h, q⟩
theorem g_slS {z : Str} {lo hi : Option Int} (h : z.length ≤ sizeLine) (q : Q (.str (cutS z lo hi)) H) : rSlG K (.str z) lo hi H Q := .inr (.inl ⟨z, rfl, h, q⟩)
theorem g_inS {n : Nat} {z : Str} (q : Q (.bl (decide (n ∈ z.cps.toList))) H) : rInG K (.str ⟨#[n]⟩) (.str z) H Q := .inl ⟨n, z, rfl, rfl, q⟩
theorem g_notInS {n : Nat} {z : Str} (q : Q (.bl (!decide (n ∈ z.cps.toList))) H) : rNotInG K (.str ⟨#[n]⟩) (.str z) H Q := .inl ⟨n, z, rfl, rfl, q⟩
theorem g_max2 (q : Q (.int (if j > i then j else i)) H) : rMax2 [.int i, .int j] H Q := ⟨i, j, rfl, q⟩
theorem g_isBl_tt (q : Q (.bl true) H) : rIsBl (.bl true) (.bl true) H Q := ⟨true, true, rfl, rfl, q⟩
theorem g_notBl_tt (q : Q (.bl false) H) : rNotBl (.bl true) (.bl true) H Q := ⟨true, true, rfl, rfl, q⟩
theorem g_isBl_tf (q : Q (.bl false) H) : rIsBl (.bl true) (.bl false) H Q := ⟨true, false, rfl, rfl, q⟩
theorem g_notBl_tf (q : Q (.bl true) H) : rNotBl (.bl true) (.bl false) H Q := ⟨true, false, rfl, rfl, q⟩
theorem g_isBl_ft (q : Q (.bl false) H) : rIsBl (.bl false) (.bl true) H Q := ⟨false, true, rfl, rfl, q⟩
theorem g_notBl_ft (q : Q (.bl true) H) : rNotBl (.bl false) (.bl true) H Q := ⟨false, true, rfl, rfl, q⟩
theorem g_isBl_ff (q : Q (.bl true) H) : rIsBl (.bl false) (.bl false) H Q := ⟨false, false, rfl, rfl, q⟩
theorem g_notBl_ff (q : Q (.bl false) H) : rNotBl (.bl false) (.bl false) H Q := ⟨false, false, rfl, rfl, q⟩
theorem g_isBl (q : Q (.bl (decide (a = b))) H) : rIsBl (.bl a) (.bl b) H Q := ⟨a, b, rfl, rfl, q⟩
theorem g_notBl (q : Q (.bl (!decide (a = b))) H) : rNotBl (.bl a) (.bl b) H Q := ⟨a, b, rfl, rfl, q⟩
theorem g_istr {R : It → Hp → Prop} (q : ta σ H fun v H1 => ∃ x, v = .str x ∧ R (Its x) H1) : iStr ta σ H R := q
theorem g_str1 {p : Str → Prop} {z : Str} (q : p z) : ∃ x, V.str z = .str x ∧ p x := ⟨z, rfl, q⟩
theorem g_strE {z : Str} {R : Prop} (q : R) : (∃ a, V.str z = .str a) ∧ R := ⟨⟨z, rfl⟩, q⟩
theorem g_isN (q : Q (.bl (decide (x = .non))) H) : rIsNG x .non H Q := ⟨rfl, q⟩
theorem g_notN (q : Q (.bl (!decide (x = .non))) H) : rNotNG x .non H Q := ⟨rfl, q⟩
theorem g_isN_non (q : Q (.bl true) H) : rIsNG .non .non H Q := ⟨rfl, by rw [decide_eq_true rfl]; exact q⟩
theorem g_isN_int (q : Q (.bl false) H) : rIsNG (.int i) .non H Q := ⟨rfl, by rw [decide_eq_false (fun z => nomatch z)]; exact q⟩
theorem g_isN_str {z : Str} (q : Q (.bl false) H) : rIsNG (.str z) .non H Q := ⟨rfl, by rw [decide_eq_false (fun z => nomatch z)]; exact q⟩
theorem g_isN_bl (q : Q (.bl false) H) : rIsNG (.bl a) .non H Q := ⟨rfl, by rw [decide_eq_false (fun z => nomatch z)]; exact q⟩
theorem g_isN_ref {p : Addr} (q : Q (.bl false) H) : rIsNG (.ref p) .non H Q := ⟨rfl, by rw [decide_eq_false (fun z => nomatch z)]; exact q⟩
theorem g_notN_non (q : Q (.bl false) H) : rNotNG .non .non H Q := ⟨rfl, by rw [decide_eq_true rfl]; exact q⟩
theorem g_notN_int (q : Q (.bl true) H) : rNotNG (.int i) .non H Q := ⟨rfl, by rw [decide_eq_false (fun z => nomatch z)]; exact q⟩
theorem g_notN_str {z : Str} (q : Q (.bl true) H) : rNotNG (.str z) .non H Q := ⟨rfl, by rw [decide_eq_false (fun z => nomatch z)]; exact q⟩
theorem g_notN_bl (q : Q (.bl true) H) : rNotNG (.bl a) .non H Q := ⟨rfl, by rw [decide_eq_false (fun z => nomatch z)]; exact q⟩
theorem g_notN_ref {p : Addr} (q : Q (.bl true) H) : rNotNG (.ref p) .non H Q := ⟨rfl, by rw [decide_eq_false (fun z => nomatch z)]; exact q⟩
theorem g_Tn {A B : Prop} (h : B) : if (!true) = true then A else B := by rw [if_neg (by decide)]; exact h
theorem g_Fn {A B : Prop} (h : A) : if (!false) = true then A else B := by rw [if_pos (by decide)]; exact h
theorem dI (i j : Int) : decide (V.int i = V.int j) = decide (i = j) := by
  by_cases h : i = j
  · subst h; simp
  · rw [decide_eq_false h]; exact decide_eq_false fun z => h (V.int.inj z)
theorem dS (i j : Str) : decide (V.str i = V.str j) = decide (i = j) := by
  by_cases h : i = j
  · subst h; simp
  · rw [decide_eq_false h]; exact decide_eq_false fun z => h (V.str.inj z)
theorem dB (i j : Bool) : decide (V.bl i = V.bl j) = decide (i = j) := by
  by_cases h : i = j
  · subst h; simp
  · rw [decide_eq_false h]; exact decide_eq_false fun z => h (V.bl.inj z)
theorem g_eqI (q : Q (.bl (decide (i = j))) H) : rEq (.int i) (.int j) H Q := ⟨rfl, by rw [dI]; exact q⟩
theorem g_eqS {z w : Str} (q : Q (.bl (decide (z = w))) H) : rEq (.str z) (.str w) H Q := ⟨rfl, by rw [dS]; exact q⟩
theorem g_eqB (q : Q (.bl (decide (a = b))) H) : rEq (.bl a) (.bl b) H Q := ⟨rfl, by rw [dB]; exact q⟩
theorem g_neI (q : Q (.bl (!decide (i = j))) H) : rNe (.int i) (.int j) H Q := ⟨rfl, by rw [dI]; exact q⟩
theorem g_neS {z w : Str} (q : Q (.bl (!decide (z = w))) H) : rNe (.str z) (.str w) H Q := ⟨rfl, by rw [dS]; exact q⟩
theorem g_int1 (q : Q (.int i) H) : rIntG [V.int i] H Q := .inl ⟨i, rfl, q⟩
theorem g_int1B (q : Q (.int (if a then 1 else 0)) H) : rIntG [V.bl a] H Q := .inr ⟨a, rfl, q⟩
theorem g_bool1B (q : Q (.bl a) H) : rBoolG [V.bl a] H Q := .inr ⟨a, rfl, q⟩
theorem g_bool1I (q : Q (.bl (i != 0)) H) : rBoolG [V.int i] H Q := .inl ⟨i, rfl, q⟩
theorem g_ixL {p : Addr} {xs : List V} (h : SqL K H p xs) (e : atI xs i = some v) (q : Q v H) : rIx K (.ref p) (.int i) H Q := .inl ⟨p, xs, i, v, rfl, rfl, h, e, q⟩
theorem g_ixL0 {p : Addr} (q : ∃ xs v, H p = some (.lst xs) ∧ atI xs i = some v ∧ Q v H) : rIx K (.ref p) (.int i) H Q := by
  obtain ⟨xs, v, h, e, q⟩ := q
  exact g_ixL (SqL.of h) e q
theorem g_lenL0 {p : Addr} (q : ∃ xs, H p = some (.lst xs) ∧ Q (.int (xs.length : Int)) H) : rLenG K [.ref p] H Q := by
  obtain ⟨xs, h, q⟩ := q
  exact ⟨_, _, rfl, .inl ⟨xs, SqL.of h, rfl⟩, q⟩
theorem g_setL0 {p : Addr} {QH : Hp → Prop} (q : ∃ xs n, H p = some (.lst xs) ∧ ixN xs.length i = some n ∧ QH (upd H p (.lst (xs.set n v)))) : rSetL (.ref p) (.int i) v H QH := by
  obtain ⟨xs, n, h, e, q⟩ := q
  exact ⟨p, xs, i, n, rfl, rfl, h, e, q⟩
theorem g_ixT {p : Addr} {xs : List V} (h : SqT K H p xs) (e : atI xs i = some v) (q : Q v H) : rIx K (.ref p) (.int i) H Q := .inr (.inl ⟨p, xs, i, v, rfl, rfl, h, e, q⟩)
theorem g_ixS {z : Str} {n : Nat} (h : z.length ≤ sizeLine) (e : atI z.cps.toList i = some n) (q : Q (.str ⟨#[n]⟩) H) : rIx K (.str z) (.int i) H Q := .inr (.inr ⟨z, i, n, rfl, rfl, h, e, q⟩)
theorem g_lenL {p : Addr} {xs : List V} (h : SqL K H p xs) (q : Q (.int (xs.length : Int)) H) : rLenG K [.ref p] H Q := ⟨_, _, rfl, .inl ⟨xs, h, rfl⟩, q⟩
theorem g_lenT {p : Addr} {xs : List V} (h : SqT K H p xs) (q : Q (.int (xs.length : Int)) H) : rLenG K [.ref p] H Q := ⟨_, _, rfl, .inr ⟨xs, h, rfl⟩, q⟩
theorem g_lenS {z : Str} (h : z.length ≤ sizeLine) (q : Q (.int (z.length : Int)) H) : rLenG K [.str z] H Q := ⟨_, _, rfl, ⟨h, rfl⟩, q⟩
theorem g_list {p : Addr} {xs : List V} (h : SqL K H p xs) (q : ∀ l, H l = none → Q (.ref l) (upd H l (.lst xs))) : rListG K [.ref p] H Q := ⟨p, xs, rfl, .inl h, q⟩
theorem g_join {z : Str} {p : Addr} {ys : List Str} (h : SqL K H p (ys.map V.str)) (hz : (ys.map (·.length)).sum + ys.length * z.length ≤ 16777216) (q : Q (.str (PySem.Txt.join z ys)) H) : rJoinG K (.str z) [.ref p] H Q :=
  ⟨z, p, ys, rfl, rfl, .inl h, hz, q⟩
/-- the kind of a value, by its form -/
def kindS : V → String
  | .non => "NoneType" | .bl _ => "bool" | .int _ => "int" | .str _ => "str" | .flt _ => "float" | _ => ""
theorem g_isi {c : String} (ty : TyX K H x (.type n)) (h : kitB n c = some b) (q : Q (.bl b) H) : rIsi K [x, .ty c] H Q := ⟨x, .ty c, .type n, .type c, b, rfl, .ty c, ty, kit_ty h, q⟩
theorem g_isiI {c : String} (h : kitB "int" c = some b) (q : Q (.bl b) H) : rIsi K [.int i, .ty c] H Q := g_isi (.base (.int i)) h q
theorem g_isiS {c : String} {z : Str} (h : kitB "str" c = some b) (q : Q (.bl b) H) : rIsi K [.str z, .ty c] H Q := g_isi (.base (.str z)) h q
theorem g_isiB {c : String} (h : kitB "bool" c = some b) (q : Q (.bl b) H) : rIsi K [.bl a, .ty c] H Q := g_isi (.base (.bl a)) h q
theorem g_isiN {c : String} (h : kitB "NoneType" c = some b) (q : Q (.bl b) H) : rIsi K [.non, .ty c] H Q := g_isi (.base .non) h q
theorem kb_ii : kitB "int" "int" = some true := by decide +kernel
theorem kb_is : kitB "int" "str" = some false := by decide +kernel
theorem kb_ib : kitB "int" "bool" = some false := by decide +kernel
theorem kb_si : kitB "str" "int" = some false := by decide +kernel
theorem kb_ss : kitB "str" "str" = some true := by decide +kernel
theorem kb_sb : kitB "str" "bool" = some false := by decide +kernel
theorem kb_bi : kitB "bool" "int" = some true := by decide +kernel
theorem kb_bs : kitB "bool" "str" = some false := by decide +kernel
theorem kb_bb : kitB "bool" "bool" = some true := by decide +kernel
theorem kb_ni : kitB "NoneType" "int" = some false := by decide +kernel
theorem kb_ns : kitB "NoneType" "str" = some false := by decide +kernel
theorem kb_nb : kitB "NoneType" "bool" = some false := by decide +kernel
theorem g_sl {r : V → Option Int → Option Int → Hp → VK → Prop} {tl th : TO} (q : te σ H fun x H1 => tl σ H1 fun l H2 => th σ H2 fun u H3 => r x l u H3 Q) : tSl r te tl th σ H Q := q
theorem g_noPart {QO : Option Int → Hp → Prop} (q : QO none H) : tNoPart σ H QO := q
theorem g_part {QO : Option Int → Hp → Prop} (q : te σ H fun x H1 => ∃ i, x = .int i ∧ QO (some i) H1) : tPart te σ H QO := q
theorem g_int {p : Int → Prop} (q : p i) : ∃ k, V.int i = .int k ∧ p k := ⟨i, rfl, q⟩
theorem g_m1 {r : V → List V → Hp → VK → Prop} (q : ta σ H fun x H1 => (∃ a, x = .str a) ∧ tb σ H1 fun y H2 => r x [y] H2 Q) : tM1 r ta tb σ H Q := q
theorem g_m0 {r : V → List V → Hp → VK → Prop} (q : ta σ H fun x H1 => (∃ a, x = .str a) ∧ r x [] H1 Q) : tM0 r ta σ H Q := q
theorem g_lc {wi : TI} {g : TG} {tt : TT} {vs : List Nat} (q : wi σ H fun J H1 => ∀ D, H1 D = none → ∃ W : Nat → Nat → Hp → Prop, (∃ m, W 0 m (upd H1 D (.lst []))) ∧ ∀ i m H, W i m H →
  (J.stop i H ∧ Q (.ref D) H) ∨ (J.go i H ∧ ∃ Nx : Hp → Prop, (∀ H', Nx H' → ∃ m', m' < m ∧ W (i + 1) m' H') ∧ ∀ x H', J.yld i H x H' → g x (wipe σ vs) H' fun σ2 H2 => wipe σ2 vs = wipe σ vs ∧ tt σ2 H2 fun b H3 =>
    if b = true then te σ2 H3 fun y H4 => ∃ acc, H4 D = some (.lst acc) ∧ acc.length < sizeLine ∧ Nx (upd H4 D (.lst (acc ++ [y]))) else Nx H3)) : tLc wi g tt te vs σ H Q := q
theorem g_rng1 {R : It → Hp → Prop} (q : t σ H fun vs H1 => ∃ j : Int, vs = [.int j] ∧ -(2 ^ 62) ≤ j ∧ j < 2 ^ 62 ∧ R (Itr 0 j.toNat) H1) : iRng1 t σ H R := q
theorem g_ilist {R : It → Hp → Prop} (q : ta σ H fun x H1 => ∃ a, x = .ref a ∧ (∃ xs, SqL K H1 a xs) ∧ R (Itl K a) H1) : iList K ta σ H R := q
theorem g_for {wi : TI} {g : TG} (q : wi σ H fun J H1 => ∃ W : Nat → Nat → L2.St → Hp → Prop, (∃ m, W 0 m σ H1) ∧ ∀ i m σ H, W i m σ H →
  (J.stop i H ∧ D.nx σ H) ∨ (J.go i H ∧ ∃ N : L2.St → Hp → Prop, (∀ σ' H', N σ' H' → ∃ m', m' < m ∧ W (i + 1) m' σ' H') ∧ ∀ x H', J.yld i H x H' → g x σ H' fun σ2 H2 => ts { D with nx := N, ct := N, bk := D.nx } σ2 H2)) : tFor wi g ts D σ H := q
theorem g_cut {M : L2.St → Hp → Prop} (h : ts (mkE M D.rt D.bk D.ct) σ H) (k : ∀ σ' H', M σ' H' → tz D σ' H') : Evl.tCut ts tz D σ H := ⟨M, h, k⟩
theorem g_yes (q : QT true H) : tYes σ H QT := q
/-- a comprehension over a text whose turns leave the heap -/
theorem lc_text {z : Str} {g : TG} {tt : TT} {vs : List Nat} {H1 : Hp} {Dl : Addr} {Qd : Hp → Prop} (f : Nat → Bool) (v : Nat → V) (hz : z.length ≤ 1000000)
    (hs : ∀ (n : Nat) (Hh : Hp) (R : V → Hp → Prop) (S : Hp → Prop), n ∈ z.cps.toList → (∀ p o, p ≠ Dl → H1 p = some o → Hh p = some o) → (f n = true → R (v n) Hh) → (f n = false → S Hh) →
      g (.str ⟨#[n]⟩) (wipe σ vs) Hh fun σ2 H2 => wipe σ2 vs = wipe σ vs ∧ tt σ2 H2 fun b H3 => if b = true then te σ2 H3 R else S H3)
    (hd : ∀ H, (∀ p o, p ≠ Dl → H1 p = some o → H p = some o) → H Dl = some (.lst ((z.cps.toList.filter f).map v)) → Qd H) :
    ∃ W : Nat → Nat → Hp → Prop, (∃ m, W 0 m (upd H1 Dl (.lst []))) ∧ ∀ i m H, W i m H →
      ((Its z).stop i H ∧ Qd H) ∨ ((Its z).go i H ∧ ∃ Nx : Hp → Prop, (∀ H', Nx H' → ∃ m', m' < m ∧ W (i + 1) m' H') ∧ ∀ x H', (Its z).yld i H x H' → g x (wipe σ vs) H' fun σ2 H2 => wipe σ2 vs = wipe σ vs ∧ tt σ2 H2 fun b H3 =>
        if b = true then te σ2 H3 fun y H4 => ∃ acc, H4 Dl = some (.lst acc) ∧ acc.length < sizeLine ∧ Nx (upd H4 Dl (.lst (acc ++ [y]))) else Nx H3) := by
  have hsz : z.cps.size = z.cps.toList.length := Array.length_toList.symm
  refine ⟨fun i m H => m = z.cps.size - i ∧ i ≤ z.cps.size ∧ H Dl = some (.lst (((z.cps.toList.take i).filter f).map v)) ∧ ∀ p o, p ≠ Dl → H1 p = some o → H p = some o, ⟨z.cps.size, by simp, Nat.zero_le _, upd_same, fun p o n h => by rw [upd_ne n]; exact h⟩, ?_⟩
  rintro i m H ⟨rfl, hi, hD, hK⟩
  by_cases hlt : i < z.cps.size
  · refine .inr ⟨hlt, fun H' => H' Dl = some (.lst (((z.cps.toList.take (i + 1)).filter f).map v)) ∧ ∀ p o, p ≠ Dl → H1 p = some o → H' p = some o, fun H' w => ⟨z.cps.size - (i + 1), by omega, rfl, hlt, w⟩, ?_⟩
    rintro x H' ⟨rfl, n, hn, rfl⟩
    have hn' : z.cps.toList[i]? = some n := by rw [Array.getElem?_toList]; exact hn
    have e1 : z.cps.toList.take (i + 1) = z.cps.toList.take i ++ [n] := by rw [List.take_succ, hn']; rfl
    refine hs n H' _ _ (List.mem_of_getElem? hn') hK (fun hf => ?_) (fun hf => ?_)
    · refine ⟨_, hD, ?_, ?_, fun p o n h => by rw [upd_ne n]; exact hK p o n h⟩
      · rw [List.length_map, sizeLine_eq]
        have h1 := List.length_filter_le f (z.cps.toList.take i)
        have h2 : (z.cps.toList.take i).length ≤ z.cps.toList.length := by rw [List.length_take]; omega
        have h3 : z.cps.toList.length ≤ 1000000 := by rw [← hsz]; exact hz
        omega
      · rw [upd_same, e1, List.filter_append, List.filter_cons, if_pos hf, List.map_append]; rfl
    · refine ⟨?_, hK⟩
      rw [hD, e1, List.filter_append, List.filter_cons, if_neg (by rw [hf]; exact Bool.false_ne_true)]
      simp
  · have e : i = z.cps.size := by omega
    subst e
    refine .inl ⟨Nat.le_refl _, hd H hK ?_⟩
    rw [hD, hsz, List.take_length]
theorem join_cps (ys : List Str) : (PySem.Txt.join (Str.ofString "") ys).cps.toList = ys.flatMap fun y => y.cps.toList := by
  show (Builtin.Str.glued (Str.ofString "") ys).cps.toList = _
  rw [StrLaws.glued_eq_join]
  induction ys with
  | nil => rfl
  | cons y r ih =>
    cases r with
    | nil => show y.cps.toList = y.cps.toList ++ []; rw [List.append_nil]
    | cons z r =>
      show ((y ++ Str.ofString "") ++ Str.join (Str.ofString "") (z :: r)).cps.toList = _
      rw [PySem.W.KT.app_list, PySem.W.KT.app_list, ih, show (Str.ofString "").cps.toList = [] by decide +kernel, List.append_nil]
      rfl
theorem g_name {n : Nat} {QS : L2.St → Hp → Prop} (q : QS (σ.set n (some v)) H) : gName n v σ H QS := q
theorem g_inr {R : It → Hp → Prop} {p : Addr} {J : Addr → It} (q : (∃ xs, SqL K H p xs) ∧ R (J p) H) : ∃ a, V.ref p = .ref a ∧ (∃ xs, SqL K H a xs) ∧ R (J a) H := ⟨p, rfl, q⟩
theorem lex_trans {a b c : List Nat} (h : a < b) (k : b < c) : a < c := List.lt_trans h k
theorem lex_asymm {a b : List Nat} (h : a < b) : ¬ b < a := List.lt_asymm h
theorem lex_irrefl (a : List Nat) : ¬ a < a := List.lt_irrefl a
theorem lex_total {a b : List Nat} (h : ¬ a < b) (k : ¬ b < a) : a = b := List.le_antisymm (List.not_lt.mp k) (List.not_lt.mp h)
theorem str_ext {a b : Str} (h : a.cps.toList = b.cps.toList) : a = b := congrArg Str.mk (Array.toList_inj.mp h)
/-- a list, a tuple, a dict -/
def isRef (H : Hp) (p : Addr) : Prop := (∃ xs, H p = some (.lst xs)) ∨ (∃ xs, H p = some (.tup xs)) ∨ ∃ kvs, H p = some (.dK kvs)
theorem isRef.keep {H H' : Hp} {p : Addr} (h : isRef H p) (k : ∀ p o, H p = some o → H' p = some o) : isRef H' p := by
  rcases h with ⟨xs, h⟩ | ⟨xs, h⟩ | ⟨xs, h⟩
  · exact .inl ⟨xs, k _ _ h⟩
  · exact .inr (.inl ⟨xs, k _ _ h⟩)
  · exact .inr (.inr ⟨xs, k _ _ h⟩)
theorem g_isiR {p : Addr} {c : String} (h : isRef H p) (hc : c = "int" ∨ c = "str" ∨ c = "bool") (q : Q (.bl false) H) : rIsi K [.ref p, .ty c] H Q := by
  rcases h with ⟨xs, h⟩ | ⟨xs, h⟩ | ⟨xs, h⟩
  · exact g_isi (.base (.lst h)) (by rcases hc with rfl | rfl | rfl <;> decide +kernel) q
  · exact g_isi (.base (.tup h)) (by rcases hc with rfl | rfl | rfl <;> decide +kernel) q
  · exact g_isi (.base (.dK h)) (by rcases hc with rfl | rfl | rfl <;> decide +kernel) q
/-- a thing of any kind that a law draws -/
def thing (H : Hp) (v : V) : Prop := v = .non ∨ (∃ b, v = .bl b) ∨ (∃ i, v = .int i) ∨ (∃ z : Str, v = .str z ∧ z.length ≤ 100) ∨ ∃ p, v = .ref p ∧ isRef H p
theorem g_isiR0 {p : Addr} {c : String} (q : isRef H p ∧ (c = "int" ∨ c = "str" ∨ c = "bool") ∧ Q (.bl false) H) : rIsi K [.ref p, .ty c] H Q := g_isiR q.1 q.2.1 q.2.2
theorem thing.keep {H H' : Hp} {v : V} (h : thing H v) (k : ∀ p o, H p = some o → H' p = some o) : thing H' v := by
  rcases h with h | h | h | h | ⟨p, e, h⟩
  · exact .inl h
  · exact .inr (.inl h)
  · exact .inr (.inr (.inl h))
  · exact .inr (.inr (.inr (.inl h)))
  · exact .inr (.inr (.inr (.inr ⟨p, e, h.keep k⟩)))
def isIntB : V → Bool
  | .int _ => true
  | _ => false
theorem inV_strs {z : Str} {ws : List Str} : inV (.str z) (ws.map V.str) = decide (z ∈ ws) := by
  unfold inV
  rw [List.any_map]
  rw [Bool.eq_iff_iff, decide_eq_true_eq, List.any_eq_true]
  constructor
  · rintro ⟨y, hy, h⟩
    have : y = z := by simpa [eqV] using h
    rw [← this]; exact hy
  · intro h
    exact ⟨z, h, by simp [eqV]⟩
theorem flat_strs (ws : List Str) : (ws.map V.str).all flatV = true := by
  rw [List.all_map, List.all_eq_true]
  intro x _
  rfl
theorem atI_strs {ws : List Str} {i : Int} (h0 : 0 ≤ i) (h1 : i < ws.length) : ∃ z, z ∈ ws ∧ atI (ws.map V.str) i = some (.str z) := by
  obtain ⟨k, rfl⟩ := Int.eq_ofNat_of_zero_le h0
  have hk : k < ws.length := by omega
  refine ⟨ws[k], List.getElem_mem hk, atI_nat ?_⟩
  rw [List.getElem?_map, List.getElem?_eq_getElem hk]; rfl
theorem g_tupE {p : Addr} {R : Prop} (q : R) : R := q
theorem g_test (q : ta σ H fun x H' => ∃ k, x = .bl k ∧ QT k H') : tTest ta σ H QT := q
theorem g_B (q : ta σ H fun x H' => ∃ k, x = .bl k ∧ QT k H') : tB ta σ H QT := q
theorem g_bl {p : Bool → Prop} (q : p a) : ∃ k, V.bl a = .bl k ∧ p k := ⟨a, rfl, q⟩
theorem g_tand (q : c σ H fun d H1 => if d = true then u σ H1 QT else QT false H1) : tAnd c u σ H QT := q
theorem g_tor (q : c σ H fun d H1 => if d = true then QT true H1 else u σ H1 QT) : tOr c u σ H QT := q
theorem g_tnot (q : c σ H fun d H1 => QT (!d) H1) : tNot c σ H QT := q
theorem g_vand (q : ta σ H fun x H1 => ∃ c, x = .bl c ∧ if c = true then tb σ H1 Q else Q (.bl false) H1) : tAndV ta tb σ H Q := q
theorem g_vor (q : ta σ H fun x H1 => ∃ c, x = .bl c ∧ if c = true then Q (.bl true) H1 else tb σ H1 Q) : tOrV ta tb σ H Q := q
theorem g_vnot (q : ta σ H fun x H1 => ∃ c, x = .bl c ∧ Q (.bl (!c)) H1) : tNotV ta σ H Q := q
theorem g_eif (q : c σ H fun d H1 => if d = true then ta σ H1 Q else tb σ H1 Q) : tIf c ta tb σ H Q := q
theorem g_seq (q : ts (mkE (tz D) D.rt D.bk D.ct) σ H) : tSeq ts tz D σ H := q
theorem g_asg {n : Nat} (q : te σ H fun x H1 => D.nx (σ.set n (some x)) H1) : tAsg te (gName n) D σ H := q
theorem g_asgSub {to ti : TE} {s : TSet} (q : te σ H fun x H1 => to σ H1 fun o H2 => ti σ H2 fun i H3 => s o i x H3 fun H4 => D.nx σ H4) : tAsg te (gSub to ti s) D σ H := q
theorem g_ret (q : te σ H D.rt) : tRet te D σ H := q
theorem g_drop (q : te σ H fun _ H1 => D.nx σ H1) : tDrop te D σ H := q
theorem g_if {t1 t2 : TS} (q : c σ H fun d H1 => if d = true then t1 D σ H1 else t2 D σ H1) : tIfS c t1 t2 D σ H := q
theorem g_next (q : D.nx σ H) : tNext D σ H := q
variable {nx : L2.St → Hp → Prop} {rt : VK} {bk ct : L2.St → Hp → Prop}
theorem g_nx (q : nx σ H) : (mkE nx rt bk ct).nx σ H := q
theorem g_rt (q : rt v H) : (mkE nx rt bk ct).rt v H := q
theorem g_bk (q : bk σ H) : (mkE nx rt bk ct).bk σ H := q
theorem g_ct (q : ct σ H) : (mkE nx rt bk ct).ct σ H := q
theorem g_ctS (q : D.ct σ H) : tCont D σ H := q
theorem g_bkS (q : D.bk σ H) : tBreak D σ H := q
/-! sizes, places -/
theorem cpow_small (h0 : 0 ≤ j) (h1 : j ≤ 1000000) (h2 : -(2 ^ 64) < i) (h3 : i < 2 ^ 64) : CPowG i j := by
  have h := PySem.intBits_le_64 h2 h3
  have h4 : ((Builtin.Int.intBits i : Nat) : Int) ≤ 64 := by omega
  refine ⟨h0, ?_⟩
  have h5 : ((Builtin.Int.intBits i : Nat) : Int) * j ≤ 64 * j := Int.mul_le_mul_of_nonneg_right h4 h0
  omega
theorem atI_map {ns : List Int} {n : Int} (h : 0 ≤ n ∧ n < ((ns.map V.int).length : Nat)) : atI (ns.map V.int) n = some (.int (ns.getD n.toNat 0)) := by
  rw [List.length_map] at h
  obtain ⟨h0, h⟩ := h
  obtain ⟨k, rfl⟩ := Int.eq_ofNat_of_zero_le h0
  refine atI_nat ?_
  rw [List.getElem?_map, List.getD_eq_getElem?_getD, Int.toNat_natCast, List.getElem?_eq_getElem (by omega)]
  rfl
theorem atI_get {α : Type} {xs : List α} {n : Nat} {v : α} (h : xs[n]? = some v) : atI xs (n : Int) = some v := atI_nat h
/-! tests -/
theorem g_T {A B : Prop} (h : A) : if true = true then A else B := by rw [if_pos rfl]; exact h
theorem g_F {A B : Prop} (h : B) : if false = true then A else B := by rw [if_neg Bool.false_ne_true]; exact h
theorem g_split {A B : Prop} {k : Bool} (h1 : k = true → A) (h2 : k = false → B) : if k = true then A else B := by
  cases k
  · exact g_F (h2 rfl)
  · exact g_T (h1 rfl)
theorem g_dec {A B p : Prop} [Decidable p] (h1 : p → A) (h2 : ¬ p → B) : if decide p = true then A else B :=
  g_split (fun h => h1 (of_decide_eq_true h)) (fun h => h2 (of_decide_eq_false h))
theorem g_ndec {A B p : Prop} [Decidable p] (h1 : ¬ p → A) (h2 : p → B) : if (!decide p) = true then A else B := by
  by_cases h : p
  · rw [decide_eq_true h]; exact g_F (h2 h)
  · rw [decide_eq_false h]; exact g_T (h1 h)
theorem g_nsplit {A B : Prop} {k : Bool} (h1 : k = false → A) (h2 : k = true → B) : if (!k) = true then A else B := by
  cases k
  · exact g_Fn (h1 rfl)
  · exact g_Tn (h2 rfl)
/-! loops whose turns don't see what follows -/
theorem for_rangeA {lo : Int} {n : Nat} {g : TG} {tb : TS} (Pv : Nat → L2.St → Hp → Prop) (h0 : Pv 0 σ H)
    (hs : ∀ i σ H (D' : Ends), i < n → Pv i σ H → (∀ σ H, Pv (i + 1) σ H → D'.nx σ H) → (∀ σ H, Pv (i + 1) σ H → D'.ct σ H) → (∀ σ H, D.nx σ H → D'.bk σ H) → D'.rt = D.rt → g (.int (lo + i)) σ H fun σ2 H2 => tb D' σ2 H2) (hd : ∀ σ H, Pv n σ H → D.nx σ H) :
    ∃ W : Nat → Nat → L2.St → Hp → Prop, (∃ m, W 0 m σ H) ∧ ∀ i m σ H, W i m σ H →
      ((Itr lo n).stop i H ∧ D.nx σ H) ∨ ((Itr lo n).go i H ∧ ∃ N : L2.St → Hp → Prop, (∀ σ' H', N σ' H' → ∃ m', m' < m ∧ W (i + 1) m' σ' H') ∧ ∀ x H', (Itr lo n).yld i H x H' → g x σ H' fun σ2 H2 => tb { D with nx := N, ct := N, bk := D.nx } σ2 H2) :=
  for_range Pv h0 (fun i σ H hi p => hs i σ H _ hi p (fun _ _ h => h) (fun _ _ h => h) (fun _ _ h => h) rfl) hd
theorem for_listA {p : Addr} {xs : List V} {g : TG} {tb : TS} (Pv : Nat → L2.St → Hp → Prop) (h0 : Pv 0 σ H) (hl : ∀ i σ H, i ≤ xs.length → Pv i σ H → SqL K H p xs)
    (hs : ∀ i x σ H (D' : Ends), xs[i]? = some x → Pv i σ H → (∀ σ H, Pv (i + 1) σ H → D'.nx σ H) → (∀ σ H, Pv (i + 1) σ H → D'.ct σ H) → (∀ σ H, D.nx σ H → D'.bk σ H) → D'.rt = D.rt → g x σ H fun σ2 H2 => tb D' σ2 H2) (hd : ∀ σ H, Pv xs.length σ H → D.nx σ H) :
    ∃ W : Nat → Nat → L2.St → Hp → Prop, (∃ m, W 0 m σ H) ∧ ∀ i m σ H, W i m σ H →
      ((Itl K p).stop i H ∧ D.nx σ H) ∨ ((Itl K p).go i H ∧ ∃ N : L2.St → Hp → Prop, (∀ σ' H', N σ' H' → ∃ m', m' < m ∧ W (i + 1) m' σ' H') ∧ ∀ x H', (Itl K p).yld i H x H' → g x σ H' fun σ2 H2 => tb { D with nx := N, ct := N, bk := D.nx } σ2 H2) :=
  for_list Pv h0 hl (fun i x σ H hi p => hs i x σ H _ hi p (fun _ _ h => h) (fun _ _ h => h) (fun _ _ h => h) rfl) hd
theorem g_cutA {M : L2.St → Hp → Prop} (h : ∀ D' : Ends, (∀ σ H, M σ H → D'.nx σ H) → D'.rt = D.rt → D'.bk = D.bk → D'.ct = D.ct → ts D' σ H) (k : ∀ σ' H', M σ' H' → tz D σ' H') : Evl.tCut ts tz D σ H :=
  ⟨M, h _ (fun _ _ h => h) rfl rfl rfl, k⟩
/-! stores -/
theorem g_setL {p : Addr} {xs : List V} {n : Nat} {QH : Hp → Prop} (h : H p = some (.lst xs)) (e : ixN xs.length i = some n) (q : QH (upd H p (.lst (xs.set n v)))) : rSetL (.ref p) (.int i) v H QH := ⟨p, xs, i, n, rfl, rfl, h, e, q⟩
theorem g_app {p : Addr} {xs : List V} (h : H p = some (.lst xs)) (hz : xs.length < 10000000) (q : Q .non (upd H p (.lst (xs ++ [v])))) : rAppend (.ref p) [v] H Q := ⟨p, xs, v, rfl, rfl, h, by rw [sizeLine_eq]; omega, q⟩
theorem g_app0 {p : Addr} (q : ∃ xs, H p = some (.lst xs) ∧ xs.length < 10000000 ∧ Q .non (upd H p (.lst (xs ++ [v])))) : rAppend (.ref p) [v] H Q := by
  obtain ⟨xs, h, hz, q⟩ := q
  exact g_app h hz q
theorem g_bm {r : V → List V → Hp → VK → Prop} {T : String} (q : ta σ H fun x H1 => tyV K T x H1 ∧ t σ H1 fun xs H2 => r x xs H2 Q) : tBM K T r ta t σ H Q := q
theorem tyL {p : Addr} {xs : List V} (h : H p = some (.lst xs)) : tyV K "list" (.ref p) H := .inl ⟨rfl, xs, SqL.of h⟩
theorem g_tyL {p : Addr} {R : Prop} (q : (∃ xs, H p = some (.lst xs)) ∧ R) : tyV K "list" (.ref p) H ∧ R := ⟨let ⟨_, h⟩ := q.1; tyL h, q.2⟩
end
end Tw

set_option Elab.async false
set_option linter.all false
set_option maxRecDepth 100000
namespace Tw
open PySem L2 PySem.Spec
/-- an iterator that goes through xs -/
structure Fits (J : It) (xs : List V) (H : Hp) : Prop where
  go : ∀ i, i < xs.length → J.go i H
  stop : ∀ i, xs.length ≤ i → J.stop i H
  yld : ∀ i x H', J.yld i H x H' → H' = H ∧ xs[i]? = some x
theorem fits_l {K : PySem.W.Frag} {H : Hp} {a : Addr} {xs : List V} (h : SqL K H a xs) : Fits (Itl K a) xs H :=
  ⟨fun i hi => ⟨xs, xs[i], h, by simp [hi]⟩, fun i hi => ⟨xs, h, hi⟩, fun i x H' y => ⟨y.1, y.2 xs h⟩⟩
theorem fits_t {K : PySem.W.Frag} {H : Hp} {a : Addr} {xs : List V} (h : SqT K H a xs) : Fits (Itt K a) xs H :=
  ⟨fun i hi => ⟨xs, xs[i], h, by simp [hi]⟩, fun i hi => ⟨xs, h, hi⟩, fun i x H' y => ⟨y.1, y.2 xs h⟩⟩
theorem take_flat {F : V → List V} {xs : List V} {i : Nat} {x : V} (h : xs[i]? = some x) : (xs.take (i + 1)).flatMap F = (xs.take i).flatMap F ++ F x := by
  rw [List.take_succ, h, List.flatMap_append]
  simp
theorem flat_le {F : V → List V} {xs : List V} {i : Nat} {x : V} (h : xs[i]? = some x) : ((xs.take i).flatMap F ++ F x).length ≤ (xs.flatMap F).length := by
  rw [← take_flat h]
  conv => rhs; rw [← List.take_append_drop (i + 1) xs]
  rw [List.flatMap_append, List.length_append]
  omega
theorem rng_le {F : Nat → List V} {n : Nat} : ∀ {i : Nat}, i < n → ((List.range i).flatMap F ++ F i).length ≤ ((List.range n).flatMap F).length := by
  intro i h
  have e : (List.range (i + 1)).flatMap F = (List.range i).flatMap F ++ F i := by rw [List.range_succ, List.flatMap_append]; simp
  rw [← e]
  obtain ⟨m, rfl⟩ : ∃ m, n = (i + 1) + m := ⟨n - (i + 1), by omega⟩
  have e2 : List.range (i + 1 + m) = List.range (i + 1) ++ (List.range m).map (i + 1 + ·) := List.range_add
  rw [e2, List.flatMap_append, List.length_append]
  omega
section
variable {J : It} {g g1 : TG} {tt tt1 : TT} {wi1 : TI} {te : TE} {vs vs1 : List Nat} {σ : L2.St} {H1 : Hp} {D : Addr} {Qd : Hp → Prop}
/-- a comprehension with two fors and no ifs: what the inner ones hold, one behind the other -/
theorem lc2_flat (xs : List V) (F : V → List V) (hD : H1 D = none) (hJ : ∀ H, (∀ q o, H1 q = some o → H q = some o) → Fits J xs H) (hlen : (xs.flatMap F).length ≤ 1000000)
    (hs : ∀ x Hh (R : L2.St → It → Hp → Prop) (S : Hp → Prop), x ∈ xs → (∀ q o, H1 q = some o → Hh q = some o) →
      (∀ σ2 J1 H', (∀ q o, Hh q = some o → H' q = some o) → (∀ H'', (∀ q o, q ≠ D → H' q = some o → H'' q = some o) → Fits J1 (F x) H'') →
        (∀ y Hk (R1 : V → Hp → Prop) (S1 : Hp → Prop), y ∈ F x → R1 y Hk → g1 y (wipe σ2 vs1) Hk fun σ3 H5 => wipe σ3 vs1 = wipe σ2 vs1 ∧ tt1 σ3 H5 fun b H6 => if b = true then te σ3 H6 R1 else S1 H6) → R σ2 J1 H') →
      g x (wipe σ vs) Hh fun σ2 H2 => wipe σ2 vs = wipe σ vs ∧ tt σ2 H2 fun b H3 => if b = true then wi1 σ2 H3 (R σ2) else S H3)
    (hd : ∀ H, (∀ q o, H1 q = some o → H q = some o) → H D = some (.lst (xs.flatMap F)) → Qd H) :
    ∃ W : Nat → Nat → Hp → Prop, (∃ m, W 0 m (upd H1 D (.lst []))) ∧ ∀ i m H, W i m H →
      (J.stop i H ∧ Qd H) ∨ (J.go i H ∧ ∃ Nx : Hp → Prop, (∀ H', Nx H' → ∃ m', m' < m ∧ W (i + 1) m' H') ∧ ∀ x H', J.yld i H x H' → g x (wipe σ vs) H' fun σ2 H2 => wipe σ2 vs = wipe σ vs ∧ tt σ2 H2 fun b H3 =>
        if b = true then wi1 σ2 H3 fun J1 H4 => ∃ W1 : Nat → Nat → Hp → Prop, (∃ m, W1 0 m H4) ∧ ∀ j k H, W1 j k H →
          (J1.stop j H ∧ Nx H) ∨ (J1.go j H ∧ ∃ Nx1 : Hp → Prop, (∀ H', Nx1 H' → ∃ k', k' < k ∧ W1 (j + 1) k' H') ∧ ∀ x H', J1.yld j H x H' → g1 x (wipe σ2 vs1) H' fun σ3 H5 => wipe σ3 vs1 = wipe σ2 vs1 ∧ tt1 σ3 H5 fun b H6 =>
            if b = true then te σ3 H6 fun y H7 => ∃ acc, H7 D = some (.lst acc) ∧ acc.length < sizeLine ∧ Nx1 (upd H7 D (.lst (acc ++ [y]))) else Nx1 H6)
        else Nx H3) := by
  refine ⟨fun i m H => m = xs.length - i ∧ i ≤ xs.length ∧ H D = some (.lst ((xs.take i).flatMap F)) ∧ ∀ q o, H1 q = some o → H q = some o, ⟨xs.length, by simp, Nat.zero_le _, upd_same, fun q o h => by rw [upd_ne (ne_of_none h hD)]; exact h⟩, ?_⟩
  rintro i m H ⟨rfl, hi, hDl, hK⟩
  have fi := hJ H hK
  by_cases hlt : i < xs.length
  · refine .inr ⟨fi.go i hlt, fun H' => H' D = some (.lst ((xs.take (i + 1)).flatMap F)) ∧ ∀ q o, H1 q = some o → H' q = some o, fun H' w => ⟨xs.length - (i + 1), by omega, rfl, hlt, w⟩, ?_⟩
    intro x H' hy
    obtain ⟨rfl, hx⟩ := fi.yld i x H' hy
    refine hs x H' (fun σ2 J1 H4 => _) (fun H3 => _) (List.mem_of_getElem? hx) hK fun σ2 J1 H4 ext f1 turn => ?_
    have e1 := take_flat (F := F) hx
    have l1 := flat_le (F := F) hx
    refine ⟨fun j k H => k = (F x).length - j ∧ j ≤ (F x).length ∧ H D = some (.lst ((xs.take i).flatMap F ++ (F x).take j)) ∧ ∀ q o, q ≠ D → H4 q = some o → H q = some o, ⟨(F x).length, by simp, Nat.zero_le _, by rw [ext _ _ hDl, List.take_zero, List.append_nil], fun q o _ h => h⟩, ?_⟩
    rintro j k Hj ⟨rfl, hj, hDj, hKj⟩
    have fj := f1 Hj hKj
    by_cases hjl : j < (F x).length
    · refine .inr ⟨fj.go j hjl, fun H' => H' D = some (.lst ((xs.take i).flatMap F ++ (F x).take (j + 1))) ∧ ∀ q o, q ≠ D → H4 q = some o → H' q = some o, fun H' w => ⟨(F x).length - (j + 1), by omega, rfl, hjl, w⟩, ?_⟩
      intro y Hy hyy
      obtain ⟨rfl, hyx⟩ := fj.yld j y Hy hyy
      refine turn y Hy (fun y H7 => _) (fun H6 => _) (List.mem_of_getElem? hyx) ⟨_, hDj, ?_, ?_, fun q o n h => by rw [upd_ne n]; exact hKj q o n h⟩
      · rw [List.length_append] at l1 ⊢
        have : ((F x).take j).length ≤ (F x).length := by rw [List.length_take]; omega
        rw [sizeLine_eq]
        omega
      · rw [upd_same, List.take_succ, hyx, List.append_assoc]
        rfl
    · have e : j = (F x).length := by omega
      subst e
      refine .inl ⟨fj.stop _ (Nat.le_refl _), ?_, fun q o h => hKj q o (ne_of_none h hD) (ext q o (hK q o h))⟩
      rw [hDj, List.take_length, e1]
  · have e : i = xs.length := by omega
    subst e
    refine .inl ⟨fi.stop _ (Nat.le_refl _), hd H hK ?_⟩
    rw [hDl, List.take_length]
/-- the same, the inner ones told by their places: what the inner ones hold, one behind the other -/
theorem lc2_flatI (xs : List V) (F : Nat → List V) (hD : H1 D = none) (hJ : ∀ H, (∀ q o, H1 q = some o → H q = some o) → Fits J xs H) (hlen : ((List.range xs.length).flatMap F).length ≤ 1000000)
    (hs : ∀ i x Hh (R : L2.St → It → Hp → Prop) (S : Hp → Prop), xs[i]? = some x → Hh D ≠ none → (∀ q o, H1 q = some o → Hh q = some o) →
      (∀ σ2 J1 H', (∀ q o, Hh q = some o → H' q = some o) → (∀ H'', (∀ q o, q ≠ D → H' q = some o → H'' q = some o) → Fits J1 (F i) H'') →
        (∀ y Hk (R1 : V → Hp → Prop) (S1 : Hp → Prop), y ∈ F i → R1 y Hk → g1 y (wipe σ2 vs1) Hk fun σ3 H5 => wipe σ3 vs1 = wipe σ2 vs1 ∧ tt1 σ3 H5 fun b H6 => if b = true then te σ3 H6 R1 else S1 H6) → R σ2 J1 H') →
      g x (wipe σ vs) Hh fun σ2 H2 => wipe σ2 vs = wipe σ vs ∧ tt σ2 H2 fun b H3 => if b = true then wi1 σ2 H3 (R σ2) else S H3)
    (hd : ∀ H, (∀ q o, H1 q = some o → H q = some o) → H D = some (.lst ((List.range xs.length).flatMap F)) → Qd H) :
    ∃ W : Nat → Nat → Hp → Prop, (∃ m, W 0 m (upd H1 D (.lst []))) ∧ ∀ i m H, W i m H →
      (J.stop i H ∧ Qd H) ∨ (J.go i H ∧ ∃ Nx : Hp → Prop, (∀ H', Nx H' → ∃ m', m' < m ∧ W (i + 1) m' H') ∧ ∀ x H', J.yld i H x H' → g x (wipe σ vs) H' fun σ2 H2 => wipe σ2 vs = wipe σ vs ∧ tt σ2 H2 fun b H3 =>
        if b = true then wi1 σ2 H3 fun J1 H4 => ∃ W1 : Nat → Nat → Hp → Prop, (∃ m, W1 0 m H4) ∧ ∀ j k H, W1 j k H →
          (J1.stop j H ∧ Nx H) ∨ (J1.go j H ∧ ∃ Nx1 : Hp → Prop, (∀ H', Nx1 H' → ∃ k', k' < k ∧ W1 (j + 1) k' H') ∧ ∀ x H', J1.yld j H x H' → g1 x (wipe σ2 vs1) H' fun σ3 H5 => wipe σ3 vs1 = wipe σ2 vs1 ∧ tt1 σ3 H5 fun b H6 =>
            if b = true then te σ3 H6 fun y H7 => ∃ acc, H7 D = some (.lst acc) ∧ acc.length < sizeLine ∧ Nx1 (upd H7 D (.lst (acc ++ [y]))) else Nx1 H6)
        else Nx H3) := by
  refine ⟨fun i m H => m = xs.length - i ∧ i ≤ xs.length ∧ H D = some (.lst ((List.range i).flatMap F)) ∧ ∀ q o, H1 q = some o → H q = some o, ⟨xs.length, by simp, Nat.zero_le _, upd_same, fun q o h => by rw [upd_ne (ne_of_none h hD)]; exact h⟩, ?_⟩
  rintro i m H ⟨rfl, hi, hDl, hK⟩
  have fi := hJ H hK
  by_cases hlt : i < xs.length
  · refine .inr ⟨fi.go i hlt, fun H' => H' D = some (.lst ((List.range (i + 1)).flatMap F)) ∧ ∀ q o, H1 q = some o → H' q = some o, fun H' w => ⟨xs.length - (i + 1), by omega, rfl, hlt, w⟩, ?_⟩
    intro x H' hy
    obtain ⟨rfl, hx⟩ := fi.yld i x H' hy
    refine hs i x H' (fun σ2 J1 H4 => _) (fun H3 => _) hx (by rw [hDl]; exact nofun) hK fun σ2 J1 H4 ext f1 turn => ?_
    have e1 : (List.range (i + 1)).flatMap F = (List.range i).flatMap F ++ F i := by rw [List.range_succ, List.flatMap_append]; simp
    have l1 : ((List.range i).flatMap F ++ F i).length ≤ ((List.range xs.length).flatMap F).length := rng_le hlt
    refine ⟨fun j k H => k = (F i).length - j ∧ j ≤ (F i).length ∧ H D = some (.lst ((List.range i).flatMap F ++ (F i).take j)) ∧ ∀ q o, q ≠ D → H4 q = some o → H q = some o, ⟨(F i).length, by simp, Nat.zero_le _, by rw [ext _ _ hDl, List.take_zero, List.append_nil], fun q o _ h => h⟩, ?_⟩
    rintro j k Hj ⟨rfl, hj, hDj, hKj⟩
    have fj := f1 Hj hKj
    by_cases hjl : j < (F i).length
    · refine .inr ⟨fj.go j hjl, fun H' => H' D = some (.lst ((List.range i).flatMap F ++ (F i).take (j + 1))) ∧ ∀ q o, q ≠ D → H4 q = some o → H' q = some o, fun H' w => ⟨(F i).length - (j + 1), by omega, rfl, hjl, w⟩, ?_⟩
      intro y Hy hyy
      obtain ⟨rfl, hyx⟩ := fj.yld j y Hy hyy
      refine turn y Hy (fun y H7 => _) (fun H6 => _) (List.mem_of_getElem? hyx) ⟨_, hDj, ?_, ?_, fun q o n h => by rw [upd_ne n]; exact hKj q o n h⟩
      · rw [List.length_append] at l1 ⊢
        have : ((F i).take j).length ≤ (F i).length := by rw [List.length_take]; omega
        rw [sizeLine_eq]
        omega
      · rw [upd_same, List.take_succ, hyx, List.append_assoc]
        rfl
    · have e : j = (F i).length := by omega
      subst e
      refine .inl ⟨fj.stop _ (Nat.le_refl _), ?_, fun q o h => hKj q o (ne_of_none h hD) (ext q o (hK q o h))⟩
      rw [hDj, List.take_length, e1]
  · have e : i = xs.length := by omega
    subst e
    refine .inl ⟨fi.stop _ (Nat.le_refl _), hd H hK ?_⟩
    exact hDl
/-- a comprehension whose turns leave the heap -/
theorem lc_map (xs : List V) (v : V → V) (hD : H1 D = none) (hJ : ∀ H, (∀ q o, H1 q = some o → H q = some o) → Fits J xs H) (hlen : xs.length ≤ 1000000)
    (hs : ∀ x Hh (R : V → Hp → Prop) (S : Hp → Prop), x ∈ xs → (∀ q o, H1 q = some o → Hh q = some o) → R (v x) Hh →
      g x (wipe σ vs) Hh fun σ2 H2 => wipe σ2 vs = wipe σ vs ∧ tt σ2 H2 fun b H3 => if b = true then te σ2 H3 R else S H3)
    (hd : ∀ H, (∀ q o, H1 q = some o → H q = some o) → H D = some (.lst (xs.map v)) → Qd H) :
    ∃ W : Nat → Nat → Hp → Prop, (∃ m, W 0 m (upd H1 D (.lst []))) ∧ ∀ i m H, W i m H →
      (J.stop i H ∧ Qd H) ∨ (J.go i H ∧ ∃ Nx : Hp → Prop, (∀ H', Nx H' → ∃ m', m' < m ∧ W (i + 1) m' H') ∧ ∀ x H', J.yld i H x H' → g x (wipe σ vs) H' fun σ2 H2 => wipe σ2 vs = wipe σ vs ∧ tt σ2 H2 fun b H3 =>
        if b = true then te σ2 H3 fun y H4 => ∃ acc, H4 D = some (.lst acc) ∧ acc.length < sizeLine ∧ Nx (upd H4 D (.lst (acc ++ [y]))) else Nx H3) := by
  refine ⟨fun i m H => m = xs.length - i ∧ i ≤ xs.length ∧ H D = some (.lst ((xs.take i).map v)) ∧ ∀ q o, H1 q = some o → H q = some o, ⟨xs.length, by simp, Nat.zero_le _, upd_same, fun q o h => by rw [upd_ne (ne_of_none h hD)]; exact h⟩, ?_⟩
  rintro i m H ⟨rfl, hi, hDl, hK⟩
  have fi := hJ H hK
  by_cases hlt : i < xs.length
  · refine .inr ⟨fi.go i hlt, fun H' => H' D = some (.lst ((xs.take (i + 1)).map v)) ∧ ∀ q o, H1 q = some o → H' q = some o, fun H' w => ⟨xs.length - (i + 1), by omega, rfl, hlt, w⟩, ?_⟩
    intro x H' hy
    obtain ⟨rfl, hx⟩ := fi.yld i x H' hy
    refine hs x H' (fun y H4 => _) (fun H3 => _) (List.mem_of_getElem? hx) hK ⟨_, hDl, ?_, ?_, fun q o h => by rw [upd_ne (ne_of_none h hD)]; exact hK q o h⟩
    · rw [List.length_map, List.length_take, sizeLine_eq]
      omega
    · rw [upd_same, List.take_succ, hx, List.map_append]
      rfl
  · have e : i = xs.length := by omega
    subst e
    refine .inl ⟨fi.stop _ (Nat.le_refl _), hd H hK ?_⟩
    rw [hDl, List.take_length]
variable {K : PySem.W.Frag} {Q : VK}
theorem g_lc2 {wi : TI} (q : wi σ H1 fun J H1 => ∀ D, H1 D = none → ∃ W : Nat → Nat → Hp → Prop, (∃ m, W 0 m (upd H1 D (.lst []))) ∧ ∀ i m H, W i m H →
      (J.stop i H ∧ Q (.ref D) H) ∨ (J.go i H ∧ ∃ Nx : Hp → Prop, (∀ H', Nx H' → ∃ m', m' < m ∧ W (i + 1) m' H') ∧ ∀ x H', J.yld i H x H' → g x (wipe σ vs) H' fun σ2 H2 => wipe σ2 vs = wipe σ vs ∧ tt σ2 H2 fun b H3 =>
        if b = true then wi1 σ2 H3 fun J1 H4 => ∃ W1 : Nat → Nat → Hp → Prop, (∃ m, W1 0 m H4) ∧ ∀ j k H, W1 j k H →
          (J1.stop j H ∧ Nx H) ∨ (J1.go j H ∧ ∃ Nx1 : Hp → Prop, (∀ H', Nx1 H' → ∃ k', k' < k ∧ W1 (j + 1) k' H') ∧ ∀ x H', J1.yld j H x H' → g1 x (wipe σ2 vs1) H' fun σ3 H5 => wipe σ3 vs1 = wipe σ2 vs1 ∧ tt1 σ3 H5 fun b H6 =>
            if b = true then te σ3 H6 fun y H7 => ∃ acc, H7 D = some (.lst acc) ∧ acc.length < sizeLine ∧ Nx1 (upd H7 D (.lst (acc ++ [y]))) else Nx1 H6)
        else Nx H3)) : tLc2 wi g tt wi1 g1 tt1 te vs vs1 σ H1 Q := q
end
end Tw

set_option Elab.async false
set_option linter.all false
set_option maxRecDepth 100000
set_option maxHeartbeats 4000000
/-! sets of values of one kind, by the list of their members: made of a list, sorted -/
namespace Tw
open PySem L2 PySem.Spec PyProof.Rows
/-- a list that is an arrangement of mapped things is mapped of an arrangement -/
theorem perm_unmap {α β : Type} {f : α → β} {l : List β} {xs : List α} (p : l.Perm (xs.map f)) : ∃ ys : List α, l = ys.map f ∧ ys.Perm xs := by
  generalize hm : xs.map f = m at p
  induction p generalizing xs with
  | nil =>
    have : xs = [] := List.map_eq_nil_iff.mp hm
    exact ⟨[], rfl, by rw [this]⟩
  | cons b _ ih =>
    cases xs with
    | nil => cases hm
    | cons x xs =>
      injection hm with h1 h2
      obtain ⟨ys, e, p⟩ := ih h2
      exact ⟨x :: ys, by rw [List.map_cons, ← e, h1], p.cons x⟩
  | swap b c l =>
    match xs, hm with
    | x :: y :: r, hm =>
      injection hm with h1 h2
      injection h2 with h2 h3
      exact ⟨y :: x :: r, by rw [List.map_cons, List.map_cons, h1, h2, h3], List.Perm.swap x y r⟩
  | trans _ _ ih1 ih2 =>
    obtain ⟨ys, e, p⟩ := ih2 hm
    obtain ⟨zs, e2, p2⟩ := ih1 e.symm
    exact ⟨zs, e2, p2.trans p⟩
section
variable {P : Program} {w : World} {κ : Type} [DecidableEq κ] {knd : PySem.KeyKind P w κ}
/-- the set at a: its members by key and value, in the order in which its table keeps them -/
def SetL (knd : PySem.KeyKind P w κ) (h : Heap) (a : Addr) (L : List (κ × Value)) : Prop :=
  ∃ o es ep t, h.get? a = some o ∧ o.ExactSet ∧ o.data = .set es ep t ∧ es.toList = L.map (fun p => (knd.hash p.1, p.2)) ∧ (∀ p ∈ L, knd.is p.1 p.2 = true ∧ p.2.scannable = true) ∧ (L.map (·.1)).Nodup ∧
    es.size < scanBound ∧ t.fits es.size = true ∧ Ris t.place.toList ∧ (w.params.followText "set-order" = true ∨ t.led = true)
theorem SetL.at {h h' : Heap} {a : Addr} {L : List (κ × Value)} (S : SetL knd h a L) (k : ∀ o, h.get? a = some o → h'.get? a = some o) : SetL knd h' a L := by
  obtain ⟨o, es, ep, t, g, r⟩ := S
  exact ⟨o, es, ep, t, k o g, r⟩
theorem SetL.len {h : Heap} {a : Addr} {L : List (κ × Value)} (S : SetL knd h a L) : L.length < scanBound := by
  obtain ⟨o, es, ep, t, g, gx, gd, ge, gi, gn, gb, _⟩ := S
  have : es.toList.length = L.length := by rw [ge, List.length_map]
  rw [Array.length_toList] at this
  omega
theorem elems_of {L : List (κ × Value)} (gi : ∀ p ∈ L, knd.is p.1 p.2 = true ∧ p.2.scannable = true) : ElemsOf knd (L.map fun p => (knd.hash p.1, p.2)) := fun e he => by
  obtain ⟨p, hp, rfl⟩ := List.mem_map.mp he
  exact ⟨⟨p.1, (gi p hp).1, rfl⟩, (gi p hp).2⟩
variable {A : Around} {E : Value → Shared → Prop} {s : Shared} {a : Addr}
/-- the table laid anew and kept -/
theorem keep_laid {o : Obj} {es : Array (Int × Value)} {ep : Nat} {t : SetTable} (g : s.heap.get? a = some o) (gx : o.ExactSet) (gd : o.data = .set es ep t) {es2 : Array (Int × Value)} {t2 : SetTable} {L2' : List (κ × Value)}
    (ge : es2.toList = L2'.map (fun p => (knd.hash p.1, p.2))) (gi : ∀ p ∈ L2', knd.is p.1 p.2 = true ∧ p.2.scannable = true) (gn : (L2'.map (·.1)).Nodup) (gb : es2.size < scanBound) (gf : t2.fits es2.size = true) (gr : Ris t2.place.toList)
    (gl : w.params.followText "set-order" = true ∨ t2.led = true) {Q : Unit → Shared → Prop} (hQ : ∀ h', Heap.SameBut a s.heap h' → (∃ o', h'.get? a = some o' ∧ o'.ExactSet ∧ o'.data = .set es2 (ep + 1) t2) → SetL knd h' a L2' → Q () { s with heap := h' }) :
    wpAny (model P w) A (storeSet a es2 t2) Q E s := by
  refine wpAny_storeSet_of g gd ?_ (fits_of_scanBound gb)
  have g2 := store_at (es' := es2) (t' := t2) g gd
  exact hQ _ (Heap.SameBut.update s.heap a (Obj.putSet es2 t2)) ⟨_, g2, gx, rfl⟩ ⟨_, es2, _, t2, g2, gx, rfl, ge, gi, gn, gb, gf, gr, gl⟩
/-- a table that has been laid is kept, and laid out wider where it is too full -/
theorem keep_wide {o : Obj} {es : Array (Int × Value)} {ep : Nat} {t : SetTable} (g : s.heap.get? a = some o) (gx : o.ExactSet) (gd : o.data = .set es ep t) {es2 : Array (Int × Value)} {t2 : SetTable} {M : List (κ × Value)}
    (ge : es2.toList = M.map (fun p => (knd.hash p.1, p.2))) (gi : ∀ p ∈ M, knd.is p.1 p.2 = true ∧ p.2.scannable = true) (gn : (M.map (·.1)).Nodup) (gb : es2.size < scanBound) (gf : t2.fits es2.size = true) (gr : Ris t2.place.toList)
    (gl : w.params.followText "set-order" = true ∨ t2.led = true) {was : Bool} {told : Bool → Sem Unit} (ht : ∀ (b : Bool) (s1 : Shared) (Q1 : Unit → Shared → Prop), Q1 () s1 → wpAny (model P w) A (told b) Q1 E s1) {Q : Option Bool → Shared → Prop}
    (hQ : ∀ h' M', Heap.SameBut a s.heap h' → SetL knd h' a M' → M'.Perm M → Q (some true) { s with heap := h' }) :
    wpAny (model P w) A (storeSet a es2 t2 >>= fun _ => if (!was && t2.tooFull) = true then told (relayAll t2 es2 (SetTable.grown es2.size)).2.2 >>= fun _ => storeSet a (relayAll t2 es2 (SetTable.grown es2.size)).1 (relayAll t2 es2 (SetTable.grown es2.size)).2.1 >>= fun _ => pure (some true) else pure (some true)) Q E s := by
  refine wpAny_bind (keep_laid g gx gd ge gi gn gb gf gr gl fun h1 sb1 ⟨o1, g1, gx1, gd1⟩ S1 => ?_)
  by_cases full : (!was && t2.tooFull) = true
  · rw [if_pos full]
    have p1 := relayAll_perm t2 es2 (SetTable.grown es2.size)
    have p2 := relayAll_fits t2 es2 (SetTable.grown es2.size)
    have p3 := relayAll_ris t2 es2 (SetTable.grown es2.size)
    have p4 := relayAll_led t2 es2 (SetTable.grown es2.size)
    rw [ge] at p1
    obtain ⟨M', e', pm⟩ := perm_unmap p1
    have sz : (relayAll t2 es2 (SetTable.grown es2.size)).1.size < scanBound := by
      have q := congrArg List.length e'
      rw [Array.length_toList, List.length_map, pm.length_eq] at q
      have q2 := congrArg List.length ge
      rw [Array.length_toList, List.length_map] at q2
      omega
    refine wpAny_bind (ht _ _ _ ?_)
    refine wpAny_bind (keep_laid (s := { s with heap := h1 }) g1 gx1 gd1 e' (fun p hp => gi p (pm.mem_iff.mp hp)) ((pm.map _).nodup_iff.mpr gn) sz p2 p3 (gl.imp id fun z => by rw [p4]; exact z) fun h2 sb2 _ S2 => ?_)
    exact wpAny_pure (hQ h2 M' (sb1.trans sb2) S2 pm)
  · rw [if_neg full]
    exact wpAny_pure (hQ h1 M sb1 S1 (List.Perm.refl M))
/-- one more member -/
theorem set_one_more {L : List (κ × Value)} (S : SetL knd s.heap a L) {k : κ} {v : Value} (hk : knd.is k v = true) (hv : v.scannable = true) (room : L.length + 1 < scanBound) {Q : Bool → Shared → Prop}
    (hQ : ∀ h' L' b, Heap.SameBut a s.heap h' → SetL knd h' a L' → (∀ j, j ∈ L'.map (·.1) ↔ j ∈ L.map (·.1) ∨ j = k) → L'.length ≤ L.length + 1 → Q b { s with heap := h' }) :
    wpAny (model P w) A (setAddHashed a v (knd.hash k)) Q E s := by
  obtain ⟨o, es, ep, t, g, gx, gd, ge, gi, gn, gb, gf, gr, gl⟩ := id S
  have el : ElemsOf knd es.toList := by rw [ge]; exact elems_of gi
  unfold setAddHashed setAddHashedIn
  refine wpAny_holding ?_
  refine wpAny_bind (wpAny_setState_of g gd gf ?_)
  dsimp only
  rw [byScan_of hv gb el, if_pos rfl]
  refine wpAny_bind ?_
  unfold setAddByScan
  refine wpAny_bind (wpAny_rule ?_)
  refine wpAny_bind (wpAny_setScan_of hk g gd gf el ?_)
  cases hf : es.toList.findIdx? (fun e => knd.is k e.2) with
  | some j =>
    dsimp only
    have hin : k ∈ L.map (·.1) := by
      obtain ⟨hj, pj, _⟩ := List.findIdx?_eq_some_iff_getElem.mp hf
      have hm : es.toList[j] ∈ L.map (fun p => (knd.hash p.1, p.2)) := by rw [← ge]; exact List.getElem_mem hj
      obtain ⟨p, hp, e⟩ := List.mem_map.mp hm
      have pj' : knd.is k p.2 = true := by rw [← e] at pj; exact pj
      exact List.mem_map.mpr ⟨p, hp, knd.inj p.2 _ _ (gi p hp).1 pj'⟩
    exact wpAny_pure (wpAny_pure (hQ s.heap L false (Heap.SameBut.refl a s.heap) S (fun i => ⟨.inl, fun z => z.elim id fun e => by rw [e]; exact hin⟩) (Nat.le_succ _)))
  | none =>
    dsimp only
    have out : k ∉ L.map (·.1) := fun z => by
      obtain ⟨p, hp, e⟩ := List.mem_map.mp z
      have c := List.findIdx?_eq_none_iff.mp hf (knd.hash p.1, p.2) (by rw [ge]; exact List.mem_map.mpr ⟨p, hp, rfl⟩)
      have c' : knd.is k p.2 = false := c
      rw [← e, (gi p hp).1] at c'
      cases c'
    have gave : ∀ (b : Bool) (s1 : Shared) (Q1 : Unit → Shared → Prop), Q1 () s1 → wpAny (model P w) A (match b with | true => rule "set.scan.the-table-gave-way" | false => pure ()) Q1 E s1 := by
      intro b s1 Q1 q
      cases b
      · exact wpAny_pure q
      · exact wpAny_rule q
    have l1 := layNew_perm t es (knd.hash k) v
    have l2 := layNew_fits t es (knd.hash k) v
    have l3 := layNew_ris t es (knd.hash k) v gr
    have l4 := layNew_led t es (knd.hash k) v
    generalize layNew t es (knd.hash k) v = Z at l1 l2 l3 l4 ⊢
    obtain ⟨es1, t1, was, gv⟩ := Z
    dsimp only at l1 l2 l3 l4 ⊢
    have l1' : es1.toList.Perm (((k, v) :: L).map fun p => (knd.hash p.1, p.2)) := by
      rw [Array.toList_push, ge] at l1
      exact l1.trans (List.perm_append_singleton _ _)
    obtain ⟨M, em, pm⟩ := perm_unmap l1'
    have gi1 : ∀ p ∈ M, knd.is p.1 p.2 = true ∧ p.2.scannable = true := fun p hp => by
      rcases List.mem_cons.mp (pm.mem_iff.mp hp) with z | z
      · rw [z]; exact ⟨hk, hv⟩
      · exact gi p z
    have gn1 : (M.map (·.1)).Nodup := (pm.map _).nodup_iff.mpr (List.nodup_cons.mpr ⟨out, gn⟩)
    have sz : es1.size = L.length + 1 := by
      have q := congrArg List.length em
      rw [Array.length_toList, List.length_map, pm.length_eq] at q
      exact q
    have ld : w.params.followText "set-order" = true ∨ t1.led = true := gl.imp id fun z => by rw [l4]; exact z
    have fin : ∀ h' M', Heap.SameBut a s.heap h' → SetL knd h' a M' → M'.Perm M → Q true { s with heap := h' } := fun h' M' sb S' pm' => by
      refine hQ h' M' true sb S' (fun j => ?_) ?_
      · rw [((pm'.trans pm).map (·.1)).mem_iff, List.map_cons, List.mem_cons]
        exact Or.comm
      · rw [(pm'.trans pm).length_eq]; exact Nat.le_refl _
    refine wpAny_bind (gave _ _ _ ?_)
    have told : ∀ (b : Bool) (s1 : Shared) (Q1 : Unit → Shared → Prop), Q1 () s1 → wpAny (model P w) A (match b with | true => rule "set.scan.the-table-gave-way" | false => pure ()) Q1 E s1 := gave
    by_cases pl : t1.plain = true
    · rw [if_pos pl]
      refine wpAny_bind ?_
      rw [hashByValue_scannable 8 hv]
      refine wpAny_pure ?_
      cases plainKind v with
      | true => exact keep_wide g gx gd em gi1 gn1 (by rw [sz]; exact room) l2 l3 ld told fun h' M' sb S' pm' => wpAny_pure (fin h' M' sb S' pm')
      | false => exact keep_wide g gx gd em gi1 gn1 (by rw [sz]; exact room) (SetTable.fits_plain_off l2) l3 ld told fun h' M' sb S' pm' => wpAny_pure (fin h' M' sb S' pm')
    · rw [if_neg pl]
      refine wpAny_bind (wpAny_pure ?_)
      exact keep_wide g gx gd em gi1 gn1 (by rw [sz]; exact room) l2 l3 ld told fun h' M' sb S' pm' => wpAny_pure (fin h' M' sb S' pm')
end
end Tw

set_option Elab.async false
set_option linter.all false
set_option maxRecDepth 100000
set_option maxHeartbeats 4000000
namespace Tw
open PySem L2 PySem.Spec PyProof.Rows
section
variable {prog : Program} {w : World} {A : Around} {R : Result → Shared → Prop} {I : Addr} {fp wr : List Addr} {G : Array GenState → Array GenState → Prop} {n : Nat} {Pw : Nat → Value → Prop} {St : Nat → Shared → Prop}
/-- the set at a holds just these texts -/
def Holds (prog : Program) (w : World) (h : Heap) (a : Addr) (xs : List Str) : Prop := ∃ L, SetL (PySem.strKind prog w) h a L ∧ (∀ j, j ∈ L.map (·.1) ↔ j ∈ xs) ∧ L.length ≤ xs.length
/-- the texts that are walked all come in -/
theorem all_come_in (W : WalksS prog w A.in1 I fp wr G n Pw St) (S : Addr) (off : S ∉ fp) (xs : List Str) (hn : xs.length = n) (few : n + 1 < scanBound) (gives : ∀ i v, Pw i v → ∃ t, v = .str (xs.getD i Str.empty) t) :
    ∀ (m i : Nat) (s : Shared), i + m = n → St i s → Holds prog w s.heap S (xs.take i) → (∀ s', Moved (S :: wr) G s s' → Holds prog w s'.heap S xs → R (.ok (.ret .none)) s') →
      codeAny (model prog w) A (.builtin "set.update.loop" ⟨[.ref S, .ref I], []⟩) R s := by
  have offw : S ∉ wr := fun z => off (W.sub _ z)
  have more : ∀ b ∈ wr, b ∈ S :: wr := fun b z => List.mem_cons_of_mem _ z
  intro m
  induction m with
  | zero =>
    intro i s him st hS fin
    have e : i = n := by omega
    subst e
    refine codeAny_builtin PyProof.Rows.F.entry_set_update_loop ?_
    rw [Around.under_plainId PyProof.Rows.F.plain_set_update_loop _]
    show wpAny _ A.in1 (pyNext (.ref I) >>= _) _ _ s
    refine wpAny_bind (W.done s _ _ st fun s1 mv => ?_)
    show wpAny _ A.in1 (ret Value.none) _ _ s1
    obtain ⟨L, hL, mem, len⟩ := hS
    rw [← hn, List.take_length] at mem len
    exact wpAny_pure (fin s1 (mv.mono more) ⟨L, hL.at fun o g => mv.heap S o offw g, mem, len⟩)
  | succ m ih =>
    intro i s him st hS fin
    refine codeAny_builtin PyProof.Rows.F.entry_set_update_loop ?_
    rw [Around.under_plainId PyProof.Rows.F.plain_set_update_loop _]
    show wpAny _ A.in1 (pyNext (.ref I) >>= _) _ _ s
    refine wpAny_bind (W.item i s _ _ (by omega) st fun v s1 hv st1 mv => ?_)
    obtain ⟨t, rfl⟩ := gives i v hv
    obtain ⟨L, hL, mem, len⟩ := hS
    have hL1 : SetL (PySem.strKind prog w) s1.heap S L := hL.at fun o g => mv.heap S o offw g
    have hx : xs[i]? = some (xs.getD i Str.empty) := by rw [List.getD_eq_getElem?_getD, List.getElem?_eq_getElem (show i < xs.length by omega)]; rfl
    generalize hz : xs.getD i Str.empty = z at hx ⊢
    have tk : xs.take (i + 1) = xs.take i ++ [z] := by rw [List.take_succ, hx]; rfl
    have lt : (xs.take i).length = i := by rw [List.length_take]; omega
    show wpAny _ A.in1 (holding [Value.str z t] (setAdd S (.str z t)) >>= _) _ _ s1
    refine wpAny_bind (wpAny_holding ?_)
    unfold setAdd
    refine wpAny_holding (wpAny_bind ((PySem.strKind prog w).pyHash (k := z) (strKind_is _ _ _ _) ?_))
    refine set_one_more (s := { s1 with toks := s1.toks + 1 }) hL1 (k := z) (strKind_is _ _ _ _) rfl (by omega) fun h2 L2' b sb hL2 mem2 len2 => ?_
    have go : ∀ s2 : Shared, s2 = { s1 with toks := s1.toks + 1, heap := h2 } → codeAny (model prog w) A (.builtin "set.update.loop" ⟨[.ref S, .ref I], []⟩) R s2 := fun s2 e => by
      subst e
      refine ih (i + 1) _ (by omega) (W.frame _ s1 _ _ st1 (Nat.le_succ _) fun b hb o g => ?_) ⟨L2', hL2, fun j => ?_, ?_⟩ fun s3 mv3 hS3 => ?_
      · exact (sb.2 b (fun z => off (by rw [← z]; exact hb))).trans g
      · rw [mem2, mem, tk, List.mem_append, List.mem_singleton]
      · rw [tk, List.length_append, List.length_singleton, lt]; rw [lt] at len; omega
      · refine fin s3 (Moved.trans W.gtrans ((mv.mono more).then_heap (Nat.le_succ _) fun b o hb g => ?_) mv3) hS3
        exact (sb.2 b (fun z => hb (by rw [z]; exact List.mem_cons_self))).trans g
    exact wpAny_pure ⟨plainId_quiet PyProof.Rows.F.plain_set_update_loop _, go _ rfl⟩
end
section
variable {prog : Program} {w : World} {A : Around} {E : Value → Shared → Prop} {s : Shared}
/-- an empty set just laid -/
abbrev bareSet (w : World) : Obj := { cls := .type "set", dict := none, data := .set #[] 0 (.fresh 0 0 (!w.params.followText "set-order")) }
theorem bare_holds {h : Heap} {a : Addr} (g : h.get? a = some (bareSet w)) : Holds prog w h a [] := by
  refine ⟨[], ⟨_, #[], 0, _, g, ⟨rfl, rfl, rfl⟩, rfl, rfl, (fun p hp => nomatch hp), List.nodup_nil, by decide, by rfl, List.Pairwise.nil, ?_⟩, fun j => Iff.rfl, Nat.le_refl _⟩
  show _ ∨ (!w.params.followText "set-order") = true
  cases w.params.followText "set-order"
  · exact .inr rfl
  · exact .inl rfl
/-- set.__init__(S, xs) on a bare set -/
theorem init_from_list {S l : Addr} {items : Array Value} {xs : List Str} (hh : A.handled = none) (hS : s.heap.get? S = some (bareSet w)) (hl : s.heap.IsList l items) (ne : S ≠ l) (hi : PyProof.Rows.StrsAre items.toList xs) (few : xs.length + 1 < scanBound) {Q : Value → Shared → Prop}
    (h : ∀ (h' : Heap) (tk : Nat), Holds prog w h' S xs → (∀ b o, b ≠ S → s.heap.get? b = some o → h'.get? b = some o) → Q .none { s with heap := h', toks := tk }) :
    codeAny (model prog w) A (.call (.builtin "set.__init__") ⟨[.ref S, .ref l], []⟩) (wants Q E) s := by
  have tS : s.TypeIs (.ref S) "set" := ⟨_, hS, rfl⟩
  refine codeAny_call_builtin PySem.F.called_set.init.plain PySem.F.entry_set_init (check_set_init_1 tS ?_)
  obtain ⟨ol, hol, hcl, nl, hdl⟩ := id hl
  obtain ⟨ocls, odict, odata, oslots⟩ := ol
  simp only at hcl hdl
  subst hcl; subst hdl
  have f1 := PySem.F.sub_list_set
  have f2 := PySem.F.sub_list_frozenset
  have f3 : (Value.type "list" == Value.type "dict") = false := by decide
  unfold Builtin.«set.__init__» noKeywords Builtin.Frozenset.updateFrom
  generalize hPI : pyIter = PI
  wp_walk
  subst hPI
  refine wpAny_pyIter_list hl ?_
  refine wpAny_bind (wpAny_runValue ?_)
  have lS : l < s.heap.objs.size := Heap.lt_size hol
  have sS : S < s.heap.objs.size := Heap.lt_size hS
  have quiet : A.in1.in1.handled = none := by simp [hh]
  have sz : xs.length = items.size := by rw [← StrsAre.len_eq hi, Array.length_toList]
  have gv : ∀ (i : Nat) (v : Value), items[i]? = some v → ∃ t, v = .str (xs.getD i Str.empty) t := fun i v hv => SS.strs_at hi i v (by rw [Array.getElem?_toList]; exact hv)
  refine all_come_in ((Walks.list quiet s.heap.objs.size l (Nat.ne_of_lt lS) items).toS) S ?_ xs sz (by omega) gv items.size 0 _ (by omega) ?_ ?_ fun s1 mv hH => ?_
  · intro z
    rcases List.mem_cons.mp z with z | z
    · exact absurd z (Nat.ne_of_lt sS)
    · exact ne (List.mem_singleton.mp z)
  · exact ⟨⟨_, Heap.get?_push_size _ rfl, rfl, rfl⟩, hl.push _⟩
  · exact bare_holds (Heap.get?_push_of_some _ hS)
  · obtain ⟨h1, g1, d1, k1, o1⟩ := s1
    have e1 : g1 = s.gens := mv.gens
    have e2 : d1 = s.drawn := mv.drawn
    have e3 : o1 = s.os := mv.os
    subst e1; subst e2; subst e3
    refine wpAny_pure ?_
    show wpAny _ _ (ret Value.none) _ _ _
    refine wpAny_pure (h h1 k1 hH fun b o nb g => mv.heap b o ?_ (Heap.get?_push_of_some _ g))
    intro z
    rcases List.mem_cons.mp z with z | z
    · exact nb z
    · exact absurd (List.mem_singleton.mp z) (Nat.ne_of_lt (Heap.lt_size g))
/-- set(xs), xs a list of texts -/
theorem set_of_texts {l : Addr} {items : Array Value} {xs : List Str} {Q : Value → Shared → Prop} (hh : A.handled = none) (hl : s.heap.IsList l items) (hi : PyProof.Rows.StrsAre items.toList xs) (few : xs.length + 1 < scanBound)
    (h : ∀ (h' : Heap) (tk : Nat), Holds prog w h' s.heap.objs.size xs → (∀ b o, s.heap.get? b = some o → h'.get? b = some o) → Q (.ref s.heap.objs.size) { s with heap := h', toks := tk }) :
    wpAny (model prog w) A (call (.type "set") [.ref l]) Q E s := by
  obtain ⟨c, tl, hmro⟩ := PySem.F.called_set.mro
  have made := PySem.F.called_set.made
  have subs := PySem.F.called_set.sub
  have noTy := PySem.F.called_set.notType
  have canC := PySem.F.called_set.canCreate
  have tcal := PySem.F.typeCall_set_1 (.ref l)
  refine wpAny_call (codeAny_of_tree ?_)
  show wpAny _ _ (callAny (.type "set") _) _ _ _
  refine wpAny_pure ⟨Code.quiet_builtin _ (by decide +kernel), codeAny_builtin PySem.F.entry_type_call ?_⟩
  rw [Around.under_plain (weight_type_call_type "set" [.ref l] []) rfl]
  repeat (any_goals (first | assumption | wp_step))
  refine codeAny_mono (code_set_led1 (.ref l) (E := E) (Q₁ := fun ob s1 => ob = .ref s.heap.objs.size ∧ s1 = { s with heap := s.heap.push (bareSet w) }) ⟨rfl, rfl⟩) fun r s1 hr => ?_
  cases r with
  | error e => exact hr
  | ok fl =>
    cases fl with
    | ret ob =>
      obtain ⟨rfl, rfl⟩ := hr
      have gS : (s.heap.push (bareSet w)).get? s.heap.objs.size = some (bareSet w) := Heap.get?_push_size _ rfl
      have tS : Shared.TypeIs { s with heap := s.heap.push (bareSet w) } (.ref s.heap.objs.size) "set" := ⟨_, gS, rfl⟩
      have il := PySem.F.called_set.init.lookup
      have ib := PySem.F.called_set.init.bind (.ref s.heap.objs.size)
      repeat (any_goals (first | assumption | wp_step))
      obtain ⟨ol, hol, _⟩ := id hl
      have lS : l < s.heap.objs.size := Heap.lt_size hol
      refine codeAny_mono (init_from_list (prog := prog) (w := w) (E := E) (s := { s with heap := s.heap.push (bareSet w) }) (xs := xs) (Q := fun r s2 => r = .none ∧ ∃ h' tk, s2 = { s with heap := h', toks := tk } ∧ Holds prog w h' s.heap.objs.size xs ∧ ∀ b o, s.heap.get? b = some o → h'.get? b = some o) ?_ gS (hl.push _) (Nat.ne_of_gt lS) hi few fun h' tk hH k => ⟨rfl, h', tk, rfl, hH, fun b o g => k b o (Nat.ne_of_lt (Heap.lt_size g)) (Heap.get?_push_of_some _ g)⟩) fun r2 s2 hr2 => ?_
      · simp [hh]
      · cases r2 with
        | error e => exact hr2
        | ok fl2 =>
          cases fl2 with
          | ret r =>
            obtain ⟨rfl, h', tk, rfl, hH, k⟩ := hr2
            repeat (any_goals (first | assumption | wp_step))
            exact h _ _ hH k
          | _ => exact hr2.elim
    | _ => exact hr.elim
end
end Tw

set_option Elab.async false
set_option linter.all false
set_option maxRecDepth 100000
set_option maxHeartbeats 4000000
namespace Tw
open PySem L2 PySem.Spec PyProof.Rows
section
variable {prog : Program} {w : World} {A : Around} {E : Value → Shared → Prop} {s : Shared}
theorem list_sort_texts {a : Addr} {vs : List Value} {ss : List Str} {n : Nat} {P : Fin → Shared → Prop} (ho : s.heap.get? a = some (seqObj "list" vs.toArray n)) (hS : StrsAre vs ss) (hL : vs.length ≤ sizeLine)
    (h : ∀ (out : Array Value) (ss' : List Str), StrsAre out.toList ss' → ss'.Perm ss → sortedS ss' = true → P (.done (.ret .none)) { s with heap := sortedHeap s.heap a vs out }) :
    wpAny (model prog w) A (Builtin.«list.sort» ⟨[.ref a], []⟩) P E s := by
  refine list_sort_treeKAny strKind_oneLt ho hS.keysOf (fun v₁ v₂ rest e => keyKind_strs (by rw [← e]; exact hS)) hL fun st' hp hs => ?_
  obtain ⟨ss', h1, h2, h3⟩ := sorted_out_str hS hp hs
  exact h _ ss' h1 h2 h3
theorem strs_of_keys : ∀ {M : List (Str × Value)}, (∀ p ∈ M, (PySem.strKind prog w).is p.1 p.2 = true) → StrsAre (M.map (·.2)) (M.map (·.1))
  | [], _ => .nil
  | p :: M, h => by
    have hp := h p List.mem_cons_self
    obtain ⟨x, v⟩ := p
    have : ∃ t, v = .str x t := Value.isStrOf_shape hp
    obtain ⟨t, rfl⟩ := this
    exact .cons x t (strs_of_keys fun q hq => h q (List.mem_cons_of_mem _ hq))
/-- sorted(a), a a set of texts -/
theorem sorted_of_texts {a : Addr} {xs : List Str} {Q : Value → Shared → Prop} (hH : Holds prog w s.heap a xs) (hh : A.handled = none)
    (hQ : ∀ s' p (out : Array Value) (c : Nat) (zs : List Str), (∀ b o, s.heap.get? b = some o → s'.heap.get? b = some o) → s'.gens = s.gens → s'.os = s.os → s.heap.objs.size ≤ p →
      s'.heap.get? p = some (seqObj "list" out c) → StrsAre out.toList zs → sortedS zs = true → zs.Nodup → (∀ k, k ∈ zs ↔ k ∈ xs) → zs.length ≤ sizeLine → Q (.ref p) s') :
    wpAny (model prog w) A (call (.builtin "sorted") [.ref a]) Q E s := by
  obtain ⟨L, ⟨o, es, ep, t, ho, hex, hd, ge, gi, nd, hb, hf, hr, hl⟩, hm, hn⟩ := hH
  refine Calls.call_function_entry kind_sorted plain_sorted entry_sorted (args_sorted1 _) ?_
  unfold Builtin.«sorted»
  refine wpAny_bind (m := checkCount "sorted" 1 1 _) (wpAny_pure ?_)
  refine wpAny_bind (collect_set (A := A.in1) hh ⟨o, ho, hex.1, hd⟩ hf hb hr hl fun s1 vs k1 hz g1 o1 pm => ?_)
  have ge2 : es.toList.map (·.2) = L.map (·.2) := by rw [ge, List.map_map]; rfl
  rw [ge2] at pm
  obtain ⟨M, rfl, pM⟩ := perm_unmap pm
  have kM : ∀ p ∈ M, (PySem.strKind prog w).is p.1 p.2 = true := fun p hp => (gi p (pM.mem_iff.mp hp)).1
  have hS := strs_of_keys kM
  have hlen : M.length = es.size := by rw [pM.length_eq, ← Array.length_toList, ge, List.length_map]
  have hsl : (M.map (·.2)).length ≤ sizeLine := by
    rw [List.length_map, hlen]
    exact Nat.le_of_lt (Nat.lt_of_lt_of_le hb (by decide))
  refine wpAny_bind (wpAny_newList ?_ hsl)
  have hoL : (s1.heap.push (seqObj "list" (M.map (·.2)).toArray 0)).get? s1.heap.objs.size = some (seqObj "list" (M.map (·.2)).toArray 0) := Heap.get?_push_size _ rfl
  refine wpAny_bind (wpAny_holding (wpAny_call_entry slot_list_sort ⟨_, hoL, rfl⟩ entry_list_sort (list_sort_texts hoL hS hsl fun out zs a1 a2 a3 => ⟨_, rfl, ?_⟩) (args_list_sort _)))
  obtain ⟨c, hc⟩ := sortedHeap_at (vs := M.map (·.2)) (out := out) hoL
  have pn : zs.Perm (L.map (·.1)) := a2.trans (pM.map _)
  refine wpAny_pure ⟨_, rfl, hQ _ s1.heap.objs.size out c zs (fun b u e => ?_) g1 o1 hz hc a1 a3 (pn.nodup_iff.mpr nd) (fun k => by rw [pn.mem_iff, hm k]) ?_⟩
  · have q := k1 b u e
    have hlt := Heap.lt_size q
    show (sortedHeap (s1.heap.push (seqObj "list" (M.map (·.2)).toArray 0)) s1.heap.objs.size (M.map (·.2)) out).get? b = some u
    rw [sortedHeap_old (Nat.ne_of_lt hlt) (by rw [size_push']; exact Nat.lt_succ_of_lt hlt)]
    exact Heap.get?_push_of_some _ q
  · rw [pn.length_eq, List.length_map]
    rw [List.length_map, pM.length_eq] at hsl
    exact hsl
end
section
variable {X : Cx}
/-- sorted(set(xs)), xs a list of texts: a new list, each text once, in order -/
def tSortedSet (K : PySem.W.Frag) (ta : TE) : TE := fun σ H Q => ta σ H fun x H1 => ∃ (l : Addr) (xs : List Str), x = .ref l ∧ SqL K H1 l (xs.map V.str) ∧ xs.length + 1 < scanBound ∧
  ∀ (zs : List Str) (p : Addr), sortedS zs = true → zs.Nodup → (∀ k, k ∈ zs ↔ k ∈ xs) → H1 p = none → Q (.ref p) (upd H1 p (.lst (zs.map V.str)))
theorem pe_sortedSet {K : PySem.W.Frag} {a : Expr} {ta : TE} {p p2 q pos : Pos} (hK : X.K = K) (hc : X.calm = true) (hg : Gl X "sorted") (hm : X.mg "sorted" = none) (hg2 : Gl X "set") (hm2 : X.mg "set" = none) (ha : PE X a ta)
    (na : starEach [a] X.env = (false, eval a X.env) :: starEach [] X.env := by rfl) : PE X (.Call (.Name "sorted" p) [.Call (.Name "set" p2) [a] [] q] [] pos) (tSortedSet K ta) := by
  subst hK
  refine ⟨fun pins s σ H Q I h => ?_⟩
  refine Call_ (ld_blt I hg hm boot_sorted ?_)
  refine PyProof.Rows.callWith_builtin1 (PyProof.Rows.args_cons ?_ rfl) rfl rfl
  refine Call_ (ld_blt I hg2 hm2 boot_set ?_)
  refine PyProof.Rows.callWith_type1 (PyProof.Rows.args_cons (thn (ha.run pins s σ H _ I h) fun v s1 ⟨x, H1, I1, r1, q1⟩ => PyProof.Rows.args_nil ?_) na) na rfl
  obtain ⟨l, xs, rfl, hq, h1, q1⟩ := q1
  cases r1
  obtain ⟨its, r, pl, hz⟩ := I1.list hq
  refine set_of_texts (I1.ok.hd hc) pl.isList (by simpa using strsAre_of r) h1 fun h' tk hS hk => ?_
  refine PyProof.Rows.args_nil ?_
  have I2 : Inv X pins σ H1 { s1 with heap := h', toks := tk } := I1.kept fun b o e => hk b o e
  refine sorted_of_texts hS (I2.ok.hd hc) fun s' p out c zs k g o hp hg so ord nd hm hl => ?_
  have hlen : (zs.map V.str).length ≤ sizeLine := by rw [List.length_map]; exact hl
  have hn : H1 p = none := I2.hok.fresh hp
  have J : Inv X pins σ (upd H1 p (.lst (zs.map V.str))) { ({ s1 with heap := h', toks := tk } : Shared) with heap := s'.heap, gens := s'.gens, drawn := s'.drawn, toks := s'.toks } :=
    I2.call (ch := []) (Un.laid k hp hn) (I2.hok.laid k hp ⟨hlen, out.toList, c, vals_of_strs so, hg⟩) (by rw [g]; exact I2.bare) (fun _ z => nomatch z)
  have e : s' = { ({ s1 with heap := h', toks := tk } : Shared) with heap := s'.heap, gens := s'.gens, drawn := s'.drawn, toks := s'.toks } := by
    cases s'
    cases s1
    cases o
    rfl
  rw [e]
  exact ⟨.ref p, _, J, rfl, q1 zs p ord nd hm hn⟩
end
end Tw

set_option Elab.async false
set_option linter.all false
set_option maxRecDepth 100000
set_option maxHeartbeats 4000000
/-! how many unlike texts a list or a tuple holds -/
namespace Tw
open PySem L2 PySem.Spec PyProof.Rows
section
variable {prog : Program} {w : World} {A : Around} {s : Shared} {E : Value → Shared → Prop}
/-- set.__init__(S, xs) on a bare set -/
theorem init_from_tuple {S l : Addr} {items : Array Value} {xs : List Str} (hh : A.handled = none) (hS : s.heap.get? S = some (bareSet w)) (hl : s.heap.IsTuple l items) (ne : S ≠ l) (hi : PyProof.Rows.StrsAre items.toList xs) (few : xs.length + 1 < scanBound) {Q : Value → Shared → Prop}
    (h : ∀ (h' : Heap) (tk : Nat), Holds prog w h' S xs → (∀ b o, b ≠ S → s.heap.get? b = some o → h'.get? b = some o) → Q .none { s with heap := h', toks := tk }) :
    codeAny (model prog w) A (.call (.builtin "set.__init__") ⟨[.ref S, .ref l], []⟩) (wants Q E) s := by
  have tS : s.TypeIs (.ref S) "set" := ⟨_, hS, rfl⟩
  refine codeAny_call_builtin PySem.F.called_set.init.plain PySem.F.entry_set_init (check_set_init_1 tS ?_)
  obtain ⟨ol, hol, hcl, nl, hdl⟩ := id hl
  obtain ⟨ocls, odict, odata, oslots⟩ := ol
  simp only at hcl hdl
  subst hcl; subst hdl
  have f1 := PySem.F.sub_tuple_set
  have f2 := PySem.F.sub_tuple_frozenset
  have f3 : (Value.type "tuple" == Value.type "dict") = false := by decide
  unfold Builtin.«set.__init__» noKeywords Builtin.Frozenset.updateFrom
  generalize hPI : pyIter = PI
  wp_walk
  subst hPI
  refine wpAny_pyIter_tuple hl ?_
  refine wpAny_bind (wpAny_runValue ?_)
  have lS : l < s.heap.objs.size := Heap.lt_size hol
  have sS : S < s.heap.objs.size := Heap.lt_size hS
  have quiet : A.in1.in1.handled = none := by simp [hh]
  have sz : xs.length = items.size := by rw [← StrsAre.len_eq hi, Array.length_toList]
  have gv : ∀ (i : Nat) (v : Value), items[i]? = some v → ∃ t, v = .str (xs.getD i Str.empty) t := fun i v hv => SS.strs_at hi i v (by rw [Array.getElem?_toList]; exact hv)
  refine all_come_in ((Walks.tuple quiet s.heap.objs.size l (Nat.ne_of_lt lS) items).toS) S ?_ xs sz (by omega) gv items.size 0 _ (by omega) ?_ ?_ fun s1 mv hH => ?_
  · intro z
    rcases List.mem_cons.mp z with z | z
    · exact absurd z (Nat.ne_of_lt sS)
    · exact ne (List.mem_singleton.mp z)
  · exact ⟨⟨_, Heap.get?_push_size _ rfl, rfl, rfl⟩, hl.push _⟩
  · exact bare_holds (Heap.get?_push_of_some _ hS)
  · obtain ⟨h1, g1, d1, k1, o1⟩ := s1
    have e1 : g1 = s.gens := mv.gens
    have e2 : d1 = s.drawn := mv.drawn
    have e3 : o1 = s.os := mv.os
    subst e1; subst e2; subst e3
    refine wpAny_pure ?_
    show wpAny _ _ (ret Value.none) _ _ _
    refine wpAny_pure (h h1 k1 hH fun b o nb g => mv.heap b o ?_ (Heap.get?_push_of_some _ g))
    intro z
    rcases List.mem_cons.mp z with z | z
    · exact nb z
    · exact absurd (List.mem_singleton.mp z) (Nat.ne_of_lt (Heap.lt_size g))
/-- set(xs), xs a tuple of texts -/
theorem set_of_textsT {l : Addr} {items : Array Value} {xs : List Str} {Q : Value → Shared → Prop} (hh : A.handled = none) (hl : s.heap.IsTuple l items) (hi : PyProof.Rows.StrsAre items.toList xs) (few : xs.length + 1 < scanBound)
    (h : ∀ (h' : Heap) (tk : Nat), Holds prog w h' s.heap.objs.size xs → (∀ b o, s.heap.get? b = some o → h'.get? b = some o) → Q (.ref s.heap.objs.size) { s with heap := h', toks := tk }) :
    wpAny (model prog w) A (call (.type "set") [.ref l]) Q E s := by
  obtain ⟨c, tl, hmro⟩ := PySem.F.called_set.mro
  have made := PySem.F.called_set.made
  have subs := PySem.F.called_set.sub
  have noTy := PySem.F.called_set.notType
  have canC := PySem.F.called_set.canCreate
  have tcal := PySem.F.typeCall_set_1 (.ref l)
  refine wpAny_call (codeAny_of_tree ?_)
  show wpAny _ _ (callAny (.type "set") _) _ _ _
  refine wpAny_pure ⟨Code.quiet_builtin _ (by decide +kernel), codeAny_builtin PySem.F.entry_type_call ?_⟩
  rw [Around.under_plain (weight_type_call_type "set" [.ref l] []) rfl]
  repeat (any_goals (first | assumption | wp_step))
  refine codeAny_mono (code_set_led1 (.ref l) (E := E) (Q₁ := fun ob s1 => ob = .ref s.heap.objs.size ∧ s1 = { s with heap := s.heap.push (bareSet w) }) ⟨rfl, rfl⟩) fun r s1 hr => ?_
  cases r with
  | error e => exact hr
  | ok fl =>
    cases fl with
    | ret ob =>
      obtain ⟨rfl, rfl⟩ := hr
      have gS : (s.heap.push (bareSet w)).get? s.heap.objs.size = some (bareSet w) := Heap.get?_push_size _ rfl
      have tS : Shared.TypeIs { s with heap := s.heap.push (bareSet w) } (.ref s.heap.objs.size) "set" := ⟨_, gS, rfl⟩
      have il := PySem.F.called_set.init.lookup
      have ib := PySem.F.called_set.init.bind (.ref s.heap.objs.size)
      repeat (any_goals (first | assumption | wp_step))
      obtain ⟨ol, hol, _⟩ := id hl
      have lS : l < s.heap.objs.size := Heap.lt_size hol
      refine codeAny_mono (init_from_tuple (prog := prog) (w := w) (E := E) (s := { s with heap := s.heap.push (bareSet w) }) (xs := xs) (Q := fun r s2 => r = .none ∧ ∃ h' tk, s2 = { s with heap := h', toks := tk } ∧ Holds prog w h' s.heap.objs.size xs ∧ ∀ b o, s.heap.get? b = some o → h'.get? b = some o) ?_ gS (hl.push _) (Nat.ne_of_gt lS) hi few fun h' tk hH k => ⟨rfl, h', tk, rfl, hH, fun b o g => k b o (Nat.ne_of_lt (Heap.lt_size g)) (Heap.get?_push_of_some _ g)⟩) fun r2 s2 hr2 => ?_
      · simp [hh]
      · cases r2 with
        | error e => exact hr2
        | ok fl2 =>
          cases fl2 with
          | ret r =>
            obtain ⟨rfl, h', tk, rfl, hH, k⟩ := hr2
            repeat (any_goals (first | assumption | wp_step))
            exact h _ _ hH k
          | _ => exact hr2.elim
    | _ => exact hr.elim
end
section
variable {X : Cx}
def SqAny (K : PySem.W.Frag) (H : Hp) (l : Addr) (xs : List V) : Prop := SqL K H l xs ∨ SqT K H l xs
/-- len(set(xs)), xs a list or a tuple of texts -/
def tLenSetX (K : PySem.W.Frag) (ta : TE) : TE := fun σ H Q => ta σ H fun x H1 => ∃ (l : Addr) (xs : List Str), x = .ref l ∧ SqAny K H1 l (xs.map V.str) ∧ xs.length + 1 < scanBound ∧
  ∀ (zs : List Str), zs.Nodup → (∀ k, k ∈ zs ↔ k ∈ xs) → zs.length ≤ xs.length → Q (.int zs.length) H1
theorem g_lenSetX {K : PySem.W.Frag} {ta : TE} {σ : L2.St} {H : Hp} {Q : VK} (q : ta σ H fun x H1 => ∃ (l : Addr) (xs : List Str), x = .ref l ∧ SqAny K H1 l (xs.map V.str) ∧ xs.length + 1 < scanBound ∧
  ∀ (zs : List Str), zs.Nodup → (∀ k, k ∈ zs ↔ k ∈ xs) → zs.length ≤ xs.length → Q (.int zs.length) H1) : tLenSetX K ta σ H Q := q
theorem pe_lenSetX {K : PySem.W.Frag} {a : Expr} {ta : TE} {p p2 q pos : Pos} (hK : X.K = K) (hc : X.calm = true) (hg : Gl X "len") (hm : X.mg "len" = none) (hg2 : Gl X "set") (hm2 : X.mg "set" = none) (ha : PE X a ta)
    (na : starEach [a] X.env = (false, eval a X.env) :: starEach [] X.env := by rfl) : PE X (.Call (.Name "len" p) [.Call (.Name "set" p2) [a] [] q] [] pos) (tLenSetX K ta) := by
  subst hK
  refine ⟨fun pins s σ H Q I h => ?_⟩
  refine Call_ (ld_blt I hg hm boot_len ?_)
  refine PyProof.Rows.callWith_builtin1 (PyProof.Rows.args_cons ?_ rfl) rfl rfl
  refine Call_ (ld_blt I hg2 hm2 boot_set ?_)
  refine PyProof.Rows.callWith_type1 (PyProof.Rows.args_cons (thn (ha.run pins s σ H _ I h) fun v s1 ⟨x, H1, I1, r1, q1⟩ => PyProof.Rows.args_nil ?_) na) na rfl
  obtain ⟨l, xs, rfl, hq, h1, q1⟩ := q1
  cases r1
  have fin : ∀ (h' : Heap) (tk : Nat), Holds X.prog X.w h' s1.heap.objs.size xs → (∀ b o, s1.heap.get? b = some o → h'.get? b = some o) →
      wpAny (model X.prog X.w) X.A (spliced (backTo pos (starEach [] X.env))) (fun vs s₂ => wpAny (model X.prog X.w) X.A (call (.builtin "len") (Value.ref s1.heap.objs.size :: vs)) (EP X pins σ Q) X.xe s₂) X.xe { s1 with heap := h', toks := tk } := fun h' tk hS hk => by
    refine PyProof.Rows.args_nil ?_
    obtain ⟨L, ⟨o, es, ep, t, ho, hex, hd, ge, gi, nd, hb, hf, _⟩, hm, hn⟩ := hS
    have I2 : Inv X pins σ H1 { s1 with heap := h', toks := tk } := I1.kept fun b o e => hk b o e
    have hl : es.size = (L.map (·.1)).length := by rw [List.length_map, ← Array.length_toList, ge, List.length_map]
    refine call_len_set ho hex hd hf (by have : es.size < 1000000000000 := Nat.lt_of_lt_of_le hb (by decide); omega) ⟨.int (L.map (·.1)).length, H1, I2.tok _, ⟨_, by rw [hl]⟩, q1 _ nd hm (by rw [List.length_map]; exact hn)⟩
  rcases hq with hq | hq
  · obtain ⟨its, r, pl, hz⟩ := I1.list hq
    exact set_of_texts (I1.ok.hd hc) pl.isList (by simpa using strsAre_of r) h1 fin
  · obtain ⟨its, r, pl, hz⟩ := I1.tuple hq
    exact set_of_textsT (I1.ok.hd hc) pl (by simpa using strsAre_of r) h1 fin
end
end Tw

set_option Elab.async false
set_option linter.all false
set_option maxRecDepth 100000
namespace Tw
open PySem L2 PySem.Spec
/-- the address that a name of the text stands for -/
def cadr (mg : Str → Option Value) (x : Str) : Addr := match mg x with
  | some (.ref a) => a
  | _ => 0
theorem cadr_of {mg : Str → Option Value} {x : Str} {a : Addr} (h : mg x = some (.ref a)) : cadr mg x = a := by
  unfold cadr
  rw [h]
/-- a method of a class of the text with its promise -/
structure DefM (P : Program) (w : World) (K : PySem.W.Frag) (mg : Str → Option Value) (base : Heap) (k : Nat) (C : Addr) (m : Str) (ps : List Str) (sp : Sp) : Prop where
  ex : ∃ (f : Addr) (fd : FuncData), FnOk P w K mg base CX0 k f fd ps sp ∧ Meth K C m f ∧ Binds K fd ps []
/-- where a method of the text stands -/
structure HereM (K : PySem.W.Frag) (C : Addr) (m qual : Str) (st : Stmt) (ps : List Str) (f : Addr) (fd : FuncData) : Prop where
  fn : Fun K m qual st f fd
  me : Meth K C m f
  bd : Binds K fd ps []
/-- a maker of a class of the text with its promise -/
structure DefC (P : Program) (w : World) (K : PySem.W.Frag) (mg : Str → Option Value) (base : Heap) (k : Nat) (C : Addr) (ps : List Str) (sp : Sp) : Prop where
  ex : ∃ (f : Addr) (fd : FuncData), FnOk P w K mg base CX0 k f fd ps sp ∧ Mk K C f ∧ Binds K fd ps []
structure HereC (K : PySem.W.Frag) (C : Addr) (qual : Str) (st : Stmt) (ps : List Str) (f : Addr) (fd : FuncData) : Prop where
  fn : Fun K "__init__" qual st f fd
  mkr : Mk K C f
  bd : Binds K fd ps []
theorem HereM.def {P : Program} {w : World} {K : PySem.W.Frag} {mg : Str → Option Value} {base : Heap} {k : Nat} {C : Addr} {m qual : Str} {st : Stmt} {ps : List Str} {sp : Sp} {f : Addr} {fd : FuncData} (h : HereM K C m qual st ps f fd) (F : FnOk P w K mg base CX0 k f fd ps sp) : DefM P w K mg base k C m ps sp :=
  ⟨f, fd, F, h.me, h.bd⟩
theorem HereC.def {P : Program} {w : World} {K : PySem.W.Frag} {mg : Str → Option Value} {base : Heap} {k : Nat} {C : Addr} {qual : Str} {st : Stmt} {ps : List Str} {sp : Sp} {f : Addr} {fd : FuncData} (h : HereC K C qual st ps f fd) (F : FnOk P w K mg base CX0 k f fd ps sp) : DefC P w K mg base k C ps sp :=
  ⟨f, fd, F, h.mkr, h.bd⟩
section
variable {X : Cx} {k j : Nat} {C : Addr} {x m : Str} {p pos apos : Pos} {o e : Expr} {es : List Expr} {ps : List Str} {sp : Sp} {ta : TE} {t : TA}
def tMe (C : Addr) (m : Str) (sp : Sp) (ta : TE) (t : TA) : TE := fun σ H Q => ta σ H fun x H1 => ∃ a dx fs, x = .ref a ∧ H1 a = some (.ins C dx fs) ∧ fs.lookup m = none ∧ t σ H1 fun vs H2 => sp (x :: vs) H2 Q E0
theorem tMe_eq : tMeth C m sp [] E0 ta t = tMe C m sp ta t := by
  funext σ H Q
  unfold tMeth tMe
  simp only [List.append_nil]
def tNew (C : Addr) (sp : Sp) (t : TA) : TE := fun σ H Q => t σ H fun vs H1 => ∀ x dx, H1 x = none → H1 dx = none → dx ≠ x → sp (.ref x :: vs) (upd (upd H1 dx (.own x)) x (.ins C dx [])) (fun v H2 => v = .non ∧ Q (.ref x) H2) E0
theorem tNew_eq : tMake C sp [] E0 t = tNew C sp t := by
  funext σ H Q
  unfold tMake tNew
  simp only [List.append_nil]
theorem pe_never : PE X e (fun _ _ _ => False) := ⟨fun _ _ _ _ _ _ h => h.elim⟩
theorem pe_fldG {K : PySem.W.Frag} {f : Str} (hK : X.K = K) (he : PE X e ta) (hb : attributeBase e f X.env (eval e X.env) = eval e X.env) : PE X (.Attribute e f pos) (tFld K ta f) := by
  subst hK
  exact pe_fld he hb
theorem pi_tupG {K : PySem.W.Frag} {tg : Expr} (hK : X.K = K) (he : PE X e ta) : PI X tg e (iTup K ta) := by
  subst hK
  exact pi_tup he
theorem pi_listG {K : PySem.W.Frag} {tg : Expr} (hK : X.K = K) (he : PE X e ta) : PI X tg e (iList K ta) := by
  subst hK
  exact pi_list he
theorem pe_me {pl : Sem Bool} (he : PE X o ta) (c : Cls X.K C) (D : DefM X.prog X.w X.K X.mg X.base k C m ps sp) (hr : Room j X.A) (ha : PA X (e :: es) t) (hk : k ≤ j := by decide)
    (hst : starEach (e :: es) X.env = (false, eval e X.env) :: starEach es X.env := by rfl) (hpl : (backTo pos (starEach es X.env)).any (·.1) = false := by rfl)
    (ht : eval (.Call (.Attribute o m apos) (e :: es) [] pos) X.env = (do
      let ov ← eval o X.env
      standAt apos.atName
      let (f, first) ← holding [ov] (getMethod ov m pl)
      callWith pos f first (backTo pos (starEach (e :: es) X.env)) (backToKw pos (keywordEach [] X.env))) := by rfl) : PE X (.Call (.Attribute o m apos) (e :: es) [] pos) (tMe C m sp ta t) := by
  obtain ⟨f, fd, F, hm, hb⟩ := D.ex
  rw [← tMe_eq]
  exact pe_meth he c hm F (hr.mono hk) hb .nil pass0 ha hst hpl ht
theorem pe_me0 {pl : Sem Bool} (he : PE X o ta) (c : Cls X.K C) (D : DefM X.prog X.w X.K X.mg X.base k C m ps sp) (hr : Room j X.A) (hk : k ≤ j := by decide)
    (ht : eval (.Call (.Attribute o m apos) [] [] pos) X.env = (do
      let ov ← eval o X.env
      standAt apos.atName
      let (f, first) ← holding [ov] (getMethod ov m pl)
      callWith pos f first (backTo pos (starEach [] X.env)) (backToKw pos (keywordEach [] X.env))) := by rfl) : PE X (.Call (.Attribute o m apos) [] [] pos) (tMe C m sp ta tNil) := by
  obtain ⟨f, fd, F, hm, hb⟩ := D.ex
  rw [← tMe_eq]
  exact pe_meth0 he c hm F (hr.mono hk) hb .nil pass0 ht
theorem pe_new (D : DefC X.prog X.w X.K X.mg X.base k C ps sp) (hr : Room j X.A) (hg : Gl X x) (hm : X.mg x = some (.ref C)) (ha : PA X (e :: es) t) (hk : k + 1 ≤ j := by decide) (hdb : (x == ("__debug__" : Str)) = false := by decide)
    (he : starEach (e :: es) X.env = (false, eval e X.env) :: starEach es X.env := by rfl) (hpl : (backTo pos (starEach es X.env)).any (·.1) = false := by rfl) : PE X (.Call (.Name x p) (e :: es) [] pos) (tNew C sp t) := by
  obtain ⟨f, fd, F, mk, hb⟩ := D.ex
  rw [← tNew_eq]
  exact pe_make mk F (hr.mono hk) hg hm hb .nil pass0 ha hdb he hpl
end
section
variable {K : PySem.W.Frag} {σ : L2.St} {H : Hp} {Q : VK} {QT : Bool → Hp → Prop} {QA : List V → Hp → Prop} {D : Ends} {ta tv te : TE} {t : TA} {sp : Sp} {C : Addr} {f m : Str}
theorem g_sortedSet (q : ta σ H fun x H1 => ∃ (l : Addr) (xs : List Str), x = .ref l ∧ SqL K H1 l (xs.map V.str) ∧ xs.length + 1 < scanBound ∧
  ∀ (zs : List Str) (p : Addr), PyProof.Rows.sortedS zs = true → zs.Nodup → (∀ k, k ∈ zs ↔ k ∈ xs) → H1 p = none → Q (.ref p) (upd H1 p (.lst (zs.map V.str)))) : tSortedSet K ta σ H Q := q
theorem g_dget {td ty : TE} (q : td σ H fun x H1 => ty σ H1 fun y H2 => ∃ a v, x = .ref a ∧ DGet H2 a y (some v) ∧ Q v H2) : tDGet td ty σ H Q := q
theorem g_din {td ty : TE} (q : ty σ H fun y H1 => td σ H1 fun x H2 => ∃ a o, x = .ref a ∧ DGet H2 a y o ∧ Q (.bl o.isSome) H2) : tDIn ty td σ H Q := q
theorem g_dnotin {td ty : TE} (q : ty σ H fun y H1 => td σ H1 fun x H2 => ∃ a o, x = .ref a ∧ DGet H2 a y o ∧ Q (.bl (!o.isSome)) H2) : tDNotIn ty td σ H Q := q
theorem g_neB {a b : Bool} (q : Q (.bl (!decide (a = b))) H) : rNe (.bl a) (.bl b) H Q := ⟨rfl, by rw [dB]; exact q⟩
theorem g_itup {R : It → Hp → Prop} (q : ta σ H fun x H1 => ∃ a, x = .ref a ∧ (∃ xs, SqT K H1 a xs) ∧ R (Itt K a) H1) : iTup K ta σ H R := q
theorem for_tupA {p : Addr} {xs : List V} {g : TG} {tb : TS} (Pv : Nat → L2.St → Hp → Prop) (h0 : Pv 0 σ H) (hl : ∀ i σ H, i ≤ xs.length → Pv i σ H → SqT K H p xs)
    (hs : ∀ i x σ H (D' : Ends), xs[i]? = some x → Pv i σ H → (∀ σ H, Pv (i + 1) σ H → D'.nx σ H) → (∀ σ H, Pv (i + 1) σ H → D'.ct σ H) → (∀ σ H, D.nx σ H → D'.bk σ H) → D'.rt = D.rt → g x σ H fun σ2 H2 => tb D' σ2 H2) (hd : ∀ σ H, Pv xs.length σ H → D.nx σ H) :
    ∃ W : Nat → Nat → L2.St → Hp → Prop, (∃ m, W 0 m σ H) ∧ ∀ i m σ H, W i m σ H →
      ((Itt K p).stop i H ∧ D.nx σ H) ∨ ((Itt K p).go i H ∧ ∃ N : L2.St → Hp → Prop, (∀ σ' H', N σ' H' → ∃ m', m' < m ∧ W (i + 1) m' σ' H') ∧ ∀ x H', (Itt K p).yld i H x H' → g x σ H' fun σ2 H2 => tb { D with nx := N, ct := N, bk := D.nx } σ2 H2) :=
  for_tup Pv h0 hl (fun i x σ H hi p => hs i x σ H _ hi p (fun _ _ h => h) (fun _ _ h => h) (fun _ _ h => h) rfl) hd
theorem g_me (q : ta σ H fun x H1 => ∃ a dx fs, x = .ref a ∧ H1 a = some (.ins C dx fs) ∧ fs.lookup m = none ∧ t σ H1 fun vs H2 => sp (x :: vs) H2 Q E0) : tMe C m sp ta t σ H Q := q
theorem g_new (q : t σ H fun vs H1 => ∀ x dx, H1 x = none → H1 dx = none → dx ≠ x → sp (.ref x :: vs) (upd (upd H1 dx (.own x)) x (.ins C dx [])) (fun v H2 => v = .non ∧ Q (.ref x) H2) E0) : tNew C sp t σ H Q := q
theorem g_fld (q : ta σ H fun x H1 => ∃ a C dx fs v, x = .ref a ∧ H1 a = some (.ins C dx fs) ∧ Cls K C ∧ NoAttr K C f ∧ fs.lookup f = some v ∧ Q v H1) : tFld K ta f σ H Q := q
theorem g_sfld (q : tv σ H fun y H1 => ta σ H1 fun x H2 => ∃ a C dx fs, x = .ref a ∧ H2 a = some (.ins C dx fs) ∧ Cls K C ∧ NoAttr K C f ∧ fs.length < 1000 ∧ D.nx σ (upd H2 a (.ins C dx (putF f y fs)))) : sFld K ta tv f D σ H := q
end
end Tw

set_option Elab.async false
set_option linter.all false
set_option maxRecDepth 100000
namespace Tw
open PySem L2 PySem.Spec
section
variable {X : Cx} {k j : Nat} {C : Addr} {ps : List Str} {sp : Sp}
/-- two instances of a class of the text, by its own operator -/
def rOwn2 (C : Addr) (sp : Sp) : R2 := fun x y H Q => ∃ (a b dx dy : Addr) (fs gs : List (Str × V)), x = .ref a ∧ y = .ref b ∧ H a = some (.ins C dx fs) ∧ H b = some (.ins C dy gs) ∧ sp [x, y] H Q E0
/-- an instance, by its class's own operator -/
def rOwn1 (C : Addr) (sp : Sp) : V → Hp → VK → Prop := fun x H Q => ∃ (a dx : Addr) (fs : List (Str × V)), x = .ref a ∧ H a = some (.ins C dx fs) ∧ sp [x] H Q E0
theorem back_of {pins : List (Addr × Obj)} {σ : L2.St} {Q : VK} {v : Value} {s : Shared} (h : EP X pins σ Q v s) : PySem.W.CmpBack (EP X pins σ Q) v s := by
  obtain ⟨x, H', I, r, q⟩ := h
  cases v with
  | notImplemented => cases x <;> first | (rcases r with ⟨t, h⟩; cases h; done) | (cases r; done)
  | _ => exact ⟨x, H', I, r, q⟩
theorem op_own2 {op : Operator} (D : DefM X.prog X.w X.K X.mg X.base k C (PySem.dunder op.info.2) ps sp) (hr : Room j X.A) (hf : PySem.W.selfFirst X.K C = true) (hk : k ≤ j := by decide) : OpR X (binaryOp op) (rOwn2 C sp) := by
  intro pins s σ H x y u v Q I rx ry h
  obtain ⟨a, b, dx, dy, fs, gs, rfl, rfl, ea, eb, q⟩ := h
  obtain rfl : u = Value.ref a := rx
  obtain rfl : v = Value.ref b := ry
  obtain ⟨f, fd, F, hm, hb⟩ := D.ex
  obtain ⟨_, OA, _⟩ := ins_get I.hok ea
  obtain ⟨_, OB, _⟩ := ins_get I.hok eb
  obtain ⟨_, ia, _⟩ := OA.look
  obtain ⟨_, ib, _⟩ := OB.look
  obtain ⟨m, fr⟩ := I.fr
  refine PySem.W.binop_K fr I.mod.kin ia ib.type hf hm.at_ hm.fn ?_
  refine wpAny_mono (run_fn F (hr.mono hk) hb .nil pass0 I (vs := [.ref a, .ref b]) (.cons (show RelV (.ref a) (.ref a) from rfl) (.cons (show RelV (.ref b) (.ref b) from rfl) .nil)) q) (fun _ _ z => back_of z) fun _ _ z => z
theorem un_inv {P : Program} {w : World} (D : DefM X.prog X.w X.K X.mg X.base k C "__invert__" ps sp) (hr : Room j X.A) (hk : k ≤ j := by decide) : UnR X (unaryOp .Invert) (rOwn1 C sp) := by
  intro pins s σ H x u Q I rx h
  obtain ⟨a, dx, fs, rfl, ea, q⟩ := h
  obtain rfl : u = Value.ref a := rx
  obtain ⟨f, fd, F, hm, hb⟩ := D.ex
  obtain ⟨_, OA, _⟩ := ins_get I.hok ea
  obtain ⟨_, ia, _⟩ := OA.look
  obtain ⟨m, fr⟩ := I.fr
  refine PySem.W.ksp_inv fr I.mod.kin ia hm.at_ hm.fn ?_
  exact run_fn F (hr.mono hk) hb .nil pass0 I (vs := [.ref a]) (.cons (show RelV (.ref a) (.ref a) from rfl) .nil) q
end
end Tw

set_option Elab.async false
set_option linter.all false
set_option maxRecDepth 100000
namespace Tw
open PySem L2 PySem.Spec
section
variable {prog : Program} {w : World} {A : Around} {E : Value → Shared → Prop} {s : Shared} {K : PySem.W.Frag} {x C f : Addr} {o : Obj} {od : Option Obj} {T : String}
/-- an own operator whose right side is of a built-in kind -/
theorem bin_kind {op : Operator} {b : Value} {lo ro rc : Option Value} {Q : Value → Shared → Prop} (kin : K.In s.heap) (inst : PySem.W.InstAt s.heap x o C od) (kind : PySem.W.Looks (model prog w) s.heap (typeOf b) (.type T)) (own : PySem.W.selfFirst K C = true)
    (at1 : PySem.W.findIn K (.ref C) (PySem.dunder op.info.2) = some (some (.ref f))) (isf : PySem.W.isFn K (.ref f) = true) (at2 : PySem.W.findIn K (.ref C) (dunderR op.info.2) = some rc) (at3 : rc = none ∨ ∃ g : Addr, rc = some (.ref g))
    (tl : PySem.W.findIn K (.type T) (PySem.dunder op.info.2) = some lo) (tr : PySem.W.findIn K (.type T) (dunderR op.info.2) = some ro) (ns : PySem.W.subIn K (.type T) (.ref C) = some false)
    (h : wpAny (model prog w) A (call (.ref f) [.ref x, b]) (PySem.W.CmpBack Q) E s) : wpAny (model prog w) A (binaryOp op (.ref x) b) Q E s := by
  obtain ⟨cd, more, ecd, emr⟩ := PySem.W.ksp_first own
  have asked := PySem.W.ksp_try kin inst at1 isf h
  cases nme : op.info with
  | mk sg nm =>
  rw [nme] at at1 at2 tl tr asked
  have q4 := PySem.W.ksp_fillsT (M := model prog w) kin tl tr
  have q3 : PySem.W.Looks (model prog w) s.heap (fillsNumberSlot (.ref C) nm) true := PySem.W.fills_K kin ecd emr at1
  have q5 : PySem.W.Looks (model prog w) s.heap (isSubtype (.type T) (.ref C)) false := PySem.W.looks_subIn kin ns
  have q6 : PySem.W.Looks (model prog w) s.heap (numberSlotInPython (.ref C) nm) true := PySem.W.ksp_inPy kin at1 at2 at3
  have q7 : PySem.W.Looks (model prog w) s.heap (numberSlotInPython (.type T) nm) false := PySem.W.Looks.of_pure rfl
  have q8 : PySem.W.Looks (model prog w) s.heap (typeLookup (.type T) (dunderR nm)) ro := PySem.W.looks_findIn kin tr
  have q1 : PySem.W.Looks (model prog w) s.heap (typeOf (.ref x)) (.ref C) := inst.type
  obtain ⟨hp, gg, dd, kk, oo⟩ := s
  have diff : (Value.ref C == Value.type T) = false := by
    cases e : (Value.ref C == Value.type T) with
    | false => rfl
    | true => cases (beq_iff_eq.mp e)
  generalize ((lo.isSome && !isSeqSlot lo) || (ro.isSome && !isSeqSlot ro)) = slot at q4
  simp only [binaryOp, nme]
  refine wpAny_holding (wpAny_bind ?_)
  unfold binaryOp1
  refine wpAny_bind (q1.at ?_)
  refine wpAny_bind (kind.at ?_)
  refine wpAny_bind (q3.at ?_)
  simp only [diff, Bool.false_eq_true, if_false]
  cases slot
  all_goals
    ksp_lk
    refine wpAny_mono asked (fun r t ht => ?_) fun _ _ e => e
    obtain ⟨v, rfl, hv⟩ := ht
    ksp_lk
    exact hv
end
end Tw
namespace Tw
open PySem L2 PySem.Spec
/-- the built-in kinds that a law's things are of -/
def kinds7 : List String := ["NoneType", "bool", "int", "str", "list", "tuple", "dict"]
theorem kin_and {K : PySem.W.Frag} {C : Addr} : ∀ T ∈ kinds7, (∃ lo, PySem.W.findIn K (.type T) (PySem.dunder Operator.BitAnd.info.2) = some lo) ∧ (∃ ro, PySem.W.findIn K (.type T) (dunderR Operator.BitAnd.info.2) = some ro) ∧ PySem.W.subIn K (.type T) (.ref C) = some false := by
  intro T h
  unfold kinds7 at h
  simp only [List.mem_cons, List.not_mem_nil, or_false] at h
  rcases h with rfl | rfl | rfl | rfl | rfl | rfl | rfl <;> exact ⟨Option.isSome_iff_exists.mp (by kernel_rfl), Option.isSome_iff_exists.mp (by kernel_rfl), by kernel_rfl⟩
end Tw
namespace Tw
open PySem L2 PySem.Spec
theorem kin_or {K : PySem.W.Frag} {C : Addr} : ∀ T ∈ kinds7, (∃ lo, PySem.W.findIn K (.type T) (PySem.dunder Operator.BitOr.info.2) = some lo) ∧ (∃ ro, PySem.W.findIn K (.type T) (dunderR Operator.BitOr.info.2) = some ro) ∧ PySem.W.subIn K (.type T) (.ref C) = some false := by
  intro T h
  unfold kinds7 at h
  simp only [List.mem_cons, List.not_mem_nil, or_false] at h
  rcases h with rfl | rfl | rfl | rfl | rfl | rfl | rfl <;> exact ⟨Option.isSome_iff_exists.mp (by kernel_rfl), Option.isSome_iff_exists.mp (by kernel_rfl), by kernel_rfl⟩
/-- an instance and a thing of a built-in kind, by the class's own operator -/
def rOwnT (K : PySem.W.Frag) (C : Addr) (sp : Sp) : R2 := fun x y H Q => ∃ (a dx : Addr) (fs : List (Str × V)) (T : String), x = .ref a ∧ H a = some (.ins C dx fs) ∧ TyX K H y (.type T) ∧ T ∈ kinds7 ∧ sp [x, y] H Q E0
section
variable {X : Cx} {k j : Nat} {C : Addr} {ps : List Str} {sp : Sp}
theorem op_ownT {op : Operator} (D : DefM X.prog X.w X.K X.mg X.base k C (PySem.dunder op.info.2) ps sp) (hr : Room j X.A) (own : PySem.W.selfFirst X.K C = true) (nr : PySem.W.findIn X.K (.ref C) (dunderR op.info.2) = some none)
    (facts : ∀ T ∈ kinds7, (∃ lo, PySem.W.findIn X.K (.type T) (PySem.dunder op.info.2) = some lo) ∧ (∃ ro, PySem.W.findIn X.K (.type T) (dunderR op.info.2) = some ro) ∧ PySem.W.subIn X.K (.type T) (.ref C) = some false) (hk : k ≤ j := by decide) : OpR X (binaryOp op) (rOwnT X.K C sp) := by
  intro pins s σ H x y u v Q I rx ry h
  obtain ⟨a, dx, fs, T, rfl, ea, ty, hT, q⟩ := h
  obtain rfl : u = Value.ref a := rx
  obtain ⟨f, fd, F, hm, hb⟩ := D.ex
  obtain ⟨_, OA, _⟩ := ins_get I.hok ea
  obtain ⟨_, ia, _⟩ := OA.look
  obtain ⟨Pk, kx, pk, _⟩ := kit_of I ry ty
  obtain ⟨⟨lo, f1⟩, ⟨ro, f2⟩, f3⟩ := facts T hT
  refine bin_kind I.kIn ia (kx.ty _ _ I.kIn pk) own hm.at_ hm.fn nr (.inl rfl) f1 f2 f3 ?_
  exact wpAny_mono (run_fn F (hr.mono hk) hb .nil pass0 I (vs := [.ref a, y]) (.cons (show RelV (.ref a) (.ref a) from rfl) (.cons ry .nil)) q) (fun _ _ z => back_of z) fun _ _ z => z
theorem op_andG {K : PySem.W.Frag} (hK : X.K = K) (D : DefM X.prog X.w X.K X.mg X.base k C (PySem.dunder Operator.BitAnd.info.2) ps sp) (hr : Room j X.A) (own : PySem.W.selfFirst X.K C = true) (nr : PySem.W.findIn X.K (.ref C) (dunderR Operator.BitAnd.info.2) = some none) (hk : k ≤ j := by decide) :
    OpR X (binaryOp .BitAnd) (fun x y H Q => rOwn2 C sp x y H Q ∨ rOwnT K C sp x y H Q) := by
  subst hK
  exact (op_own2 D hr own hk).or (op_ownT D hr own nr kin_and hk)
theorem op_orG {K : PySem.W.Frag} (hK : X.K = K) (D : DefM X.prog X.w X.K X.mg X.base k C (PySem.dunder Operator.BitOr.info.2) ps sp) (hr : Room j X.A) (own : PySem.W.selfFirst X.K C = true) (nr : PySem.W.findIn X.K (.ref C) (dunderR Operator.BitOr.info.2) = some none) (hk : k ≤ j := by decide) :
    OpR X (binaryOp .BitOr) (fun x y H Q => rOwn2 C sp x y H Q ∨ rOwnT K C sp x y H Q) := by
  subst hK
  exact (op_own2 D hr own hk).or (op_ownT D hr own nr kin_or hk)
end
end Tw

set_option Elab.async false
set_option linter.all false
set_option maxRecDepth 100000
set_option maxHeartbeats 4000000
/-! own errors over Exception, of a class below one's own base, with an __init__ that stores its one parameter -/
namespace PySem
namespace TwX
open PySem.W PySem.Calls PyProof.Rows PySem.HandSPX
/-- the classes of an error's order: own ones, then Exception's -/
abbrev exT : List Value := [.type "Exception", .type "BaseException", .type "object"]
inductive OwnEx : List Value → Prop where
  | tail : OwnEx exT
  | own (c : Addr) {r : List Value} (h : OwnEx r) : OwnEx (.ref c :: r)
theorem OwnEx.pass {l : List Value} (h : OwnEx l) (self : Value) : refuseLoop self "__setattr__" l = pure () := by
  induction h with
  | tail => exact F.store_Exception.passes self
  | own c _ ih => rw [refuseLoop_ref, ih]
theorem OwnEx.has {l : List Value} (h : OwnEx l) (n : String) : l.contains (.type n) = exT.contains (.type n) := by
  induction h with
  | tail => rfl
  | own c _ ih => rw [List.contains_cons, ih]; rfl
theorem OwnEx.some {l : List Value} (h : OwnEx l) : l.isEmpty = false := by cases h <;> rfl
section
open Builtin Builtin.ObjectAttr
variable {prog : Program} {w : World} {A : Around} {R : Result → Shared → Prop} {hp : Heap} {gs : Array GenState} {dr : Drawn} {tc : Nat} {os : OsState}
theorem setattr_to {K : Frag} {nm : Str} {tk : Tok} {v : Value} {x C : Addr} {ox : Obj} {od : Option Obj} {cd : ClassData} (XK : K.In hp) (J : InstAt hp x ox C od) (hc : clsIn K C = some cd) (hm : OwnEx cd.mro) (hn : findIn K (.ref C) nm = some none)
    (hq : wpAny (model prog w) A.in1 (storeInOwnDict (.ref x) (.ref C) (.str nm tk) nm v false) (fun fin s' => match fin with | .done f => R (.ok f) s' | .again c' => c'.quiet = true ∧ codeAny (model prog w) A c' R s') (fun e s' => R (.error e) s') ⟨hp, gs, dr, tc, os⟩) :
    codeAny (model prog w) A (.call (.builtin "object.__setattr__") ⟨[.ref x, .str nm tk, v], []⟩) R ⟨hp, gs, dr, tc, os⟩ := by
  have ST := F.store_object
  have hmo : mroIn K C (.type "object") = some true := by
    unfold mroIn
    rw [hc, Option.bind_some, if_neg (by rw [hm.some]; decide), hm.has "object"]
    exact congrArg _ (by decide +kernel)
  have isO : Looks (model prog w) hp (isInstance (.ref x) (.type "object")) true := J.type.andThen (looks_mroIn XK hmo)
  refine codeAny_call_builtin ST.slot.plain ST.entry ?_
  refine @check_slot (model prog w) _ _ ⟨hp, gs, dr, tc, os⟩ "object.__setattr__" "object" "__setattr__" (.ref x) [.str nm tk, v] [] _ ST.kind ST.split isO (ST.args (.ref x) (.str nm tk) v) ?_
  have lm : Looks (model prog w) hp (mroOf (.ref C)) cd.mro := (looks_clsIn XK hc).andThen .now
  have lt : Looks (model prog w) hp (storeTaker? none) none := .now
  rw [osa_eq, refuse_eq]
  refine wpAny_bind (wpAny_bind ?_)
  refine J.type.at (wpAny_bind (lm.at ?_))
  rw [hm.pass]
  refine wpAny_pure (wpAny_bind ?_)
  exact J.type.at (wpAny_bind ((looks_findIn XK hn).at (wpAny_bind (lt.at hq))))
/-- the first field of a fresh error -/
theorem setattr_first {K : Frag} {nm : Str} {tk : Tok} {v : Value} {x C : Addr} {fv : Array Value} {cd : ClassData} (XK : K.In hp) (hx : hp.get? x = some { cls := .ref C, data := .fields fv }) (hc : clsIn K C = some cd) (hm : OwnEx cd.mro) (hh : cd.hasDict = true) (hn : findIn K (.ref C) nm = some none)
    (hq : ∀ h2 tk2 dx, (∀ b o, b ≠ x → hp.get? b = some o → h2.get? b = some o) → hp.objs.size ≤ dx → dx ≠ x → h2.get? x = some { cls := .ref C, dict := some dx, data := .fields fv } → h2.Ns1 dx (fun y => if y = nm then some v else none) → R (.ok (.ret .none)) ⟨h2, gs, dr, tk2, os⟩) :
    codeAny (model prog w) A (.call (.builtin "object.__setattr__") ⟨[.ref x, .str nm tk, v], []⟩) R ⟨hp, gs, dr, tc, os⟩ := by
  have J : InstAt hp x { cls := .ref C, data := .fields fv } C none := ⟨hx, rfl, rfl, trivial⟩
  have nx : x ≠ hp.objs.size := Nat.ne_of_lt (Heap.lt_size hx)
  have lc : Looks (model prog w) hp (classData C) cd := looks_clsIn XK hc
  refine setattr_to XK J hc hm hn ?_
  obtain ⟨a1, a2, a3, a4, a5, a6, a7, a8, a9, a10, a11⟩ := cd
  dsimp only at hh
  subst hh
  unfold storeInOwnDict ownDictForStores
  repeat (first | with_reducible refine HandSPX.store_in_new ?_ ?_ | with_reducible refine wpAny_loadPart_at hx ?_ | with_reducible refine lc.at ?_ | wp_step)
  · refine ⟨_, #[], _, (Heap.get?_update_ne _ _ _ _ nx.symm).trans (Heap.get?_push_at rfl rfl), rfl, ?_, fun _ => rfl⟩
    intro e he
    exact absurd he (by simp)
  · intro h2 tk2 hn2 sb
    have px : (hp.push { cls := .type "dict", data := .dict #[] }).get? x = some { cls := .ref C, data := .fields fv } := Heap.get?_push_of_some _ hx
    refine hq h2 tk2 hp.objs.size ?_ (Nat.le_refl _) nx.symm ((sb.2 x nx).trans (Heap.get?_update_self _ px rfl)) hn2
    intro b o hb ho
    exact (sb.2 b (Nat.ne_of_lt (Heap.lt_size ho))).trans ((Heap.get?_update_ne _ _ _ _ hb).trans (Heap.get?_push_of_some _ ho))
/-- a further one -/
theorem setattr_next {K : Frag} {nm : Str} {tk : Tok} {v : Value} {x C dx : Addr} {fv : Array Value} {cd : ClassData} {m0 : Str → Option Value} {nl : List Str} (XK : K.In hp) (hx : hp.get? x = some { cls := .ref C, dict := some dx, data := .fields fv }) (hns : hp.Ns1 dx m0) (hw : Within m0 nl) (hz : nl.length ≤ 1000)
    (hc : clsIn K C = some cd) (hm : OwnEx cd.mro) (hh : cd.hasDict = true) (hn : findIn K (.ref C) nm = some none)
    (hq : ∀ h2 tk2, (∀ b o, b ≠ dx → hp.get? b = some o → h2.get? b = some o) → h2.Ns1 dx (fun y => if y = nm then some v else m0 y) → R (.ok (.ret .none)) ⟨h2, gs, dr, tk2, os⟩) :
    codeAny (model prog w) A (.call (.builtin "object.__setattr__") ⟨[.ref x, .str nm tk, v], []⟩) R ⟨hp, gs, dr, tc, os⟩ := by
  obtain ⟨oD, eD, pD, gD, dD, _⟩ := hns.count hw
  have J : InstAt hp x { cls := .ref C, dict := some dx, data := .fields fv } C (some oD) := ⟨hx, rfl, rfl, gD⟩
  have lc : Looks (model prog w) hp (classData C) cd := looks_clsIn XK hc
  refine setattr_to XK J hc hm hn ?_
  obtain ⟨a1, a2, a3, a4, a5, a6, a7, a8, a9, a10, a11⟩ := cd
  dsimp only at hh
  subst hh
  unfold storeInOwnDict ownDictForStores
  repeat (first | with_reducible refine ESX.store_in_old hns hw hz ?_ | with_reducible refine wpAny_loadPart_at hx ?_ | with_reducible refine lc.at ?_ | wp_step)
  exact fun h2 tk2 hn2 sb => hq h2 tk2 (fun b o hb ho => (sb.2 b hb).trans ho) hn2
end
end TwX
end PySem

set_option Elab.async false
set_option linter.all false
set_option maxRecDepth 100000
namespace Tw
open PySem L2 PySem.Spec
/-- a def of the text that may let an error out -/
structure DefX (P : Program) (w : World) (K : PySem.W.Frag) (mg : Str → Option Value) (base : Heap) (k : Nat) (x : Str) (ps : List Str) (sp : Sp) : Prop where
  ex : ∃ (f : Addr) (fd : FuncData), FnOk P w K mg base (L2.CX P w) k f fd ps sp ∧ mg x = some (.ref f) ∧ PySem.W.keepIn K (.ref f) = true ∧ Binds K fd ps []
/-- a method that may let an error out -/
structure DefMX (P : Program) (w : World) (K : PySem.W.Frag) (mg : Str → Option Value) (base : Heap) (k : Nat) (C : Addr) (m : Str) (ps : List Str) (sp : Sp) : Prop where
  ex : ∃ (f : Addr) (fd : FuncData), FnOk P w K mg base (L2.CX P w) k f fd ps sp ∧ Meth K C m f ∧ Binds K fd ps []
theorem Here.defX {P : Program} {w : World} {K : PySem.W.Frag} {mg : Str → Option Value} {base : Heap} {k : Nat} {x : Str} {st : Stmt} {ps : List Str} {sp : Sp} {f : Addr} {fd : FuncData} (h : Here K mg x st ps f fd) (F : FnOk P w K mg base (L2.CX P w) k f fd ps sp) : DefX P w K mg base k x ps sp :=
  ⟨f, fd, F, h.mg, h.fn.kp, h.bd⟩
theorem HereM.defX {P : Program} {w : World} {K : PySem.W.Frag} {mg : Str → Option Value} {base : Heap} {k : Nat} {C : Addr} {m qual : Str} {st : Stmt} {ps : List Str} {sp : Sp} {f : Addr} {fd : FuncData} (h : HereM K C m qual st ps f fd) (F : FnOk P w K mg base (L2.CX P w) k f fd ps sp) : DefMX P w K mg base k C m ps sp :=
  ⟨f, fd, F, h.me, h.bd⟩
/-- what is wanted of a body that may raise -/
theorem Fun.okMX {P : Program} {w : World} {K : PySem.W.Frag} {mg : Str → Option Value} {base : Heap} {x qual : Str} {st : Stmt} {f : Addr} {fd : FuncData} {N ps : List Str} {k : Nat} {sp : Sp} (F : Fun K x qual st f fd) (S : FnScope N ps (defScope st)) (len : ∀ vs H Q E, sp vs H Q E → vs.length = ps.length)
    (hbody : ∀ (cdv : Value) (A : Around) (outer : List Env) (s : Shared) (H : Hp) (vs : List V) (Q : VK) (E : XK), Room k (A.deeper (PyProof.Rows.envOfC qual (defScope st) s.heap.objs.size f cdv)) → sp vs H Q E →
      ∃ t, PSs (cxOf (L2.CX P w) P w K mg base N qual (defScope st) f cdv A outer s H E) (defBody st) t ∧ t (mkE (fun _ H' => Q .non H') Q (fun _ _ => False) (fun _ _ => False)) (L2.start N vs) H) : FnOk P w K mg base (L2.CX P w) (k + 1) f fd ps sp := F.okX S len hbody
section
variable {X : Cx} {k j : Nat} {C : Addr} {x m : Str} {p pos apos : Pos} {o e a b : Expr} {es : List Expr} {ps : List Str} {sp : Sp} {ta tb : TE} {t : TA} {W : WX}
theorem pe_defX (tk : Takes X W) (D : DefX X.prog X.w X.K X.mg X.base k x ps sp) (hr : Room j X.A) (hg : Gl X x) (ha : PA X (e :: es) t) (hk : k ≤ j := by decide) (hdb : (x == ("__debug__" : Str)) = false := by decide)
    (he : starEach (e :: es) X.env = (false, eval e X.env) :: starEach es X.env := by rfl) (hpl : (backTo pos (starEach es X.env)).any (·.1) = false := by rfl) : PE X (.Call (.Name x p) (e :: es) [] pos) (tCallS sp (WE W) t) := by
  obtain ⟨f, fd, F, hm, hkp, hb⟩ := D.ex
  exact pe_callS F (hr.mono hk) hg hm hkp hb (fun σ => passAt tk σ) ha hdb he hpl
/-- an operator that may raise -/
def OpW (X : Cx) (f : Value → Value → Sem Value) (r : L2.St → R2) : Prop := ∀ (pins : List (Addr × Obj)) (s : Shared) (σ : L2.St) (H : Hp) (x y : V) (v u : Value) (Q : VK), Inv X pins σ H s → RelV x v → RelV y u → r σ x y H Q → wpAny (model X.prog X.w) X.A (f v u) (EP X pins σ Q) X.xe s
def tOpW (r : L2.St → R2) (ta tb : TE) : TE := fun σ H Q => ta σ H fun x H1 => tb σ H1 fun y H2 => r σ x y H2 Q
theorem pe_opW {op : Operator} {r : L2.St → R2} (ho : OpW X (binaryOp op) r) (ha : PE X a ta) (hb : PE X b tb) : PE X (.BinOp a op b pos) (tOpW r ta tb) :=
  ⟨fun pins s σ _ Q I h => wpAny_BinOp (binT ha hb I h fun v u s2 x y H2 I2 rx ry q => ho pins s2 σ H2 x y v u Q I2 rx ry q)⟩
theorem op_own2W {op : Operator} (tk : Takes X W) (D : DefMX X.prog X.w X.K X.mg X.base k C (PySem.dunder op.info.2) ps sp) (hr : Room j X.A) (hf : PySem.W.selfFirst X.K C = true) (hk : k ≤ j := by decide) :
    OpW X (binaryOp op) (fun σ x y H Q => ∃ (a b dx dy : Addr) (fs gs : List (Str × V)), x = .ref a ∧ y = .ref b ∧ H a = some (.ins C dx fs) ∧ H b = some (.ins C dy gs) ∧ sp [x, y] H Q (WE W σ)) := by
  intro pins s σ H x y u v Q I rx ry h
  obtain ⟨a, b, dx, dy, fs, gs, rfl, rfl, ea, eb, q⟩ := h
  obtain rfl : u = Value.ref a := rx
  obtain rfl : v = Value.ref b := ry
  obtain ⟨f, fd, F, hm, hb⟩ := D.ex
  obtain ⟨_, OA, _⟩ := ins_get I.hok ea
  obtain ⟨_, OB, _⟩ := ins_get I.hok eb
  obtain ⟨_, ia, _⟩ := OA.look
  obtain ⟨_, ib, _⟩ := OB.look
  obtain ⟨m, fr⟩ := I.fr
  refine PySem.W.binop_K fr I.mod.kin ia ib.type hf hm.at_ hm.fn ?_
  exact wpAny_mono (run_fnS F (hr.mono hk) hb (passAt tk σ) I (vs := [.ref a, .ref b]) (.cons (show RelV (.ref a) (.ref a) from rfl) (.cons (show RelV (.ref b) (.ref b) from rfl) .nil)) q) (fun _ _ z => back_of z) fun _ _ z => z
theorem op_ownTW {op : Operator} (tk : Takes X W) (D : DefMX X.prog X.w X.K X.mg X.base k C (PySem.dunder op.info.2) ps sp) (hr : Room j X.A) (own : PySem.W.selfFirst X.K C = true) (nr : PySem.W.findIn X.K (.ref C) (dunderR op.info.2) = some none)
    (facts : ∀ T ∈ kinds7, (∃ lo, PySem.W.findIn X.K (.type T) (PySem.dunder op.info.2) = some lo) ∧ (∃ ro, PySem.W.findIn X.K (.type T) (dunderR op.info.2) = some ro) ∧ PySem.W.subIn X.K (.type T) (.ref C) = some false) (hk : k ≤ j := by decide) :
    OpW X (binaryOp op) (fun σ x y H Q => ∃ (a dx : Addr) (fs : List (Str × V)) (T : String), x = .ref a ∧ H a = some (.ins C dx fs) ∧ TyX X.K H y (.type T) ∧ T ∈ kinds7 ∧ sp [x, y] H Q (WE W σ)) := by
  intro pins s σ H x y u v Q I rx ry h
  obtain ⟨a, dx, fs, T, rfl, ea, ty, hT, q⟩ := h
  obtain rfl : u = Value.ref a := rx
  obtain ⟨f, fd, F, hm, hb⟩ := D.ex
  obtain ⟨_, OA, _⟩ := ins_get I.hok ea
  obtain ⟨_, ia, _⟩ := OA.look
  obtain ⟨Pk, kx, pk, _⟩ := kit_of I ry ty
  obtain ⟨⟨lo, f1⟩, ⟨ro, f2⟩, f3⟩ := facts T hT
  refine bin_kind I.kIn ia (kx.ty _ _ I.kIn pk) own hm.at_ hm.fn nr (.inl rfl) f1 f2 f3 ?_
  exact wpAny_mono (run_fnS F (hr.mono hk) hb (passAt tk σ) I (vs := [.ref a, y]) (.cons (show RelV (.ref a) (.ref a) from rfl) (.cons ry .nil)) q) (fun _ _ z => back_of z) fun _ _ z => z
end
end Tw
namespace Tw
open PySem L2 PySem.Spec
section
variable {X : Cx} {k j : Nat} {C : Addr} {x m : Str} {p pos apos : Pos} {o e a b : Expr} {es : List Expr} {ps : List Str} {sp : Sp} {ta tb : TE} {t : TA} {W : WX}
/-- o.m(..) that may raise -/
def tMeX (C : Addr) (m : Str) (sp : Sp) (W : WX) (ta : TE) (t : TA) : TE := fun σ H Q => ta σ H fun x H1 => ∃ a dx fs, x = .ref a ∧ H1 a = some (.ins C dx fs) ∧ fs.lookup m = none ∧ t σ H1 fun vs H2 => sp (x :: vs) H2 Q (WE W σ)
theorem pe_meX {pl : Sem Bool} (tk : Takes X W) (he : PE X o ta) (c : Cls X.K C) (D : DefMX X.prog X.w X.K X.mg X.base k C m ps sp) (hr : Room j X.A) (ha : PA X (e :: es) t) (hk : k ≤ j := by decide)
    (st : starEach (e :: es) X.env = (false, eval e X.env) :: starEach es X.env := by rfl) (nst : (backTo pos (starEach es X.env)).any (·.1) = false := by rfl)
    (form : eval (.Call (.Attribute o m apos) (e :: es) [] pos) X.env = (do
      let recv ← eval o X.env
      standAt apos.atName
      let (g, front) ← holding [recv] (getMethod recv m pl)
      callWith pos g front (backTo pos (starEach (e :: es) X.env)) (backToKw pos (keywordEach [] X.env))) := by rfl) : PE X (.Call (.Attribute o m apos) (e :: es) [] pos) (tMeX C m sp W ta t) := by
  obtain ⟨f, fd, F, hm, hb⟩ := D.ex
  constructor
  intro pins s σ H Q I h
  refine PySem.W.methodCall_KW (pl := pl) (thn (he.run pins s σ H _ I h) ?_) form
  rintro u s1 ⟨y, H1, I1, ry, q, dq, fs, rfl, eq, lk, rest⟩
  obtain rfl : u = Value.ref q := ry
  refine getmeth_ok I1 eq c hm lk ?_
  refine PySem.W.callWith_K (first := [.ref q]) (h₀ := X.base) I.ok.mod.kin hm.kp (thn (ha.run pos pins s1 σ H1 _ I1 rest) ?_) st nst
  rintro us s2 ⟨vs, H2, I2, rv, fin⟩
  exact ⟨I2.kIn, run_fnS (us := .ref q :: us) (vs := .ref q :: vs) F (hr.mono hk) hb (passAt tk σ) I2 (.cons (show RelV (.ref q) (.ref q) from rfl) rv) fin⟩
theorem g_callS {σ : L2.St} {H : Hp} {Q : VK} {E : L2.St → XK} (q : t σ H fun vs H1 => sp vs H1 Q (E σ)) : tCallS sp E t σ H Q := q
theorem g_meX {σ : L2.St} {H : Hp} {Q : VK} (q : ta σ H fun x H1 => ∃ a dx fs, x = .ref a ∧ H1 a = some (.ins C dx fs) ∧ fs.lookup m = none ∧ t σ H1 fun vs H2 => sp (x :: vs) H2 Q (WE W σ)) : tMeX C m sp W ta t σ H Q := q
end
end Tw
namespace Tw
open PySem L2 PySem.Spec
/-- what isinstance asks of a class of the text -/
structure OwnIs (K : PySem.W.Frag) (C : Addr) : Prop where
  ha : PySem.W.findIn K (.ref C) "__class__" = some (some (.builtin "object.__class__"))
  hn : PySem.W.specialIn K (.builtin "object.__class__") "__get__" = some (some (.builtin "getset_descriptor.__get__"))
  ht : PySem.W.takesIn K (.builtin "object.__class__") = some true
  hm : PySem.W.mroIn K C (.type "object") = some true
  me : PySem.W.kitOne K (.ref C) (.ref C) = some true
  no : ∀ T ∈ kinds7, PySem.W.kitOne K (.type T) (.ref C) = some false
theorem g_isOwn {K : PySem.W.Frag} {C a dx : Addr} {fs : List (Str × V)} {H : Hp} {Q : VK} (O : OwnIs K C) (c : Cls K C) (e : H a = some (.ins C dx fs)) (q : Q (.bl true) H) : rIsi K [.ref a, .ref C] H Q :=
  ⟨_, _, _, _, true, rfl, .own C, .base (.ins e c O.ha O.hn O.ht O.hm), O.me, q⟩
theorem g_isNot {K : PySem.W.Frag} {C : Addr} {x : V} {T : String} {H : Hp} {Q : VK} (O : OwnIs K C) (ty : TyX K H x (.type T)) (h : T ∈ kinds7) (q : Q (.bl false) H) : rIsi K [x, .ref C] H Q :=
  ⟨_, _, _, _, false, rfl, .own C, ty, O.no T h, q⟩
section
variable {X : Cx} {k j : Nat} {C : Addr} {x m : Str} {p pos apos : Pos} {o e a b : Expr} {es : List Expr} {ps : List Str} {sp : Sp} {ta tb : TE} {t : TA} {W : WX}
theorem OpW.or {f : Value → Value → Sem Value} {r r' : L2.St → R2} (h : OpW X f r) (h' : OpW X f r') : OpW X f (fun σ x y H Q => r σ x y H Q ∨ r' σ x y H Q) :=
  fun pins s σ H x y v u Q I rx ry q => q.elim (h pins s σ H x y v u Q I rx ry) (h' pins s σ H x y v u Q I rx ry)
/-- an own operator that may raise: with another instance, with a thing of a built-in kind -/
def rOwnW (K : PySem.W.Frag) (C : Addr) (sp : Sp) (W : WX) : L2.St → R2 := fun σ x y H Q => (∃ (a b dx dy : Addr) (fs gs : List (Str × V)), x = .ref a ∧ y = .ref b ∧ H a = some (.ins C dx fs) ∧ H b = some (.ins C dy gs) ∧ sp [x, y] H Q (WE W σ)) ∨
  ∃ (a dx : Addr) (fs : List (Str × V)) (T : String), x = .ref a ∧ H a = some (.ins C dx fs) ∧ TyX K H y (.type T) ∧ T ∈ kinds7 ∧ sp [x, y] H Q (WE W σ)
theorem op_andW {K : PySem.W.Frag} (hK : X.K = K) (tk : Takes X W) (D : DefMX X.prog X.w X.K X.mg X.base k C (PySem.dunder Operator.BitAnd.info.2) ps sp) (hr : Room j X.A) (own : PySem.W.selfFirst X.K C = true) (nr : PySem.W.findIn X.K (.ref C) (dunderR Operator.BitAnd.info.2) = some none) (hk : k ≤ j := by decide) :
    OpW X (binaryOp .BitAnd) (rOwnW K C sp W) := by
  subst hK
  exact (op_own2W tk D hr own hk).or (op_ownTW tk D hr own nr kin_and hk)
theorem op_orW {K : PySem.W.Frag} (hK : X.K = K) (tk : Takes X W) (D : DefMX X.prog X.w X.K X.mg X.base k C (PySem.dunder Operator.BitOr.info.2) ps sp) (hr : Room j X.A) (own : PySem.W.selfFirst X.K C = true) (nr : PySem.W.findIn X.K (.ref C) (dunderR Operator.BitOr.info.2) = some none) (hk : k ≤ j := by decide) :
    OpW X (binaryOp .BitOr) (rOwnW K C sp W) := by
  subst hK
  exact (op_own2W tk D hr own hk).or (op_ownTW tk D hr own nr kin_or hk)
def tUnW (C : Addr) (sp : Sp) (W : WX) (ta : TE) : TE := fun σ H Q => ta σ H fun x H1 => ∃ (a dx : Addr) (fs : List (Str × V)), x = .ref a ∧ H1 a = some (.ins C dx fs) ∧ sp [x] H1 Q (WE W σ)
theorem pe_invW (tk : Takes X W) (D : DefMX X.prog X.w X.K X.mg X.base k C "__invert__" ps sp) (hr : Room j X.A) (ha : PE X a ta) (hk : k ≤ j := by decide) : PE X (.UnaryOp .Invert a pos) (tUnW C sp W ta) := by
  constructor
  intro pins s σ H Q I h
  refine PyProof.Rows.UnaryOp_ (thn (ha.run pins s σ H _ I h) ?_)
  rintro u s1 ⟨y, H1, I1, ry, q, dq, fs, rfl, eq, rest⟩
  obtain rfl : u = Value.ref q := ry
  obtain ⟨f, fd, F, hm, hb⟩ := D.ex
  obtain ⟨_, OA, _⟩ := ins_get I1.hok eq
  obtain ⟨_, ia, _⟩ := OA.look
  obtain ⟨_, fr⟩ := I1.fr
  refine PySem.W.ksp_inv fr I1.mod.kin ia hm.at_ hm.fn ?_
  exact run_fnS F (hr.mono hk) hb (passAt tk σ) I1 (vs := [.ref q]) (.cons (show RelV (.ref q) (.ref q) from rfl) .nil) rest
/-- a class of the text as a value -/
theorem pe_cls (hg : Gl X x) (hm : X.mg x = some (.ref C)) (hdb : (x == ("__debug__" : Str)) = false := by decide) : PE X (.Name x p) (tC (.ref C)) := pe_glob (v := .ref C) hg hm rfl hdb
end
end Tw
namespace Tw
open PySem L2 PySem.Spec
section
variable {σ : L2.St} {H : Hp} {Q : VK} {ta tb : TE} {t : TA} {sp : Sp} {W : WX} {C : Addr} {r : L2.St → R2} {D : Ends}
theorem g_opW (q : ta σ H fun x H1 => tb σ H1 fun y H2 => r σ x y H2 Q) : tOpW r ta tb σ H Q := q
theorem g_unW (q : ta σ H fun x H1 => ∃ (a dx : Addr) (fs : List (Str × V)), x = .ref a ∧ H1 a = some (.ins C dx fs) ∧ sp [x] H1 Q (WE W σ)) : tUnW C sp W ta σ H Q := q
end
end Tw

set_option Elab.async false
set_option linter.all false
set_option maxRecDepth 100000
/-! truths, orders of values, defs with one keyword-only parameter, dicts -/
namespace Tw
open PySem L2 PySem.Spec PyProof.Rows
def isTv (x : V) : Prop := x = .non ∨ ∃ b, x = .bl b
def rIsTv : R2 := fun x y H Q => isTv x ∧ (∃ b, y = .bl b) ∧ Q (.bl (decide (x = y))) H
def rNotTv : R2 := fun x y H Q => isTv x ∧ (∃ b, y = .bl b) ∧ Q (.bl (!decide (x = y))) H
def ltV : V → V → Bool
  | .int i, .int j => decide (i < j)
  | .str a, .str b => decide (a.cps.toList < b.cps.toList)
  | _, _ => false
/-- two numbers, two texts -/
def sameK (x y : V) : Prop := (∃ i j, x = .int i ∧ y = .int j) ∨ ∃ a b : Str, x = .str a ∧ y = .str b
def rLtV : R2 := fun x y H Q => sameK x y ∧ Q (.bl (ltV x y)) H
def rLeV : R2 := fun x y H Q => sameK x y ∧ Q (.bl (!ltV y x)) H
def rGtV : R2 := fun x y H Q => sameK x y ∧ Q (.bl (ltV y x)) H
def rGeV : R2 := fun x y H Q => sameK x y ∧ Q (.bl (!ltV x y)) H
theorem not_lt_le {i j : Int} : (!decide (j < i)) = decide (i ≤ j) := by
  by_cases h : j < i
  · rw [decide_eq_true h, decide_eq_false (by omega)]; rfl
  · rw [decide_eq_false h, decide_eq_true (by omega)]; rfl
section
variable {X : Cx}
theorem op_isTv : OpR X (compareOp .Is) rIsTv := by
  intro pins s σ H x y v u Q I rx ry h
  obtain ⟨hx, ⟨b, rfl⟩, q⟩ := h
  cases (show u = Value.bool b from ry)
  rcases hx with rfl | ⟨a, rfl⟩
  · cases (show v = Value.none from rx)
    exact wpAny_is_other rfl (fun z => nomatch z) ⟨.bl false, H, I, rfl, by simpa using q⟩
  · cases (show v = Value.bool a from rx)
    by_cases e : a = b
    · subst e
      exact wpAny_is_self rfl ⟨.bl true, H, I, rfl, by simpa using q⟩
    · exact wpAny_is_other rfl (fun z => e (Value.bool.inj z)) ⟨.bl false, H, I, rfl, by simpa [e] using q⟩
theorem op_notTv : OpR X (compareOp .IsNot) rNotTv := by
  intro pins s σ H x y v u Q I rx ry h
  obtain ⟨hx, ⟨b, rfl⟩, q⟩ := h
  cases (show u = Value.bool b from ry)
  rcases hx with rfl | ⟨a, rfl⟩
  · cases (show v = Value.none from rx)
    exact wpAny_isNot_other rfl (fun z => nomatch z) ⟨.bl true, H, I, rfl, by simpa using q⟩
  · cases (show v = Value.bool a from rx)
    by_cases e : a = b
    · subst e
      exact wpAny_isNot_self rfl ⟨.bl false, H, I, rfl, by simpa using q⟩
    · exact wpAny_isNot_other rfl (fun z => e (Value.bool.inj z)) ⟨.bl true, H, I, rfl, by simpa [e] using q⟩
theorem op_ltV : OpR X (compareOp .Lt) rLtV := by
  intro pins s σ H x y v u Q I rx ry ⟨h, q⟩
  rcases h with ⟨i, j, rfl, rfl⟩ | ⟨a, b, rfl, rfl⟩
  · exact op_lt pins s σ H _ _ v u Q I rx ry ⟨i, j, rfl, rfl, q⟩
  · exact op_lt_str pins s σ H _ _ v u Q I rx ry ⟨a, b, rfl, rfl, q⟩
theorem op_leV : OpR X (compareOp .LtE) rLeV := by
  intro pins s σ H x y v u Q I rx ry ⟨h, q⟩
  rcases h with ⟨i, j, rfl, rfl⟩ | ⟨a, b, rfl, rfl⟩
  · exact op_le pins s σ H _ _ v u Q I rx ry ⟨i, j, rfl, rfl, by show Q (.bl (decide (i ≤ j))) H; rw [← not_lt_le]; exact q⟩
  · exact op_le_str pins s σ H _ _ v u Q I rx ry ⟨a, b, rfl, rfl, q⟩
theorem op_gtV : OpR X (compareOp .Gt) rGtV := by
  intro pins s σ H x y v u Q I rx ry ⟨h, q⟩
  rcases h with ⟨i, j, rfl, rfl⟩ | ⟨a, b, rfl, rfl⟩
  · exact op_gt pins s σ H _ _ v u Q I rx ry ⟨i, j, rfl, rfl, q⟩
  · exact op_gt_str pins s σ H _ _ v u Q I rx ry ⟨a, b, rfl, rfl, q⟩
theorem op_geV : OpR X (compareOp .GtE) rGeV := by
  intro pins s σ H x y v u Q I rx ry ⟨h, q⟩
  rcases h with ⟨i, j, rfl, rfl⟩ | ⟨a, b, rfl, rfl⟩
  · exact op_ge pins s σ H _ _ v u Q I rx ry ⟨i, j, rfl, rfl, by show Q (.bl (decide (j ≤ i))) H; rw [← not_lt_le]; exact q⟩
  · exact op_ge_str pins s σ H _ _ v u Q I rx ry ⟨a, b, rfl, rfl, q⟩
end
/-! defs with one keyword-only parameter that has a default -/
structure HereKw (K : PySem.W.Frag) (mg : Str → Option Value) (x : Str) (st : Stmt) (ps : List Str) (n : Nat) (kn : Str) (dv : V) (f : Addr) (fd : FuncData) : Prop where
  fn : Fun K x x st f fd
  mg : mg x = some (.ref f)
  bd : ∃ ds, Vals [dv] ds ∧ Binds K fd ps ds
  kb : KBn K fd ps n [kn] (fun us ws => us ++ ws) (fun vs zs => vs ++ zs)
structure DefKw (P : Program) (w : World) (K : PySem.W.Frag) (mg : Str → Option Value) (base : Heap) (k : Nat) (x : Str) (ps : List Str) (n : Nat) (kn : Str) (dv : V) (sp : Sp) : Prop where
  ex : ∃ (f : Addr) (fd : FuncData), FnOk P w K mg base CX0 k f fd ps sp ∧ mg x = some (.ref f) ∧ PySem.W.keepIn K (.ref f) = true ∧ (∃ ds, Vals [dv] ds ∧ Binds K fd ps ds) ∧ KBn K fd ps n [kn] (fun us ws => us ++ ws) (fun vs zs => vs ++ zs)
theorem HereKw.def {P : Program} {w : World} {K : PySem.W.Frag} {mg : Str → Option Value} {base : Heap} {k n : Nat} {x kn : Str} {dv : V} {st : Stmt} {ps : List Str} {sp : Sp} {f : Addr} {fd : FuncData} (h : HereKw K mg x st ps n kn dv f fd) (F : FnOk P w K mg base CX0 k f fd ps sp) : DefKw P w K mg base k x ps n kn dv sp :=
  ⟨f, fd, F, h.mg, h.fn.kp, h.bd, h.kb⟩
section
variable {X : Cx} {k j n : Nat} {x kn : Str} {dv : V} {p pos kpos : Pos} {e ke : Expr} {es : List Expr} {ps : List Str} {sp : Sp} {t : TA} {te : TE}
def tDefK (sp : Sp) (dv : V) (t : TA) : TE := fun σ H Q => t σ H fun vs H1 => sp (vs ++ [dv]) H1 Q E0
theorem tDefK_eq : tCall sp [dv] E0 t = tDefK sp dv t := by
  funext σ H Q
  unfold tCall tDefK
  rfl
theorem pe_defK (D : DefKw X.prog X.w X.K X.mg X.base k x ps n kn dv sp) (hr : Room j X.A) (hg : Gl X x) (ha : PA X (e :: es) t) (hk : k ≤ j := by decide) (hdb : (x == ("__debug__" : Str)) = false := by decide)
    (he : starEach (e :: es) X.env = (false, eval e X.env) :: starEach es X.env := by rfl) (hpl : (backTo pos (starEach es X.env)).any (·.1) = false := by rfl) : PE X (.Call (.Name x p) (e :: es) [] pos) (tDefK sp dv t) := by
  obtain ⟨f, fd, F, hm, hkp, ⟨ds, hv, hb⟩, _⟩ := D.ex
  rw [← tDefK_eq]
  exact pe_call F (hr.mono hk) hg hm hkp hb hv pass0 ha hdb he hpl
def tDefKw (n : Nat) (sp : Sp) (t : TA) (te : TE) : TE := tCallN n 1 sp (fun vs zs => vs ++ zs) E0 t (tCons te tNil)
theorem pe_defKw (D : DefKw X.prog X.w X.K X.mg X.base k x ps n kn dv sp) (hr : Room j X.A) (hg : Gl X x) (ha : PA X (e :: es) t) (hke : PE X ke te) (hk : k ≤ j := by decide)
    (hall : (backToKw pos (keywordEach [⟨some kn, ke, kpos⟩] X.env)).all (·.1.isSome) = true := by rfl) (hks : (backToKw pos (keywordEach [⟨some kn, ke, kpos⟩] X.env)).filterMap (·.1) = [kn] := by rfl)
    (hdb : (x == ("__debug__" : Str)) = false := by decide) (he : starEach (e :: es) X.env = (false, eval e X.env) :: starEach es X.env := by rfl)
    (hpl : ((backTo pos (starEach (e :: es) X.env)).any (·.1) || (backToKw pos (keywordEach [⟨some kn, ke, kpos⟩] X.env)).any (·.1.isNone)) = false := by rfl) : PE X (.Call (.Name x p) (e :: es) [⟨some kn, ke, kpos⟩] pos) (tDefKw n sp t te) := by
  obtain ⟨f, fd, F, hm, hkp, _, kb⟩ := D.ex
  exact pe_callN F (hr.mono hk) hg hm hkp kb pass0 ha (pk_cons hke pk_nil) hall hks hdb he hpl
theorem g_defK {σ : L2.St} {H : Hp} {Q : VK} (q : t σ H fun vs H1 => sp (vs ++ [dv]) H1 Q E0) : tDefK sp dv t σ H Q := q
theorem g_defKw {σ : L2.St} {H : Hp} {Q : VK} (q : t σ H fun vs H1 => te σ H1 fun z H2 => vs.length = n ∧ 1 = 1 ∧ sp (vs ++ [z]) H2 Q E0) : tDefKw n sp t te σ H Q := q
end
theorem kw_bd {K : PySem.W.Frag} {fd : FuncData} {D : Addr} {kn : Str} {ps : List Str} {n : Nat} {i : Int} {t : Tok} (hps : ps.length = n + 1) (hn : PySem.W.nsIn K D kn = some (some (.int i t)))
    (h : ∀ us : List Value, us.length = n → ∀ u : Value, KwChain D [(kn, u)] (bindArgs fd ⟨us, []⟩) (ps.zip (us ++ [u]))) : ∃ ds, Vals [.int i] ds ∧ Binds K fd ps ds := by
  refine ⟨[.int i t], .cons ⟨t, rfl⟩ .nil, fun s us X hlen => BindsTo.of_looks fun M => KwChain.looks X (fun q hq => ?_) (h us ?_ (.int i t))⟩
  · obtain rfl : q = (kn, .int i t) := List.mem_singleton.mp hq
    exact hn
  · simp at hlen
    omega
theorem kw_kb {K : PySem.W.Frag} {fd : FuncData} {kn : Str} {ps : List Str} {n : Nat} (h : ∀ us : List Value, us.length = n → ∀ u : Value, bindArgs fd ⟨us, [(kn, u)]⟩ = pure (ps.zip (us ++ [u]))) : KBn K fd ps n [kn] (fun us ws => us ++ ws) (fun vs zs => vs ++ zs) := by
  refine ⟨fun s us ws X l1 l2 => ?_, fun r1 r2 => r1.append r2⟩
  match ws, l2 with
  | [u], _ => exact .of_eq (h us l1 u)
end Tw

set_option Elab.async false
set_option linter.all false
set_option maxRecDepth 100000
namespace Tw
open PySem L2 PySem.Spec
section
variable {J : It} {g : TG} {tt : TT} {te : TE} {vs : List Nat} {σ : L2.St} {H1 : Hp} {D : Addr} {Qd : Hp → Prop}
/-- a comprehension whose turns leave the heap: what is kept has a property -/
theorem lc_any (xs : List V) (P : V → Prop) (hD : H1 D = none) (hJ : ∀ H, (∀ q o, H1 q = some o → H q = some o) → Fits J xs H) (hlen : xs.length ≤ 1000000)
    (hs : ∀ x Hh (R : V → Hp → Prop) (S : Hp → Prop), x ∈ xs → (∀ q o, H1 q = some o → Hh q = some o) → (∀ y, P y → R y Hh) → S Hh →
      g x (wipe σ vs) Hh fun σ2 H2 => wipe σ2 vs = wipe σ vs ∧ tt σ2 H2 fun b H3 => if b = true then te σ2 H3 R else S H3)
    (hd : ∀ H ys, (∀ q o, H1 q = some o → H q = some o) → H D = some (.lst ys) → (∀ y ∈ ys, P y) → ys.length ≤ xs.length → Qd H) :
    ∃ W : Nat → Nat → Hp → Prop, (∃ m, W 0 m (upd H1 D (.lst []))) ∧ ∀ i m H, W i m H →
      (J.stop i H ∧ Qd H) ∨ (J.go i H ∧ ∃ Nx : Hp → Prop, (∀ H', Nx H' → ∃ m', m' < m ∧ W (i + 1) m' H') ∧ ∀ x H', J.yld i H x H' → g x (wipe σ vs) H' fun σ2 H2 => wipe σ2 vs = wipe σ vs ∧ tt σ2 H2 fun b H3 =>
        if b = true then te σ2 H3 fun y H4 => ∃ acc, H4 D = some (.lst acc) ∧ acc.length < sizeLine ∧ Nx (upd H4 D (.lst (acc ++ [y]))) else Nx H3) := by
  refine ⟨fun i m H => m = xs.length - i ∧ i ≤ xs.length ∧ (∃ ys, H D = some (.lst ys) ∧ (∀ y ∈ ys, P y) ∧ ys.length ≤ i) ∧ ∀ q o, H1 q = some o → H q = some o, ⟨xs.length, by simp, Nat.zero_le _, ⟨[], upd_same, (fun y hy => nomatch hy), Nat.zero_le _⟩, fun q o h => by rw [upd_ne (ne_of_none h hD)]; exact h⟩, ?_⟩
  rintro i m H ⟨rfl, hi, ⟨ys, hDl, hP, hl⟩, hK⟩
  have fi := hJ H hK
  by_cases hlt : i < xs.length
  · refine .inr ⟨fi.go i hlt, fun H' => (∃ ys, H' D = some (.lst ys) ∧ (∀ y ∈ ys, P y) ∧ ys.length ≤ i + 1) ∧ ∀ q o, H1 q = some o → H' q = some o, fun H' w => ⟨xs.length - (i + 1), by omega, rfl, hlt, w⟩, ?_⟩
    intro x H' hy
    obtain ⟨rfl, hx⟩ := fi.yld i x H' hy
    refine hs x H' (fun y H4 => _) (fun H3 => _) (List.mem_of_getElem? hx) hK (fun y hy => ⟨_, hDl, ?_, ⟨_, upd_same, fun z hz => ?_, ?_⟩, fun q o h => by rw [upd_ne (ne_of_none h hD)]; exact hK q o h⟩) ⟨⟨ys, hDl, hP, by omega⟩, hK⟩
    · rw [sizeLine_eq]
      omega
    · rcases List.mem_append.mp hz with hz | hz
      · exact hP z hz
      · rw [List.mem_singleton.mp hz]; exact hy
    · rw [List.length_append]
      show ys.length + 1 ≤ _
      omega
  · have e : i = xs.length := by omega
    subst e
    exact .inl ⟨fi.stop _ (Nat.le_refl _), hd H ys hK hDl hP hl⟩
/-- a comprehension whose turns leave the heap, with an if -/
theorem lc_filt (xs : List V) (f : V → Bool) (v : V → V) (hD : H1 D = none) (hJ : ∀ H, (∀ q o, H1 q = some o → H q = some o) → Fits J xs H) (hlen : xs.length ≤ 1000000)
    (hs : ∀ x Hh (R : V → Hp → Prop) (S : Hp → Prop), x ∈ xs → (∀ q o, H1 q = some o → Hh q = some o) → (f x = true → R (v x) Hh) → (f x = false → S Hh) →
      g x (wipe σ vs) Hh fun σ2 H2 => wipe σ2 vs = wipe σ vs ∧ tt σ2 H2 fun b H3 => if b = true then te σ2 H3 R else S H3)
    (hd : ∀ H, (∀ q o, H1 q = some o → H q = some o) → H D = some (.lst ((xs.filter f).map v)) → Qd H) :
    ∃ W : Nat → Nat → Hp → Prop, (∃ m, W 0 m (upd H1 D (.lst []))) ∧ ∀ i m H, W i m H →
      (J.stop i H ∧ Qd H) ∨ (J.go i H ∧ ∃ Nx : Hp → Prop, (∀ H', Nx H' → ∃ m', m' < m ∧ W (i + 1) m' H') ∧ ∀ x H', J.yld i H x H' → g x (wipe σ vs) H' fun σ2 H2 => wipe σ2 vs = wipe σ vs ∧ tt σ2 H2 fun b H3 =>
        if b = true then te σ2 H3 fun y H4 => ∃ acc, H4 D = some (.lst acc) ∧ acc.length < sizeLine ∧ Nx (upd H4 D (.lst (acc ++ [y]))) else Nx H3) := by
  refine ⟨fun i m H => m = xs.length - i ∧ i ≤ xs.length ∧ H D = some (.lst (((xs.take i).filter f).map v)) ∧ ∀ q o, H1 q = some o → H q = some o, ⟨xs.length, by simp, Nat.zero_le _, upd_same, fun q o h => by rw [upd_ne (ne_of_none h hD)]; exact h⟩, ?_⟩
  rintro i m H ⟨rfl, hi, hDl, hK⟩
  have fi := hJ H hK
  by_cases hlt : i < xs.length
  · refine .inr ⟨fi.go i hlt, fun H' => H' D = some (.lst (((xs.take (i + 1)).filter f).map v)) ∧ ∀ q o, H1 q = some o → H' q = some o, fun H' w => ⟨xs.length - (i + 1), by omega, rfl, hlt, w⟩, ?_⟩
    intro x H' hy
    obtain ⟨rfl, hx⟩ := fi.yld i x H' hy
    have e1 : xs.take (i + 1) = xs.take i ++ [x] := by rw [List.take_succ, hx]; rfl
    refine hs x H' (fun y H4 => _) (fun H3 => _) (List.mem_of_getElem? hx) hK (fun hf => ⟨_, hDl, ?_, ?_, fun q o h => by rw [upd_ne (ne_of_none h hD)]; exact hK q o h⟩) (fun hf => ⟨?_, hK⟩)
    · have h1 := List.length_filter_le f (xs.take i)
      rw [List.length_take] at h1
      rw [List.length_map, sizeLine_eq]
      omega
    · rw [upd_same, e1, List.filter_append, List.filter_cons, if_pos hf, List.map_append]; rfl
    · rw [hDl, e1, List.filter_append, List.filter_cons, if_neg (by rw [hf]; exact Bool.false_ne_true)]
      simp
  · have e : i = xs.length := by omega
    subst e
    refine .inl ⟨fi.stop _ (Nat.le_refl _), hd H hK ?_⟩
    rw [hDl, List.take_length]
end
end Tw

set_option Elab.async false
set_option linter.all false
set_option maxRecDepth 100000
set_option maxHeartbeats 4000000
/-! != of lists that are equal item by item -/
namespace PySem.SeqAt
open AutoSeq1 (wpAny_loadPart')
open MeetsSeq MeetsSeq2 MeetsSeq3 SeqRoads2
section
variable {prog : Program} {w : World}
theorem tw_ne_loop (l b : Addr) (items items2 : Array Value) (n n2 : Nat) (dd dd2 : Option Addr) (sl sl2 : Array (Option Value)) (hsz : items.size = items2.size) (k : Nat) :
    ∀ i : Nat, items.size - i = k → MeetsIn prog w (Builtin.«list.__eq__.loop» ⟨[.ref l, .ref b, rawInt i, rawInt 3], []⟩)
      (fun A R s => s.heap.get? l = some { cls := .type "list", dict := dd, data := .seq items n, slots := sl } ∧ s.heap.get? b = some { cls := .type "list", dict := dd2, data := .seq items2 n2, slots := sl2 } ∧
        (∀ j (h1 : j < items.size) (h2 : j < items2.size), EqP prog w A.in1 s items[j] items2[j] true) ∧
        R (.ok (.ret (.bool false))) s) := by
  induction k with
  | zero =>
    intro i hk A R s h
    obtain ⟨hp, g, d, tk, os⟩ := s; obtain ⟨hl, hb, he, h⟩ := h
    wp_walk using wpAny_loadPart' hl, wpAny_loadPart' hb
    have hi1 : items[((i : Nat) : Int).toNat]? = none := by simp; omega
    have hi2 : items2[((i : Nat) : Int).toNat]? = none := by simp; omega
    rw [hi1, hi2]
    wp_walk using wpAny_loadPart' hl, wpAny_loadPart' hb
    show R (.ok (.ret (.bool (items.size != items2.size)))) _
    rw [hsz]
    simpa using h
  | succ k ih =>
    intro i hk A R s h
    obtain ⟨hp, g, d, tk, os⟩ := s; obtain ⟨hl, hb, he, h⟩ := h
    wp_walk using wpAny_loadPart' hl, wpAny_loadPart' hb
    have hlt : i < items.size := by omega
    have hlt2 : i < items2.size := by omega
    have hi1 : items[((i : Nat) : Int).toNat]? = some items[i] := by simp [hlt]
    have hi2 : items2[((i : Nat) : Int).toNat]? = some items2[i] := by simp [hlt2]
    have hc : ((i : Int) + 1) = ((i + 1 : Nat) : Int) := by push_cast; rfl
    rw [hi1, hi2]
    refine wpAny_bind (he i hlt hlt2 _ _ ?_)
    wp_walk
    rw [hc]
    exact ⟨plainId_quiet plain_eq_loop _, codeAny_builtin entry_eq_loop (by
      rw [Around.under_plainId plain_eq_loop _]
      exact ih (i + 1) (by omega) A R _ ⟨hl, hb, he, h⟩)⟩
theorem tw_list_ne (l b : Addr) (items items2 : Array Value) (n n2 : Nat) (dd dd2 : Option Addr) (sl sl2 : Array (Option Value)) (hsz : items.size = items2.size) :
    MeetsIn prog w (Builtin.«list.__ne__» ⟨[.ref l, .ref b], []⟩)
      (fun A R s => s.heap.get? l = some { cls := .type "list", dict := dd, data := .seq items n, slots := sl } ∧ s.heap.get? b = some { cls := .type "list", dict := dd2, data := .seq items2 n2, slots := sl2 } ∧
        (∀ j (h1 : j < items.size) (h2 : j < items2.size), EqP prog w A.in1 s items[j] items2[j] true) ∧
        R (.ok (.ret (.bool false))) s) := by
  intro A R s h
  obtain ⟨hp, g, d, tk, os⟩ := s; obtain ⟨hl, hb, he, h⟩ := h
  have f3 := AutoSeq1.sub_list_list
  have hne : ¬ (items.size != items2.size) = true := by simp [hsz]
  wp_walk using wpAny_loadPart' hl, wpAny_loadPart' hb
  exact ⟨plainId_quiet plain_eq_loop _, codeAny_builtin entry_eq_loop (by
    rw [Around.under_plainId plain_eq_loop _]
    exact tw_ne_loop l b items items2 n n2 dd dd2 sl sl2 hsz _ 0 rfl A R _ ⟨hl, hb, he, h⟩)⟩
theorem tw_ne_lists {A : Around} {s : Shared} {l b : Addr} {items items2 : Array Value} (hl : s.heap.IsList l items) (hb : s.heap.IsList b items2) (hsz : items.size = items2.size) (hu : A.units < cLine)
    (he : ∀ j (h1 : j < items.size) (h2 : j < items2.size), EqP prog w A.in1 s items[j] items2[j] true) (E Q : Value → Shared → Prop) (h : Q (.bool false) s) : wpAny (model prog w) A (richCompare .NotEq (.ref l) (.ref b)) Q E s := by
  obtain ⟨⟨cls, dd, data, sl⟩, ho, hc, n, hd⟩ := id hl
  obtain ⟨⟨cls2, dd2, data2, sl2⟩, ho2, hc2, n2, hd2⟩ := id hb
  simp only at hc hd hc2 hd2
  subst hc hd hc2 hd2
  have ta : s.TypeIs (.ref l) "list" := ⟨_, ho, rfl⟩
  have tb : s.TypeIs (.ref b) "list" := ⟨_, ho2, rfl⟩
  exact wpAny_richCompare_same_room (op := .NotEq) ta tb F.slot_list_ne (call_meetsIn F.slot_list_ne ta F.entry_list_ne (F.args_list_ne_2 _ _) (tw_list_ne l b items items2 n n2 dd dd2 sl sl2 hsz)
    ⟨ho, ho2, he, show Value.bool false ≠ Value.notImplemented ∧ Q (.bool false) s from ⟨(fun x => nomatch x), h⟩⟩) hu
end
end PySem.SeqAt
namespace L2
open PySem PySem.Spec PyProof.Rows
section
variable {X : Cx}
/-- a != b, two lists whose items are equal -/
def rNeV (K : PySem.W.Frag) : R2 := fun x y H Q => ∃ n a b xs ys, n ≤ 60 ∧ x = .ref a ∧ y = .ref b ∧ SqL K H a xs ∧ SqL K H b ys ∧ Paired (EqV K H n) xs ys ∧ Q (.bl false) H
theorem op_neV (hu : X.A.units + 64 < cLine) : OpR X (compareOp .NotEq) (rNeV X.K) := by
  intro pins s σ H x y v u Q I rx ry h
  obtain ⟨n, a, b, xs, ys, hn, rfl, rfl, ha, hb, hp, q⟩ := h
  cases (show v = Value.ref a from rx)
  cases (show u = Value.ref b from ry)
  obtain ⟨us, r1, p1, _⟩ := I.list ha
  obtain ⟨ws, r2, p2, _⟩ := I.list hb
  have hsz : us.toArray.size = ws.toArray.size := by
    rw [List.size_toArray, List.size_toArray, ← r1.length, ← r2.length]
    exact Paired.length hp
  refine SeqAt.tw_ne_lists p1.isList p2.isList hsz (by omega) (fun j h1 h2 => ?_) _ _ ⟨.bl false, H, I, rfl, q⟩
  have k := items_run (eqV_run I n X.A.in1 (by show X.A.units + 1 + n < cLine; omega)) hp r1 r2 j (by simpa using h1) (by simpa using h2)
  simpa using k
theorem op_neVu {K : PySem.W.Frag} (h : X.K = K) (hu : X.A.units + 64 < cLine) : OpR X (compareOp .NotEq) (rNeV K) := by subst h; exact op_neV hu
theorem op_eqVu {K : PySem.W.Frag} (h : X.K = K) (hu : X.A.units + 64 < cLine) : OpR X (compareOp .Eq) (rEqV K) := by subst h; exact op_eqV hu
end
end L2
namespace Tw
open PySem L2
def rMin2 : List V → Hp → VK → Prop := fun xs H Q => ∃ i j, xs = [.int i, .int j] ∧ Q (.int (if j < i then j else i)) H
def rInsert : V → List V → Hp → VK → Prop := fun x vs H Q => ∃ (l : Addr) (xs : List V) (i : Int) (y : V), x = .ref l ∧ vs = [.int i, y] ∧ H l = some (.lst xs) ∧ xs.length < sizeLine ∧ 0 ≤ i ∧ i < 2 ^ 63 ∧ Q .non (upd H l (.lst (xs.take i.toNat ++ [y] ++ xs.drop i.toNat)))
section
variable {X : Cx}
theorem call_min2G (h : X.calm = true) : CallR X (.builtin "min") rMin2 := call_min2 h
theorem pg_tupG {K : PySem.W.Frag} {es : List Expr} {k : Nat} {t : TGs} {n : Nat} {pos : Pos} (hK : X.K = K) (hc : X.calm = true) (h : PGs X es t)
    (hn : (assignEach es X.env).length = n := by rfl) (hst : (assignEach es X.env).findIdx? (·.1) = none := by rfl) : PG X (.Tuple es k pos) (gTup K n t) := by subst hK; exact pg_tup hc h hn hst
theorem mt_insertG : MtR X "list.insert" rInsert := mt_insert
end
section
variable {K : PySem.W.Frag} {σ : L2.St} {H : Hp} {Q : VK} {D : Ends} {t : TA} {c : TT} {tb : TS} {i j : Int}
theorem g_min2 (q : Q (.int (if j < i then j else i)) H) : rMin2 [.int i, .int j] H Q := ⟨i, j, rfl, q⟩
theorem g_rng2 {R : It → Hp → Prop} (q : t σ H fun vs H1 => ∃ i j : Int, vs = [.int i, .int j] ∧ (-(2 ^ 62) ≤ i ∧ i < 2 ^ 62 ∧ -(2 ^ 62) ≤ j ∧ j < 2 ^ 62) ∧ R (Itr i (j - i).toNat) H1) : iRng2 t σ H R := q
theorem g_gtup {n : Nat} {u : TGs} {p : Addr} {xs : List V} {QS : L2.St → Hp → Prop} (h : H p = some (.tup xs)) (hl : xs.length = n) (q : u xs σ H QS) : gTup K n u (.ref p) σ H QS := ⟨p, xs, rfl, SqT.of h, hl, q⟩
theorem g_gcons {g : TG} {u : TGs} {v : V} {r : List V} {QS : L2.St → Hp → Prop} (q : g v σ H fun σ' H' => u r σ' H' QS) : gCons g u (v :: r) σ H QS := ⟨v, r, rfl, q⟩
theorem g_gnil {QS : L2.St → Hp → Prop} (q : QS σ H) : gNil [] σ H QS := ⟨rfl, q⟩
theorem g_while (q : ∃ W : Nat → L2.St → Hp → Prop, (∃ m, W m σ H) ∧ ∀ m σ H, W m σ H →
  c σ H fun b H1 => if b = true then ∃ N : L2.St → Hp → Prop, (∀ σ' H', N σ' H' → ∃ m', m' < m ∧ W m' σ' H') ∧ tb { D with nx := N, ct := N, bk := D.nx } σ H1 else D.nx σ H1) : tWhile c tb D σ H := q
theorem g_ins {p : Addr} {xs : List V} {v : V} (h : H p = some (.lst xs)) (hz : xs.length < 10000000) (h0 : 0 ≤ i) (h1 : i < 10000000) (q : Q .non (upd H p (.lst (xs.take i.toNat ++ [v] ++ xs.drop i.toNat)))) : rInsert (.ref p) [.int i, v] H Q := ⟨p, xs, i, v, rfl, rfl, h, by rw [sizeLine_eq]; omega, h0, by omega, q⟩
end
end Tw
namespace Tw
open PySem L2
section
variable {σ : L2.St} {g : TG} {tt : TT} {te : TE} {vs : List Nat} {J : It} {H1 : Hp} {D : Addr} {Qd : Hp → Prop}
/-- a comprehension whose turns make new things -/
theorem lc_new (xs : List V) (Rel : Nat → V → Hp → Prop) (hD : H1 D = none) (hJ : ∀ H, (∀ q o, H1 q = some o → H q = some o) → Fits J xs H) (hlen : xs.length ≤ 1000000)
    (hmono : ∀ i y H H', (∃ ys, H D = some (.lst ys)) → Rel i y H → (∀ q o, q ≠ D → H q = some o → H' q = some o) → Rel i y H')
    (hs : ∀ i x Hh (R : V → Hp → Prop) (S : Hp → Prop), xs[i]? = some x → (∀ q o, H1 q = some o → Hh q = some o) → (∃ ys, Hh D = some (.lst ys)) → (∀ y H4, (∀ q o, Hh q = some o → H4 q = some o) → Rel i y H4 → R y H4) →
      g x (wipe σ vs) Hh fun σ2 H2 => wipe σ2 vs = wipe σ vs ∧ tt σ2 H2 fun b H3 => if b = true then te σ2 H3 R else S H3)
    (hd : ∀ H ys, (∀ q o, H1 q = some o → H q = some o) → H D = some (.lst ys) → ys.length = xs.length → (∀ i y, ys[i]? = some y → Rel i y H) → Qd H) :
    ∃ W : Nat → Nat → Hp → Prop, (∃ m, W 0 m (upd H1 D (.lst []))) ∧ ∀ i m H, W i m H →
      (J.stop i H ∧ Qd H) ∨ (J.go i H ∧ ∃ Nx : Hp → Prop, (∀ H', Nx H' → ∃ m', m' < m ∧ W (i + 1) m' H') ∧ ∀ x H', J.yld i H x H' → g x (wipe σ vs) H' fun σ2 H2 => wipe σ2 vs = wipe σ vs ∧ tt σ2 H2 fun b H3 =>
        if b = true then te σ2 H3 fun y H4 => ∃ acc, H4 D = some (.lst acc) ∧ acc.length < sizeLine ∧ Nx (upd H4 D (.lst (acc ++ [y]))) else Nx H3) := by
  refine ⟨fun i m H => m = xs.length - i ∧ i ≤ xs.length ∧ (∀ q o, H1 q = some o → H q = some o) ∧ ∃ ys, H D = some (.lst ys) ∧ ys.length = i ∧ ∀ j y, ys[j]? = some y → Rel j y H, ⟨xs.length, by simp, Nat.zero_le _, fun q o h => by rw [upd_ne (ne_of_none h hD)]; exact h, [], upd_same, rfl, fun j y h => by simp at h⟩, ?_⟩
  rintro i m H ⟨rfl, hi, hK, ys, hDl, hyl, hR⟩
  have fi := hJ H hK
  by_cases hlt : i < xs.length
  · refine .inr ⟨fi.go i hlt, fun H' => (∀ q o, H1 q = some o → H' q = some o) ∧ ∃ ys, H' D = some (.lst ys) ∧ ys.length = i + 1 ∧ ∀ j y, ys[j]? = some y → Rel j y H', fun H' w => ⟨xs.length - (i + 1), by omega, rfl, hlt, w⟩, ?_⟩
    intro x H' hy
    obtain ⟨rfl, hx⟩ := fi.yld i x H' hy
    refine hs i x H' (fun y H4 => _) (fun H3 => _) hx hK ⟨_, hDl⟩ fun y H4 k4 r4 => ⟨ys, k4 _ _ hDl, by rw [sizeLine_eq]; omega, fun q o h => by rw [upd_ne (ne_of_none h hD)]; exact k4 _ _ (hK q o h), ys ++ [y], upd_same, by rw [List.length_append, hyl]; rfl, fun j z hz => ?_⟩
    have ku : ∀ q o, q ≠ D → H4 q = some o → (upd H4 D (.lst (ys ++ [y]))) q = some o := fun q o n h => by rw [upd_ne n]; exact h
    by_cases hj : j < ys.length
    · rw [List.getElem?_append_left hj] at hz
      exact hmono j z _ _ ⟨ys, k4 _ _ hDl⟩ (hmono j z _ _ ⟨ys, hDl⟩ (hR j z hz) fun q o _ h => k4 q o h) ku
    · rw [List.getElem?_append_right (by omega)] at hz
      obtain ⟨h0, _⟩ := List.getElem?_eq_some_iff.mp hz
      have e : j - ys.length = 0 := by simpa using h0
      rw [e] at hz
      obtain rfl : y = z := by simpa using hz
      obtain rfl : j = i := by omega
      exact hmono _ _ _ _ ⟨ys, k4 _ _ hDl⟩ r4 ku
  · have e : i = xs.length := by omega
    subst e
    exact .inl ⟨fi.stop _ (Nat.le_refl _), hd H ys hK hDl hyl hR⟩
end
end Tw

set_option Elab.async false
set_option linter.all false
set_option maxRecDepth 100000
set_option maxHeartbeats 4000000
namespace PySem
namespace ErBadTest
open PySem.W PySem.Calls PyProof.Rows PySem.HandSPX PySem.TwX
def inA (p1 p2 : Pos) : Arguments := { posonlyargs := [], args := [{ arg := "self", annotation := none, pos := p1 }, { arg := "why", annotation := none, pos := p2 }], vararg := none, kwonlyargs := [], kw_defaults := [], kwarg := none, defaults := [] }
def inB (q1 q2 q3 q4 : Pos) : List Stmt := [.Assign [.Attribute (.Name "self" q1) "why" q2] (.Name "why" q3) q4]
/-- what the written part says of the class at C, and of its __init__ at fI -/
structure Err (K : Frag) (mg : Str → Option Value) (C fI : Addr) : Prop where
  gC : mg "BadTest" = some (.ref C)
  cls : ∃ nm q N bs bm sn sub ab col dd k0 k1 k2 k3 k5, K.lookup C = some (excClassObj nm q C N bs bm true sn sub ab col dd k0 k1 k2 k3 k5 "Exception.__new__") ∧ OwnEx bm
  sa : findIn K (.ref C) "__setattr__" = some (some (.builtin "object.__setattr__"))
  ga : findIn K (.ref C) "__getattribute__" = some (some (.builtin "BaseException.__getattribute__"))
  gg : findIn K (.ref C) "__getattr__" = some none
  noF : findIn K (.ref C) "why" = some none
  ini : findIn K (.ref C) "__init__" = some (some (.ref fI))
  tyI : typeIn K (.ref fI) = some (.type "function")
  kC : keepIn K (.ref C) = true
  exC : subIn K (.ref C) (.type "BaseException") = some true
  tyC : typeIn K (.ref C) = some (.type "type")
  hdC : hasDictIn K C = true
  te : exmOne K (.ref C) (.ref C) = some true
  fn : ∃ (oc : Value) (od : Option Addr) (doc pm : Value) (an : Option Addr) (cdv ct : Value) (osl : Array (Option Value)) (p1 p2 q1 q2 q3 q4 : Pos) (sc : Scope),
    K.lookup fI = some ⟨oc, od, .func (fnOf "__init__" "BadTest.__init__" (inA p1 p2) (inB q1 q2 q3 q4) sc .none .none doc pm an cdv ct), osl⟩ ∧ codeIn K cdv "BadTest.__init__" = true ∧ sc.kind = .function ∧ sc.names = [(PySem.Str.ofString "self", .local), (PySem.Str.ofString "why", .local)] ∧ sc.isGenerator = false ∧ sc.isCoroutine = false
theorem one_ok (v : Value) : [v].length ≤ sizeLine := by rw [sizeLine_eq]; exact (by decide : 1 ≤ 16777216)
theorem read_local {M : Model} {s : Shared} {name : Str} {scope : Scope} {L a : Addr} {cd : Value} {m : Str → Option Value} {x : Str} {pos : Pos} {v : Value} {Q : Value → Shared → Prop} {A : Around} {E : Value → Shared → Prop} (hn : s.heap.Ns L m) (hv : m x = some v) (h : Q v s) (hk : scope.kind = .function)
    (hl : scope.names.lookup x = some .local) (hd : (x == ("__debug__" : Str)) = false := by decide) : wpAny M A (eval (.Name x pos) (envOfC name scope L a cd)) Q E s := wpAny_Name (wpAny_loadName_local hk hl hn hv h) hd
structure InitLeft (h h2 : Heap) (x C dx t1 : Addr) (v : Value) : Prop where
  keep : ∀ b o, b ≠ x → h.get? b = some o → h2.get? b = some o
  obj : h2.get? x = some { cls := .ref C, dict := some dx, data := .fields #[.ref t1, .none, .none, .none, .bool false, .none] }
  dbig : h.objs.size ≤ dx
  dne : dx ≠ x
  ns : h2.Ns1 dx (fun y => if y = "why" then some v else none)
structure ErrMade (h h2 : Heap) (e C d : Addr) (v : Value) : Prop where
  keep : ∀ b o, h.get? b = some o → h2.get? b = some o
  new : h.objs.size ≤ e
  obj : ∃ oe vs, h2.get? e = some oe ∧ oe.cls = .ref C ∧ oe.dict = some d ∧ oe.data = .fields vs ∧ vs[1]? = some .none
  dbig : h.objs.size ≤ d
  dne : d ≠ e
  ns : h2.Ns1 d (fun y => if y = "why" then some v else none)
section
variable {prog : Program} {w : World} {A : Around} {E : Value → Shared → Prop} {R : Result → Shared → Prop} {s : Shared} {K : Frag} {mg : Str → Option Value} {C fI : Addr}
theorem err_init (T : Err K mg C fI) {x t0 : Addr} {v : Value} (X : K.In s.heap) (hlim : s.heap.NoLimit) (hx : s.heap.get? x = some (excO C t0)) (hroom : A.depth < recursionLimit)
    (hq : ∀ h2 tk dx, InitLeft s.heap h2 x C dx t0 v → R (.ok (.ret .none)) { s with heap := h2, toks := tk }) :
    codeAny (model prog w) A (.call (.ref fI) ⟨[.ref x, v], []⟩) R s := by
  obtain ⟨oc, od, doc, pm, an, cdv, ct, osl, p1, p2, q1, q2, q3, q4, sc, ho, hcd, hk, hnames, hge, hco⟩ := T.fn
  obtain ⟨nm', q, N, bs, bm, sn, sub, ab, col, dd, k0, k1, k2, k3, k5, hC, hbm⟩ := T.cls
  have hcl : clsIn K C = some { name := nm', bases := bs, mro := .ref C :: bm, ns := N, qualname := q, hasDict := true, slotNames := sn, subclasses := sub, abstract := ab, collection := col, hasDel := false } := by unfold clsIn; rw [hC] <;> rfl
  have l1 : sc.names.lookup ("self" : Str) = some .local := by rw [hnames]; decide +kernel
  have l2 : sc.names.lookup ("why" : Str) = some .local := by rw [hnames]; decide +kernel
  refine Att.call_fn (binds := [("self", .ref x), ("why", v)]) X hlim ho hcd hroom (BindsTo.of_eq (by first | rfl | with_unfolding_all rfl)) (by rw [List.all_cons, List.all_cons, l1, l2]; rfl) (fun s₁ IC => ?_) hco hge hk
  obtain ⟨h₁, tk₁, rfl⟩ := IC.toInCall.same
  have k : ∀ b o, s.heap.get? b = some o → h₁.get? b = some o := IC.toInCall.keep
  have hn := IC.toInCall.ns
  have X₁ : K.In h₁ := X.keeps k
  have hx₁ := k _ _ hx
  have b1 : (bindL (envOfC "BadTest.__init__" sc s.heap.objs.size fI cdv).kindOf [("self", .ref x), ("why", v)] fun _ => none) ("self" : Str) = some (.ref x) :=
    L2.bindL_get (P := ["self", "why"]) (vs := [.ref x, v]) (i := 0) (by decide +kernel) rfl rfl l1
  have b2 : (bindL (envOfC "BadTest.__init__" sc s.heap.objs.size fI cdv).kindOf [("self", .ref x), ("why", v)] fun _ => none) ("why" : Str) = some v :=
    L2.bindL_get (P := ["self", "why"]) (vs := [.ref x, v]) (i := 1) (by decide +kernel) rfl rfl l2
  show wpAny _ _ (execs _ _) _ _ _
  refine wpAny_execs_cons (plainObj_wpAny_Assign_Attribute ?_)
  refine read_local (v := v) hn b2 (read_local (v := .ref x) hn b1 ?_ hk l1) hk l2
  refine set_plain X₁ (ox := excO C t0) (od := none) ⟨hx₁, rfl, rfl, trivial⟩ T.sa ?_
  refine setattr_first X₁ hx₁ hcl (.own C hbm) rfl T.noF (fun h₃ tk₃ dx k₃ dn dne hx₃ hn₃ => ?_)
  show wpAny _ _ (execs _ _) _ _ _
  have z : s.heap.objs.size < h₁.objs.size := hn.lt
  exact wpAny_execs_nil (hq h₃ tk₃ dx ⟨fun b o hb e => k₃ b o hb (k b o e), hx₃, Nat.le_of_lt (Nat.lt_of_lt_of_le z dn), dne, hn₃⟩)
theorem err_made (T : Err K mg C fI) {v : Value} (X : K.In s.heap) (hlim : s.heap.NoLimit) (hroom : A.depth + 1 < recursionLimit)
    (hq : ∀ h2 tk e d, ErrMade s.heap h2 e C d v → R (.ok (.ret (.ref e))) { s with heap := h2, toks := tk }) :
    codeAny (model prog w) A (.call (.ref C) ⟨[v], []⟩) R s := by
  obtain ⟨nm', q, N, bs, bm, sn, sub, ab, col, dd, k0, k1, k2, k3, k5, hC, hbm⟩ := T.cls
  obtain ⟨hp, g, dr, tk, os⟩ := s
  have k : ∀ b o, hp.get? b = some o → ((hp.push (kdv_tup [v])).push (excO C hp.objs.size)).get? b = some o := fun b o e => Heap.get?_push_of_some _ (Heap.get?_push_of_some _ e)
  have hget : ((hp.push (kdv_tup [v])).push (excO C hp.objs.size)).get? (hp.objs.size + 1) = some (excO C hp.objs.size) := by heap_get
  refine call_own F.excBase_Exception (fun X => hbm.has X) (X _ _ hC) (looks_findIn X T.ini) (fun self => bind_fn X self T.tyI) (one_ok v) ?_
  refine err_init (s := ⟨(hp.push (kdv_tup [v])).push (excO C hp.objs.size), g, dr, tk, os⟩) T (X.keeps k) (hlim.keeps k) hget ?_ fun h2 tk2 dx ⟨k', hx, dn, dne, hns⟩ => ?_
  · show A.depth + 1 < recursionLimit
    exact hroom
  · have old : ∀ b o, hp.get? b = some o → h2.get? b = some o := fun b o e => k' b o (Nat.ne_of_lt (Nat.lt_succ_of_lt (Heap.lt_size e))) (k b o e)
    have z : hp.objs.size + 1 + 1 ≤ dx := by
      first
        | (simpa only [Heap.size_push] using dn)
        | exact dn
        | (have q := dn; rw [Heap.size_push, Heap.size_push] at q; exact q)
    exact ⟨rfl, hq h2 tk2 (hp.objs.size + 1) dx ⟨old, Nat.le_succ _, ⟨_, _, hx, rfl, rfl, rfl, rfl⟩, Nat.le_trans (Nat.le_trans (Nat.le_succ _) (Nat.le_succ _)) z, dne, hns⟩⟩
end
end ErBadTest
end PySem
namespace Tw
open PySem L2
theorem relO_BadTest {v : V} {v' : Value} (r : RelV v v') (f : Str) : RelO (List.lookup f [(("why" : Str), v)]) (if f = "why" then some v' else none) := by
  by_cases hw : f = "why"
  · subst hw
    rw [if_pos rfl]
    have q : List.lookup ("why" : Str) [(("why" : Str), v)] = some v := by simp [List.lookup]
    rw [q]
    exact r
  · rw [if_neg hw]
    have qw : (f == ("why" : Str)) = false := by simpa using hw
    have q2 : List.lookup f [(("why" : Str), v)] = none := by simp [List.lookup, qw]
    rw [q2]
    trivial
section
variable {X : Cx} {C fI : Addr}
def tMkBadTest (C : Addr) (ta : TA) : L2.St → Hp → XK → Prop := fun σ H Q => ta σ H fun vs H1 => ∃ v, vs = [v] ∧ ∀ d, H1 d = none → Q (.ref C) (some d) (upd H1 d (.xd [(("why" : Str), v)]))
theorem pmk_BadTest {a : Expr} {ta : TA} {p pos : Pos} {k : Nat} (T : PySem.ErBadTest.Err X.K X.mg C fI) (hr : Room k X.A) (ha : PA X [a] ta) (hg : Gl X "BadTest" := by rfl)
    (he : starEach (a :: []) X.env = (false, eval a X.env) :: starEach [] X.env := by rfl) (hpl : (backTo pos (starEach [] X.env)).any (·.1) = false := by rfl) :
    PMk X (.Call (.Name "BadTest" p) [a] [] pos) (tMkBadTest C ta) := by
  intro pins s σ H Q I h
  refine wpAny_Call_Name_kw (ld_glob I hg T.gC ?_)
  refine PySem.W.callWith_K (h₀ := X.base) I.ok.mod.kin T.kC (thn (ha.run pos pins s σ H _ I h) fun us s1 hh => ?_) he hpl
  obtain ⟨vs, H1, I1, r1, v, ev, q1⟩ := hh
  subst ev
  refine ⟨I1.kIn, ?_⟩
  cases r1 with
  | cons rv rn =>
    rename_i v' us'
    cases rn
    show wpAny _ _ (call (.ref C) [v']) _ _ _
    have hlim := I1.nolimit
    obtain ⟨hp, g, dr, tk, os⟩ := s1
    refine wpAny_call (PySem.ErBadTest.err_made T I1.kIn hlim (by have := hr.dp; omega) fun h' tk' e d M => ?_)
    show MkP X pins σ Q (.ref e) ⟨h', g, dr, tk', os⟩
    obtain ⟨oe, fv, hoe, hc, hd, hdat, h1⟩ := M.obj
    have hns := M.ns
    obtain ⟨G', g1, g2⟩ := restrict h' fun b => decide (b ≠ e)
    have gk : ∀ b, b ≠ e → G'.get? b = h'.get? b := fun b hb => g1 b (decide_eq_true hb)
    have ge : G'.get? e = none := g2 e (by simp)
    have old : ∀ b o, hp.get? b = some o → G'.get? b = some o := fun b o q => (gk b (Nat.ne_of_lt (Nat.lt_of_lt_of_le (Heap.lt_size q) M.new))).trans (M.keep b o q)
    have ob : ObjOk X.prog X.w (upd H1 d (.xd [(("why" : Str), v)])) G' d (.xd [(("why" : Str), v)]) :=
      ⟨_, hns.at (fun o q => (gk d M.dne).trans q), fun f => relO_BadTest rv f⟩
    have J : Inv X pins σ (upd H1 d (.xd [(("why" : Str), v)])) ⟨G', g, dr, tk', os⟩ := I1.laid (t' := tk') old M.dbig ob
    refine ⟨e, oe, fv, ⟨G', g, dr, tk', os⟩, _, .ref C, some d, rfl, J, fun b o q => ?_, ge, hoe, ⟨hc, hd⟩, hdat, h1, ?_, rfl, I1.bare, raises_own T.exC T.tyC, q1 d (I1.hok.fresh M.dbig)⟩
    · by_cases hb : b = e
      · have q' : G'.get? b = some o := q
        rw [hb, ge] at q'; cases q'
      · exact (gk b hb).symm.trans q
    · rw [upd_ne (Ne.symm M.dne)]
      exact I1.hok.fresh M.new
def tRaiseBadTest (C : Addr) (W : WX) (ta : TA) : TS := fun _ σ H => tMkBadTest C ta σ H fun cls d H' => W cls d σ H'
theorem ps_raiseBadTest {a : Expr} {ta : TA} {W : WX} {p pos pos2 : Pos} {k : Nat} (hc : X.calm = true) (T : PySem.ErBadTest.Err X.K X.mg C fI) (hr : Room k X.A) (tk : Takes X W) (ha : PA X [a] ta) (hg : Gl X "BadTest" := by rfl)
    (he : starEach (a :: []) X.env = (false, eval a X.env) :: starEach [] X.env := by rfl) (hpl : (backTo pos (starEach [] X.env)).any (·.1) = false := by rfl) :
    PS X (.Raise (some (.Call (.Name "BadTest" p) [a] [] pos)) none pos2) (tRaiseBadTest C W ta) := ps_raise hc tk (pmk_BadTest T hr ha hg he hpl)
def tByBadTest (C : Addr) (a : Addr) (cls : Value) (d : Option Addr) (te : TE) : TE := fun σ H Q => te σ H fun x H1 => x = .ref a ∧ cls = .ref C ∧ ∃ (dd : Addr) (v : V), d = some dd ∧ H1 dd = some (.xd [(("why" : Str), v)]) ∧ Q v H1
theorem pe_byBadTest {a : Addr} {oe : Obj} {cls : Value} {d : Option Addr} {pn : List (Addr × Obj)} {e : Expr} {te : TE} {pos : Pos} (T : PySem.ErBadTest.Err X.K X.mg C fI) (hz : Zc cls d oe) (hf : ∃ vs, oe.data = .fields vs) (he : PE (X.suite a ((a, oe) :: pn)) e te)
    (hb : attributeBase e "why" X.env (eval e X.env) = eval e X.env := by rfl) :
    PE (X.suite a ((a, oe) :: pn)) (.Attribute e "why" pos) (tByBadTest C a cls d te) := by
  refine ⟨fun pins s σ H Q I h => ?_⟩
  refine attr_of hb (thn (he.run pins s σ H _ I h) fun u s1 hh => ?_)
  obtain ⟨x, H1, I1, rx, ex, ec, dd, v, ed, ea, q⟩ := hh
  subst ex
  obtain rfl : u = Value.ref a := rx
  subst ec
  subst ed
  obtain ⟨ha, _⟩ := I1.pin (a, oe) (List.mem_append_left _ List.mem_cons_self)
  obtain ⟨vs, hd⟩ := hf
  have hx : ObjOk X.prog X.w H1 s1.heap dd (.xd [(("why" : Str), v)]) := I1.hok dd _ ea
  obtain ⟨mA, hns, hr⟩ := hx
  obtain ⟨od, ho, hl⟩ := lookIn_ns hns
  have l : List.lookup ("why" : Str) [(("why" : Str), v)] = some v := by simp [List.lookup]
  obtain ⟨u, hu, ru⟩ := RelO.some_of (v := v) (o := mA "why") (by rw [← l]; exact hr "why")
  have J : PySem.W.InstAt s1.heap a oe C (some od) := ⟨ha, hz.1, by unfold PySem.W.notCls; rw [hd] <;> rfl, by rw [hz.2]; exact ho⟩
  exact HandSPX.exc_get I1.kIn J T.ga T.gg T.exC (PySem.W.findObj_own T.hdC T.noF rfl (by rw [hl, hu])) (handed_of ru) ⟨v, H1, I1.tok _, ru, q⟩
end
end Tw

set_option Elab.async false
set_option linter.all false
set_option maxRecDepth 100000
set_option maxHeartbeats 4000000
namespace PySem
namespace ErBadRow
open PySem.W PySem.Calls PyProof.Rows PySem.HandSPX PySem.TwX
def inA (p1 p2 : Pos) : Arguments := { posonlyargs := [], args := [{ arg := "self", annotation := none, pos := p1 }, { arg := "column", annotation := none, pos := p2 }], vararg := none, kwonlyargs := [], kw_defaults := [], kwarg := none, defaults := [] }
def inB (q1 q2 q3 q4 : Pos) : List Stmt := [.Assign [.Attribute (.Name "self" q1) "column" q2] (.Name "column" q3) q4]
/-- what the written part says of the class at C, and of its __init__ at fI -/
structure Err (K : Frag) (mg : Str → Option Value) (C fI : Addr) : Prop where
  gC : mg "BadRow" = some (.ref C)
  cls : ∃ nm q N bs bm sn sub ab col dd k0 k1 k2 k3 k5, K.lookup C = some (excClassObj nm q C N bs bm true sn sub ab col dd k0 k1 k2 k3 k5 "Exception.__new__") ∧ OwnEx bm
  sa : findIn K (.ref C) "__setattr__" = some (some (.builtin "object.__setattr__"))
  ga : findIn K (.ref C) "__getattribute__" = some (some (.builtin "BaseException.__getattribute__"))
  gg : findIn K (.ref C) "__getattr__" = some none
  noF : findIn K (.ref C) "column" = some none
  ini : findIn K (.ref C) "__init__" = some (some (.ref fI))
  tyI : typeIn K (.ref fI) = some (.type "function")
  kC : keepIn K (.ref C) = true
  exC : subIn K (.ref C) (.type "BaseException") = some true
  tyC : typeIn K (.ref C) = some (.type "type")
  hdC : hasDictIn K C = true
  te : exmOne K (.ref C) (.ref C) = some true
  fn : ∃ (oc : Value) (od : Option Addr) (doc pm : Value) (an : Option Addr) (cdv ct : Value) (osl : Array (Option Value)) (p1 p2 q1 q2 q3 q4 : Pos) (sc : Scope),
    K.lookup fI = some ⟨oc, od, .func (fnOf "__init__" "BadRow.__init__" (inA p1 p2) (inB q1 q2 q3 q4) sc .none .none doc pm an cdv ct), osl⟩ ∧ codeIn K cdv "BadRow.__init__" = true ∧ sc.kind = .function ∧ sc.names = [(PySem.Str.ofString "self", .local), (PySem.Str.ofString "column", .local)] ∧ sc.isGenerator = false ∧ sc.isCoroutine = false
theorem one_ok (v : Value) : [v].length ≤ sizeLine := by rw [sizeLine_eq]; exact (by decide : 1 ≤ 16777216)
theorem read_local {M : Model} {s : Shared} {name : Str} {scope : Scope} {L a : Addr} {cd : Value} {m : Str → Option Value} {x : Str} {pos : Pos} {v : Value} {Q : Value → Shared → Prop} {A : Around} {E : Value → Shared → Prop} (hn : s.heap.Ns L m) (hv : m x = some v) (h : Q v s) (hk : scope.kind = .function)
    (hl : scope.names.lookup x = some .local) (hd : (x == ("__debug__" : Str)) = false := by decide) : wpAny M A (eval (.Name x pos) (envOfC name scope L a cd)) Q E s := wpAny_Name (wpAny_loadName_local hk hl hn hv h) hd
structure InitLeft (h h2 : Heap) (x C dx t1 : Addr) (v : Value) : Prop where
  keep : ∀ b o, b ≠ x → h.get? b = some o → h2.get? b = some o
  obj : h2.get? x = some { cls := .ref C, dict := some dx, data := .fields #[.ref t1, .none, .none, .none, .bool false, .none] }
  dbig : h.objs.size ≤ dx
  dne : dx ≠ x
  ns : h2.Ns1 dx (fun y => if y = "column" then some v else none)
structure ErrMade (h h2 : Heap) (e C d : Addr) (v : Value) : Prop where
  keep : ∀ b o, h.get? b = some o → h2.get? b = some o
  new : h.objs.size ≤ e
  obj : ∃ oe vs, h2.get? e = some oe ∧ oe.cls = .ref C ∧ oe.dict = some d ∧ oe.data = .fields vs ∧ vs[1]? = some .none
  dbig : h.objs.size ≤ d
  dne : d ≠ e
  ns : h2.Ns1 d (fun y => if y = "column" then some v else none)
section
variable {prog : Program} {w : World} {A : Around} {E : Value → Shared → Prop} {R : Result → Shared → Prop} {s : Shared} {K : Frag} {mg : Str → Option Value} {C fI : Addr}
theorem err_init (T : Err K mg C fI) {x t0 : Addr} {v : Value} (X : K.In s.heap) (hlim : s.heap.NoLimit) (hx : s.heap.get? x = some (excO C t0)) (hroom : A.depth < recursionLimit)
    (hq : ∀ h2 tk dx, InitLeft s.heap h2 x C dx t0 v → R (.ok (.ret .none)) { s with heap := h2, toks := tk }) :
    codeAny (model prog w) A (.call (.ref fI) ⟨[.ref x, v], []⟩) R s := by
  obtain ⟨oc, od, doc, pm, an, cdv, ct, osl, p1, p2, q1, q2, q3, q4, sc, ho, hcd, hk, hnames, hge, hco⟩ := T.fn
  obtain ⟨nm', q, N, bs, bm, sn, sub, ab, col, dd, k0, k1, k2, k3, k5, hC, hbm⟩ := T.cls
  have hcl : clsIn K C = some { name := nm', bases := bs, mro := .ref C :: bm, ns := N, qualname := q, hasDict := true, slotNames := sn, subclasses := sub, abstract := ab, collection := col, hasDel := false } := by unfold clsIn; rw [hC] <;> rfl
  have l1 : sc.names.lookup ("self" : Str) = some .local := by rw [hnames]; decide +kernel
  have l2 : sc.names.lookup ("column" : Str) = some .local := by rw [hnames]; decide +kernel
  refine Att.call_fn (binds := [("self", .ref x), ("column", v)]) X hlim ho hcd hroom (BindsTo.of_eq (by first | rfl | with_unfolding_all rfl)) (by rw [List.all_cons, List.all_cons, l1, l2]; rfl) (fun s₁ IC => ?_) hco hge hk
  obtain ⟨h₁, tk₁, rfl⟩ := IC.toInCall.same
  have k : ∀ b o, s.heap.get? b = some o → h₁.get? b = some o := IC.toInCall.keep
  have hn := IC.toInCall.ns
  have X₁ : K.In h₁ := X.keeps k
  have hx₁ := k _ _ hx
  have b1 : (bindL (envOfC "BadRow.__init__" sc s.heap.objs.size fI cdv).kindOf [("self", .ref x), ("column", v)] fun _ => none) ("self" : Str) = some (.ref x) :=
    L2.bindL_get (P := ["self", "column"]) (vs := [.ref x, v]) (i := 0) (by decide +kernel) rfl rfl l1
  have b2 : (bindL (envOfC "BadRow.__init__" sc s.heap.objs.size fI cdv).kindOf [("self", .ref x), ("column", v)] fun _ => none) ("column" : Str) = some v :=
    L2.bindL_get (P := ["self", "column"]) (vs := [.ref x, v]) (i := 1) (by decide +kernel) rfl rfl l2
  show wpAny _ _ (execs _ _) _ _ _
  refine wpAny_execs_cons (plainObj_wpAny_Assign_Attribute ?_)
  refine read_local (v := v) hn b2 (read_local (v := .ref x) hn b1 ?_ hk l1) hk l2
  refine set_plain X₁ (ox := excO C t0) (od := none) ⟨hx₁, rfl, rfl, trivial⟩ T.sa ?_
  refine setattr_first X₁ hx₁ hcl (.own C hbm) rfl T.noF (fun h₃ tk₃ dx k₃ dn dne hx₃ hn₃ => ?_)
  show wpAny _ _ (execs _ _) _ _ _
  have z : s.heap.objs.size < h₁.objs.size := hn.lt
  exact wpAny_execs_nil (hq h₃ tk₃ dx ⟨fun b o hb e => k₃ b o hb (k b o e), hx₃, Nat.le_of_lt (Nat.lt_of_lt_of_le z dn), dne, hn₃⟩)
theorem err_made (T : Err K mg C fI) {v : Value} (X : K.In s.heap) (hlim : s.heap.NoLimit) (hroom : A.depth + 1 < recursionLimit)
    (hq : ∀ h2 tk e d, ErrMade s.heap h2 e C d v → R (.ok (.ret (.ref e))) { s with heap := h2, toks := tk }) :
    codeAny (model prog w) A (.call (.ref C) ⟨[v], []⟩) R s := by
  obtain ⟨nm', q, N, bs, bm, sn, sub, ab, col, dd, k0, k1, k2, k3, k5, hC, hbm⟩ := T.cls
  obtain ⟨hp, g, dr, tk, os⟩ := s
  have k : ∀ b o, hp.get? b = some o → ((hp.push (kdv_tup [v])).push (excO C hp.objs.size)).get? b = some o := fun b o e => Heap.get?_push_of_some _ (Heap.get?_push_of_some _ e)
  have hget : ((hp.push (kdv_tup [v])).push (excO C hp.objs.size)).get? (hp.objs.size + 1) = some (excO C hp.objs.size) := by heap_get
  refine call_own F.excBase_Exception (fun X => hbm.has X) (X _ _ hC) (looks_findIn X T.ini) (fun self => bind_fn X self T.tyI) (one_ok v) ?_
  refine err_init (s := ⟨(hp.push (kdv_tup [v])).push (excO C hp.objs.size), g, dr, tk, os⟩) T (X.keeps k) (hlim.keeps k) hget ?_ fun h2 tk2 dx ⟨k', hx, dn, dne, hns⟩ => ?_
  · show A.depth + 1 < recursionLimit
    exact hroom
  · have old : ∀ b o, hp.get? b = some o → h2.get? b = some o := fun b o e => k' b o (Nat.ne_of_lt (Nat.lt_succ_of_lt (Heap.lt_size e))) (k b o e)
    have z : hp.objs.size + 1 + 1 ≤ dx := by
      first
        | (simpa only [Heap.size_push] using dn)
        | exact dn
        | (have q := dn; rw [Heap.size_push, Heap.size_push] at q; exact q)
    exact ⟨rfl, hq h2 tk2 (hp.objs.size + 1) dx ⟨old, Nat.le_succ _, ⟨_, _, hx, rfl, rfl, rfl, rfl⟩, Nat.le_trans (Nat.le_trans (Nat.le_succ _) (Nat.le_succ _)) z, dne, hns⟩⟩
end
end ErBadRow
end PySem
namespace Tw
open PySem L2
theorem relO_BadRow {v : V} {v' : Value} (r : RelV v v') (f : Str) : RelO (List.lookup f [(("column" : Str), v)]) (if f = "column" then some v' else none) := by
  by_cases hw : f = "column"
  · subst hw
    rw [if_pos rfl]
    have q : List.lookup ("column" : Str) [(("column" : Str), v)] = some v := by simp [List.lookup]
    rw [q]
    exact r
  · rw [if_neg hw]
    have qw : (f == ("column" : Str)) = false := by simpa using hw
    have q2 : List.lookup f [(("column" : Str), v)] = none := by simp [List.lookup, qw]
    rw [q2]
    trivial
section
variable {X : Cx} {C fI : Addr}
def tMkBadRow (C : Addr) (ta : TA) : L2.St → Hp → XK → Prop := fun σ H Q => ta σ H fun vs H1 => ∃ v, vs = [v] ∧ ∀ d, H1 d = none → Q (.ref C) (some d) (upd H1 d (.xd [(("column" : Str), v)]))
theorem pmk_BadRow {a : Expr} {ta : TA} {p pos : Pos} {k : Nat} (T : PySem.ErBadRow.Err X.K X.mg C fI) (hr : Room k X.A) (ha : PA X [a] ta) (hg : Gl X "BadRow" := by rfl)
    (he : starEach (a :: []) X.env = (false, eval a X.env) :: starEach [] X.env := by rfl) (hpl : (backTo pos (starEach [] X.env)).any (·.1) = false := by rfl) :
    PMk X (.Call (.Name "BadRow" p) [a] [] pos) (tMkBadRow C ta) := by
  intro pins s σ H Q I h
  refine wpAny_Call_Name_kw (ld_glob I hg T.gC ?_)
  refine PySem.W.callWith_K (h₀ := X.base) I.ok.mod.kin T.kC (thn (ha.run pos pins s σ H _ I h) fun us s1 hh => ?_) he hpl
  obtain ⟨vs, H1, I1, r1, v, ev, q1⟩ := hh
  subst ev
  refine ⟨I1.kIn, ?_⟩
  cases r1 with
  | cons rv rn =>
    rename_i v' us'
    cases rn
    show wpAny _ _ (call (.ref C) [v']) _ _ _
    have hlim := I1.nolimit
    obtain ⟨hp, g, dr, tk, os⟩ := s1
    refine wpAny_call (PySem.ErBadRow.err_made T I1.kIn hlim (by have := hr.dp; omega) fun h' tk' e d M => ?_)
    show MkP X pins σ Q (.ref e) ⟨h', g, dr, tk', os⟩
    obtain ⟨oe, fv, hoe, hc, hd, hdat, h1⟩ := M.obj
    have hns := M.ns
    obtain ⟨G', g1, g2⟩ := restrict h' fun b => decide (b ≠ e)
    have gk : ∀ b, b ≠ e → G'.get? b = h'.get? b := fun b hb => g1 b (decide_eq_true hb)
    have ge : G'.get? e = none := g2 e (by simp)
    have old : ∀ b o, hp.get? b = some o → G'.get? b = some o := fun b o q => (gk b (Nat.ne_of_lt (Nat.lt_of_lt_of_le (Heap.lt_size q) M.new))).trans (M.keep b o q)
    have ob : ObjOk X.prog X.w (upd H1 d (.xd [(("column" : Str), v)])) G' d (.xd [(("column" : Str), v)]) :=
      ⟨_, hns.at (fun o q => (gk d M.dne).trans q), fun f => relO_BadRow rv f⟩
    have J : Inv X pins σ (upd H1 d (.xd [(("column" : Str), v)])) ⟨G', g, dr, tk', os⟩ := I1.laid (t' := tk') old M.dbig ob
    refine ⟨e, oe, fv, ⟨G', g, dr, tk', os⟩, _, .ref C, some d, rfl, J, fun b o q => ?_, ge, hoe, ⟨hc, hd⟩, hdat, h1, ?_, rfl, I1.bare, raises_own T.exC T.tyC, q1 d (I1.hok.fresh M.dbig)⟩
    · by_cases hb : b = e
      · have q' : G'.get? b = some o := q
        rw [hb, ge] at q'; cases q'
      · exact (gk b hb).symm.trans q
    · rw [upd_ne (Ne.symm M.dne)]
      exact I1.hok.fresh M.new
def tRaiseBadRow (C : Addr) (W : WX) (ta : TA) : TS := fun _ σ H => tMkBadRow C ta σ H fun cls d H' => W cls d σ H'
theorem ps_raiseBadRow {a : Expr} {ta : TA} {W : WX} {p pos pos2 : Pos} {k : Nat} (hc : X.calm = true) (T : PySem.ErBadRow.Err X.K X.mg C fI) (hr : Room k X.A) (tk : Takes X W) (ha : PA X [a] ta) (hg : Gl X "BadRow" := by rfl)
    (he : starEach (a :: []) X.env = (false, eval a X.env) :: starEach [] X.env := by rfl) (hpl : (backTo pos (starEach [] X.env)).any (·.1) = false := by rfl) :
    PS X (.Raise (some (.Call (.Name "BadRow" p) [a] [] pos)) none pos2) (tRaiseBadRow C W ta) := ps_raise hc tk (pmk_BadRow T hr ha hg he hpl)
def tByBadRow (C : Addr) (a : Addr) (cls : Value) (d : Option Addr) (te : TE) : TE := fun σ H Q => te σ H fun x H1 => x = .ref a ∧ cls = .ref C ∧ ∃ (dd : Addr) (v : V), d = some dd ∧ H1 dd = some (.xd [(("column" : Str), v)]) ∧ Q v H1
theorem pe_byBadRow {a : Addr} {oe : Obj} {cls : Value} {d : Option Addr} {pn : List (Addr × Obj)} {e : Expr} {te : TE} {pos : Pos} (T : PySem.ErBadRow.Err X.K X.mg C fI) (hz : Zc cls d oe) (hf : ∃ vs, oe.data = .fields vs) (he : PE (X.suite a ((a, oe) :: pn)) e te)
    (hb : attributeBase e "column" X.env (eval e X.env) = eval e X.env := by rfl) :
    PE (X.suite a ((a, oe) :: pn)) (.Attribute e "column" pos) (tByBadRow C a cls d te) := by
  refine ⟨fun pins s σ H Q I h => ?_⟩
  refine attr_of hb (thn (he.run pins s σ H _ I h) fun u s1 hh => ?_)
  obtain ⟨x, H1, I1, rx, ex, ec, dd, v, ed, ea, q⟩ := hh
  subst ex
  obtain rfl : u = Value.ref a := rx
  subst ec
  subst ed
  obtain ⟨ha, _⟩ := I1.pin (a, oe) (List.mem_append_left _ List.mem_cons_self)
  obtain ⟨vs, hd⟩ := hf
  have hx : ObjOk X.prog X.w H1 s1.heap dd (.xd [(("column" : Str), v)]) := I1.hok dd _ ea
  obtain ⟨mA, hns, hr⟩ := hx
  obtain ⟨od, ho, hl⟩ := lookIn_ns hns
  have l : List.lookup ("column" : Str) [(("column" : Str), v)] = some v := by simp [List.lookup]
  obtain ⟨u, hu, ru⟩ := RelO.some_of (v := v) (o := mA "column") (by rw [← l]; exact hr "column")
  have J : PySem.W.InstAt s1.heap a oe C (some od) := ⟨ha, hz.1, by unfold PySem.W.notCls; rw [hd] <;> rfl, by rw [hz.2]; exact ho⟩
  exact HandSPX.exc_get I1.kIn J T.ga T.gg T.exC (PySem.W.findObj_own T.hdC T.noF rfl (by rw [hl, hu])) (handed_of ru) ⟨v, H1, I1.tok _, ru, q⟩
end
end Tw

set_option Elab.async false
set_option linter.all false
set_option maxRecDepth 100000
set_option maxHeartbeats 4000000
namespace PySem
namespace ErBadShape
open PySem.W PySem.Calls PyProof.Rows PySem.HandSPX PySem.TwX
def inA (p1 p2 p3 : Pos) : Arguments := { posonlyargs := [], args := [{ arg := "self", annotation := none, pos := p1 }, { arg := "why", annotation := none, pos := p2 }, { arg := "at", annotation := none, pos := p3 }], vararg := none, kwonlyargs := [], kw_defaults := [], kwarg := none, defaults := [] }
def inB (q1 q2 q3 q4 q5 q6 q7 q8 : Pos) : List Stmt := [.Assign [.Attribute (.Name "self" q1) "why" q2] (.Name "why" q3) q4, .Assign [.Attribute (.Name "self" q5) "at" q6] (.Name "at" q7) q8]
/-- what the written part says of the class at C, and of its __init__ at fI -/
structure Err (K : Frag) (mg : Str → Option Value) (C fI : Addr) : Prop where
  gC : mg "BadShape" = some (.ref C)
  cls : ∃ nm q N bs bm sn sub ab col dd k0 k1 k2 k3 k5, K.lookup C = some (excClassObj nm q C N bs bm true sn sub ab col dd k0 k1 k2 k3 k5 "Exception.__new__") ∧ OwnEx bm
  sa : findIn K (.ref C) "__setattr__" = some (some (.builtin "object.__setattr__"))
  ga : findIn K (.ref C) "__getattribute__" = some (some (.builtin "BaseException.__getattribute__"))
  gg : findIn K (.ref C) "__getattr__" = some none
  noF : findIn K (.ref C) "why" = some none
  noG : findIn K (.ref C) "at" = some none
  ini : findIn K (.ref C) "__init__" = some (some (.ref fI))
  tyI : typeIn K (.ref fI) = some (.type "function")
  kC : keepIn K (.ref C) = true
  exC : subIn K (.ref C) (.type "BaseException") = some true
  tyC : typeIn K (.ref C) = some (.type "type")
  hdC : hasDictIn K C = true
  te : exmOne K (.ref C) (.ref C) = some true
  fn : ∃ (oc : Value) (od : Option Addr) (doc pm : Value) (an : Option Addr) (cdv ct : Value) (osl : Array (Option Value)) (p1 p2 p3 q1 q2 q3 q4 q5 q6 q7 q8 : Pos) (sc : Scope),
    K.lookup fI = some ⟨oc, od, .func (fnOf "__init__" "BadShape.__init__" (inA p1 p2 p3) (inB q1 q2 q3 q4 q5 q6 q7 q8) sc .none .none doc pm an cdv ct), osl⟩ ∧ codeIn K cdv "BadShape.__init__" = true ∧ sc.kind = .function ∧ sc.names = [(PySem.Str.ofString "self", .local), (PySem.Str.ofString "why", .local), (PySem.Str.ofString "at", .local)] ∧ sc.isGenerator = false ∧ sc.isCoroutine = false
theorem two_ok (v u : Value) : [v, u].length ≤ sizeLine := by rw [sizeLine_eq]; exact (by decide : 2 ≤ 16777216)
theorem read_local {M : Model} {s : Shared} {name : Str} {scope : Scope} {L a : Addr} {cd : Value} {m : Str → Option Value} {x : Str} {pos : Pos} {v : Value} {Q : Value → Shared → Prop} {A : Around} {E : Value → Shared → Prop} (hn : s.heap.Ns L m) (hv : m x = some v) (h : Q v s) (hk : scope.kind = .function)
    (hl : scope.names.lookup x = some .local) (hd : (x == ("__debug__" : Str)) = false := by decide) : wpAny M A (eval (.Name x pos) (envOfC name scope L a cd)) Q E s := wpAny_Name (wpAny_loadName_local hk hl hn hv h) hd
structure InitLeft (h h2 : Heap) (x C dx t1 : Addr) (v u : Value) : Prop where
  keep : ∀ b o, b ≠ x → h.get? b = some o → h2.get? b = some o
  obj : h2.get? x = some { cls := .ref C, dict := some dx, data := .fields #[.ref t1, .none, .none, .none, .bool false, .none] }
  dbig : h.objs.size ≤ dx
  dne : dx ≠ x
  ns : h2.Ns1 dx (fun y => if y = "at" then some u else if y = "why" then some v else none)
structure ErrMade (h h2 : Heap) (e C d : Addr) (v u : Value) : Prop where
  keep : ∀ b o, h.get? b = some o → h2.get? b = some o
  new : h.objs.size ≤ e
  obj : ∃ oe vs, h2.get? e = some oe ∧ oe.cls = .ref C ∧ oe.dict = some d ∧ oe.data = .fields vs ∧ vs[1]? = some .none
  dbig : h.objs.size ≤ d
  dne : d ≠ e
  ns : h2.Ns1 d (fun y => if y = "at" then some u else if y = "why" then some v else none)
section
variable {prog : Program} {w : World} {A : Around} {E : Value → Shared → Prop} {R : Result → Shared → Prop} {s : Shared} {K : Frag} {mg : Str → Option Value} {C fI : Addr}
theorem err_init (T : Err K mg C fI) {x t0 : Addr} {v u : Value} (X : K.In s.heap) (hlim : s.heap.NoLimit) (hx : s.heap.get? x = some (excO C t0)) (hxK : ∀ b o, K.lookup b = some o → b ≠ x) (hroom : A.depth < recursionLimit)
    (hq : ∀ h2 tk dx, InitLeft s.heap h2 x C dx t0 v u → R (.ok (.ret .none)) { s with heap := h2, toks := tk }) :
    codeAny (model prog w) A (.call (.ref fI) ⟨[.ref x, v, u], []⟩) R s := by
  obtain ⟨oc, od, doc, pm, an, cdv, ct, osl, p1, p2, p3, q1, q2, q3, q4, q5, q6, q7, q8, sc, ho, hcd, hk, hnames, hge, hco⟩ := T.fn
  obtain ⟨nm', q, N, bs, bm, sn, sub, ab, col, dd, k0, k1, k2, k3, k5, hC, hbm⟩ := T.cls
  have hcl : clsIn K C = some { name := nm', bases := bs, mro := .ref C :: bm, ns := N, qualname := q, hasDict := true, slotNames := sn, subclasses := sub, abstract := ab, collection := col, hasDel := false } := by unfold clsIn; rw [hC] <;> rfl
  have l1 : sc.names.lookup ("self" : Str) = some .local := by rw [hnames]; decide +kernel
  have l2 : sc.names.lookup ("why" : Str) = some .local := by rw [hnames]; decide +kernel
  have l3 : sc.names.lookup ("at" : Str) = some .local := by rw [hnames]; decide +kernel
  refine Att.call_fn (binds := [("self", .ref x), ("why", v), ("at", u)]) X hlim ho hcd hroom (BindsTo.of_eq (by first | rfl | with_unfolding_all rfl)) (by rw [List.all_cons, List.all_cons, List.all_cons, l1, l2, l3]; rfl) (fun s₁ IC => ?_) hco hge hk
  obtain ⟨h₁, tk₁, rfl⟩ := IC.toInCall.same
  have k : ∀ b o, s.heap.get? b = some o → h₁.get? b = some o := IC.toInCall.keep
  have hn := IC.toInCall.ns
  have X₁ : K.In h₁ := X.keeps k
  have hx₁ := k _ _ hx
  have b1 : (bindL (envOfC "BadShape.__init__" sc s.heap.objs.size fI cdv).kindOf [("self", .ref x), ("why", v), ("at", u)] fun _ => none) ("self" : Str) = some (.ref x) :=
    L2.bindL_get (P := ["self", "why", "at"]) (vs := [.ref x, v, u]) (i := 0) (by decide +kernel) rfl rfl l1
  have b2 : (bindL (envOfC "BadShape.__init__" sc s.heap.objs.size fI cdv).kindOf [("self", .ref x), ("why", v), ("at", u)] fun _ => none) ("why" : Str) = some v :=
    L2.bindL_get (P := ["self", "why", "at"]) (vs := [.ref x, v, u]) (i := 1) (by decide +kernel) rfl rfl l2
  have b3 : (bindL (envOfC "BadShape.__init__" sc s.heap.objs.size fI cdv).kindOf [("self", .ref x), ("why", v), ("at", u)] fun _ => none) ("at" : Str) = some u :=
    L2.bindL_get (P := ["self", "why", "at"]) (vs := [.ref x, v, u]) (i := 2) (by decide +kernel) rfl rfl l3
  show wpAny _ _ (execs _ _) _ _ _
  refine wpAny_execs_cons (plainObj_wpAny_Assign_Attribute ?_)
  refine read_local (v := v) hn b2 (read_local (v := .ref x) hn b1 ?_ hk l1) hk l2
  refine set_plain X₁ (ox := excO C t0) (od := none) ⟨hx₁, rfl, rfl, trivial⟩ T.sa ?_
  refine setattr_first X₁ hx₁ hcl (.own C hbm) rfl T.noF (fun h₃ tk₃ dx k₃ dn dne hx₃ hn₃ => ?_)
  have z : s.heap.objs.size < h₁.objs.size := hn.lt
  have nx : x < s.heap.objs.size := Heap.lt_size hx
  have hn₄ := hn.at fun o q => k₃ _ _ (Nat.ne_of_gt nx) q
  have X₃ : K.In h₃ := fun b o e => k₃ b o (hxK b o e) (k b o (X b o e))
  show wpAny _ _ (execs _ _) _ _ _
  refine wpAny_execs_cons (plainObj_wpAny_Assign_Attribute ?_)
  refine read_local (v := u) hn₄ b3 (read_local (v := .ref x) hn₄ b1 ?_ hk l1) hk l3
  have hw₄ : Within (fun y => if y = ("why" : Str) then some v else none) [("why" : Str)] := fun y hy => by
    by_cases e : y = ("why" : Str)
    · rw [e]; exact List.mem_cons_self
    · exact absurd (if_neg e) hy
  obtain ⟨oD, eD, pD, gD, dD, _⟩ := hn₃.count hw₄
  refine set_plain X₃ (ox := { cls := .ref C, dict := some dx, data := .fields #[.ref t0, .none, .none, .none, .bool false, .none] }) (od := some oD) ⟨hx₃, rfl, rfl, gD⟩ T.sa ?_
  refine setattr_next X₃ hx₃ hn₃ hw₄ (by decide) hcl (.own C hbm) rfl T.noG (fun h₅ tk₅ k₅ hn₅ => ?_)
  show wpAny _ _ (execs _ _) _ _ _
  exact wpAny_execs_nil (hq h₅ tk₅ dx ⟨fun b o hb e => k₅ b o (fun eb => by
    have e2 := Heap.lt_size e
    have e3 := Nat.lt_of_lt_of_le z dn
    rw [eb] at e2
    exact absurd e2 (Nat.not_lt.mpr (Nat.le_of_lt e3))) (k₃ b o hb (k b o e)), k₅ _ _ (Ne.symm dne) hx₃, Nat.le_of_lt (Nat.lt_of_lt_of_le z dn), dne, hn₅⟩)
theorem err_made (T : Err K mg C fI) {v u : Value} (X : K.In s.heap) (hlim : s.heap.NoLimit) (hroom : A.depth + 1 < recursionLimit)
    (hq : ∀ h2 tk e d, ErrMade s.heap h2 e C d v u → R (.ok (.ret (.ref e))) { s with heap := h2, toks := tk }) :
    codeAny (model prog w) A (.call (.ref C) ⟨[v, u], []⟩) R s := by
  obtain ⟨nm', q, N, bs, bm, sn, sub, ab, col, dd, k0, k1, k2, k3, k5, hC, hbm⟩ := T.cls
  obtain ⟨hp, g, dr, tk, os⟩ := s
  have k : ∀ b o, hp.get? b = some o → ((hp.push (kdv_tup [v, u])).push (excO C hp.objs.size)).get? b = some o := fun b o e => Heap.get?_push_of_some _ (Heap.get?_push_of_some _ e)
  have hget : ((hp.push (kdv_tup [v, u])).push (excO C hp.objs.size)).get? (hp.objs.size + 1) = some (excO C hp.objs.size) := by heap_get
  refine call_own F.excBase_Exception (fun X => hbm.has X) (X _ _ hC) (looks_findIn X T.ini) (fun self => bind_fn X self T.tyI) (two_ok v u) ?_
  refine err_init (s := ⟨(hp.push (kdv_tup [v, u])).push (excO C hp.objs.size), g, dr, tk, os⟩) T (X.keeps k) (hlim.keeps k) hget (fun b o e => Nat.ne_of_lt (Nat.lt_succ_of_lt (Heap.lt_size (X b o e)))) ?_ fun h2 tk2 dx ⟨k', hx, dn, dne, hns⟩ => ?_
  · show A.depth + 1 < recursionLimit
    exact hroom
  · have old : ∀ b o, hp.get? b = some o → h2.get? b = some o := fun b o e => k' b o (Nat.ne_of_lt (Nat.lt_succ_of_lt (Heap.lt_size e))) (k b o e)
    have z : hp.objs.size + 1 + 1 ≤ dx := by
      first
        | (simpa only [Heap.size_push] using dn)
        | exact dn
        | (have q := dn; rw [Heap.size_push, Heap.size_push] at q; exact q)
    exact ⟨rfl, hq h2 tk2 (hp.objs.size + 1) dx ⟨old, Nat.le_succ _, ⟨_, _, hx, rfl, rfl, rfl, rfl⟩, Nat.le_trans (Nat.le_trans (Nat.le_succ _) (Nat.le_succ _)) z, dne, hns⟩⟩
end
end ErBadShape
end PySem
namespace Tw
open PySem L2
theorem relO_BadShape {v u : V} {v' u' : Value} (r : RelV v v') (r2 : RelV u u') (f : Str) : RelO (List.lookup f [(("why" : Str), v), (("at" : Str), u)]) (if f = "at" then some u' else if f = "why" then some v' else none) := by
  have nFG : ("why" : Str) ≠ "at" := by decide +kernel
  by_cases hw : f = "why"
  · subst hw
    rw [if_neg nFG, if_pos rfl]
    have q : List.lookup ("why" : Str) [(("why" : Str), v), (("at" : Str), u)] = some v := by simp [List.lookup]
    rw [q]
    exact r
  · have qw : (f == ("why" : Str)) = false := by simpa using hw
    by_cases hg : f = "at"
    · subst hg
      rw [if_pos rfl]
      have q : List.lookup ("at" : Str) [(("why" : Str), v), (("at" : Str), u)] = some u := by simp [List.lookup, qw]
      rw [q]
      exact r2
    · rw [if_neg hg, if_neg hw]
      have qg : (f == ("at" : Str)) = false := by simpa using hg
      have q2 : List.lookup f [(("why" : Str), v), (("at" : Str), u)] = none := by simp [List.lookup, qw, qg]
      rw [q2]
      trivial
section
variable {X : Cx} {C fI : Addr}
def tMkBadShape (C : Addr) (ta : TA) : L2.St → Hp → XK → Prop := fun σ H Q => ta σ H fun vs H1 => ∃ v u, vs = [v, u] ∧ ∀ d, H1 d = none → Q (.ref C) (some d) (upd H1 d (.xd [(("why" : Str), v), (("at" : Str), u)]))
theorem pmk_BadShape {a b : Expr} {ta : TA} {p pos : Pos} {k : Nat} (T : PySem.ErBadShape.Err X.K X.mg C fI) (hr : Room k X.A) (ha : PA X [a, b] ta) (hg : Gl X "BadShape" := by rfl)
    (he : starEach [a, b] X.env = (false, eval a X.env) :: starEach [b] X.env := by rfl) (hpl : (backTo pos (starEach [b] X.env)).any (·.1) = false := by rfl) :
    PMk X (.Call (.Name "BadShape" p) [a, b] [] pos) (tMkBadShape C ta) := by
  intro pins s σ H Q I h
  refine wpAny_Call_Name_kw (ld_glob I hg T.gC ?_)
  refine PySem.W.callWith_K (h₀ := X.base) I.ok.mod.kin T.kC (thn (ha.run pos pins s σ H _ I h) fun us s1 hh => ?_) he hpl
  obtain ⟨vs, H1, I1, r1, v, u, ev, q1⟩ := hh
  subst ev
  refine ⟨I1.kIn, ?_⟩
  cases r1 with
  | cons rv rn =>
    rename_i v' us'
    cases rn with
    | cons ru rn =>
    rename_i u' us'
    cases rn
    show wpAny _ _ (call (.ref C) [v', u']) _ _ _
    have hlim := I1.nolimit
    obtain ⟨hp, g, dr, tk, os⟩ := s1
    refine wpAny_call (PySem.ErBadShape.err_made T I1.kIn hlim (by have := hr.dp; omega) fun h' tk' e d M => ?_)
    show MkP X pins σ Q (.ref e) ⟨h', g, dr, tk', os⟩
    obtain ⟨oe, fv, hoe, hc, hd, hdat, h1⟩ := M.obj
    have hns := M.ns
    obtain ⟨G', g1, g2⟩ := restrict h' fun b => decide (b ≠ e)
    have gk : ∀ b, b ≠ e → G'.get? b = h'.get? b := fun b hb => g1 b (decide_eq_true hb)
    have ge : G'.get? e = none := g2 e (by simp)
    have old : ∀ b o, hp.get? b = some o → G'.get? b = some o := fun b o q => (gk b (Nat.ne_of_lt (Nat.lt_of_lt_of_le (Heap.lt_size q) M.new))).trans (M.keep b o q)
    have ob : ObjOk X.prog X.w (upd H1 d (.xd [(("why" : Str), v), (("at" : Str), u)])) G' d (.xd [(("why" : Str), v), (("at" : Str), u)]) :=
      ⟨_, hns.at (fun o q => (gk d M.dne).trans q), fun f => relO_BadShape rv ru f⟩
    have J : Inv X pins σ (upd H1 d (.xd [(("why" : Str), v), (("at" : Str), u)])) ⟨G', g, dr, tk', os⟩ := I1.laid (t' := tk') old M.dbig ob
    refine ⟨e, oe, fv, ⟨G', g, dr, tk', os⟩, _, .ref C, some d, rfl, J, fun b o q => ?_, ge, hoe, ⟨hc, hd⟩, hdat, h1, ?_, rfl, I1.bare, raises_own T.exC T.tyC, q1 d (I1.hok.fresh M.dbig)⟩
    · by_cases hb : b = e
      · have q' : G'.get? b = some o := q
        rw [hb, ge] at q'; cases q'
      · exact (gk b hb).symm.trans q
    · rw [upd_ne (Ne.symm M.dne)]
      exact I1.hok.fresh M.new
def tRaiseBadShape (C : Addr) (W : WX) (ta : TA) : TS := fun _ σ H => tMkBadShape C ta σ H fun cls d H' => W cls d σ H'
theorem ps_raiseBadShape {a b : Expr} {ta : TA} {W : WX} {p pos pos2 : Pos} {k : Nat} (hc : X.calm = true) (T : PySem.ErBadShape.Err X.K X.mg C fI) (hr : Room k X.A) (tk : Takes X W) (ha : PA X [a, b] ta) (hg : Gl X "BadShape" := by rfl)
    (he : starEach [a, b] X.env = (false, eval a X.env) :: starEach [b] X.env := by rfl) (hpl : (backTo pos (starEach [b] X.env)).any (·.1) = false := by rfl) :
    PS X (.Raise (some (.Call (.Name "BadShape" p) [a, b] [] pos)) none pos2) (tRaiseBadShape C W ta) := ps_raise hc tk (pmk_BadShape T hr ha hg he hpl)
def tByBadShape_why (C : Addr) (a : Addr) (cls : Value) (d : Option Addr) (te : TE) : TE := fun σ H Q => te σ H fun x H1 => x = .ref a ∧ cls = .ref C ∧ ∃ (dd : Addr) (v u : V), d = some dd ∧ H1 dd = some (.xd [(("why" : Str), v), (("at" : Str), u)]) ∧ Q v H1
theorem pe_byBadShape_why {a : Addr} {oe : Obj} {cls : Value} {d : Option Addr} {pn : List (Addr × Obj)} {e : Expr} {te : TE} {pos : Pos} (T : PySem.ErBadShape.Err X.K X.mg C fI) (hz : Zc cls d oe) (hf : ∃ vs, oe.data = .fields vs) (he : PE (X.suite a ((a, oe) :: pn)) e te)
    (hb : attributeBase e "why" X.env (eval e X.env) = eval e X.env := by rfl) :
    PE (X.suite a ((a, oe) :: pn)) (.Attribute e "why" pos) (tByBadShape_why C a cls d te) := by
  refine ⟨fun pins s σ H Q I h => ?_⟩
  refine attr_of hb (thn (he.run pins s σ H _ I h) fun u s1 hh => ?_)
  obtain ⟨x, H1, I1, rx, ex, ec, dd, v, u0, ed, ea, q⟩ := hh
  subst ex
  obtain rfl : u = Value.ref a := rx
  subst ec
  subst ed
  obtain ⟨ha, _⟩ := I1.pin (a, oe) (List.mem_append_left _ List.mem_cons_self)
  obtain ⟨vs, hd⟩ := hf
  have hx : ObjOk X.prog X.w H1 s1.heap dd (.xd [(("why" : Str), v), (("at" : Str), u0)]) := I1.hok dd _ ea
  obtain ⟨mA, hns, hr⟩ := hx
  obtain ⟨od, ho, hl⟩ := lookIn_ns hns
  have l : List.lookup ("why" : Str) [(("why" : Str), v), (("at" : Str), u0)] = some v := by simp [List.lookup]
  obtain ⟨u, hu, ru⟩ := RelO.some_of (v := v) (o := mA "why") (by rw [← l]; exact hr "why")
  have J : PySem.W.InstAt s1.heap a oe C (some od) := ⟨ha, hz.1, by unfold PySem.W.notCls; rw [hd] <;> rfl, by rw [hz.2]; exact ho⟩
  exact HandSPX.exc_get I1.kIn J T.ga T.gg T.exC (PySem.W.findObj_own T.hdC T.noF rfl (by rw [hl, hu])) (handed_of ru) ⟨v, H1, I1.tok _, ru, q⟩
def tByBadShape_at (C : Addr) (a : Addr) (cls : Value) (d : Option Addr) (te : TE) : TE := fun σ H Q => te σ H fun x H1 => x = .ref a ∧ cls = .ref C ∧ ∃ (dd : Addr) (v u : V), d = some dd ∧ H1 dd = some (.xd [(("why" : Str), v), (("at" : Str), u)]) ∧ Q u H1
theorem pe_byBadShape_at {a : Addr} {oe : Obj} {cls : Value} {d : Option Addr} {pn : List (Addr × Obj)} {e : Expr} {te : TE} {pos : Pos} (T : PySem.ErBadShape.Err X.K X.mg C fI) (hz : Zc cls d oe) (hf : ∃ vs, oe.data = .fields vs) (he : PE (X.suite a ((a, oe) :: pn)) e te)
    (hb : attributeBase e "at" X.env (eval e X.env) = eval e X.env := by rfl) :
    PE (X.suite a ((a, oe) :: pn)) (.Attribute e "at" pos) (tByBadShape_at C a cls d te) := by
  refine ⟨fun pins s σ H Q I h => ?_⟩
  refine attr_of hb (thn (he.run pins s σ H _ I h) fun u s1 hh => ?_)
  obtain ⟨x, H1, I1, rx, ex, ec, dd, v, u0, ed, ea, q⟩ := hh
  subst ex
  obtain rfl : u = Value.ref a := rx
  subst ec
  subst ed
  obtain ⟨ha, _⟩ := I1.pin (a, oe) (List.mem_append_left _ List.mem_cons_self)
  obtain ⟨vs, hd⟩ := hf
  have hx : ObjOk X.prog X.w H1 s1.heap dd (.xd [(("why" : Str), v), (("at" : Str), u0)]) := I1.hok dd _ ea
  obtain ⟨mA, hns, hr⟩ := hx
  obtain ⟨od, ho, hl⟩ := lookIn_ns hns
  have l : List.lookup ("at" : Str) [(("why" : Str), v), (("at" : Str), u0)] = some u0 := by
    have qw : (("at" : Str) == ("why" : Str)) = false := by decide +kernel
    simp [List.lookup, qw]
  obtain ⟨u, hu, ru⟩ := RelO.some_of (v := u0) (o := mA "at") (by rw [← l]; exact hr "at")
  have J : PySem.W.InstAt s1.heap a oe C (some od) := ⟨ha, hz.1, by unfold PySem.W.notCls; rw [hd] <;> rfl, by rw [hz.2]; exact ho⟩
  exact HandSPX.exc_get I1.kIn J T.ga T.gg T.exC (PySem.W.findObj_own T.hdC T.noG rfl (by rw [hl, hu])) (handed_of ru) ⟨u0, H1, I1.tok _, ru, q⟩
end
end Tw

set_option Elab.async false
set_option linter.all false
set_option maxRecDepth 100000
set_option maxHeartbeats 4000000
namespace PySem
namespace ErBadClaim
open PySem.W PySem.Calls PyProof.Rows PySem.HandSPX PySem.TwX
def inA (p1 p2 : Pos) : Arguments := { posonlyargs := [], args := [{ arg := "self", annotation := none, pos := p1 }, { arg := "why", annotation := none, pos := p2 }], vararg := none, kwonlyargs := [], kw_defaults := [], kwarg := none, defaults := [] }
def inB (q1 q2 q3 q4 : Pos) : List Stmt := [.Assign [.Attribute (.Name "self" q1) "why" q2] (.Name "why" q3) q4]
/-- what the written part says of the class at C, and of its __init__ at fI -/
structure Err (K : Frag) (mg : Str → Option Value) (C fI : Addr) : Prop where
  gC : mg "BadClaim" = some (.ref C)
  cls : ∃ nm q N bs bm sn sub ab col dd k0 k1 k2 k3 k5, K.lookup C = some (excClassObj nm q C N bs bm true sn sub ab col dd k0 k1 k2 k3 k5 "Exception.__new__") ∧ OwnEx bm
  sa : findIn K (.ref C) "__setattr__" = some (some (.builtin "object.__setattr__"))
  ga : findIn K (.ref C) "__getattribute__" = some (some (.builtin "BaseException.__getattribute__"))
  gg : findIn K (.ref C) "__getattr__" = some none
  noF : findIn K (.ref C) "why" = some none
  ini : findIn K (.ref C) "__init__" = some (some (.ref fI))
  tyI : typeIn K (.ref fI) = some (.type "function")
  kC : keepIn K (.ref C) = true
  exC : subIn K (.ref C) (.type "BaseException") = some true
  tyC : typeIn K (.ref C) = some (.type "type")
  hdC : hasDictIn K C = true
  te : exmOne K (.ref C) (.ref C) = some true
  fn : ∃ (oc : Value) (od : Option Addr) (doc pm : Value) (an : Option Addr) (cdv ct : Value) (osl : Array (Option Value)) (p1 p2 q1 q2 q3 q4 : Pos) (sc : Scope),
    K.lookup fI = some ⟨oc, od, .func (fnOf "__init__" "BadClaim.__init__" (inA p1 p2) (inB q1 q2 q3 q4) sc .none .none doc pm an cdv ct), osl⟩ ∧ codeIn K cdv "BadClaim.__init__" = true ∧ sc.kind = .function ∧ sc.names = [(PySem.Str.ofString "self", .local), (PySem.Str.ofString "why", .local)] ∧ sc.isGenerator = false ∧ sc.isCoroutine = false
theorem one_ok (v : Value) : [v].length ≤ sizeLine := by rw [sizeLine_eq]; exact (by decide : 1 ≤ 16777216)
theorem read_local {M : Model} {s : Shared} {name : Str} {scope : Scope} {L a : Addr} {cd : Value} {m : Str → Option Value} {x : Str} {pos : Pos} {v : Value} {Q : Value → Shared → Prop} {A : Around} {E : Value → Shared → Prop} (hn : s.heap.Ns L m) (hv : m x = some v) (h : Q v s) (hk : scope.kind = .function)
    (hl : scope.names.lookup x = some .local) (hd : (x == ("__debug__" : Str)) = false := by decide) : wpAny M A (eval (.Name x pos) (envOfC name scope L a cd)) Q E s := wpAny_Name (wpAny_loadName_local hk hl hn hv h) hd
structure InitLeft (h h2 : Heap) (x C dx t1 : Addr) (v : Value) : Prop where
  keep : ∀ b o, b ≠ x → h.get? b = some o → h2.get? b = some o
  obj : h2.get? x = some { cls := .ref C, dict := some dx, data := .fields #[.ref t1, .none, .none, .none, .bool false, .none] }
  dbig : h.objs.size ≤ dx
  dne : dx ≠ x
  ns : h2.Ns1 dx (fun y => if y = "why" then some v else none)
structure ErrMade (h h2 : Heap) (e C d : Addr) (v : Value) : Prop where
  keep : ∀ b o, h.get? b = some o → h2.get? b = some o
  new : h.objs.size ≤ e
  obj : ∃ oe vs, h2.get? e = some oe ∧ oe.cls = .ref C ∧ oe.dict = some d ∧ oe.data = .fields vs ∧ vs[1]? = some .none
  dbig : h.objs.size ≤ d
  dne : d ≠ e
  ns : h2.Ns1 d (fun y => if y = "why" then some v else none)
section
variable {prog : Program} {w : World} {A : Around} {E : Value → Shared → Prop} {R : Result → Shared → Prop} {s : Shared} {K : Frag} {mg : Str → Option Value} {C fI : Addr}
theorem err_init (T : Err K mg C fI) {x t0 : Addr} {v : Value} (X : K.In s.heap) (hlim : s.heap.NoLimit) (hx : s.heap.get? x = some (excO C t0)) (hroom : A.depth < recursionLimit)
    (hq : ∀ h2 tk dx, InitLeft s.heap h2 x C dx t0 v → R (.ok (.ret .none)) { s with heap := h2, toks := tk }) :
    codeAny (model prog w) A (.call (.ref fI) ⟨[.ref x, v], []⟩) R s := by
  obtain ⟨oc, od, doc, pm, an, cdv, ct, osl, p1, p2, q1, q2, q3, q4, sc, ho, hcd, hk, hnames, hge, hco⟩ := T.fn
  obtain ⟨nm', q, N, bs, bm, sn, sub, ab, col, dd, k0, k1, k2, k3, k5, hC, hbm⟩ := T.cls
  have hcl : clsIn K C = some { name := nm', bases := bs, mro := .ref C :: bm, ns := N, qualname := q, hasDict := true, slotNames := sn, subclasses := sub, abstract := ab, collection := col, hasDel := false } := by unfold clsIn; rw [hC] <;> rfl
  have l1 : sc.names.lookup ("self" : Str) = some .local := by rw [hnames]; decide +kernel
  have l2 : sc.names.lookup ("why" : Str) = some .local := by rw [hnames]; decide +kernel
  refine Att.call_fn (binds := [("self", .ref x), ("why", v)]) X hlim ho hcd hroom (BindsTo.of_eq (by first | rfl | with_unfolding_all rfl)) (by rw [List.all_cons, List.all_cons, l1, l2]; rfl) (fun s₁ IC => ?_) hco hge hk
  obtain ⟨h₁, tk₁, rfl⟩ := IC.toInCall.same
  have k : ∀ b o, s.heap.get? b = some o → h₁.get? b = some o := IC.toInCall.keep
  have hn := IC.toInCall.ns
  have X₁ : K.In h₁ := X.keeps k
  have hx₁ := k _ _ hx
  have b1 : (bindL (envOfC "BadClaim.__init__" sc s.heap.objs.size fI cdv).kindOf [("self", .ref x), ("why", v)] fun _ => none) ("self" : Str) = some (.ref x) :=
    L2.bindL_get (P := ["self", "why"]) (vs := [.ref x, v]) (i := 0) (by decide +kernel) rfl rfl l1
  have b2 : (bindL (envOfC "BadClaim.__init__" sc s.heap.objs.size fI cdv).kindOf [("self", .ref x), ("why", v)] fun _ => none) ("why" : Str) = some v :=
    L2.bindL_get (P := ["self", "why"]) (vs := [.ref x, v]) (i := 1) (by decide +kernel) rfl rfl l2
  show wpAny _ _ (execs _ _) _ _ _
  refine wpAny_execs_cons (plainObj_wpAny_Assign_Attribute ?_)
  refine read_local (v := v) hn b2 (read_local (v := .ref x) hn b1 ?_ hk l1) hk l2
  refine set_plain X₁ (ox := excO C t0) (od := none) ⟨hx₁, rfl, rfl, trivial⟩ T.sa ?_
  refine setattr_first X₁ hx₁ hcl (.own C hbm) rfl T.noF (fun h₃ tk₃ dx k₃ dn dne hx₃ hn₃ => ?_)
  show wpAny _ _ (execs _ _) _ _ _
  have z : s.heap.objs.size < h₁.objs.size := hn.lt
  exact wpAny_execs_nil (hq h₃ tk₃ dx ⟨fun b o hb e => k₃ b o hb (k b o e), hx₃, Nat.le_of_lt (Nat.lt_of_lt_of_le z dn), dne, hn₃⟩)
theorem err_made (T : Err K mg C fI) {v : Value} (X : K.In s.heap) (hlim : s.heap.NoLimit) (hroom : A.depth + 1 < recursionLimit)
    (hq : ∀ h2 tk e d, ErrMade s.heap h2 e C d v → R (.ok (.ret (.ref e))) { s with heap := h2, toks := tk }) :
    codeAny (model prog w) A (.call (.ref C) ⟨[v], []⟩) R s := by
  obtain ⟨nm', q, N, bs, bm, sn, sub, ab, col, dd, k0, k1, k2, k3, k5, hC, hbm⟩ := T.cls
  obtain ⟨hp, g, dr, tk, os⟩ := s
  have k : ∀ b o, hp.get? b = some o → ((hp.push (kdv_tup [v])).push (excO C hp.objs.size)).get? b = some o := fun b o e => Heap.get?_push_of_some _ (Heap.get?_push_of_some _ e)
  have hget : ((hp.push (kdv_tup [v])).push (excO C hp.objs.size)).get? (hp.objs.size + 1) = some (excO C hp.objs.size) := by heap_get
  refine call_own F.excBase_Exception (fun X => hbm.has X) (X _ _ hC) (looks_findIn X T.ini) (fun self => bind_fn X self T.tyI) (one_ok v) ?_
  refine err_init (s := ⟨(hp.push (kdv_tup [v])).push (excO C hp.objs.size), g, dr, tk, os⟩) T (X.keeps k) (hlim.keeps k) hget ?_ fun h2 tk2 dx ⟨k', hx, dn, dne, hns⟩ => ?_
  · show A.depth + 1 < recursionLimit
    exact hroom
  · have old : ∀ b o, hp.get? b = some o → h2.get? b = some o := fun b o e => k' b o (Nat.ne_of_lt (Nat.lt_succ_of_lt (Heap.lt_size e))) (k b o e)
    have z : hp.objs.size + 1 + 1 ≤ dx := by
      first
        | (simpa only [Heap.size_push] using dn)
        | exact dn
        | (have q := dn; rw [Heap.size_push, Heap.size_push] at q; exact q)
    exact ⟨rfl, hq h2 tk2 (hp.objs.size + 1) dx ⟨old, Nat.le_succ _, ⟨_, _, hx, rfl, rfl, rfl, rfl⟩, Nat.le_trans (Nat.le_trans (Nat.le_succ _) (Nat.le_succ _)) z, dne, hns⟩⟩
end
end ErBadClaim
end PySem
namespace Tw
open PySem L2
theorem relO_BadClaim {v : V} {v' : Value} (r : RelV v v') (f : Str) : RelO (List.lookup f [(("why" : Str), v)]) (if f = "why" then some v' else none) := by
  by_cases hw : f = "why"
  · subst hw
    rw [if_pos rfl]
    have q : List.lookup ("why" : Str) [(("why" : Str), v)] = some v := by simp [List.lookup]
    rw [q]
    exact r
  · rw [if_neg hw]
    have qw : (f == ("why" : Str)) = false := by simpa using hw
    have q2 : List.lookup f [(("why" : Str), v)] = none := by simp [List.lookup, qw]
    rw [q2]
    trivial
section
variable {X : Cx} {C fI : Addr}
def tMkBadClaim (C : Addr) (ta : TA) : L2.St → Hp → XK → Prop := fun σ H Q => ta σ H fun vs H1 => ∃ v, vs = [v] ∧ ∀ d, H1 d = none → Q (.ref C) (some d) (upd H1 d (.xd [(("why" : Str), v)]))
theorem pmk_BadClaim {a : Expr} {ta : TA} {p pos : Pos} {k : Nat} (T : PySem.ErBadClaim.Err X.K X.mg C fI) (hr : Room k X.A) (ha : PA X [a] ta) (hg : Gl X "BadClaim" := by rfl)
    (he : starEach (a :: []) X.env = (false, eval a X.env) :: starEach [] X.env := by rfl) (hpl : (backTo pos (starEach [] X.env)).any (·.1) = false := by rfl) :
    PMk X (.Call (.Name "BadClaim" p) [a] [] pos) (tMkBadClaim C ta) := by
  intro pins s σ H Q I h
  refine wpAny_Call_Name_kw (ld_glob I hg T.gC ?_)
  refine PySem.W.callWith_K (h₀ := X.base) I.ok.mod.kin T.kC (thn (ha.run pos pins s σ H _ I h) fun us s1 hh => ?_) he hpl
  obtain ⟨vs, H1, I1, r1, v, ev, q1⟩ := hh
  subst ev
  refine ⟨I1.kIn, ?_⟩
  cases r1 with
  | cons rv rn =>
    rename_i v' us'
    cases rn
    show wpAny _ _ (call (.ref C) [v']) _ _ _
    have hlim := I1.nolimit
    obtain ⟨hp, g, dr, tk, os⟩ := s1
    refine wpAny_call (PySem.ErBadClaim.err_made T I1.kIn hlim (by have := hr.dp; omega) fun h' tk' e d M => ?_)
    show MkP X pins σ Q (.ref e) ⟨h', g, dr, tk', os⟩
    obtain ⟨oe, fv, hoe, hc, hd, hdat, h1⟩ := M.obj
    have hns := M.ns
    obtain ⟨G', g1, g2⟩ := restrict h' fun b => decide (b ≠ e)
    have gk : ∀ b, b ≠ e → G'.get? b = h'.get? b := fun b hb => g1 b (decide_eq_true hb)
    have ge : G'.get? e = none := g2 e (by simp)
    have old : ∀ b o, hp.get? b = some o → G'.get? b = some o := fun b o q => (gk b (Nat.ne_of_lt (Nat.lt_of_lt_of_le (Heap.lt_size q) M.new))).trans (M.keep b o q)
    have ob : ObjOk X.prog X.w (upd H1 d (.xd [(("why" : Str), v)])) G' d (.xd [(("why" : Str), v)]) :=
      ⟨_, hns.at (fun o q => (gk d M.dne).trans q), fun f => relO_BadClaim rv f⟩
    have J : Inv X pins σ (upd H1 d (.xd [(("why" : Str), v)])) ⟨G', g, dr, tk', os⟩ := I1.laid (t' := tk') old M.dbig ob
    refine ⟨e, oe, fv, ⟨G', g, dr, tk', os⟩, _, .ref C, some d, rfl, J, fun b o q => ?_, ge, hoe, ⟨hc, hd⟩, hdat, h1, ?_, rfl, I1.bare, raises_own T.exC T.tyC, q1 d (I1.hok.fresh M.dbig)⟩
    · by_cases hb : b = e
      · have q' : G'.get? b = some o := q
        rw [hb, ge] at q'; cases q'
      · exact (gk b hb).symm.trans q
    · rw [upd_ne (Ne.symm M.dne)]
      exact I1.hok.fresh M.new
def tRaiseBadClaim (C : Addr) (W : WX) (ta : TA) : TS := fun _ σ H => tMkBadClaim C ta σ H fun cls d H' => W cls d σ H'
theorem ps_raiseBadClaim {a : Expr} {ta : TA} {W : WX} {p pos pos2 : Pos} {k : Nat} (hc : X.calm = true) (T : PySem.ErBadClaim.Err X.K X.mg C fI) (hr : Room k X.A) (tk : Takes X W) (ha : PA X [a] ta) (hg : Gl X "BadClaim" := by rfl)
    (he : starEach (a :: []) X.env = (false, eval a X.env) :: starEach [] X.env := by rfl) (hpl : (backTo pos (starEach [] X.env)).any (·.1) = false := by rfl) :
    PS X (.Raise (some (.Call (.Name "BadClaim" p) [a] [] pos)) none pos2) (tRaiseBadClaim C W ta) := ps_raise hc tk (pmk_BadClaim T hr ha hg he hpl)
def tByBadClaim (C : Addr) (a : Addr) (cls : Value) (d : Option Addr) (te : TE) : TE := fun σ H Q => te σ H fun x H1 => x = .ref a ∧ cls = .ref C ∧ ∃ (dd : Addr) (v : V), d = some dd ∧ H1 dd = some (.xd [(("why" : Str), v)]) ∧ Q v H1
theorem pe_byBadClaim {a : Addr} {oe : Obj} {cls : Value} {d : Option Addr} {pn : List (Addr × Obj)} {e : Expr} {te : TE} {pos : Pos} (T : PySem.ErBadClaim.Err X.K X.mg C fI) (hz : Zc cls d oe) (hf : ∃ vs, oe.data = .fields vs) (he : PE (X.suite a ((a, oe) :: pn)) e te)
    (hb : attributeBase e "why" X.env (eval e X.env) = eval e X.env := by rfl) :
    PE (X.suite a ((a, oe) :: pn)) (.Attribute e "why" pos) (tByBadClaim C a cls d te) := by
  refine ⟨fun pins s σ H Q I h => ?_⟩
  refine attr_of hb (thn (he.run pins s σ H _ I h) fun u s1 hh => ?_)
  obtain ⟨x, H1, I1, rx, ex, ec, dd, v, ed, ea, q⟩ := hh
  subst ex
  obtain rfl : u = Value.ref a := rx
  subst ec
  subst ed
  obtain ⟨ha, _⟩ := I1.pin (a, oe) (List.mem_append_left _ List.mem_cons_self)
  obtain ⟨vs, hd⟩ := hf
  have hx : ObjOk X.prog X.w H1 s1.heap dd (.xd [(("why" : Str), v)]) := I1.hok dd _ ea
  obtain ⟨mA, hns, hr⟩ := hx
  obtain ⟨od, ho, hl⟩ := lookIn_ns hns
  have l : List.lookup ("why" : Str) [(("why" : Str), v)] = some v := by simp [List.lookup]
  obtain ⟨u, hu, ru⟩ := RelO.some_of (v := v) (o := mA "why") (by rw [← l]; exact hr "why")
  have J : PySem.W.InstAt s1.heap a oe C (some od) := ⟨ha, hz.1, by unfold PySem.W.notCls; rw [hd] <;> rfl, by rw [hz.2]; exact ho⟩
  exact HandSPX.exc_get I1.kIn J T.ga T.gg T.exC (PySem.W.findObj_own T.hdC T.noF rfl (by rw [hl, hu])) (handed_of ru) ⟨v, H1, I1.tok _, ru, q⟩
end
end Tw

set_option Elab.async false
set_option linter.all false
set_option maxRecDepth 100000
set_option maxHeartbeats 4000000
/-! enumerate over a list or a tuple; a walk over either; a maker with two keyword-only parameters whose defaults are empty tuples -/
namespace PySem
namespace TwE
open Sem (wp)
theorem fresh_enum {v : Value} {o : Obj} {Hc : Heap → Prop} (B : Begins v o Hc) :
    Meets (Builtin.«enumerate.__new__» ⟨[.type "enumerate", v], []⟩) (fun _ R s => Hc s.heap ∧ R (.ok (.ret (.ref (s.heap.push o).objs.size)))
      { s with heap := (s.heap.push o).push { cls := .type "enumerate", data := .fields #[.none, .bool false, .ref s.heap.objs.size, rawInt 0, .none, .none] } }) :=
  .of_wp fun pr wd Ar Rr st hyp => by
    obtain ⟨hp, gg, dr, tc, os⟩ := st
    obtain ⟨hb, hr⟩ := hyp
    have sub0 := sub_enumerate
    have start : ∀ {A2 : Around} {E2 Q2 : Value → Shared → Prop}, Q2 (.ref hp.objs.size) ⟨hp.push o, gg, dr, tc, os⟩ → wpAny (model pr wd) A2 (pyIter v) Q2 E2 ⟨hp, gg, dr, tc, os⟩ := fun q => B.iter pr wd _ _ ⟨hp, gg, dr, tc, os⟩ _ hb q
    wp_walk using start
    refine wpAny_stack_any fun stk => wpAny_pure ?_
    split
    · rename_i cc _ _ _ _ _
      rcases (cc == Value.type "enumerate") with _ | _
      all_goals wp_walk using start
      all_goals exact ⟨_, rfl, hr⟩
    · wp_walk using start
      exact ⟨_, rfl, hr⟩
section
variable {prog : Program} {w : World} {A : Around} {E : Value → Shared → Prop} {s : Shared}
theorem enum_call {v : Value} {o : Obj} {Hc : Heap → Prop} {Q : Value → Shared → Prop} (B : Begins v o Hc) (h1 : Hc s.heap)
    (hq : ∀ h2, IsEnum h2 (s.heap.objs.size + 1) s.heap.objs.size 0 .none → h2.get? s.heap.objs.size = some o → h2.objs.size = s.heap.objs.size + 2 → (∀ b u, s.heap.get? b = some u → h2.get? b = some u) → Q (.ref (s.heap.objs.size + 1)) { s with heap := h2 }) :
    wpAny (model prog w) A (call (.type "enumerate") [v]) Q E s := by
  refine callType_new F.called_enumerate (by decide) (F.typeCall_enumerate_1 _) (F.newCall_enumerate_1 _) (fun x => F.args_object_init_2 x _) F.entry_enumerate_new (fresh_enum B) ⟨h1, ?_⟩
  have sz : (s.heap.push o).objs.size = s.heap.objs.size + 1 := Heap.size_push ..
  have en := Heap.get?_push_size (s.heap.push o) (o := { cls := .type "enumerate", data := .fields #[.none, .bool false, .ref s.heap.objs.size, rawInt 0, .none, .none] }) rfl
  rw [sz] at en
  show _ ∧ _
  rw [sz]
  exact ⟨⟨_, en, rfl⟩, hq _ en (Heap.get?_push_of_some _ (Heap.get?_push_size _ B.free)) (by rw [Heap.size_push, sz]) fun b u e => Heap.get?_push_of_some _ (Heap.get?_push_of_some _ e)⟩
end
end TwE
end PySem
namespace L2
open PySem PySem.Spec PyProof.Rows
/-- the tuple at a, each item in a new pair -/
def Itet (K : PySem.W.Frag) (a : Addr) : It :=
  ⟨fun i H => ∃ (xs : List V) (x : V), SqT K H a xs ∧ xs[i]? = some x, fun i H v H2 => ∃ T x, v = .ref T ∧ H T = none ∧ H2 = upd H T (.tup [.int (i : Nat), x]) ∧ ∀ xs, SqT K H a xs → xs[i]? = some x, fun i H => ∃ xs : List V, SqT K H a xs ∧ xs.length = i⟩
theorem tw_apart {h : Heap} {a it : Addr} {i : Nat} {its : Array Value} (p : h.IsTuple a its) (q : h.IsTupleIter it a i) : a ≠ it := by
  intro e
  obtain ⟨o, ho, hc, n, hd⟩ := p
  obtain ⟨o2, ho2, hc2, hd2⟩ := q
  rw [e, ho2] at ho
  cases ho
  rw [hd] at hd2
  cases hd2
theorem tw_apart2 {h : Heap} {a e it : Addr} {c : Int} {old : Value} {its : Array Value} (p : h.IsTuple a its) (q : IsEnum h e it c old) : e ≠ a := by
  intro z
  obtain ⟨o, ho, hc, n, hd⟩ := p
  have ho2 := q
  unfold IsEnum at ho2
  rw [z, ho] at ho2
  cases ho2
  cases hd
theorem turn_enumT {P : Program} {w : World} {K : PySem.W.Frag} {elts : List Expr} {kk : Nat} {tpos : Pos} (a e it : Addr) :
    Turn P w K (.Tuple elts kk tpos) (Itet K a) [e, it] e (fun i h => (∃ old, IsEnum h e it ((i : Nat) : Int) old) ∧ h.IsTupleIter it a i ∧ e ≠ it) where
  mem := by simp
  obj := fun i h st b hb => by
    obtain ⟨⟨old, he⟩, ⟨o, ho, hc, hd⟩, _⟩ := st
    rcases (show b = e ∨ b = it by simpa using hb) with rfl | rfl
    · exact ⟨_, he, fun v q => nomatch q⟩
    · exact ⟨o, ho, fun v q => by rw [hd] at q; cases q⟩
  keep := fun i h h2 st k => ⟨st.1.elim fun old he => ⟨old, k e (by simp) _ he⟩, st.2.1.at fun o q => k it (by simp) o q, st.2.2⟩
  item := by
    intro X hP hw hK hc i pins s σ H E I hf st hg
    subst hP hw hK
    obtain ⟨⟨old, he⟩, hit, hne⟩ := st
    obtain ⟨xs, x, hq, hx⟩ := hg
    obtain ⟨its, rv, p, hz⟩ := I.tuple hq
    have pt : s.heap.IsTuple a its.toArray := p
    obtain ⟨u, hu, ru⟩ := rv.get hx
    have hel : e < s.heap.objs.size := Heap.lt_size he
    have hil : it < s.heap.objs.size := by
      obtain ⟨_, q, _⟩ := hit
      exact Heap.lt_size q
    have hai := tw_apart pt hit
    have hea := tw_apart2 pt he
    have D := Draws.tuple (prog := X.prog) (w := X.w) (A := X.A.in1) (I.ok.hd hc) it a hai its.toArray
    have hlt : i < its.toArray.size := by
      have := (List.getElem?_eq_some_iff.mp hu).1
      simpa using this
    refine wpAny_pyNext_enum_itemD D he ⟨hit, pt⟩ hlt hne (by simp [hne, hea]) fun y h2 tk py ho st2 hT hsz hk => ?_
    obtain rfl : u = y := by
      rw [List.getElem?_toArray, hu] at py
      injection py
    refine ⟨_, rfl, wpAny_letOwnedTupleGo_enum (s := { s with heap := h2, toks := tk + 1 }) ho fun h3 he3 sb => ?_⟩
    have hT3 : h3.get? s.heap.objs.size = some { cls := .type "tuple", data := .seq #[.int i tk, u] } := (sb.2 _ (Nat.ne_of_gt hel)).trans hT
    have new : ObjOk X.prog X.w (upd H s.heap.objs.size (.tup [.int (i : Nat), x])) h3 s.heap.objs.size (.tup [.int (i : Nat), x]) :=
      ⟨by show 2 ≤ sizeLine; decide, [.int i tk, u], .cons ⟨_, rfl⟩ (.cons ru .nil), ⟨_, hT3, rfl, _, rfl⟩⟩
    have I3 : Inv X pins σ (upd H s.heap.objs.size (.tup [.int (i : Nat), x])) { s with heap := h3, toks := tk + 1 } :=
      I.turnedNew (ch := [e, it]) (fun b ob hb q => by
        have n1 : b ≠ e := fun z => hb (by simp [z])
        have n2 : b ≠ it := fun z => hb (by simp [z])
        exact (sb.2 b n1).trans (hk b ob n1 n2 q)) hf (Nat.le_refl _) new
    have e1 : ((i + 1 : Nat) : Int) = (i : Int) + 1 := by omega
    refine ⟨.ref s.heap.objs.size, _, I3, rfl, ⟨_, x, rfl, I.hok.fresh (Nat.le_refl _), rfl, fun ys hy => by rw [I.tuple_inj hy hq]; exact hx⟩, ⟨⟨u, by rw [e1]; exact he3⟩, st2.1.at fun o q => (sb.2 it (Ne.symm hne)).trans q, hne⟩, fun b hb => ?_⟩
    have hb2 : b < s.heap.objs.size := by
      rcases (show b = e ∨ b = it by simpa using hb) with rfl | rfl
      · exact hel
      · exact hil
    rw [upd_ne (Nat.ne_of_lt hb2)]
    exact (hf b hb).1
  done := by
    intro X hP hw hK hc i pins s σ H E I hf st hg
    subst hP hw hK
    obtain ⟨⟨old, he⟩, hit, hne⟩ := st
    obtain ⟨xs, hq, hx⟩ := hg
    obtain ⟨its, rv, p, hz⟩ := I.tuple hq
    have pt : s.heap.IsTuple a its.toArray := p
    obtain ⟨f0, f1, f2, f3, f4, f5⟩ := hf it (by simp)
    have D := Draws.tuple (prog := X.prog) (w := X.w) (A := X.A.in1) (I.ok.hd hc) it a (tw_apart pt hit) its.toArray
    have hl : its.toArray.size = i := by
      rw [List.size_toArray, ← rv.length, hx]
    exact wpAny_pyNext_enum_endD D he (by rw [hl]; exact ⟨hit, pt⟩) fun h2 eb => ⟨rfl, I.turned (t' := s.toks) (fun b o hb q => eb b o hb q) f0 f1 f3 f4 f5⟩
  self := fun A i s Q E st h => st.1.elim fun _ he => wpAny_pyIter_enum he h
/-- what enumerate gives of the items xs -/
structure EFits (J : It) (xs : List V) (H : Hp) : Prop where
  go : ∀ i, i < xs.length → J.go i H
  stop : J.stop xs.length H
  yld : ∀ i x H', J.yld i H x H' → ∃ T v, x = .ref T ∧ H T = none ∧ H' = upd H T (.tup [.int (i : Nat), v]) ∧ xs[i]? = some v
/-- a list or a tuple -/
def SqA (K : PySem.W.Frag) (H : Hp) (a : Addr) (xs : List V) : Prop := SqL K H a xs ∨ SqT K H a xs
theorem same_l {K : PySem.W.Frag} {H H' : Hp} {a : Addr} {xs : List V} (h : SqL K H a xs) (e : H' a = H a) : SqL K H' a xs := by
  rcases h with h | h
  · exact .inl (by unfold Rd at h ⊢; rw [e]; exact h)
  · exact .inr h
theorem same_t {K : PySem.W.Frag} {H H' : Hp} {a : Addr} {xs : List V} (h : SqT K H a xs) (e : H' a = H a) : SqT K H' a xs := by
  rcases h with h | h
  · exact .inl (by unfold Rd at h ⊢; rw [e]; exact h)
  · exact .inr h
theorem efits_l {K : PySem.W.Frag} {H : Hp} {a : Addr} {xs : List V} (h : SqL K H a xs) : EFits (Ite K a) xs H :=
  ⟨fun i hi => ⟨xs, xs[i], h, List.getElem?_eq_getElem hi⟩, ⟨xs, h, Nat.le_refl _⟩, fun i x H' ⟨T, v, e1, e2, e3, e4⟩ => ⟨T, v, e1, e2, e3, e4 xs h⟩⟩
theorem efits_t {K : PySem.W.Frag} {H : Hp} {a : Addr} {xs : List V} (h : SqT K H a xs) : EFits (Itet K a) xs H :=
  ⟨fun i hi => ⟨xs, xs[i], h, List.getElem?_eq_getElem hi⟩, ⟨xs, h, rfl⟩, fun i x H' ⟨T, v, e1, e2, e3, e4⟩ => ⟨T, v, e1, e2, e3, e4 xs h⟩⟩
def iEnumG (K : PySem.W.Frag) (ta : TA) : TI := fun σ H R => ta σ H fun vs H1 => ∃ a xs, vs = [.ref a] ∧ SqA K H1 a xs ∧ ∀ J, (∀ H', H' a = H1 a → EFits J xs H') → R J H1
theorem pi_enumG {X : Cx} {K : PySem.W.Frag} {e : Expr} {ta : TA} {p pos tpos : Pos} {elts : List Expr} {kk : Nat} (hK : X.K = K) (hg : Gl X "enumerate") (hm : X.mg "enumerate" = none) (ha : PA X [e] ta) (hs : starEach [e] X.env = [(false, eval e X.env)] := by rfl) :
    PI X (.Tuple elts kk tpos) (.Call (.Name "enumerate" p) [e] [] pos) (iEnumG K ta) := by
  subst hK
  refine ⟨fun pins s σ H R I h => ?_⟩
  refine Call_ (ld_blt I hg hm boot_enumerate (PyProof.Rows.callWith_type1 (thn (ha.run pos pins s σ H _ I h) fun us s1 ⟨vs, H1, I1, r1, q1⟩ => ?_) hs rfl))
  obtain ⟨a, xs, rfl, hs2, q⟩ := q1
  cases r1 with
  | cons r rr =>
    cases rr
    cases r
    have fp : ∀ b ∈ [s1.heap.objs.size + 1, s1.heap.objs.size], FpOk X pins H1 b := fun b hb => by
      have hle : s1.heap.objs.size ≤ b := by
        rcases (show b = s1.heap.objs.size + 1 ∨ b = s1.heap.objs.size by simpa using hb) with rfl | rfl
        · exact Nat.le_add_right _ _
        · exact Nat.le_refl _
      exact I1.fpOk hle (I1.hok.fresh hle)
    rcases hs2 with hq | hq
    · replace q := q (Ite X.K a) fun H' e => efits_l (same_l hq e)
      obtain ⟨its, rv, p2, hz⟩ := I1.list hq
      refine call_enumerate_list p2.isList fun h2 he hit hsz hk => wpAny_pyIter_enum he ?_
      exact ⟨s1.heap.objs.size + 1, [s1.heap.objs.size + 1, s1.heap.objs.size], _, _, H1, rfl, I1.kept (t' := s1.toks) hk, turn_enum a (s1.heap.objs.size + 1) s1.heap.objs.size, ⟨⟨.none, he⟩, hit, Nat.succ_ne_self _⟩, fp, q⟩
    · replace q := q (Itet X.K a) fun H' e => efits_t (same_t hq e)
      obtain ⟨its, rv, p2, hz⟩ := I1.tuple hq
      have pt : s1.heap.IsTuple a its.toArray := p2
      refine TwE.enum_call (begins_tuple a its.toArray) pt fun h2 he hit hsz hk => wpAny_pyIter_enum he ?_
      exact ⟨s1.heap.objs.size + 1, [s1.heap.objs.size + 1, s1.heap.objs.size], _, _, H1, rfl, I1.kept (t' := s1.toks) hk, turn_enumT a (s1.heap.objs.size + 1) s1.heap.objs.size, ⟨⟨.none, he⟩, ⟨_, hit, rfl, rfl⟩, Nat.succ_ne_self _⟩, fp, q⟩
def iSeq (K : PySem.W.Frag) (tl : TE) : TI := fun σ H R => tl σ H fun x H1 => ∃ a xs, x = .ref a ∧ SqA K H1 a xs ∧ ∀ J, (∀ H', H' a = H1 a → Tw.Fits J xs H') → R J H1
theorem pi_seqG {X : Cx} {K : PySem.W.Frag} {tg : Expr} {l : Expr} {tl : TE} (hK : X.K = K) (hl : PE X l tl) : PI X tg l (iSeq K tl) := by
  subst hK
  refine ⟨fun pins s σ H R I h => ?_⟩
  refine thn (hl.run pins s σ H _ I h) fun v s1 ⟨x, H1, I1, r1, q1⟩ => ?_
  obtain ⟨a, xs, rfl, hs2, q⟩ := q1
  cases r1
  have fp : ∀ b ∈ [s1.heap.objs.size], FpOk X pins H1 b := fun b hb => by
    obtain rfl : b = s1.heap.objs.size := by simpa using hb
    exact I1.fpOk (Nat.le_refl _) (I1.hok.fresh (Nat.le_refl _))
  rcases hs2 with hq | hq
  · replace q := q (Itl X.K a) fun H' e => Tw.fits_l (same_l hq e)
    obtain ⟨its, rv, p, hz⟩ := I1.list hq
    refine wpAny_pyIter_list p.isList ?_
    exact ⟨s1.heap.objs.size, [s1.heap.objs.size], _, _, H1, rfl, I1.kept (t' := s1.toks) fun b o e => Heap.get?_push_of_some _ e, turn_list a _, ⟨_, Heap.get?_push_size _ rfl, rfl, rfl⟩, fp, q⟩
  · replace q := q (Itt X.K a) fun H' e => Tw.fits_t (same_t hq e)
    obtain ⟨its, rv, p, hz⟩ := I1.tuple hq
    refine wpAny_pyIter_tuple (show s1.heap.IsTuple a its.toArray from p) ?_
    exact ⟨s1.heap.objs.size, [s1.heap.objs.size], _, _, H1, rfl, I1.kept (t' := s1.toks) fun b o e => Heap.get?_push_of_some _ e, turn_tuple a _, ⟨_, Heap.get?_push_size _ rfl, rfl, rfl⟩, fp, q⟩
end L2
namespace Tw
open PySem L2
section
variable {K : PySem.W.Frag} {σ : L2.St} {H : Hp} {D : Ends} {ta : TA} {te : TE} {a : Addr} {xs : List V}
theorem g_enumG {R : It → Hp → Prop} (q : ta σ H fun vs H1 => ∃ a xs, vs = [.ref a] ∧ SqA K H1 a xs ∧ ∀ J, (∀ H', H' a = H1 a → EFits J xs H') → R J H1) : iEnumG K ta σ H R := q
theorem g_seqG {R : It → Hp → Prop} (q : te σ H fun x H1 => ∃ a xs, x = .ref a ∧ SqA K H1 a xs ∧ ∀ J, (∀ H', H' a = H1 a → Fits J xs H') → R J H1) : iSeq K te σ H R := q
theorem for_enumA {J : It} {g : TG} {tb : TS} (Pv : Nat → L2.St → Hp → Prop) (h0 : Pv 0 σ H) (hl : ∀ i σ H, i ≤ xs.length → Pv i σ H → EFits J xs H)
    (hs : ∀ i v T σ H (D' : Ends), xs[i]? = some v → Pv i σ H → H T = none → (∀ σ H, Pv (i + 1) σ H → D'.nx σ H) → (∀ σ H, Pv (i + 1) σ H → D'.ct σ H) → (∀ σ H, D.nx σ H → D'.bk σ H) → D'.rt = D.rt → g (.ref T) σ (upd H T (.tup [.int (i : Nat), v])) fun σ2 H2 => tb D' σ2 H2)
    (hd : ∀ σ H, Pv xs.length σ H → D.nx σ H) :
    ∃ W : Nat → Nat → L2.St → Hp → Prop, (∃ m, W 0 m σ H) ∧ ∀ i m σ H, W i m σ H →
      (J.stop i H ∧ D.nx σ H) ∨ (J.go i H ∧ ∃ N : L2.St → Hp → Prop, (∀ σ' H', N σ' H' → ∃ m', m' < m ∧ W (i + 1) m' σ' H') ∧ ∀ x H', J.yld i H x H' → g x σ H' fun σ2 H2 => tb { D with nx := N, ct := N, bk := D.nx } σ2 H2) := by
  refine ⟨fun i m σ H => m = xs.length - i ∧ i ≤ xs.length ∧ Pv i σ H, ⟨xs.length, by simp, Nat.zero_le _, h0⟩, ?_⟩
  rintro i m σ H ⟨rfl, hi, p⟩
  have fi := hl i σ H hi p
  by_cases hlt : i < xs.length
  · refine .inr ⟨fi.go i hlt, Pv (i + 1), fun σ' H' q => ⟨xs.length - (i + 1), by omega, rfl, hlt, q⟩, fun x H' y => ?_⟩
    obtain ⟨T, v, rfl, hT, rfl, hv⟩ := fi.yld i x H' y
    exact hs i v T σ H { D with nx := Pv (i + 1), ct := Pv (i + 1), bk := D.nx } hv p hT (fun _ _ h => h) (fun _ _ h => h) (fun _ _ h => h) rfl
  · obtain rfl : i = xs.length := by omega
    exact .inl ⟨fi.stop, hd σ H p⟩
end
/-- a maker with two keyword-only parameters whose defaults are empty tuples -/
structure HereCD (K : PySem.W.Frag) (C : Addr) (qual : Str) (st : Stmt) (ps : List Str) (f : Addr) (fd : FuncData) : Prop where
  fn : Fun K "__init__" qual st f fd
  mkr : Mk K C f
  bd : ∃ d1 d2 : Addr, (∀ H, SqT K H d1 []) ∧ (∀ H, SqT K H d2 []) ∧ ∃ ds, Vals [.ref d1, .ref d2] ds ∧ Binds K fd ps ds
structure DefCD (P : Program) (w : World) (K : PySem.W.Frag) (mg : Str → Option Value) (base : Heap) (k : Nat) (C : Addr) (ps : List Str) (sp : Sp) : Prop where
  ex : ∃ (f : Addr) (fd : FuncData), FnOk P w K mg base CX0 k f fd ps sp ∧ Mk K C f ∧ ∃ d1 d2 : Addr, (∀ H, SqT K H d1 []) ∧ (∀ H, SqT K H d2 []) ∧ ∃ ds, Vals [.ref d1, .ref d2] ds ∧ Binds K fd ps ds
theorem HereCD.def {P : Program} {w : World} {K : PySem.W.Frag} {mg : Str → Option Value} {base : Heap} {k : Nat} {C : Addr} {qual : Str} {st : Stmt} {ps : List Str} {sp : Sp} {f : Addr} {fd : FuncData} (h : HereCD K C qual st ps f fd) (F : FnOk P w K mg base CX0 k f fd ps sp) : DefCD P w K mg base k C ps sp :=
  ⟨f, fd, F, h.mkr, h.bd⟩
def tNewD (K : PySem.W.Frag) (C : Addr) (sp : Sp) (t : TA) : TE := fun σ H Q => ∀ d1 d2 : Addr, (∀ H, SqT K H d1 []) → (∀ H, SqT K H d2 []) → t σ H fun vs H1 => ∀ x dx, H1 x = none → H1 dx = none → dx ≠ x →
  sp (.ref x :: (vs ++ [.ref d1, .ref d2])) (upd (upd H1 dx (.own x)) x (.ins C dx [])) (fun v H2 => v = .non ∧ Q (.ref x) H2) E0
theorem g_newD {K : PySem.W.Frag} {C : Addr} {sp : Sp} {t : TA} {σ : L2.St} {H : Hp} {Q : VK} (q : ∀ d1 d2 : Addr, (∀ H, SqT K H d1 []) → (∀ H, SqT K H d2 []) → t σ H fun vs H1 => ∀ x dx, H1 x = none → H1 dx = none → dx ≠ x →
  sp (.ref x :: (vs ++ [.ref d1, .ref d2])) (upd (upd H1 dx (.own x)) x (.ins C dx [])) (fun v H2 => v = .non ∧ Q (.ref x) H2) E0) : tNewD K C sp t σ H Q := q
theorem pe_newD {X : Cx} {K : PySem.W.Frag} {k j : Nat} {C : Addr} {x : Str} {p pos : Pos} {e : Expr} {es : List Expr} {ps : List Str} {sp : Sp} {t : TA} (hK : X.K = K)
    (D : DefCD X.prog X.w K X.mg X.base k C ps sp) (hr : Room j X.A) (hg : Gl X x) (hm : X.mg x = some (.ref C)) (ha : PA X (e :: es) t) (hk : k + 1 ≤ j := by decide) (hdb : (x == ("__debug__" : Str)) = false := by decide)
    (he : starEach (e :: es) X.env = (false, eval e X.env) :: starEach es X.env := by rfl) (hpl : (backTo pos (starEach es X.env)).any (·.1) = false := by rfl) : PE X (.Call (.Name x p) (e :: es) [] pos) (tNewD K C sp t) := by
  subst hK
  obtain ⟨f, fd, F, mk, d1, d2, e1, e2, ds, hv, hb⟩ := D.ex
  exact ⟨fun pins s σ H Q I h => (pe_make mk F (hr.mono hk) hg hm hb hv pass0 ha hdb he hpl).run pins s σ H Q I (h d1 d2 e1 e2)⟩
theorem kw_bd2 {K : PySem.W.Frag} {fd : FuncData} {D : Addr} {k1 k2 : Str} {ps : List Str} {n : Nat} {a1 a2 : Addr} {o1 o2 : Obj} {i1 i2 : Array Value} {n1 n2 : Nat} (hps : ps.length = n + 2) (h1 : PySem.W.nsIn K D k1 = some (some (.ref a1))) (h2 : PySem.W.nsIn K D k2 = some (some (.ref a2)))
    (l1 : K.lookup a1 = some o1) (c1 : o1.cls = .type "tuple") (g1 : o1.data = .seq i1 n1) (z1 : i1.size = 0) (l2 : K.lookup a2 = some o2) (c2 : o2.cls = .type "tuple") (g2 : o2.data = .seq i2 n2) (z2 : i2.size = 0)
    (h : ∀ us : List Value, us.length = n → ∀ u v : Value, KwChain D [(k1, u), (k2, v)] (bindArgs fd ⟨us, []⟩) (ps.zip (us ++ [u, v]))) :
    ∃ d1 d2 : Addr, (∀ H, SqT K H d1 []) ∧ (∀ H, SqT K H d2 []) ∧ ∃ ds, Vals [.ref d1, .ref d2] ds ∧ Binds K fd ps ds := by
  have nil : ∀ {i : Array Value}, i.size = 0 → Vals [] i.toList := fun {i} z => by
    have : i.toList = [] := List.length_eq_zero_iff.mp (by simpa using z)
    rw [this]
    exact .nil
  refine ⟨a1, a2, fun H => .inr ⟨o1, i1, n1, l1, c1, g1, by rw [z1]; exact Nat.zero_le _, nil z1⟩, fun H => .inr ⟨o2, i2, n2, l2, c2, g2, by rw [z2]; exact Nat.zero_le _, nil z2⟩, [.ref a1, .ref a2], .cons rfl (.cons rfl .nil), fun s us X hlen => BindsTo.of_looks fun M => KwChain.looks X (fun q hq => ?_) (h us ?_ (.ref a1) (.ref a2))⟩
  · rcases List.mem_cons.mp hq with rfl | hq
    · exact h1
    · obtain rfl := List.mem_singleton.mp hq
      exact h2
  · simp at hlen
    omega

def rTupG (K : PySem.W.Frag) : List V → Hp → VK → Prop := fun xs H Q => ∃ p ys, xs = [.ref p] ∧ ((SqL K H p ys ∧ ∀ l, H l = none → Q (.ref l) (upd H l (.tup ys))) ∨ (SqT K H p ys ∧ Q (.ref p) H))
theorem call_tupleG {X : Cx} {K : PySem.W.Frag} (h : X.K = K) : CallR X (.type "tuple") (rTupG K) := by subst h; exact call_tuple_of
section
variable {K : PySem.W.Frag} {σ : L2.St} {H : Hp} {Q : VK} {a : Addr} {xs : List V}
theorem g_tupL (h : SqL K H a xs) (q : ∀ l, H l = none → Q (.ref l) (upd H l (.tup xs))) : rTupG K [.ref a] H Q := ⟨a, xs, rfl, .inl ⟨h, q⟩⟩
theorem g_tupT (h : SqT K H a xs) (q : Q (.ref a) H) : rTupG K [.ref a] H Q := ⟨a, xs, rfl, .inr ⟨h, q⟩⟩
theorem g_dc {wi : TI} {g : TG} {tt : TT} {tk tv : TE} {vs : List Nat} (q : wi σ H fun J H1 => ∀ D, H1 D = none → ∃ W : Nat → Nat → Hp → Prop, (∃ m, W 0 m (upd H1 D (.dK []))) ∧ ∀ i m H, W i m H →
  (J.stop i H ∧ Q (.ref D) H) ∨ (J.go i H ∧ ∃ Nx : Hp → Prop, (∀ H', Nx H' → ∃ m', m' < m ∧ W (i + 1) m' H') ∧ ∀ x H', J.yld i H x H' → g x (wipe σ vs) H' fun σ2 H2 => wipe σ2 vs = wipe σ vs ∧ tt σ2 H2 fun b H3 =>
    if b = true then tk σ2 H3 fun y H4 => tv σ2 H4 fun z H5 => ∃ kvs k, y = kV k ∧ H5 D = some (.dK kvs) ∧ kvs.length < sizeLine ∧ Nx (upd H5 D (.dK (putK kvs k z))) else Nx H3)) : tDc wi g tt tk tv vs σ H Q := q
/-- a tuple, a list in the heap, a tuple of the written part: what isinstance sees -/
theorem tyx_t (h : SqT K H a xs) : TyX K H (.ref a) (.type "tuple") := by
  rcases h with h | ⟨o, its, n, h1, h2, _⟩
  · rcases h with h | ⟨o, h⟩
    · exact .base (.tup h)
    · exact .fTuple h
  · exact .kTuple h1 h2
end
end Tw

set_option Elab.async false
set_option linter.all false
set_option maxRecDepth 100000
set_option maxHeartbeats 4000000
/-! isinstance of a caught own error that has fields -/
namespace PySem.TwX
open PySem PySem.Spec PySem.Calls PyProof.Rows PySem.W
structure ExCls (K : Frag) (D : Addr) : Prop where
  ga : findIn K (.ref D) "__getattribute__" = some (some (.builtin "BaseException.__getattribute__"))
  gg : findIn K (.ref D) "__getattr__" = some none
  sb : subIn K (.ref D) (.type "BaseException") = some true
  hd : hasDictIn K D = true
  kc : findIn K (.ref D) "__class__" = some (some (.builtin "object.__class__"))
  gt : specialIn K (.builtin "object.__class__") "__get__" = some (some (.builtin "getset_descriptor.__get__"))
  tk : takesIn K (.builtin "object.__class__") = some true
  mo : mroIn K D (.type "object") = some true
section
variable {prog : Program} {w : World} {A : Around} {E : Value → Shared → Prop} {s : Shared} {K : Frag} {x D : Addr} {ox : Obj} {dx : Option Obj}
theorem obj_data {C : Addr} {nm : Str} {u g : Value} (hc : (clsIn K C).isSome = true) (hu : findIn K (.ref C) nm = some (some u)) (hg : specialIn K u "__get__" = some (some g)) (ht : takesIn K u = some true) : findObj K C dx nm = some (.bind g u) := by
  obtain ⟨cd, hcd⟩ := Option.isSome_iff_exists.mp hc
  unfold findObj
  rw [hcd, Option.bind_some, hu, Option.bind_some]
  cases dx <;> simp [hg, ht]
theorem class_asked {Q : Option Value → Shared → Prop} (C : ExCls K D) (XK : K.In s.heap) (J : InstAt s.heap x ox D dx) (hq : Q (some (.ref D)) { s with toks := s.toks + 1 }) : wpAny (model prog w) A (getAttr? (.ref x) "__class__") Q E s := by
  have hfo : findObj K D dx "__class__" = some (.bind (.builtin "getset_descriptor.__get__") (.builtin "object.__class__")) := obj_data (by obtain ⟨cd, h1, _⟩ := any_some C.hd; rw [h1]; rfl) C.kc C.gt C.tk
  obtain ⟨hp, gs, dr, tc, os⟩ := s
  have k0 := J.type (M := model prog w)
  have k1 := looks_findIn (M := model prog w) XK C.ga
  have k2 := looks_findIn (M := model prog w) XK C.gg
  have k3 := looks_find (M := model prog w) XK J hfo
  have isB : Looks (model prog w) hp (isInstance (.ref x) (.type "BaseException")) true := k0.andThen (looks_subIn XK C.sb)
  have b0 : (false && onTheHeap (Value.builtin "BaseException.__getattribute__")) = false := rfl
  have b2 : (Value.builtin "BaseException.__getattribute__" == Value.builtin "object.__getattribute__") = false := by decide +kernel
  have b1 : (onTheHeap (Value.ref D) && Value.builtin "BaseException.__getattribute__" == Value.builtin "object.__getattribute__") = false := by rw [b2]; rfl
  unfold getAttr? getAttrBy? getAttrBy
  refine wpAny_bind (wpAny_mkText (wpAny_bind (wpAny_attempt (wpAny_holding (wpAny_bind (k0.at (wpAny_bind (k1.at ?_))))))))
  show wpAny _ _ (if (onTheHeap (Value.ref D) && Value.builtin "BaseException.__getattribute__" == Value.builtin "object.__getattribute__") = true then (_ : Sem _) else _) _ _ _
  rw [b1, if_neg Bool.false_ne_true]
  unfold getAttrByItsOwn hookBefore
  refine wpAny_bind ?_
  have onH : onTheHeap (Value.ref D) = true := rfl
  rw [if_pos onH]
  refine k2.at (wpAny_bind (wpAny_attempt (wpAny_holding ?_)))
  unfold callGetattribute
  rw [b0, if_neg Bool.false_ne_true]
  unfold boundAndCalled
  rw [PySem.F.excAttr_ValueError.ga.bind (Value.ref x)]
  refine wpAny_bind (wpAny_pure ?_)
  show wpAny _ _ (call (.builtin "BaseException.__getattribute__") [Value.ref x, Value.str "__class__" tc]) _ _ _
  refine wpAny_call (codeAny_call_builtin PySem.F.excAttr_ValueError.ga.plain PySem.F.entry_bexc_ga (@check_slot (model prog w) _ _ ⟨hp, gs, dr, tc + 1, os⟩ "BaseException.__getattribute__" "BaseException" "__getattribute__" (.ref x) [.str "__class__" tc] [] _ (by decide +kernel) (by decide +kernel) isB (PySem.F.args_bexc_ga (.ref x) (.str "__class__" tc)) ?_))
  unfold Builtin.«object.__getattribute__»
  refine wpAny_bind (wpAny_of_eq (a := ((Value.ref x : Value), [Value.str "__class__" tc])) (by first | rfl | (simp only [slotArgs]; rfl)) (wpAny_bind (wpAny_pure (wpAny_bind (k0.at (wpAny_bind (k3.at ?_)))))))
  show wpAny _ _ (holding [Value.builtin "object.__class__"] (call (.builtin "getset_descriptor.__get__") [Value.builtin "object.__class__", Value.ref x, Value.ref D]) >>= ret) _ _ _
  refine wpAny_bind (wpAny_holding (wpAny_call (class_get (s := ⟨hp, gs, dr, tc + 1, os⟩) (ox := ox) (od := dx) XK J C.mo (wpAny_pure ?_))))
  show wpAny _ _ (handedOut (Value.ref D)) _ _ _
  rw [handedOut_of (v := Value.ref D) rfl]
  first
    | exact wpAny_pure (wpAny_pure hq)
    | exact wpAny_pure hq
    | exact wpAny_pure (wpAny_bind (wpAny_pure (wpAny_pure hq)))
theorem kit_exc (C : ExCls K D) : KitX K (.ref x) (.ref D) (fun h => InstAt h x ox D dx) where
  ty := fun _ _ _ J => J.type
  it := fun _ _ XK _ => by
    obtain ⟨cd, h1, _⟩ := any_some C.hd
    unfold clsIn at h1
    split at h1
    · rename_i c1 d1 cd1 sl1 ho
      intro A2 Q2 E2 s2 kp q
      unfold isType loadHead
      exact wpAny_bind (wpAny_loadPart (kp _ _ (XK _ _ ho)) (wpAny_pure q))
    · cases h1
  ne := fun h tp dd its n sl XK htp => by
    obtain ⟨cd, h1, _⟩ := any_some C.hd
    refine Bool.eq_false_iff.mpr fun q => ?_
    obtain rfl : D = tp := Value.ref.inj (beq_iff_eq.mp q)
    unfold clsIn at h1
    split at h1
    · rename_i c1 d1 cd1 sl1 ho
      cases (XK _ _ ho).symm.trans htp
    · cases h1
  ca := fun XK J k => class_asked C XK J k
end
end PySem.TwX
namespace Tw
open PySem L2 PySem.Spec PyProof.Rows
/-- isinstance(e, c), e the caught error -/
def rIsX (K : PySem.W.Frag) (a : Addr) (cls : Value) (d : Option Addr) : List V → Hp → VK → Prop := fun xs H Q => ∃ (D : Addr) (c : V) (cv : Value) (b : Bool), cls = .ref D ∧ (∃ dd fs, d = some dd ∧ H dd = some (.xd fs)) ∧ PySem.TwX.ExCls K D ∧ xs = [.ref a, c] ∧ (∀ u, RelV c u → u = cv) ∧ PySem.W.kitOne K (.ref D) cv = some b ∧ Q (.bl b) H
theorem call_isX {X : Cx} {K : PySem.W.Frag} {a : Addr} {cls : Value} {d : Option Addr} {oe : Obj} {pn : List (Addr × Obj)} (hK : X.K = K) (hz : Zc cls d oe) (hf : ∃ vs, oe.data = .fields vs) : CallR (X.suite a ((a, oe) :: pn)) (.builtin "isinstance") (rIsX K a cls d) := by
  subst hK
  intro pins s σ H xs us Q I r h
  obtain ⟨D, c, cv, b, rfl, ⟨dd, fs, rfl, ed⟩, C, rfl, hcv, e, q⟩ := h
  cases r with
  | cons rx rr =>
    cases rr with
    | cons rt rr =>
      cases rr
      cases rx
      obtain rfl := hcv _ rt
      obtain ⟨hget, _⟩ := I.pin (a, oe) (List.mem_append.mpr (.inl List.mem_cons_self))
      obtain ⟨vs, hv⟩ := hf
      have hx : ObjOk X.prog X.w H s.heap dd (.xd fs) := I.hok dd _ ed
      obtain ⟨mA, hns, _⟩ := hx
      obtain ⟨od, ho, _⟩ := lookIn_ns hns
      have J : ∃ dx, PySem.W.InstAt s.heap a oe D dx := ⟨some od, hget, hz.1, by unfold PySem.W.notCls; rw [hv] <;> rfl, by rw [hz.2]; exact ho⟩
      obtain ⟨dx, J⟩ := J
      exact PySem.W.kia_one (PySem.TwX.kit_exc C) I.kIn J e (fun z => nomatch z) fun tk => ⟨.bl b, H, I.kept (t' := tk) fun _ _ z => z, rfl, q⟩
/-- a maker with two keyword-only parameters that may let an error out -/
structure DefCDX (P : Program) (w : World) (K : PySem.W.Frag) (mg : Str → Option Value) (base : Heap) (k : Nat) (C : Addr) (ps : List Str) (sp : Sp) : Prop where
  ex : ∃ (f : Addr) (fd : FuncData), FnOk P w K mg base (L2.CX P w) k f fd ps sp ∧ Mk K C f ∧ ∃ d1 d2 : Addr, (∀ H, SqT K H d1 []) ∧ (∀ H, SqT K H d2 []) ∧ ∃ ds, Vals [.ref d1, .ref d2] ds ∧ Binds K fd ps ds
theorem HereCD.defX {P : Program} {w : World} {K : PySem.W.Frag} {mg : Str → Option Value} {base : Heap} {k : Nat} {C : Addr} {qual : Str} {st : Stmt} {ps : List Str} {sp : Sp} {f : Addr} {fd : FuncData} (h : HereCD K C qual st ps f fd) (F : FnOk P w K mg base (L2.CX P w) k f fd ps sp) : DefCDX P w K mg base k C ps sp :=
  ⟨f, fd, F, h.mkr, h.bd⟩
def tNewDX (K : PySem.W.Frag) (C : Addr) (sp : Sp) (W : WX) (t : TA) : TE := fun σ H Q => ∀ d1 d2 : Addr, (∀ H, SqT K H d1 []) → (∀ H, SqT K H d2 []) → t σ H fun vs H1 => ∀ x dx, H1 x = none → H1 dx = none → dx ≠ x →
  sp (.ref x :: (vs ++ [.ref d1, .ref d2])) (upd (upd H1 dx (.own x)) x (.ins C dx [])) (fun v H2 => v = .non ∧ Q (.ref x) H2) (WE W σ)
theorem g_newDX {K : PySem.W.Frag} {C : Addr} {sp : Sp} {W : WX} {t : TA} {σ : L2.St} {H : Hp} {Q : VK} (q : ∀ d1 d2 : Addr, (∀ H, SqT K H d1 []) → (∀ H, SqT K H d2 []) → t σ H fun vs H1 => ∀ x dx, H1 x = none → H1 dx = none → dx ≠ x →
  sp (.ref x :: (vs ++ [.ref d1, .ref d2])) (upd (upd H1 dx (.own x)) x (.ins C dx [])) (fun v H2 => v = .non ∧ Q (.ref x) H2) (WE W σ)) : tNewDX K C sp W t σ H Q := q
theorem make_at {X : Cx} {CX : CXT} {k : Nat} {f C : Addr} {fd : FuncData} {ps : List Str} {sp : Sp} {dvs : List V} {ds : List Value} {W : XK} {pins : List (Addr × Obj)} {σ : L2.St} {H : Hp} {s : Shared} {Q : VK} {us : List Value} {vs : List V} (mk : Mk X.K C f) (F : FnOk X.prog X.w X.K X.mg X.base CX k f fd ps sp) (hr : Room (k + 1) X.A) (hb : Binds X.K fd ps ds) (hv : Vals dvs ds)
    (out : PassesAt CX X σ W) (I : Inv X pins σ H s) (rv : Vals vs us) (q : ∀ x dx, H x = none → H dx = none → dx ≠ x → sp (.ref x :: (vs ++ dvs)) (upd (upd H dx (.own x)) x (.ins C dx [])) (fun v H2 => v = .non ∧ Q (.ref x) H2) W) :
    wpAny (model X.prog X.w) X.A (call (.ref C) us) (EP X pins σ Q) X.xe s := by
  have asked := q (s.heap.objs.size + 1) s.heap.objs.size (I.hok.fresh (Nat.le_succ _)) (I.hok.fresh (Nat.le_refl _)) (Nat.ne_of_lt (Nat.lt_succ_self _))
  have J := Inv.made (C := C) I
  have all : Vals (V.ref (s.heap.objs.size + 1) :: (vs ++ dvs)) (Value.ref (s.heap.objs.size + 1) :: (us ++ ds)) := .cons rfl (rv.append hv)
  have len : (Value.ref (s.heap.objs.size + 1) :: us ++ ds).length = ps.length := (F.len _ _ _ _ asked ▸ all.length).symm
  have body := F.run _ X.stack _ _ ⟨Value.ref (s.heap.objs.size + 1) :: us, []⟩ (Value.ref (s.heap.objs.size + 1) :: (us ++ ds)) _ _ W (hr.make C us []) (J.env0.make C us []) (hb _ (Value.ref (s.heap.objs.size + 1) :: us) J.kIn len) all asked
  refine wpAny_call (make_map (f := f) I.kIn mk.makes mk.init (beq_iff_eq.mp mk.fn) (codeAny_mono body fun res s2 told => ?_))
  rcases res with er | fl
  · exact out pins _ _ er s2 J told
  · rcases fl with _ | _ | _ | u
    case ret =>
      obtain ⟨v, H3, I3, r3, ev, q3⟩ := J.after told
      subst ev
      exact ⟨r3, ⟨V.ref (s.heap.objs.size + 1), H3, I3, rfl, q3⟩⟩
    all_goals exact False.elim told
theorem pe_newDX {X : Cx} {K : PySem.W.Frag} {W : WX} {k j : Nat} {C : Addr} {x : Str} {p pos : Pos} {e : Expr} {es : List Expr} {ps : List Str} {sp : Sp} {t : TA} (tk : Takes X W) (hK : X.K = K)
    (D : DefCDX X.prog X.w K X.mg X.base k C ps sp) (hr : Room j X.A) (hg : Gl X x) (hm : X.mg x = some (.ref C)) (ha : PA X (e :: es) t) (hk : k + 1 ≤ j := by decide) (hdb : (x == ("__debug__" : Str)) = false := by decide)
    (he : starEach (e :: es) X.env = (false, eval e X.env) :: starEach es X.env := by rfl) (hpl : (backTo pos (starEach es X.env)).any (·.1) = false := by rfl) : PE X (.Call (.Name x p) (e :: es) [] pos) (tNewDX K C sp W t) := by
  subst hK
  obtain ⟨f, fd, F, mk, d1, d2, e1, e2, ds, hv, hb⟩ := D.ex
  refine ⟨fun pins s σ H Q I h => wpAny_Call_Name_kw (ld_glob I hg hm ?_ hdb)⟩
  refine PySem.W.callWith_K (h₀ := X.base) I.ok.mod.kin mk.kp (thn (ha.run pos pins s σ H _ I (h d1 d2 e1 e2)) fun us s1 ⟨vs, H1, J, rv, q⟩ => ⟨J.kIn, make_at mk F (hr.mono hk) hb hv (passAt tk σ) J rv q⟩) he hpl
end Tw

set_option Elab.async false
set_option linter.all false
set_option maxRecDepth 100000
set_option maxHeartbeats 4000000
/-! makers with two keyword-only parameters, that are given -/
namespace Tw
open PySem PySem.Spec PyProof.Rows L2
structure HereCK (K : PySem.W.Frag) (C : Addr) (qual : Str) (st : Stmt) (ps : List Str) (n : Nat) (k1 k2 : Str) (f : Addr) (fd : FuncData) : Prop where
  cd : HereCD K C qual st ps f fd
  kb : KBn K fd ps (n + 1) [k1, k2] (fun us ws => us ++ ws) (fun vs zs => vs ++ zs)
theorem HereCK.fn {K : PySem.W.Frag} {C : Addr} {qual : Str} {st : Stmt} {ps : List Str} {n : Nat} {k1 k2 : Str} {f : Addr} {fd : FuncData} (h : HereCK K C qual st ps n k1 k2 f fd) : Fun K "__init__" qual st f fd := h.cd.fn
structure DefCK (P : Program) (w : World) (K : PySem.W.Frag) (mg : Str → Option Value) (base : Heap) (k : Nat) (C : Addr) (ps : List Str) (n : Nat) (k1 k2 : Str) (sp : Sp) : Prop where
  cd : DefCD P w K mg base k C ps sp
  kb : ∃ (f : Addr) (fd : FuncData), FnOk P w K mg base CX0 k f fd ps sp ∧ Mk K C f ∧ KBn K fd ps (n + 1) [k1, k2] (fun us ws => us ++ ws) (fun vs zs => vs ++ zs)
theorem HereCK.def {P : Program} {w : World} {K : PySem.W.Frag} {mg : Str → Option Value} {base : Heap} {k n : Nat} {C : Addr} {qual : Str} {st : Stmt} {ps : List Str} {k1 k2 : Str} {sp : Sp} {f : Addr} {fd : FuncData} (h : HereCK K C qual st ps n k1 k2 f fd) (F : FnOk P w K mg base CX0 k f fd ps sp) : DefCK P w K mg base k C ps n k1 k2 sp :=
  ⟨h.cd.def F, f, fd, F, h.cd.mkr, h.kb⟩
section
variable {X : Cx} {K : PySem.W.Frag} {k j n : Nat} {C : Addr} {x k1 k2 : Str} {p pos p1 p2 : Pos} {e e1 e2 : Expr} {es : List Expr} {ps : List Str} {sp : Sp} {t : TA} {t1 t2 : TE}
theorem pe_newK (D : DefCK X.prog X.w X.K X.mg X.base k C ps n k1 k2 sp) (hr : Room j X.A) (hg : Gl X x) (hm : X.mg x = some (.ref C)) (ha : PA X (e :: es) t) (h1 : PE X e1 t1) (h2 : PE X e2 t2) (hk : k + 1 ≤ j := by decide)
    (hall : (backToKw pos (keywordEach [⟨some k1, e1, p1⟩, ⟨some k2, e2, p2⟩] X.env)).all (·.1.isSome) = true := by rfl) (hks : (backToKw pos (keywordEach [⟨some k1, e1, p1⟩, ⟨some k2, e2, p2⟩] X.env)).filterMap (·.1) = [k1, k2] := by rfl)
    (hdb : (x == ("__debug__" : Str)) = false := by decide) (he : starEach (e :: es) X.env = (false, eval e X.env) :: starEach es X.env := by rfl)
    (hpl : ((backTo pos (starEach (e :: es) X.env)).any (·.1) || (backToKw pos (keywordEach [⟨some k1, e1, p1⟩, ⟨some k2, e2, p2⟩] X.env)).any (·.1.isNone)) = false := by rfl) :
    PE X (.Call (.Name x p) (e :: es) [⟨some k1, e1, p1⟩, ⟨some k2, e2, p2⟩] pos) (tMakeN C n 2 sp (fun vs zs => vs ++ zs) E0 t (tCons t1 (tCons t2 tNil))) := by
  obtain ⟨f, fd, F, mk, kb⟩ := D.kb
  exact pe_makeN mk F (hr.mono hk) hg hm kb pass0 ha (pk_cons h1 (pk_cons h2 pk_nil)) hall hks hdb he hpl
theorem g_newK {σ : L2.St} {H : Hp} {Q : VK} (q : t σ H fun vs H1 => t1 σ H1 fun z1 H2 => t2 σ H2 fun z2 H3 => vs.length = n ∧ 2 = 2 ∧ ∀ x dx, H3 x = none → H3 dx = none → dx ≠ x → sp ((.ref x :: vs) ++ [z1, z2]) (upd (upd H3 dx (.own x)) x (.ins C dx [])) (fun v H4 => v = .non ∧ Q (.ref x) H4) E0) :
    tMakeN C n 2 sp (fun vs zs => vs ++ zs) E0 t (tCons t1 (tCons t2 tNil)) σ H Q := q
end
theorem kw_kb2 {K : PySem.W.Frag} {fd : FuncData} {k1 k2 : Str} {ps : List Str} {n : Nat} (h : ∀ us : List Value, us.length = n → ∀ u v : Value, bindArgs fd ⟨us, [(k1, u), (k2, v)]⟩ = pure (ps.zip (us ++ [u, v]))) : KBn K fd ps n [k1, k2] (fun us ws => us ++ ws) (fun vs zs => vs ++ zs) := by
  refine ⟨fun s us ws X l1 l2 => ?_, fun r1 r2 => r1.append r2⟩
  match ws, l2 with
  | [u, v], _ => exact .of_eq (h us l1 u v)
end Tw

set_option Elab.async false
set_option linter.all false
set_option maxRecDepth 100000
/-! == and != by an own __eq__, whatever it answers; len by an own __len__; == of nested tuples and lists -/
namespace Tw
open PySem PySem.Spec PySem.Calls PyProof.Rows PySem.W
theorem ne_slot : Slot "object" ("__ne__" : Str) "object.__ne__" := .of (owner := "object") (n := "__ne__") (by rw [typeLookup_type, builtinLookup_eq_fast]; kernel_rfl) (by decide +kernel) (by decide +kernel) (by decide +kernel)
  (.inl (by decide +kernel)) (by rw [isSubtype_type]; kernel_rfl)
section
variable {prog : Program} {w : World} {A : Around} {E : Value → Shared → Prop} {s : Shared} {K : Frag} {x C L f : Addr} {h₀ : Heap} {m : Str → Option Value} {ox : Obj} {od : Option Obj} {b tb : Value}
/-- a != b by the class's own __eq__, turned -/
theorem ne_by_eq {R : Value → Shared → Prop} (room : A.units + 1 < cLine) (fr : Fr h₀ L s.heap m) (k0 : K.In h₀) (inst : InstAt s.heap x ox C od) (tyb : Looks (model prog w) s.heap (typeOf b) tb) (nf : notFirst K C tb = true)
    (ne : findIn K (.ref C) "__ne__" = some (some (.builtin "object.__ne__"))) (ob : subIn K (.ref C) (.type "object") = some true)
    (eq : findIn K (.ref C) "__eq__" = some (some (.ref f))) (isf : isFn K (.ref f) = true)
    (h : wpAny (model prog w) A.in1 (call (.ref f) [.ref x, b]) (fun v t => ∃ r, v = .bool r ∧ R (.bool (!r)) t) E s) : wpAny (model prog w) A (richCompare .NotEq (.ref x) b) R E s := by
  have kin := k0.keeps fr.keep
  have body : wpAny (model prog w) A.in1 (Builtin.«object.__ne__» ⟨[.ref x, b], []⟩) (fun fin t => match fin with
      | .done r => wants (fun v t => v ≠ .notImplemented ∧ R v t) E (.ok r) t
      | .again c => c.quiet = true ∧ codeAny (model prog w) A c (wants (fun v t => v ≠ .notImplemented ∧ R v t) E) t) (fun e t => wants (fun v t => v ≠ .notImplemented ∧ R v t) E (.error e) t) s := by
    unfold Builtin.«object.__ne__»
    refine wpAny_bind (wpAny_pure ?_)
    refine wpAny_bind (wpAny_cRoomFor (show A.units + 1 < cLine from room) ?_)
    refine wpAny_bind (ifBound_K kin inst eq isf (wpAny_mono h (fun v t hv => ?_) fun _ _ e => e))
    obtain ⟨r, rfl, q⟩ := hv
    refine wpAny_bind (wpAny_truthy_bool ?_)
    exact wpAny_pure ⟨(fun z => nomatch z), q⟩
  have asked : wpAny (model prog w) A (tryCompare (.ref x) "__ne__" b) (fun r t => ∃ v, r = some v ∧ R v t) E s := by
    unfold tryCompare
    simp only [callSpecialIfBound?, bindSpecialIfBound?]
    have called : wpAny (model prog w) A (call (.builtin "object.__ne__") ([.ref x] ++ [b]) >>= fun v => pure (some v)) (fun r t => ∃ v, r = some v ∧ v ≠ .notImplemented ∧ R v t) E s := by
      refine wpAny_bind (wpAny_mono (wpAny_call (codeAny_call_builtin (R := wants (fun v t => v ≠ .notImplemented ∧ R v t) E) ne_slot.plain F.cmpEntry_ne (check_slot F.cmpKind_ne F.cmpSplit_ne (inst.type.andThen (looks_subIn kin ob)) (F.cmpArgs_ne _ _) body))) (fun v t hv => wpAny_pure ⟨v, rfl, hv⟩) fun _ _ e => e)
    have back : ∀ (r : Option Value) (t : Shared), (∃ v, r = some v ∧ v ≠ .notImplemented ∧ R v t) → wpAny (model prog w) A (match r with | some .notImplemented | none => pure none | some v => pure (some v)) (fun r t => ∃ v, r = some v ∧ R v t) E t := by
      rintro r t ⟨v, rfl, hn, q⟩
      cases v <;> first | exact absurd rfl hn | exact wpAny_pure ⟨_, rfl, q⟩
    refine wpAny_bind (wpAny_holding (wpAny_bind (wpAny_bind (wpAny_bind (inst.type.here ((looks_findIn kin ne).here ?_))))))
    refine wpAny_bind (wpAny_askSetting (wpAny_ite ?_))
    simp only [ne_slot.bind]
    split
    · refine wpAny_bind (wpAny_pure (wpAny_pure ?_))
      exact wpAny_mono called back fun _ _ e => e
    · refine wpAny_tryCatch (wpAny_bind (wpAny_pure (wpAny_pure ?_)))
      exact wpAny_mono called back fun _ _ e => e
  unfold richCompare
  simp only [oneThing_ref]
  refine wpAny_holding (wpAny_bind (wpAny_cRoomFor (by omega) (wpAny_bind (inst.type.here (wpAny_bind (tyb.here ?_))))))
  have rest : ∀ {t : Shared}, t = s → wpAny (model prog w) A (tryCompare (.ref x) "__ne__" b) (fun r t => ∃ v, r = some v ∧ R v t) E t := fun e => e ▸ asked
  split
  · rename_i diff
    have no : subIn K tb (.ref C) = some false := (Bool.or_eq_true_iff.mp nf).elim (fun z => by rw [beq_iff_eq.mp z] at diff; simp at diff) fun z => beq_iff_eq.mp z
    refine wpAny_bind ((looks_subIn kin no).here ?_)
    simp only [Bool.false_eq_true, if_false]
    exact wpAny_bind (wpAny_mono asked (fun r t ⟨v, hv, q⟩ => by subst hv; exact wpAny_pure q) fun _ _ e => e)
  · refine wpAny_bind (wpAny_pure ?_)
    simp only [Bool.false_eq_true, if_false]
    exact wpAny_bind (wpAny_mono asked (fun r t ⟨v, hv, q⟩ => by subst hv; exact wpAny_pure q) fun _ _ e => e)
end
end Tw

namespace Tw
open PySem L2 PySem.Spec PyProof.Rows
section
variable {X : Cx} {k j : Nat} {C : Addr} {ps : List Str} {sp : Sp}
/-- what stands on the right of an own == -/
def Beside (K : PySem.W.Frag) (C : Addr) (H : Hp) (y : V) : Prop := (∃ (b dy : Addr) (gs : List (Str × V)), y = .ref b ∧ H b = some (.ins C dy gs)) ∨ ∃ T : String, T ∈ kinds7 ∧ TyX K H y (.type T)
def rEqOwn (K : PySem.W.Frag) (C : Addr) (sp : Sp) : R2 := fun x y H Q => ∃ (a dx : Addr) (fs : List (Str × V)), x = .ref a ∧ H a = some (.ins C dx fs) ∧ Beside K C H y ∧ sp [x, y] H Q E0
def rNeOwn (K : PySem.W.Frag) (C : Addr) (sp : Sp) : R2 := fun x y H Q => ∃ (a dx : Addr) (fs : List (Str × V)), x = .ref a ∧ H a = some (.ins C dx fs) ∧ Beside K C H y ∧ sp [x, y] H (fun v H' => ∃ b, v = .bl b ∧ Q (.bl (!b)) H') E0
theorem beside_ty {pins : List (Addr × Obj)} {s : Shared} {σ : L2.St} {H : Hp} {y : V} {u : Value} (I : Inv X pins σ H s) (ry : RelV y u) (h : Beside X.K C H y) : ∃ tb, PySem.W.Looks (model X.prog X.w) s.heap (typeOf u) tb ∧ PySem.W.notFirst X.K C tb = true := by
  rcases h with ⟨b, dy, gs, rfl, eb⟩ | ⟨T, hT, ty⟩
  · cases (show u = Value.ref b from ry)
    obtain ⟨_, OB, _⟩ := ins_get I.hok eb
    obtain ⟨_, ib, _⟩ := OB.look
    exact ⟨.ref C, ib.type, by simp [PySem.W.notFirst]⟩
  · obtain ⟨Pk, kx, pk, _⟩ := kit_of I ry ty
    refine ⟨.type T, kx.ty _ _ I.kIn pk, ?_⟩
    have := (kin_and (K := X.K) (C := C) T hT).2.2
    simp [PySem.W.notFirst, this]
theorem op_eqOwn {K : PySem.W.Frag} (hK : X.K = K) (D : DefM X.prog X.w X.K X.mg X.base k C "__eq__" ps sp) (hr : Room j X.A) (hk : k ≤ j := by decide) : OpR X (compareOp .Eq) (rEqOwn K C sp) := by
  subst hK
  intro pins s σ H x y v u Q I rx ry h
  obtain ⟨a, dx, fs, rfl, ea, hb, q⟩ := h
  obtain rfl : v = Value.ref a := rx
  obtain ⟨tb, tyb, nf⟩ := beside_ty I ry hb
  obtain ⟨f, fd, F, hm, hbd⟩ := D.ex
  obtain ⟨_, OA, _⟩ := ins_get I.hok ea
  obtain ⟨_, ia, _⟩ := OA.look
  obtain ⟨m, fr⟩ := I.fr
  show wpAny (model X.prog X.w) X.A (richCompare .Eq (.ref a) u) (EP X pins σ Q) X.xe s
  refine PySem.W.cmp_K (op := .Eq) (hr.mono hk).units0 fr I.ok.mod.kin ia tyb nf hm.at_ hm.fn ?_
  exact wpAny_mono (run_fn F (hr.mono hk) hbd .nil pass0 I (vs := [.ref a, y]) (.cons (show RelV (.ref a) (.ref a) from rfl) (.cons ry .nil)) q) (fun _ _ z => back_of z) fun _ _ z => z
/-- the class's != is object's -/
structure OwnNe (K : PySem.W.Frag) (C : Addr) : Prop where
  ne : PySem.W.findIn K (.ref C) "__ne__" = some (some (.builtin "object.__ne__"))
  ob : PySem.W.subIn K (.ref C) (.type "object") = some true
theorem op_neOwn {K : PySem.W.Frag} (hK : X.K = K) (N : OwnNe K C) (D : DefM X.prog X.w X.K X.mg X.base k C "__eq__" ps sp) (hr : Room j X.A) (hk : k + 1 ≤ j := by decide) : OpR X (compareOp .NotEq) (rNeOwn K C sp) := by
  subst hK
  intro pins s σ H x y v u Q I rx ry h
  obtain ⟨a, dx, fs, rfl, ea, hb, q⟩ := h
  obtain rfl : v = Value.ref a := rx
  obtain ⟨tb, tyb, nf⟩ := beside_ty I ry hb
  obtain ⟨f, fd, F, hm, hbd⟩ := D.ex
  obtain ⟨_, OA, _⟩ := ins_get I.hok ea
  obtain ⟨_, ia, _⟩ := OA.look
  obtain ⟨m, fr⟩ := I.fr
  have hr1 := (hr.mono hk)
  show wpAny (model X.prog X.w) X.A (richCompare .NotEq (.ref a) u) (EP X pins σ Q) X.xe s
  refine ne_by_eq (by have := hr1.un; omega) fr I.ok.mod.kin ia tyb nf N.ne N.ob hm.at_ hm.fn ?_
  have r2 : Vals [V.ref a, y] [Value.ref a, u] := .cons (show RelV (.ref a) (.ref a) from rfl) (.cons ry .nil)
  have hl := F.len _ _ _ _ q
  refine wpAny_call (codeAny_mono (F.run X.A.in1 X.stack s H ⟨[.ref a, u], []⟩ [.ref a, u] [.ref a, y] _ E0 hr1.in1 I.env0.in1 (by
    have := hbd s [.ref a, u] I.kIn (by simpa using hl)
    simpa using this) r2 q) fun r t told => ?_)
  rcases r with e | fl
  · exact (show False from told).elim
  · cases fl with
    | ret g =>
      obtain ⟨z, H', I', rz, b, ez, fin⟩ := I.after told
      subst ez
      cases (show g = Value.bool b from rz)
      exact ⟨b, rfl, .bl (!b), H', I', rfl, fin⟩
    | next => exact False.elim told
    | brk => exact False.elim told
    | cont => exact False.elim told
/-- len of an instance, by its class's own __len__ -/
def rLenOwn (C : Addr) (sp : Sp) : List V → Hp → VK → Prop := fun xs H Q => ∃ (a dx : Addr) (fs : List (Str × V)), xs = [.ref a] ∧ H a = some (.ins C dx fs) ∧ sp xs H (fun v H' => ∃ n : Nat, v = .int n ∧ n < 1000000 ∧ Q v H') E0
theorem call_lenOwn (D : DefM X.prog X.w X.K X.mg X.base k C "__len__" ps sp) (hr : Room j X.A) (hk : k + 1 ≤ j := by decide) : CallR X (.builtin "len") (rLenOwn C sp) := by
  intro pins s σ H xs us Q I rv h
  obtain ⟨a, dx, fs, rfl, ea, q⟩ := h
  obtain ⟨u, rfl, rx⟩ := vals1 rv
  obtain rfl : u = Value.ref a := rx
  obtain ⟨f, fd, F, hm, hbd⟩ := D.ex
  obtain ⟨_, OA, _⟩ := ins_get I.hok ea
  obtain ⟨_, ia, _⟩ := OA.look
  obtain ⟨m, fr⟩ := I.fr
  have hr1 := (hr.mono hk)
  refine PySem.W.len_K fr I.ok.mod.kin ia hm.at_ hm.fn ?_
  have r2 : Vals [V.ref a] [Value.ref a] := .cons (show RelV (.ref a) (.ref a) from rfl) .nil
  have hl := F.len _ _ _ _ q
  refine wpAny_call (codeAny_mono (F.run X.A.in1 X.stack s H ⟨[.ref a], []⟩ [.ref a] [.ref a] _ E0 hr1.in1 I.env0.in1 (by
    have := hbd s [.ref a] I.kIn (by simpa using hl)
    simpa using this) r2 q) fun r t told => ?_)
  rcases r with e | fl
  · exact (show False from told).elim
  · cases fl with
    | ret g =>
      obtain ⟨z, H', I', rz, n, ez, hn, fin⟩ := I.after told
      subst ez
      obtain ⟨tk, rfl⟩ := (show ∃ tk, g = Value.int (n : Int) tk from rz)
      exact ⟨⟨by omega, by omega⟩, .int n, H', I'.tok _, ⟨_, rfl⟩, fin⟩
    | next => exact False.elim told
    | brk => exact False.elim told
    | cont => exact False.elim told
end
/-- one step of == of two tuples or two lists, the items' answers told by E -/
def RcNest (K : PySem.W.Frag) (H : Hp) (E : V → V → Bool → Prop) (x y : V) (r : Bool) : Prop :=
  (∃ (a b : Addr) (xs ys : List V) (e : Nat → Bool), x = .ref a ∧ y = .ref b ∧ SqT K H a xs ∧ SqT K H b ys ∧ (∀ (i : Nat) x y, xs[i]? = some x → ys[i]? = some y → E x y (e i)) ∧ r = ((List.range (min xs.length ys.length)).all e && xs.length == ys.length)) ∨
  (∃ (a b : Addr) (xs ys : List V) (e : Nat → Bool), x = .ref a ∧ y = .ref b ∧ SqL K H a xs ∧ SqL K H b ys ∧ xs.length = ys.length ∧ (∀ (i : Nat) x y, xs[i]? = some x → ys[i]? = some y → E x y (e i)) ∧ r = (List.range xs.length).all e) ∨
  (∃ (a b : Addr) (xs ys : List V), x = .ref a ∧ y = .ref b ∧ SqL K H a xs ∧ SqL K H b ys ∧ xs.length ≠ ys.length ∧ r = false) ∨
  (∃ (a b : Addr) (xs ys : List V), x = .ref a ∧ y = .ref b ∧ ((SqL K H a xs ∧ SqT K H b ys) ∨ (SqT K H a xs ∧ SqL K H b ys)) ∧ r = false)
/-- == of nested data, the same things found by their places -/
def EqNest (K : PySem.W.Frag) (H : Hp) : Nat → V → V → Bool → Prop
  | 0 => fun _ _ _ => False
  | n + 1 => fun x y r => (flatV x = true ∧ flatV y = true ∧ r = eqV x y) ∨ (∃ a, x = .ref a ∧ y = .ref a ∧ r = true) ∨ (x ≠ y ∧ RcNest K H (EqNest K H n) x y r)
section
variable {X : Cx} {pins : List (Addr × Obj)} {σ : L2.St} {H : Hp} {s : Shared}
theorem items_at {A : Around} {F : V → V → Bool → Prop} (ih : ∀ x y r v u, F x y r → RelV x v → RelV y u → SeqAt.EqAt A s v u r) {xs ys : List V} {us ws : List Value} {e : Nat → Bool} (h : ∀ (i : Nat) x y, xs[i]? = some x → ys[i]? = some y → F x y (e i)) (r1 : Vals xs us) (r2 : Vals ys ws)
    (i : Nat) (h1 : i < us.toArray.size) (h2 : i < ws.toArray.size) : SeqAt.EqAt A s us.toArray[i] ws.toArray[i] (e i) := by
  have g1 : i < us.length := by simpa using h1
  have g2 : i < ws.length := by simpa using h2
  have k1 : i < xs.length := by rw [r1.length]; exact g1
  have k2 : i < ys.length := by rw [r2.length]; exact g2
  obtain ⟨u, hu, ru⟩ := r1.get (List.getElem?_eq_getElem k1)
  obtain ⟨v, hv, rv⟩ := r2.get (List.getElem?_eq_getElem k2)
  have e1 : us.toArray[i] = u := by
    have := List.getElem?_eq_getElem g1
    rw [hu] at this
    simpa using (Option.some.inj this).symm
  have e2 : ws.toArray[i] = v := by
    have := List.getElem?_eq_getElem g2
    rw [hv] at this
    simpa using (Option.some.inj this).symm
  rw [e1, e2]
  exact ih _ _ _ _ _ (h i _ _ (List.getElem?_eq_getElem k1) (List.getElem?_eq_getElem k2)) ru rv
theorem rcD_run (I : Inv X pins σ H s) {A : Around} {F : V → V → Bool → Prop} (hu : A.units < cLine) (ih : ∀ x y r v u, F x y r → RelV x v → RelV y u → SeqAt.EqAt A.in1 s v u r) {x y : V} {r : Bool} {v u : Value} (h : RcNest X.K H F x y r) (rx : RelV x v) (ry : RelV y u) : SeqAt.RcAt A s v u r := by
  rcases h with ⟨a, b, xs, ys, e, rfl, rfl, ha, hb, hi, rfl⟩ | ⟨a, b, xs, ys, e, rfl, rfl, ha, hb, hl, hi, rfl⟩ | ⟨a, b, xs, ys, rfl, rfl, ha, hb, hl, rfl⟩ | ⟨a, b, xs, ys, rfl, rfl, hab, rfl⟩
  all_goals
    cases (show v = Value.ref a from rx)
    cases (show u = Value.ref b from ry)
  · obtain ⟨us, r1, p1, _⟩ := I.tuple ha
    obtain ⟨ws, r2, p2, _⟩ := I.tuple hb
    have q := SeqAt.RcAt.tuples p1 p2 hu (items_at ih hi r1 r2)
    rw [List.size_toArray, List.size_toArray, ← r1.length, ← r2.length] at q
    exact q
  · obtain ⟨us, r1, p1, _⟩ := I.list ha
    obtain ⟨ws, r2, p2, _⟩ := I.list hb
    have q := SeqAt.RcAt.lists p1.isList p2.isList (by rw [List.size_toArray, List.size_toArray, ← r1.length, ← r2.length]; exact hl) hu (items_at ih hi r1 r2)
    rw [List.size_toArray, ← r1.length] at q
    exact q
  · obtain ⟨us, r1, p1, _⟩ := I.list ha
    obtain ⟨ws, r2, p2, _⟩ := I.list hb
    exact SeqAt.RcAt.lists_lengths p1.isList p2.isList (by rw [List.size_toArray, List.size_toArray, ← r1.length, ← r2.length]; simpa using hl) hu
  · rcases hab with ⟨ha, hb⟩ | ⟨ha, hb⟩
    · obtain ⟨us, r1, p1, _⟩ := I.list ha
      obtain ⟨ws, r2, p2, _⟩ := I.tuple hb
      exact SeqAt.RcAt.list_tuple p1.isList p2 hu
    · obtain ⟨us, r1, p1, _⟩ := I.tuple ha
      obtain ⟨ws, r2, p2, _⟩ := I.list hb
      exact SeqAt.RcAt.tuple_list p1 p2.isList hu
theorem eqD_run (I : Inv X pins σ H s) : ∀ (n : Nat) (A : Around), A.units + n < cLine → ∀ (x y : V) (r : Bool) (v u : Value), EqNest X.K H n x y r → RelV x v → RelV y u → SeqAt.EqAt A s v u r
  | 0, _, _, _, _, _, _, _, h, _, _ => (show False from h).elim
  | n + 1, A, hu, x, y, r, v, u, h, rx, ry => by
    rcases h with ⟨fx, fy, rfl⟩ | ⟨a, rfl, rfl, rfl⟩ | ⟨hne, h⟩
    · exact eqAt_V rx ry fx fy
    · cases (show v = Value.ref a from rx)
      cases (show u = Value.ref a from ry)
      exact SeqAt.EqAt.same _
    · have q := rcD_run I (A := A) (by omega) (eqD_run I n A.in1 (by show A.units + 1 + n < cLine; omega)) h rx ry
      obtain ⟨a, b, rfl, rfl⟩ : ∃ a b, x = .ref a ∧ y = .ref b := by
        rcases h with ⟨a, b, _, _, _, e1, e2, _⟩ | ⟨a, b, _, _, _, e1, e2, _⟩ | ⟨a, b, _, _, e1, e2, _⟩ | ⟨a, b, _, _, e1, e2, _⟩ <;> exact ⟨a, b, e1, e2⟩
      cases (show v = Value.ref a from rx)
      cases (show u = Value.ref b from ry)
      exact SeqAt.EqAt.of_refs (fun e => hne (by rw [e])) q
end
section
variable {K : PySem.W.Frag} {H : Hp} {n : Nat} {a b : Addr} {xs ys : List V}
theorem all_true {m : Nat} : (List.range m).all (fun _ => true) = true := List.all_eq_true.mpr fun _ _ => rfl
theorem EqNest.flatS {v : V} (f : flatV v = true) (e : eqV v v = true) : EqNest K H (n + 1) v v true := .inl ⟨f, f, e.symm⟩
theorem EqNest.same : EqNest K H (n + 1) (.ref a) (.ref a) true := .inr (.inl ⟨a, rfl, rfl, rfl⟩)
theorem EqNest.tupT (ha : SqT K H a xs) (hb : SqT K H b ys) (hl : xs.length = ys.length) (hi : ∀ (i : Nat) x y, xs[i]? = some x → ys[i]? = some y → EqNest K H n x y true) : EqNest K H (n + 1) (.ref a) (.ref b) true := by
  by_cases e : a = b
  · rw [e]; exact .same
  · exact .inr (.inr ⟨fun z => e (by injection z), .inl ⟨a, b, xs, ys, fun _ => true, rfl, rfl, ha, hb, hi, by rw [all_true, hl, beq_self_eq_true]; rfl⟩⟩)
theorem EqNest.lstT (ha : SqL K H a xs) (hb : SqL K H b ys) (hl : xs.length = ys.length) (hi : ∀ (i : Nat) x y, xs[i]? = some x → ys[i]? = some y → EqNest K H n x y true) : EqNest K H (n + 1) (.ref a) (.ref b) true := by
  by_cases e : a = b
  · rw [e]; exact .same
  · exact .inr (.inr ⟨fun z => e (by injection z), .inr (.inl ⟨a, b, xs, ys, fun _ => true, rfl, rfl, ha, hb, hl, hi, by rw [all_true]⟩)⟩)
end
section
variable {X : Cx}
/-- x == y, two tuples or two lists -/
def rEqNest (K : PySem.W.Frag) : R2 := fun x y H Q => ∃ n r, n ≤ 60 ∧ RcNest K H (EqNest K H n) x y r ∧ Q (.bl r) H
theorem op_eqNest {K : PySem.W.Frag} (hK : X.K = K) (hu : X.A.units + 64 < cLine) : OpR X (compareOp .Eq) (rEqNest K) := by
  subst hK
  intro pins s σ H x y v u Q I rx ry h
  obtain ⟨n, r, hn, h, q⟩ := h
  exact rcD_run I (A := X.A) (by omega) (eqD_run I n X.A.in1 (by show X.A.units + 1 + n < cLine; omega)) h rx ry _ _ _ _ ⟨.bl r, H, I, rfl, q⟩
/-- x != y, two lists whose items are equal -/
def rNeNest (K : PySem.W.Frag) : R2 := fun x y H Q => ∃ n a b xs ys, n ≤ 60 ∧ x = .ref a ∧ y = .ref b ∧ SqL K H a xs ∧ SqL K H b ys ∧ xs.length = ys.length ∧ (∀ (i : Nat) x y, xs[i]? = some x → ys[i]? = some y → EqNest K H n x y true) ∧ Q (.bl false) H
theorem op_neNest {K : PySem.W.Frag} (hK : X.K = K) (hu : X.A.units + 64 < cLine) : OpR X (compareOp .NotEq) (rNeNest K) := by
  subst hK
  intro pins s σ H x y v u Q I rx ry h
  obtain ⟨n, a, b, xs, ys, hn, rfl, rfl, ha, hb, hl, hi, q⟩ := h
  cases (show v = Value.ref a from rx)
  cases (show u = Value.ref b from ry)
  obtain ⟨us, r1, p1, _⟩ := I.list ha
  obtain ⟨ws, r2, p2, _⟩ := I.list hb
  have hsz : us.toArray.size = ws.toArray.size := by rw [List.size_toArray, List.size_toArray, ← r1.length, ← r2.length]; exact hl
  refine SeqAt.tw_ne_lists p1.isList p2.isList hsz (by omega) (fun i h1 h2 => ?_) _ _ ⟨.bl false, H, I, rfl, q⟩
  exact (items_at (e := fun _ => true) (eqD_run I n X.A.in1 (by show X.A.units + 1 + n < cLine; omega)) hi r1 r2 i h1 h2).eqP
end
end Tw


set_option Elab.async false
set_option linter.all false
set_option maxRecDepth 100000
/-! makers that may let an error out, without keyword-only parameters -/

namespace Tw
open PySem L2 PySem.Spec
/-- a maker that may let an error out -/
structure DefCX (P : Program) (w : World) (K : PySem.W.Frag) (mg : Str → Option Value) (base : Heap) (k : Nat) (C : Addr) (ps : List Str) (sp : Sp) : Prop where
  ex : ∃ (f : Addr) (fd : FuncData), FnOk P w K mg base (L2.CX P w) k f fd ps sp ∧ Mk K C f ∧ Binds K fd ps []
theorem HereC.defX {P : Program} {w : World} {K : PySem.W.Frag} {mg : Str → Option Value} {base : Heap} {k : Nat} {C : Addr} {qual : Str} {st : Stmt} {ps : List Str} {sp : Sp} {f : Addr} {fd : FuncData} (h : HereC K C qual st ps f fd) (F : FnOk P w K mg base (L2.CX P w) k f fd ps sp) : DefCX P w K mg base k C ps sp :=
  ⟨f, fd, F, h.mkr, h.bd⟩
def tNewX (C : Addr) (sp : Sp) (W : WX) (t : TA) : TE := fun σ H Q => t σ H fun vs H1 => ∀ x dx, H1 x = none → H1 dx = none → dx ≠ x →
  sp (.ref x :: vs) (upd (upd H1 dx (.own x)) x (.ins C dx [])) (fun v H2 => v = .non ∧ Q (.ref x) H2) (WE W σ)
theorem g_newX {C : Addr} {sp : Sp} {W : WX} {t : TA} {σ : L2.St} {H : Hp} {Q : VK} (q : t σ H fun vs H1 => ∀ x dx, H1 x = none → H1 dx = none → dx ≠ x →
  sp (.ref x :: vs) (upd (upd H1 dx (.own x)) x (.ins C dx [])) (fun v H2 => v = .non ∧ Q (.ref x) H2) (WE W σ)) : tNewX C sp W t σ H Q := q
theorem pe_newX {X : Cx} {W : WX} {k j : Nat} {C : Addr} {x : Str} {p pos : Pos} {e : Expr} {es : List Expr} {ps : List Str} {sp : Sp} {t : TA} (tk : Takes X W)
    (D : DefCX X.prog X.w X.K X.mg X.base k C ps sp) (hr : Room j X.A) (hg : Gl X x) (hm : X.mg x = some (.ref C)) (ha : PA X (e :: es) t) (hk : k + 1 ≤ j := by decide) (hdb : (x == ("__debug__" : Str)) = false := by decide)
    (he : starEach (e :: es) X.env = (false, eval e X.env) :: starEach es X.env := by rfl) (hpl : (backTo pos (starEach es X.env)).any (·.1) = false := by rfl) : PE X (.Call (.Name x p) (e :: es) [] pos) (tNewX C sp W t) := by
  obtain ⟨f, fd, F, mk, hb⟩ := D.ex
  refine ⟨fun pins s σ H Q I h => wpAny_Call_Name_kw (ld_glob I hg hm ?_ hdb)⟩
  refine PySem.W.callWith_K (h₀ := X.base) I.ok.mod.kin mk.kp (thn (ha.run pos pins s σ H _ I h) fun us s1 ⟨vs, H1, J, rv, q⟩ => ⟨J.kIn, make_at mk F (hr.mono hk) hb .nil (passAt tk σ) J rv (fun x dx h1 h2 h3 => by rw [List.append_nil]; exact q x dx h1 h2 h3)⟩) he hpl
end Tw

set_option Elab.async false
set_option linter.all false
set_option maxRecDepth 100000
set_option maxHeartbeats 400000
/-! makers that may let an error out, both keyword-only parameters given or both left out -/
namespace Tw
open PySem PySem.Spec PyProof.Rows L2
structure DefCKX (P : Program) (w : World) (K : PySem.W.Frag) (mg : Str → Option Value) (base : Heap) (k : Nat) (C : Addr) (ps : List Str) (n : Nat) (k1 k2 : Str) (sp : Sp) : Prop where
  cd : DefCDX P w K mg base k C ps sp
  kb : ∃ (f : Addr) (fd : FuncData), FnOk P w K mg base (L2.CX P w) k f fd ps sp ∧ Mk K C f ∧ KBn K fd ps (n + 1) [k1, k2] (fun us ws => us ++ ws) (fun vs zs => vs ++ zs)
theorem HereCK.defX {P : Program} {w : World} {K : PySem.W.Frag} {mg : Str → Option Value} {base : Heap} {k n : Nat} {C : Addr} {qual : Str} {st : Stmt} {ps : List Str} {k1 k2 : Str} {sp : Sp} {f : Addr} {fd : FuncData} (h : HereCK K C qual st ps n k1 k2 f fd) (F : FnOk P w K mg base (L2.CX P w) k f fd ps sp) : DefCKX P w K mg base k C ps n k1 k2 sp :=
  ⟨h.cd.defX F, f, fd, F, h.cd.mkr, h.kb⟩
def tNewKX (C : Addr) (n : Nat) (sp : Sp) (W : WX) (t : TA) (t1 t2 : TE) : TE := fun σ H Q => t σ H fun vs H1 => (tCons t1 (tCons t2 tNil)) σ H1 fun zs H2 => vs.length = n ∧ zs.length = 2 ∧ ∀ x dx, H2 x = none → H2 dx = none → dx ≠ x →
  sp (.ref x :: (vs ++ zs)) (upd (upd H2 dx (.own x)) x (.ins C dx [])) (fun v H4 => v = .non ∧ Q (.ref x) H4) (WE W σ)
theorem g_newKX {C : Addr} {n : Nat} {sp : Sp} {W : WX} {t : TA} {t1 t2 : TE} {σ : L2.St} {H : Hp} {Q : VK} (q : t σ H fun vs H1 => t1 σ H1 fun z1 H2 => t2 σ H2 fun z2 H3 => vs.length = n ∧ 2 = 2 ∧ ∀ x dx, H3 x = none → H3 dx = none → dx ≠ x →
  sp (.ref x :: (vs ++ [z1, z2])) (upd (upd H3 dx (.own x)) x (.ins C dx [])) (fun v H4 => v = .non ∧ Q (.ref x) H4) (WE W σ)) : tNewKX C n sp W t t1 t2 σ H Q := q
section
variable {X : Cx} {k j n : Nat} {C f : Addr} {fd : FuncData} {x k1 k2 : Str} {p pos p1 p2 : Pos} {e e1 e2 : Expr} {es : List Expr} {ps : List Str} {sp : Sp} {t : TA} {t1 t2 : TE} {W : WX}
theorem make_atK {E : XK} {pins : List (Addr × Obj)} {σ : L2.St} {H : Hp} {s : Shared} {Q : VK} {us : List Value} {vs : List V} {z1 z2 : V} {w1 w2 : Value} (mk : Mk X.K C f) (F : FnOk X.prog X.w X.K X.mg X.base (L2.CX X.prog X.w) k f fd ps sp) (hr : Room (k + 1) X.A)
    (kb : KBn X.K fd ps (n + 1) [k1, k2] (fun us ws => us ++ ws) (fun vs zs => vs ++ zs)) (out : PassesAt (L2.CX X.prog X.w) X σ E) (I : Inv X pins σ H s) (rv : Vals vs us) (r1 : RelV z1 w1) (r2 : RelV z2 w2) (hl : vs.length = n)
    (q : ∀ x dx, H x = none → H dx = none → dx ≠ x → sp (.ref x :: (vs ++ [z1, z2])) (upd (upd H dx (.own x)) x (.ins C dx [])) (fun v H2 => v = .non ∧ Q (.ref x) H2) E) :
    wpAny (model X.prog X.w) X.A (call (.ref C) us ([k1, k2].zip [w1, w2])) (EP X pins σ Q) X.xe s := by
  have asked := q (s.heap.objs.size + 1) s.heap.objs.size (I.hok.fresh (Nat.le_succ _)) (I.hok.fresh (Nat.le_refl _)) (Nat.ne_of_lt (Nat.lt_succ_self _))
  have J := Inv.made (C := C) I
  have self : Vals (V.ref (s.heap.objs.size + 1) :: vs) (Value.ref (s.heap.objs.size + 1) :: us) := .cons rfl rv
  have kws : Vals [z1, z2] [w1, w2] := .cons r1 (.cons r2 .nil)
  have len : (Value.ref (s.heap.objs.size + 1) :: us).length = n + 1 := self.length.symm.trans (congrArg Nat.succ hl)
  have body := F.run _ X.stack _ _ ⟨Value.ref (s.heap.objs.size + 1) :: us, [k1, k2].zip [w1, w2]⟩ _ _ _ E (hr.make C us ([k1, k2].zip [w1, w2])) (J.env0.make C us ([k1, k2].zip [w1, w2])) (kb.to _ (Value.ref (s.heap.objs.size + 1) :: us) [w1, w2] J.kIn len rfl) (kb.rel self kws) asked
  refine wpAny_call (make_map (f := f) I.kIn mk.makes mk.init (beq_iff_eq.mp mk.fn) (codeAny_mono body fun res s2 told => ?_))
  rcases res with er | fl
  · exact out pins _ _ er s2 J told
  · rcases fl with _ | _ | _ | u
    case ret =>
      obtain ⟨v, H3, I3, r3, ev, q3⟩ := J.after told
      subst ev
      exact ⟨r3, ⟨V.ref (s.heap.objs.size + 1), H3, I3, rfl, q3⟩⟩
    all_goals exact False.elim told
theorem pe_newKX (tk : Takes X W) (D : DefCKX X.prog X.w X.K X.mg X.base k C ps n k1 k2 sp) (hr : Room j X.A) (hg : Gl X x) (hm : X.mg x = some (.ref C)) (ha : PA X (e :: es) t) (h1 : PE X e1 t1) (h2 : PE X e2 t2) (hk : k + 1 ≤ j := by decide)
    (hall : (backToKw pos (keywordEach [⟨some k1, e1, p1⟩, ⟨some k2, e2, p2⟩] X.env)).all (·.1.isSome) = true := by rfl) (hks : (backToKw pos (keywordEach [⟨some k1, e1, p1⟩, ⟨some k2, e2, p2⟩] X.env)).filterMap (·.1) = [k1, k2] := by rfl)
    (hdb : (x == ("__debug__" : Str)) = false := by decide) (he : starEach (e :: es) X.env = (false, eval e X.env) :: starEach es X.env := by rfl)
    (hpl : ((backTo pos (starEach (e :: es) X.env)).any (·.1) || (backToKw pos (keywordEach [⟨some k1, e1, p1⟩, ⟨some k2, e2, p2⟩] X.env)).any (·.1.isNone)) = false := by rfl) :
    PE X (.Call (.Name x p) (e :: es) [⟨some k1, e1, p1⟩, ⟨some k2, e2, p2⟩] pos) (tNewKX C n sp W t t1 t2) := by
  obtain ⟨f, fd, F, mk, kb⟩ := D.kb
  refine ⟨fun pins s σ H Q I h => wpAny_Call_Name_kw (ld_glob I hg hm ?_ hdb)⟩
  refine PySem.W.callWith_KW (h₀ := X.base) I.ok.mod.kin mk.kp hall (thn (ha.run pos pins s σ H _ I h) fun us s1 ⟨vs, H1, I1, r, q⟩ => ?_) hpl he
  refine thn ((pk_cons h1 (pk_cons h2 pk_nil)).run pos pins s1 σ H1 _ I1 q) fun ws s2 ⟨zs, H2, I2, rz, hl, h2l, q2⟩ => ⟨I2.kIn, ?_⟩
  rw [hks]
  obtain ⟨z1, z2, rfl⟩ : ∃ z1 z2, zs = [z1, z2] := by
    cases zs with
    | nil => cases h2l
    | cons z1 r =>
      cases r with
      | nil => cases h2l
      | cons z2 r =>
        cases r with
        | nil => exact ⟨z1, z2, rfl⟩
        | cons z3 r => cases h2l
  cases rz with
  | cons ra rz =>
    cases rz with
    | cons rb rz =>
      cases rz
      exact make_atK mk F (hr.mono hk) kb (passAt tk σ) I2 r ra rb hl q2
end
end Tw

set_option Elab.async false
set_option linter.all false
set_option maxRecDepth 100000
set_option maxHeartbeats 400000
/-! makers with two keyword-only parameters, of which the first alone is given -/
namespace Tw
open PySem PySem.Spec PyProof.Rows L2
structure HereC1 (K : PySem.W.Frag) (C : Addr) (qual : Str) (st : Stmt) (ps : List Str) (n : Nat) (k1 k2 : Str) (f : Addr) (fd : FuncData) : Prop where
  ck : HereCK K C qual st ps n k1 k2 f fd
  k1b : ∃ d2 : Addr, (∀ H, SqT K H d2 []) ∧ KBn K fd ps (n + 1) [k1] (fun us ws => us ++ (ws ++ [.ref d2])) (fun vs zs => vs ++ (zs ++ [.ref d2]))
theorem HereC1.fn {K : PySem.W.Frag} {C : Addr} {qual : Str} {st : Stmt} {ps : List Str} {n : Nat} {k1 k2 : Str} {f : Addr} {fd : FuncData} (h : HereC1 K C qual st ps n k1 k2 f fd) : Fun K "__init__" qual st f fd := h.ck.cd.fn
structure DefC1X (P : Program) (w : World) (K : PySem.W.Frag) (mg : Str → Option Value) (base : Heap) (k : Nat) (C : Addr) (ps : List Str) (n : Nat) (k1 k2 : Str) (sp : Sp) : Prop where
  ck : DefCKX P w K mg base k C ps n k1 k2 sp
  kb : ∃ (f : Addr) (fd : FuncData), FnOk P w K mg base (L2.CX P w) k f fd ps sp ∧ Mk K C f ∧ ∃ d2 : Addr, (∀ H, SqT K H d2 []) ∧ KBn K fd ps (n + 1) [k1] (fun us ws => us ++ (ws ++ [.ref d2])) (fun vs zs => vs ++ (zs ++ [.ref d2]))
theorem HereC1.defX {P : Program} {w : World} {K : PySem.W.Frag} {mg : Str → Option Value} {base : Heap} {k n : Nat} {C : Addr} {qual : Str} {st : Stmt} {ps : List Str} {k1 k2 : Str} {sp : Sp} {f : Addr} {fd : FuncData} (h : HereC1 K C qual st ps n k1 k2 f fd) (F : FnOk P w K mg base (L2.CX P w) k f fd ps sp) : DefC1X P w K mg base k C ps n k1 k2 sp :=
  ⟨h.ck.defX F, f, fd, F, h.ck.cd.mkr, h.k1b⟩
def tNewC1 (K : PySem.W.Frag) (C : Addr) (n : Nat) (sp : Sp) (W : WX) (t : TA) (t1 : TE) : TE := fun σ H Q => ∀ d2 : Addr, (∀ H, SqT K H d2 []) → t σ H fun vs H1 => (tCons t1 tNil) σ H1 fun zs H2 => vs.length = n ∧ zs.length = 1 ∧ ∀ x dx, H2 x = none → H2 dx = none → dx ≠ x →
  sp (.ref x :: (vs ++ (zs ++ [.ref d2]))) (upd (upd H2 dx (.own x)) x (.ins C dx [])) (fun v H4 => v = .non ∧ Q (.ref x) H4) (WE W σ)
theorem g_newC1 {K : PySem.W.Frag} {C : Addr} {n : Nat} {sp : Sp} {W : WX} {t : TA} {t1 : TE} {σ : L2.St} {H : Hp} {Q : VK} (q : ∀ d2 : Addr, (∀ H, SqT K H d2 []) → t σ H fun vs H1 => t1 σ H1 fun z1 H2 => vs.length = n ∧ 1 = 1 ∧ ∀ x dx, H2 x = none → H2 dx = none → dx ≠ x →
  sp (.ref x :: (vs ++ [z1, .ref d2])) (upd (upd H2 dx (.own x)) x (.ins C dx [])) (fun v H4 => v = .non ∧ Q (.ref x) H4) (WE W σ)) : tNewC1 K C n sp W t t1 σ H Q := q
section
variable {X : Cx} {k j n : Nat} {C f : Addr} {fd : FuncData} {x k1 k2 : Str} {p pos p1 p2 : Pos} {e e1 e2 : Expr} {es : List Expr} {ps : List Str} {sp : Sp} {t : TA} {t1 t2 : TE} {W : WX}
theorem make_at1 {E : XK} {pins : List (Addr × Obj)} {σ : L2.St} {H : Hp} {s : Shared} {Q : VK} {us : List Value} {vs : List V} {z1 : V} {w1 : Value} {d2 : Addr} (mk : Mk X.K C f) (F : FnOk X.prog X.w X.K X.mg X.base (L2.CX X.prog X.w) k f fd ps sp) (hr : Room (k + 1) X.A)
    (kb : KBn X.K fd ps (n + 1) [k1] (fun us ws => us ++ (ws ++ [.ref d2])) (fun vs zs => vs ++ (zs ++ [.ref d2]))) (out : PassesAt (L2.CX X.prog X.w) X σ E) (I : Inv X pins σ H s) (rv : Vals vs us) (r1 : RelV z1 w1) (hl : vs.length = n)
    (q : ∀ x dx, H x = none → H dx = none → dx ≠ x → sp (.ref x :: (vs ++ [z1, .ref d2])) (upd (upd H dx (.own x)) x (.ins C dx [])) (fun v H2 => v = .non ∧ Q (.ref x) H2) E) :
    wpAny (model X.prog X.w) X.A (call (.ref C) us ([k1].zip [w1])) (EP X pins σ Q) X.xe s := by
  have asked := q (s.heap.objs.size + 1) s.heap.objs.size (I.hok.fresh (Nat.le_succ _)) (I.hok.fresh (Nat.le_refl _)) (Nat.ne_of_lt (Nat.lt_succ_self _))
  have J := Inv.made (C := C) I
  have self : Vals (V.ref (s.heap.objs.size + 1) :: vs) (Value.ref (s.heap.objs.size + 1) :: us) := .cons rfl rv
  have kws : Vals [z1] [w1] := .cons r1 .nil
  have len : (Value.ref (s.heap.objs.size + 1) :: us).length = n + 1 := self.length.symm.trans (congrArg Nat.succ hl)
  have body := F.run _ X.stack _ _ ⟨Value.ref (s.heap.objs.size + 1) :: us, [k1].zip [w1]⟩ _ _ _ E (hr.make C us ([k1].zip [w1])) (J.env0.make C us ([k1].zip [w1])) (kb.to _ (Value.ref (s.heap.objs.size + 1) :: us) [w1] J.kIn len rfl) (kb.rel self kws) asked
  refine wpAny_call (make_map (f := f) I.kIn mk.makes mk.init (beq_iff_eq.mp mk.fn) (codeAny_mono body fun res s2 told => ?_))
  rcases res with er | fl
  · exact out pins _ _ er s2 J told
  · rcases fl with _ | _ | _ | u
    case ret =>
      obtain ⟨v, H3, I3, r3, ev, q3⟩ := J.after told
      subst ev
      exact ⟨r3, ⟨V.ref (s.heap.objs.size + 1), H3, I3, rfl, q3⟩⟩
    all_goals exact False.elim told
theorem pe_newC1 {K : PySem.W.Frag} (tk : Takes X W) (hK : X.K = K) (D : DefC1X X.prog X.w K X.mg X.base k C ps n k1 k2 sp) (hr : Room j X.A) (hg : Gl X x) (hm : X.mg x = some (.ref C)) (ha : PA X (e :: es) t) (h1 : PE X e1 t1) (hk : k + 1 ≤ j := by decide)
    (hall : (backToKw pos (keywordEach [⟨some k1, e1, p1⟩] X.env)).all (·.1.isSome) = true := by rfl) (hks : (backToKw pos (keywordEach [⟨some k1, e1, p1⟩] X.env)).filterMap (·.1) = [k1] := by rfl)
    (hdb : (x == ("__debug__" : Str)) = false := by decide) (he : starEach (e :: es) X.env = (false, eval e X.env) :: starEach es X.env := by rfl)
    (hpl : ((backTo pos (starEach (e :: es) X.env)).any (·.1) || (backToKw pos (keywordEach [⟨some k1, e1, p1⟩] X.env)).any (·.1.isNone)) = false := by rfl) :
    PE X (.Call (.Name x p) (e :: es) [⟨some k1, e1, p1⟩] pos) (tNewC1 K C n sp W t t1) := by
  subst hK
  obtain ⟨f, fd, F, mk, d2, s2, kb⟩ := D.kb
  refine ⟨fun pins s σ H Q I h => wpAny_Call_Name_kw (ld_glob I hg hm ?_ hdb)⟩
  refine PySem.W.callWith_KW (h₀ := X.base) I.ok.mod.kin mk.kp hall (thn (ha.run pos pins s σ H _ I (h d2 s2)) fun us s1 ⟨vs, H1, I1, r, q⟩ => ?_) hpl he
  refine thn ((pk_cons h1 pk_nil).run pos pins s1 σ H1 _ I1 q) fun ws s2 ⟨zs, H2, I2, rz, hl, h2l, q2⟩ => ⟨I2.kIn, ?_⟩
  rw [hks]
  obtain ⟨z1, rfl⟩ : ∃ z1, zs = [z1] := by
    cases zs with
    | nil => cases h2l
    | cons z1 r =>
      cases r with
      | nil => exact ⟨z1, rfl⟩
      | cons z2 r => cases h2l
  cases rz with
  | cons ra rz =>
    cases rz
    exact make_at1 mk F (hr.mono hk) kb (passAt tk σ) I2 r ra hl q2
end
theorem kw_k1 {K : PySem.W.Frag} {fd : FuncData} {D : Addr} {k1 k2 : Str} {ps : List Str} {n : Nat} {a2 : Addr} {o2 : Obj} {i2 : Array Value} {n2 : Nat} (h2 : PySem.W.nsIn K D k2 = some (some (.ref a2)))
    (l2 : K.lookup a2 = some o2) (c2 : o2.cls = .type "tuple") (g2 : o2.data = .seq i2 n2) (z2 : i2.size = 0)
    (h : ∀ us : List Value, us.length = n → ∀ u v : Value, KwChain D [(k2, v)] (bindArgs fd ⟨us, [(k1, u)]⟩) (ps.zip (us ++ ([u] ++ [v])))) :
    ∃ d2 : Addr, (∀ H, SqT K H d2 []) ∧ KBn K fd ps n [k1] (fun us ws => us ++ (ws ++ [.ref d2])) (fun vs zs => vs ++ (zs ++ [.ref d2])) := by
  have nil : Vals [] i2.toList := by
    have : i2.toList = [] := List.length_eq_zero_iff.mp (by simpa using z2)
    rw [this]
    exact .nil
  refine ⟨a2, fun H => .inr ⟨o2, i2, n2, l2, c2, g2, by rw [z2]; exact Nat.zero_le _, nil⟩, ⟨fun s us ws X l1 l2' => ?_, fun r1 r2 => r1.append (r2.append (.cons rfl .nil))⟩⟩
  match ws, l2' with
  | [u], _ =>
    refine BindsTo.of_looks fun M => KwChain.looks X (fun q hq => ?_) (h us l1 u (.ref a2))
    obtain rfl := List.mem_singleton.mp hq
    exact h2
end Tw

set_option Elab.async false
set_option linter.all false
set_option maxRecDepth 100000
set_option maxHeartbeats 4000000
/-! == with either answer, an own __eq__ asked inside tuples -/
namespace PySem.SeqAt
open AutoSeq1 (wpAny_loadPart')
open MeetsSeq MeetsSeq2 MeetsSeq3 SeqRoads2
section
variable {prog : Program} {w : World} {A : Around} {R : Result → Shared → Prop}
theorem tw_tuple_scan (l b : Addr) (items items2 : Array Value) (n n2 : Nat) (dd dd2 : Option Addr) (sl sl2 : Array (Option Value)) (J : List Value → List Value → Shared → Prop)
    (turn : ∀ u us v vs t, J (u :: us) (v :: vs) t → wpAny (model prog w) A.in1 (eqBool u v) (fun r t' => (r = true ∧ J us vs t') ∨ (r = false ∧ R (.ok (.ret (.bool false))) t')) (fun e t' => R (.error e) t') t)
    (fin : ∀ us vs t, us = [] ∨ vs = [] → J us vs t → R (.ok (.ret (.bool (us.length == vs.length)))) t) {s : Shared} (hl : s.heap.get? l = some { cls := .type "tuple", dict := dd, data := .seq items n, slots := sl }) (hb : s.heap.get? b = some { cls := .type "tuple", dict := dd2, data := .seq items2 n2, slots := sl2 })
    (h0 : J items.toList items2.toList s) : wpAny (model prog w) A.in1 (Builtin.«tuple.__eq__» ⟨[.ref l, .ref b], []⟩) (GQ.FinOf prog w A R) (fun e t => R (.error e) t) s := by
  have sub := AutoSeq1.sub_tuple_tuple
  obtain ⟨hp, g, d, tk, os⟩ := s
  wp_walk using wpAny_loadPart' hl, wpAny_loadPart' hb, wpAny_forIn_list _ (fun rest acc t => acc.1 = none ∧ ∃ k, rest = (items.toList.drop k).zip (items2.toList.drop k) ∧ k ≤ items.size ∧ k ≤ items2.size ∧ J (items.toList.drop k) (items2.toList.drop k) t) _
  case turn =>
    rintro ⟨y, x⟩ rest acc t ⟨hacc, k, hz, k1, k2, hJ⟩
    cases e1 : items.toList.drop k with
    | nil => rw [e1] at hz; cases hz
    | cons u us =>
      cases e2 : items2.toList.drop k with
      | nil => rw [e1, e2] at hz; cases hz
      | cons v vs =>
        rw [e1, e2] at hz hJ
        rw [List.zip_cons_cons] at hz
        injection hz with ha hr
        injection ha with hy hx
        subst hy hx
        have d1 : items.toList.drop (k + 1) = us := by rw [← List.tail_drop, e1]; rfl
        have d2 : items2.toList.drop (k + 1) = vs := by rw [← List.tail_drop, e2]; rfl
        have s1 : k < items.size := by
          have := congrArg List.length e1
          simp at this
          omega
        have s2 : k < items2.size := by
          have := congrArg List.length e2
          simp at this
          omega
        refine wpAny_bind (wpAny_mono (turn _ _ _ _ _ hJ) (fun r t' told => ?_) fun _ _ z => z)
        rcases told with ⟨rfl, q⟩ | ⟨rfl, q⟩
        · wp_walk
          exact ⟨rfl, k + 1, by rw [d1, d2]; exact hr, s1, s2, by rw [d1, d2]; exact q⟩
        · wp_walk
          exact q
  case fin =>
    rintro ⟨c1, c2⟩ t ⟨hacc, k, hz, k1, k2, hJ⟩
    simp only at hacc
    subst hacc
    have he : items.toList.drop k = [] ∨ items2.toList.drop k = [] := by
      cases e1 : items.toList.drop k with
      | nil => exact .inl rfl
      | cons u us =>
        cases e2 : items2.toList.drop k with
        | nil => exact .inr rfl
        | cons v vs => rw [e1, e2] at hz; cases hz
    have q := fin _ _ _ he hJ
    have e : ((items.toList.drop k).length == (items2.toList.drop k).length) = (items.size == items2.size) := by
      rw [List.length_drop, List.length_drop]
      simp only [Array.length_toList]
      by_cases h : items.size = items2.size
      · rw [h, beq_self_eq_true, beq_self_eq_true]
      · rw [beq_eq_false_iff_ne.mpr h, beq_eq_false_iff_ne.mpr (by omega)]
    rw [e] at q
    wp_walk
    simpa [Builtin.Tuple.tupleCompareSizes] using q
  case h =>
    exact ⟨rfl, 0, rfl, Nat.zero_le _, Nat.zero_le _, h0⟩
end
end PySem.SeqAt

namespace L2
open PySem PySem.Spec PyProof.Rows
/-- how == of two values answers, told over the heap -/
abbrev Eqb := V → V → Bool → Hp → Prop
def MonB (D : Eqb) : Prop := ∀ x y r H H', Ext H H' → D x y r H → D x y r H'
/-- == inside a list or a tuple -/
def AnsB (X : Cx) (n : Nat) (D : Eqb) : Prop :=
  ∀ (A : Around) (pins : List (Addr × Obj)) (s : Shared) (σ : St) (H : Hp) (x y : V) (r : Bool) (u v : Value), Sub X n A → Inv X pins σ H s → RelV x u → RelV y v → D x y r H →
    wpAny (model X.prog X.w) A (eqBool u v) (fun b t => b = r ∧ ∃ H', Inv X pins σ H' t ∧ Ext H H') X.xe s
/-- == as an expression -/
def RichB (X : Cx) (n : Nat) (D : Eqb) : Prop :=
  ∀ (A : Around) (pins : List (Addr × Obj)) (s : Shared) (σ : St) (H : Hp) (x y : V) (r : Bool) (u v : Value), Sub X n A → Inv X pins σ H s → RelV x u → RelV y v → D x y r H →
    wpAny (model X.prog X.w) A (richCompare .Eq u v) (fun b t => b = .bool r ∧ ∃ H', Inv X pins σ H' t ∧ Ext H H') X.xe s
/-- the items one by one, up to the first that differ -/
def Scan (D : Eqb) : List V → List V → Bool → Hp → Prop
  | [], [], r, _ => r = true
  | [], _ :: _, r, _ => r = false
  | _ :: _, [], r, _ => r = false
  | x :: xs, y :: ys, r, H => (D x y false H ∧ r = false) ∨ (D x y true H ∧ Scan D xs ys r H)
section
variable {X : Cx} {n m : Nat} {D D' : Eqb}
theorem AnsB.mono (h : AnsB X n D) (hn : n ≤ m) : AnsB X m D := fun A pins s σ H x y r u v sb => h A pins s σ H x y r u v (sb.mono hn)
theorem AnsB.or (h : AnsB X n D) (h' : AnsB X n D') : AnsB X n (fun x y r H => D x y r H ∨ D' x y r H) := fun A pins s σ H x y r u v sb I rx ry d => d.elim (h A pins s σ H x y r u v sb I rx ry) (h' A pins s σ H x y r u v sb I rx ry)
theorem MonB.or (h : MonB D) (h' : MonB D') : MonB (fun x y r H => D x y r H ∨ D' x y r H) := fun x y r H H' e d => d.elim (fun d => .inl (h x y r H H' e d)) fun d => .inr (h' x y r H H' e d)
def BFlat : Eqb := fun x y r _ => flatV x = true ∧ flatV y = true ∧ r = eqV x y
theorem monB_flat : MonB BFlat := fun _ _ _ _ _ _ d => d
theorem ansB_flat : AnsB X 0 BFlat := by
  intro A pins s σ H x y r u v sb I rx ry d
  obtain ⟨fx, fy, rfl⟩ := d
  exact eqAt_V (A := A) (s := s) rx ry fx fy X.prog X.w X.xe _ ⟨rfl, H, I, Ext.rfl'⟩
theorem scan_mono (hD : MonB D) : ∀ {xs ys : List V} {r : Bool} {H H' : Hp}, Ext H H' → Scan D xs ys r H → Scan D xs ys r H'
  | [], [], _, _, _, _, h => h
  | [], _ :: _, _, _, _, _, h => h
  | _ :: _, [], _, _, _, _, h => h
  | _ :: _, _ :: _, _, _, _, e, h => h.elim (fun h => .inl ⟨hD _ _ _ _ _ e h.1, h.2⟩) fun h => .inr ⟨hD _ _ _ _ _ e h.1, scan_mono hD e h.2⟩
def BTup (K : PySem.W.Frag) (D : Eqb) : Eqb := fun x y r H => ∃ a b xs ys, x = .ref a ∧ y = .ref b ∧ SqT K H a xs ∧ SqT K H b ys ∧ Scan D xs ys r H
theorem monB_tup {K : PySem.W.Frag} (hD : MonB D) : MonB (BTup K D) := fun x y r H H' e d => by
  obtain ⟨a, b, xs, ys, hx, hy, h1, h2, p⟩ := d
  exact ⟨a, b, xs, ys, hx, hy, SqT.ext h1 e, SqT.ext h2 e, scan_mono hD e p⟩
theorem richB_tup (hD : MonB D) (h : AnsB X n D) : RichB X (n + 1) (BTup X.K D) := by
  intro A pins s σ H x y r u v sb I rx ry d
  obtain ⟨a, b, xs, ys, rfl, rfl, ha, hb, p⟩ := d
  cases rx
  cases ry
  obtain ⟨us, r1, e1, z1⟩ := I.tuple ha
  obtain ⟨vs, r2, e2, z2⟩ := I.tuple hb
  obtain ⟨⟨cls, dd, data, sl⟩, ho, hc, c1, hd⟩ := id e1
  obtain ⟨⟨cls2, dd2, data2, sl2⟩, ho2, hc2, c2, hd2⟩ := id e2
  simp only at hc hd hc2 hd2
  subst hc hd hc2 hd2
  refine wpAny_richCompare_same_room (op := .Eq) ⟨_, ho, rfl⟩ ⟨_, ho2, rfl⟩ F.slot_tuple_eq (GQ.call_here F.slot_tuple_eq ⟨_, ho, rfl⟩ F.entry_tuple_eq (F.args_tuple_eq_2 _ _) ?_) sb.room.units0
  refine SeqAt.tw_tuple_scan a b us.toArray vs.toArray c1 c2 dd dd2 sl sl2 (fun us' vs' t => ∃ xs' ys' H', Vals xs' us' ∧ Vals ys' vs' ∧ Scan D xs' ys' r H' ∧ Inv X pins σ H' t ∧ Ext H H') ?_ ?_ ho ho2 ⟨xs, ys, H, by simpa using r1, by simpa using r2, p, I, Ext.rfl'⟩
  · rintro u us' v vs' t ⟨xs', ys', H', q1, q2, sc, J, ex⟩
    cases q1 with
    | @cons x' _ xr _ p1 p2 =>
      cases q2 with
      | @cons y' _ yr _ p3 p4 =>
        rcases sc with ⟨d, rfl⟩ | ⟨d, sc⟩
        · refine wpAny_mono (h A.in1 pins t σ H' _ _ _ u v sb.in1 J p1 p3 d) (fun b t' told => ?_) fun _ _ z => z
          obtain ⟨rfl, H2, J2, ex2⟩ := told
          exact .inr ⟨rfl, ⟨(fun z => nomatch z), rfl, H2, J2, ex.trans ex2⟩⟩
        · refine wpAny_mono (h A.in1 pins t σ H' _ _ _ u v sb.in1 J p1 p3 d) (fun b t' told => ?_) fun _ _ z => z
          obtain ⟨rfl, H2, J2, ex2⟩ := told
          exact .inl ⟨rfl, xr, yr, H2, p2, p4, scan_mono hD ex2 sc, J2, ex.trans ex2⟩
  · rintro us' vs' t he ⟨xs', ys', H', q1, q2, sc, J, ex⟩
    have er : r = (us'.length == vs'.length) := by
      rcases he with rfl | rfl
      · cases q1
        cases q2 with
        | nil => exact sc
        | cons _ _ => exact sc
      · cases q2
        cases q1 with
        | nil => exact sc
        | cons _ _ => exact sc
    exact ⟨(fun z => nomatch z), by rw [er], H', J, ex⟩
/-- instances of the class at C, by its own == -/
def BIns (C : Addr) (R : Addr → Addr → Bool → Hp → Prop) : Eqb := fun x y r H => ∃ a b dx dy fs gs, x = .ref a ∧ y = .ref b ∧ H a = some (.ins C dx fs) ∧ H b = some (.ins C dy gs) ∧ R a b r H
theorem monB_ins {C : Addr} {R : Addr → Addr → Bool → Hp → Prop} (hR : ∀ a b r H H', Ext H H' → R a b r H → R a b r H') : MonB (BIns C R) := fun x y r H H' e d => by
  obtain ⟨a, b, dx, dy, fs, gs, hx, hy, h1, h2, q⟩ := d
  exact ⟨a, b, dx, dy, fs, gs, hx, hy, e _ _ h1, e _ _ h2, hR a b r H H' e q⟩
def spEqb (R : Addr → Addr → Bool → Hp → Prop) : Sp := fun vs H Q _ => ∃ a b r, vs = [.ref a, .ref b] ∧ R a b r H ∧ ∀ H', Ext H H' → Q (.bl r) H'
theorem richB_ins {CX : CXT} {C f : Addr} {fd : FuncData} {ps : List Str} {R : Addr → Addr → Bool → Hp → Prop} {E : XK} {sp : Sp} (F : FnOk X.prog X.w X.K X.mg X.base CX n f fd ps sp) (hsp : ∀ vs H Q E, spEqb R vs H Q E → sp vs H Q E)
    (hs : PySem.W.findIn X.K (.ref C) "__eq__" = some (some (.ref f))) (hf : PySem.W.isFn X.K (.ref f) = true) (hb : Binds X.K fd ps []) (hx : Passes CX X E) : RichB X n (BIns C R) := by
  intro A pins s σ H x y r u v sb I rx ry d
  obtain ⟨a, b, dx, dy, fs, gs, rfl, rfl, ha, hb', hr⟩ := d
  cases rx
  cases ry
  obtain ⟨_, OA, _⟩ := ins_get I.hok ha
  obtain ⟨_, OB, _⟩ := ins_get I.hok hb'
  obtain ⟨oa, OA, _⟩ := OA.look
  obtain ⟨ob, OB, _⟩ := OB.look
  obtain ⟨m, fr⟩ := I.fr
  refine PySem.W.cmp_K (op := .Eq) (tb := .ref C) sb.room.units0 fr I.ok.mod.kin OA OB.type (by simp [PySem.W.notFirst]) hs hf ?_
  have asked : sp [.ref a, .ref b] H (fun v H' => v = .bl r ∧ Ext H H') E := hsp _ _ _ _ ⟨a, b, r, rfl, hr, fun H' e => ⟨rfl, e⟩⟩
  have e0 : Env0 X.prog X.w X.K X.mg X.base A X.stack s H := by
    have e := I.env0
    exact ⟨by rw [sb.fr]; exact e.frames, e.mod, e.bs, e.bsz, e.funs, e.frf, e.hok, e.bare⟩
  have vals : Vals [V.ref a, V.ref b] [Value.ref a, Value.ref b] := .cons rfl (.cons rfl .nil)
  have hl := F.len _ _ _ _ asked
  refine wpAny_call (codeAny_mono (F.run A X.stack s H ⟨[.ref a, .ref b], []⟩ [.ref a, .ref b] [.ref a, .ref b] _ E sb.room e0 (by
    have := hb s [.ref a, .ref b] I.kIn (by simpa using hl)
    simpa using this) vals asked) fun res t told => ?_)
  rcases res with e | fl
  · exact hx pins σ H s e t I told
  · rcases fl with _ | _ | _ | g
    case ret =>
      obtain ⟨z, H', I', rz, ez, ex⟩ := I.after told
      subst ez
      cases (show g = Value.bool r from rz)
      exact ⟨rfl, H', I', ex⟩
    all_goals exact False.elim told
/-- inside a container the same object is equal to itself -/
theorem RichB.ans (h : RichB X n D) (hr : ∀ x y r H, D x y r H → ∃ a b, x = .ref a ∧ y = .ref b ∧ (a = b → r = true)) : AnsB X n D := by
  intro A pins s σ H x y r u v sb I rx ry d
  obtain ⟨a, b, rfl, rfl, hs⟩ := hr _ _ _ _ d
  cases rx
  cases ry
  by_cases hab : a = b
  · subst hab
    rw [hs rfl]
    exact SeqAt.EqAt.same (A := A) (s := s) (.ref a) X.prog X.w X.xe _ ⟨rfl, H, I, Ext.rfl'⟩
  · refine GQ.eqBool_refG hab (wpAny_mono (h A pins s σ H (.ref a) (.ref b) r _ _ sb I rfl rfl d) (fun w t q => ?_) fun _ _ z => z)
    obtain ⟨rfl, q⟩ := q
    exact ⟨r, rfl, rfl, q⟩
def rEqb (D : Eqb) : R2 := fun x y H Q => ∃ r, D x y r H ∧ ∀ H', Ext H H' → Q (.bl r) H'
theorem op_eqb (h : RichB X n D) (hr : Room n X.A) : OpR X (compareOp .Eq) (rEqb D) := by
  intro pins s σ H x y v u Q I rx ry hq
  obtain ⟨r, d, q⟩ := hq
  show wpAny (model X.prog X.w) X.A (richCompare .Eq v u) (EP X pins σ Q) X.xe s
  refine wpAny_mono (h X.A pins s σ H x y r v u ⟨hr, rfl⟩ I rx ry d) (fun b t z => ?_) fun _ _ z => z
  obtain ⟨rfl, H', I', e⟩ := z
  exact ⟨.bl r, H', I', rfl, q H' e⟩
end
end L2
namespace Tw
open PySem L2 PySem.Spec
section
variable {P : Program} {w : World} {K : PySem.W.Frag} {mg : Str → Option Value} {base : Heap} {X : Cx} {C : Addr} {m j : Nat} {ps : List Str} {sp : Sp} {R : Addr → Addr → Bool → Hp → Prop}
/-- == of tuples of instances, by their own == -/
theorem op_eqTI (hR : ∀ a b r H H', Ext H H' → R a b r H → R a b r H') (hs : ∀ a r H, R a a r H → r = true) (D : DefM P w K mg base m C "__eq__" ps sp) (hsp : ∀ vs H Q E, spEqb R vs H Q E → sp vs H Q E) (h1 : X.prog = P) (h2 : X.w = w) (h3 : X.K = K) (h4 : X.mg = mg) (h5 : X.base = base) (hr : Room j X.A) (hj : m + 1 ≤ j) :
    OpR X (compareOp .Eq) (rEqb (BTup K (BIns C R))) := by
  subst h1 h2 h3 h4 h5
  obtain ⟨f, fd, F, hm, hb⟩ := D.ex
  refine op_eqb (richB_tup (monB_ins hR) (RichB.ans (richB_ins F hsp hm.at_ hm.fn hb pass0) fun x y r H d => ?_)) (hr.mono hj)
  obtain ⟨a, b, dx, dy, fs, gs, rfl, rfl, _, _, q⟩ := d
  exact ⟨a, b, rfl, rfl, fun e => by subst e; exact hs _ _ _ q⟩
end
end Tw

set_option Elab.async false
set_option linter.all false
set_option maxRecDepth 100000
set_option maxHeartbeats 4000000
/-! None == an instance and an instance == None, inside tuples -/
namespace Tw
open PySem PySem.Spec PySem.Calls PyProof.Rows PySem.W
section
variable {prog : Program} {w : World} {A : Around} {E : Value → Shared → Prop} {s : Shared} {K : Frag} {x C f : Addr} {ox : Obj} {od : Option Obj} {tk : Tok}
theorem none_declines {Q : Option Value → Shared → Prop} (h : Q none s) : wpAny (model prog w) A (tryCompare .none "__eq__" (.ref x)) Q E s := by
  refine wpAny_tryCompare_declines (T := "NoneType") (id := "NoneType.__eq__") rfl F.slot_NoneType_eq ?_
  refine GQ.call_here F.slot_NoneType_eq rfl F.entry_NoneType_eq (F.args_NoneType_eq_2 _ _) ?_
  unfold Builtin.«NoneType.__eq__»
  refine wpAny_bind (wpAny_pure ?_)
  exact wpAny_pure ⟨rfl, h⟩
/-- None == an instance: the instance's own == is asked -/
theorem eq_none_left {R : Value → Shared → Prop} (room : A.units < cLine) (kin : K.In s.heap) (inst : InstAt s.heap x ox C od) (no : subIn K (.ref C) (.type "NoneType") = some false)
    (eq : findIn K (.ref C) "__eq__" = some (some (.ref f))) (isf : isFn K (.ref f) = true)
    (h : wpAny (model prog w) A (call (.ref f) [.ref x, .none]) (PySem.W.CmpBack R) E s) : wpAny (model prog w) A (richCompare .Eq .none (.ref x)) R E s := by
  have tc : wpAny (model prog w) A (tryCompare (.ref x) "__eq__" .none) (fun r t => ∃ v, r = some v ∧ R v t) E s := by
    unfold tryCompare
    refine wpAny_bind (ifBound_K kin inst eq isf (wpAny_mono h (fun v t hv => ?_) fun _ _ e => e))
    cases v <;> first | exact False.elim hv | exact wpAny_pure ⟨_, rfl, hv⟩
  have tyn : Looks (model prog w) s.heap (typeOf .none) (.type "NoneType") := Looks.of_pure rfl
  have e1 : oneThing? .Eq .none (.ref x) = none := rfl
  have diff : ((Value.type "NoneType") != Value.ref C) = true := by
    cases e : ((Value.type "NoneType") != Value.ref C) with
    | true => rfl
    | false => cases (by simpa using e : (Value.type "NoneType") = Value.ref C)
  unfold richCompare
  simp only [e1]
  refine wpAny_holding (wpAny_bind (wpAny_cRoomFor (by omega) (wpAny_bind (tyn.here (wpAny_bind (inst.type.here ?_))))))
  rw [if_pos diff]
  refine wpAny_bind ((looks_subIn kin no).here ?_)
  simp only [Bool.false_eq_true, if_false]
  refine wpAny_bind (none_declines ?_)
  simp only [Bool.not_false, if_true]
  exact wpAny_bind (wpAny_mono tc (fun r t ⟨v, hv, q⟩ => by subst hv; exact wpAny_pure q) fun _ _ e => e)
theorem eqb_diff {a b : Value} {Q : Bool → Shared → Prop} (n : (a == b) = false) (nf : ∀ i t, a ≠ .float i t) (h : wpAny (model prog w) A (richCompare .Eq a b) (fun v t => ∃ r, v = .bool r ∧ Q r t) E s) : wpAny (model prog w) A (eqBool a b) Q E s := by
  unfold eqBool
  refine wpAny_holding ?_
  rw [n]
  simp only [Bool.false_eq_true, if_false]
  split
  · rename_i h
    injection h with h
    exact absurd h (nf _ _)
  · refine wpAny_bind (wpAny_mono h (fun v t q => ?_) fun _ _ z => z)
    obtain ⟨r, rfl, q⟩ := q
    wp_walk
    exact q
end
end Tw
namespace L2
open PySem PySem.Spec PyProof.Rows
/-- an instance and None, by the instance's own == -/
def BNon (C : Addr) (N : Addr → Hp → Prop) : Eqb := fun x y r H => r = false ∧ ∃ a dx fs, H a = some (.ins C dx fs) ∧ N a H ∧ ((x = .ref a ∧ y = .non) ∨ (x = .non ∧ y = .ref a))
theorem monB_non {C : Addr} {N : Addr → Hp → Prop} (hN : ∀ a H H', Ext H H' → N a H → N a H') : MonB (BNon C N) := fun x y r H H' e d => by
  obtain ⟨hr, a, dx, fs, h1, h2, h3⟩ := d
  exact ⟨hr, a, dx, fs, e _ _ h1, hN _ _ _ e h2, h3⟩
section
variable {X : Cx} {n m : Nat} {D D' : Eqb}
theorem ansB_non {CX : CXT} {C f : Addr} {fd : FuncData} {ps : List Str} {N : Addr → Hp → Prop} {E : XK} {sp : Sp} (F : FnOk X.prog X.w X.K X.mg X.base CX n f fd ps sp) (hsp : ∀ a H Q E, N a H → (∀ H', Ext H H' → Q (.bl false) H') → sp [.ref a, .non] H Q E)
    (hs : PySem.W.findIn X.K (.ref C) "__eq__" = some (some (.ref f))) (hf : PySem.W.isFn X.K (.ref f) = true) (hb : Binds X.K fd ps []) (hx : Passes CX X E) (n1 : PySem.W.subIn X.K (.ref C) (.type "NoneType") = some false) (n2 : PySem.W.subIn X.K (.type "NoneType") (.ref C) = some false) : AnsB X n (BNon C N) := by
  intro A pins s σ H x y r u v sb I rx ry d
  obtain ⟨rfl, a, dx, fs, ha, hN, hxy⟩ := d
  obtain ⟨_, OA, _⟩ := ins_get I.hok ha
  obtain ⟨oa, OA, _⟩ := OA.look
  obtain ⟨m, fr⟩ := I.fr
  have asked : sp [.ref a, .non] H (fun v H' => v = .bl false ∧ Ext H H') E := hsp _ _ _ _ hN fun H' e => ⟨rfl, e⟩
  have e0 : Env0 X.prog X.w X.K X.mg X.base A X.stack s H := by
    have e := I.env0
    exact ⟨by rw [sb.fr]; exact e.frames, e.mod, e.bs, e.bsz, e.funs, e.frf, e.hok, e.bare⟩
  have vals : Vals [V.ref a, V.non] [Value.ref a, Value.none] := .cons rfl (.cons rfl .nil)
  have hl := F.len _ _ _ _ asked
  have called : wpAny (model X.prog X.w) A (call (.ref f) [.ref a, .none]) (PySem.W.CmpBack fun v t => ∃ r, v = .bool r ∧ r = false ∧ ∃ H', Inv X pins σ H' t ∧ Ext H H') X.xe s := by
    refine wpAny_call (codeAny_mono (F.run A X.stack s H ⟨[.ref a, .none], []⟩ [.ref a, .none] [.ref a, .non] _ E sb.room e0 (by
      have := hb s [.ref a, .none] I.kIn (by simpa using hl)
      simpa using this) vals asked) fun res t told => ?_)
    rcases res with e | fl
    · exact hx pins σ H s e t I told
    · rcases fl with _ | _ | _ | g
      case ret =>
        obtain ⟨z, H', I', rz, ez, ex⟩ := I.after told
        subst ez
        cases (show g = Value.bool false from rz)
        exact ⟨false, rfl, rfl, H', I', ex⟩
      all_goals exact False.elim told
  rcases hxy with ⟨rfl, rfl⟩ | ⟨rfl, rfl⟩
  · cases (show u = Value.ref a from rx)
    cases (show v = Value.none from ry)
    refine Tw.eqb_diff rfl (fun _ _ z => nomatch z) ?_
    exact PySem.W.cmp_K (op := .Eq) (tb := .type "NoneType") sb.room.units0 fr I.ok.mod.kin OA (PySem.W.Looks.of_pure rfl) (by simp [PySem.W.notFirst, n2]) hs hf called
  · cases (show v = Value.ref a from ry)
    cases (show u = Value.none from rx)
    refine Tw.eqb_diff rfl (fun _ _ z => nomatch z) ?_
    exact Tw.eq_none_left sb.room.units0 I.kIn OA n1 hs hf called
end
end L2

set_option Elab.async false
set_option linter.all false
set_option maxRecDepth 100000
set_option maxHeartbeats 4000000
/-! + of tuples, the left one empty or not -/
namespace Tw
open PySem L2 PySem.Spec PyProof.Rows
section
variable {prog : Program} {w : World} {A : Around} {E : Value → Shared → Prop} {s : Shared} {t b : Addr} {ws : List Value} {Q : Value → Shared → Prop}
theorem cat_tup0 (h1 : IsTup s.heap t #[]) (h2 : IsTup s.heap b ws.toArray) (q : Q (.ref b) s) : wpAny (model prog w) A (binaryOp .Add (.ref t) (.ref b)) Q E s := by
  obtain ⟨⟨c1, d1, da1, sl1⟩, g1, e1, n1, f1⟩ := h1
  obtain ⟨⟨c2, d2, da2, sl2⟩, g2, e2, n2, f2⟩ := h2
  simp only at e1 f1 e2 f2
  subst e1 f1 e2 f2
  exact concat_meets (T := "tuple") ⟨_, g1, rfl⟩ ⟨_, g2, rfl⟩ noFill_tuple_add seq_tuple_add F.slot_tuple_add F.entry_tuple_add (F.args_tuple_add_2 _ _) (tuple_addW0 t b #[] ws.toArray n1 n2 d1 d2 sl1 sl2 rfl) ⟨g1, g2, q⟩
end
section
variable {X : Cx} {K : PySem.W.Frag}
def rCat0 (K : PySem.W.Frag) : R2 := fun x y H Q => ∃ a b ys, x = .ref a ∧ y = .ref b ∧ SqT K H a [] ∧ SqT K H b ys ∧ Q (.ref b) H
theorem op_cat0 : OpR X (binaryOp .Add) (rCat0 X.K) := by
  intro pins s σ H x y u v Q I rx ry h
  obtain ⟨a, b, ys, rfl, rfl, ha, hb, q⟩ := h
  cases (show _ = Value.ref a from rx)
  cases (show _ = Value.ref b from ry)
  obtain ⟨us, r1, e1, z1⟩ := I.tuple ha
  obtain ⟨vs, r2, e2, z2⟩ := I.tuple hb
  cases r1
  exact cat_tup0 e1 e2 ⟨.ref b, H, I, rfl, q⟩
/-- + of two tuples -/
def rCatG (K : PySem.W.Frag) : R2 := fun x y H Q => ∃ a b xs ys, x = .ref a ∧ y = .ref b ∧ SqT K H a xs ∧ SqT K H b ys ∧ ys ≠ [] ∧ xs.length + ys.length ≤ sizeLine ∧ (xs = [] → Q (.ref b) H) ∧ (xs ≠ [] → ∀ p, H p = none → Q (.ref p) (upd H p (.tup (xs ++ ys))))
theorem op_catG (hK : X.K = K) : OpR X (binaryOp .Add) (rCatG K) := by
  subst hK
  intro pins s σ H x y u v Q I rx ry h
  obtain ⟨a, b, xs, ys, hx, hy, ha, hb, hne, hl, q0, q1⟩ := h
  by_cases e : xs = []
  · subst e
    exact op_cat0 pins s σ H x y u v Q I rx ry ⟨a, b, ys, hx, hy, ha, hb, q0 rfl⟩
  · exact op_catT pins s σ H x y u v Q I rx ry ⟨a, b, xs, ys, hx, hy, ha, hb, e, hl, fun h => absurd h hne, fun _ => q1 e⟩
theorem g_catG {a b : Addr} {xs ys : List V} {H : Hp} {Q : VK} (ha : SqT K H a xs) (hb : H b = some (.tup ys)) (hne : ys ≠ []) (hl : xs.length + ys.length ≤ sizeLine) (q : ∀ p H', (∀ c o, H c = some o → H' c = some o) → H' p = some (.tup (xs ++ ys)) → Q (.ref p) H') : rCatG K (.ref a) (.ref b) H Q := by
  refine ⟨a, b, xs, ys, rfl, rfl, ha, SqT.of hb, hne, hl, fun e => ?_, fun _ p hp => ?_⟩
  · subst e
    exact q b H (fun _ _ h => h) hb
  · exact q p _ (fun c o e => by rw [upd_ne (ne_of_none e hp)]; exact e) upd_same
end
end Tw

set_option Elab.async false
set_option linter.all false
set_option maxRecDepth 100000
set_option maxHeartbeats 4000000
/-! unpacking a list -/
namespace PySem
namespace TwU
section
variable {prog : Program} {w : World} {A : Around} {E : Value → Shared → Prop} {s : Shared} {l : Addr}
theorem draw_list {it : Addr} {items : Array Value} : ∀ (n i : Nat) (s : Shared) (R : List Value → Shared → Prop), s.heap.IsListIter it l i → s.heap.IsList l items → it ≠ l → i + n = items.size →
    (∀ h', h'.IsListIter it l items.size → Heap.SameBut it s.heap h' → R (items.toList.drop i) { s with heap := h' }) → wpAny (model prog w) A (draw (.ref it) n) R E s := by
  intro n
  induction n with
  | zero =>
    intro i s R hi hl hne hn k
    unfold draw
    refine wpAny_pure ?_
    have e : items.toList.drop i = [] := List.drop_eq_nil_of_le (by rw [Array.length_toList]; omega)
    have := k s.heap (by rw [← hn]; exact hi) ⟨rfl, fun _ _ => rfl⟩
    rw [e] at this
    exact this
  | succ n ih =>
    intro i s R hi hl hne hn k
    have hlt : i < items.size := by omega
    unfold draw
    refine wpAny_bind (wpAny_pyNext_list_item hi hl (Array.getElem?_eq_getElem hlt) fun h' hi' sb => ?_)
    have hl' : h'.IsList l items := by
      obtain ⟨o, ho, h2⟩ := hl
      exact ⟨o, (sb.2 l (Ne.symm hne)).trans ho, h2⟩
    show wpAny _ _ (holding [items[i]] (draw (.ref it) n) >>= fun r => pure (items[i] :: r)) _ _ _
    refine wpAny_bind (wpAny_holding (wpAny_mono (ih (i + 1) { s with heap := h' } (fun r t => R (items[i] :: r) t) hi' hl' hne (by omega) fun h2 hi2 sb2 => ?_) (fun r t q => wpAny_pure q) fun _ _ e => e))
    have := k h2 hi2 ⟨sb2.1.trans sb.1, fun b hb => (sb2.2 b hb).trans (sb.2 b hb)⟩
    rw [List.drop_eq_getElem_cons (by rw [Array.length_toList]; exact hlt)] at this
    exact this
theorem unpackItems_list {items : Array Value} {R : List Value → Shared → Prop} (hh : A.handled = none) (hl : s.heap.IsList l items) (k : ∀ h', Heap.ExtBut s.heap.objs.size s.heap h' → R items.toList { s with heap := h' }) : wpAny (model prog w) A (unpackItems (.ref l) items.size none) R E s := by
  unfold unpackItems
  have start : ∀ {A2 : Around} {E2 Q2 : Value → Shared → Prop}, (Q2 (.ref s.heap.objs.size) { s with heap := s.heap.push { cls := .type "list_iterator", data := .fields #[.ref l, .int 0 0] } }) → wpAny (model prog w) A2 (pyIter (.ref l)) Q2 E2 s := fun q => wpAny_pyIter_list hl q
  obtain ⟨o, ho, hc, hd⟩ := id hl
  have sz : (s.heap.push { cls := .type "list_iterator", data := .fields #[.ref l, .int 0 0] }).objs.size = s.heap.objs.size + 1 := Heap.size_push ..
  have ei := Heap.get?_push_size s.heap (o := { cls := .type "list_iterator", data := .fields #[.ref l, .int 0 0] }) rfl
  have nl : s.heap.objs.size ≠ l := Nat.ne_of_gt (Heap.lt_size ho)
  unfold notIterableAtAll
  refine wpAny_bind (wpAny_bind (wpAny_specialOf (T := "list") ⟨o, ho, hc⟩ F.slot_list_iter.lookup ?_))
  simp only [Option.isSome_some, if_true]
  refine wpAny_pure ?_
  simp only [Bool.false_eq_true, if_false]
  refine wpAny_bind (wpAny_holding (start ?_))
  refine wpAny_bind (wpAny_holding (draw_list items.size 0 _ _ ⟨_, ei, rfl, rfl⟩ ⟨o, Heap.get?_push_of_some _ ho, hc, hd⟩ nl (Nat.zero_add _) fun h' hi sb => ?_))
  have hl2 : h'.IsList l items := ⟨o, (sb.2 l (Ne.symm nl)).trans (Heap.get?_push_of_some _ ho), hc, hd⟩
  simp only [List.drop_zero]
  rw [if_neg (by rw [Array.length_toList]; exact Nat.lt_irrefl _)]
  refine wpAny_bind (wpAny_holding (wpAny_pyNext_list_end hh hi hl2 (Array.getElem?_eq_none (Nat.le_refl _)) fun h2 ex => ?_))
  simp only [Option.isSome_none, Bool.false_eq_true, if_false]
  refine wpAny_pure (k h2 fun b u hb e => ex b u hb ((sb.2 b hb).trans (Heap.get?_push_of_some _ e)))
end
end TwU
end PySem
namespace L2
open PySem PySem.Spec PyProof.Rows
/-- a target of several names, over a list or a tuple -/
def gSeq (K : PySem.W.Frag) (n : Nat) (t : TGs) : TG := fun v σ H Q => ∃ a xs, v = .ref a ∧ (SqL K H a xs ∨ SqT K H a xs) ∧ xs.length = n ∧ t xs σ H Q
theorem pg_seqT {X : Cx} {K : PySem.W.Frag} {es : List Expr} {k : Nat} {t : TGs} {n : Nat} {pos : Pos} (hK : X.K = K) (hc : X.calm = true) (h : PGs X es t)
    (hn : (assignEach es X.env).length = n := by rfl) (hst : (assignEach es X.env).findIdx? (·.1) = none := by rfl) : PG X (.Tuple es k pos) (gSeq K n t) := by
  subst hK
  refine ⟨fun pins s σ H v u Q I r q => ?_⟩
  obtain ⟨a, xs, rfl, hs, hl, q⟩ := q
  rcases hs with hs | hs
  · cases r
    obtain ⟨its, rv, p, hz⟩ := I.list hs
    rw [arm_assign_Tuple]
    refine wpAny_bind (wpAny_standAt ?_)
    unfold unpack
    rw [hst]
    have hlen : (assignEach es X.env).length = its.toArray.size := by
      rw [hn, ← hl, rv.length]
      exact List.size_toArray.symm
    rw [hlen]
    refine wpAny_bind (wpAny_holding (TwU.unpackItems_list (I.ok.hd hc) p.isList fun h' ex => ?_))
    have I' := I.kept (t' := s.toks) (h' := h') fun b o e => ex b o (Nat.ne_of_lt (Heap.lt_size e)) e
    exact h.run pins _ σ H xs _ Q I' (by simpa using rv) q
  · exact (pg_tup hc h hn hst).run pins s σ H (.ref a) u Q I r ⟨a, xs, rfl, hs, hl, q⟩
end L2
namespace Tw
open PySem L2
theorem g_gseq {K : PySem.W.Frag} {σ : L2.St} {H : Hp} {n : Nat} {u : TGs} {p : Addr} {xs : List V} {QS : L2.St → Hp → Prop} (h : H p = some (.lst xs) ∨ H p = some (.tup xs)) (hl : xs.length = n) (q : u xs σ H QS) : gSeq K n u (.ref p) σ H QS := ⟨p, xs, rfl, h.imp SqL.of SqT.of, hl, q⟩
end Tw
namespace L2
open PySem PySem.Spec PyProof.Rows
/-- a walk over a list or a tuple, also one of the program's own -/
def iSeqB (K : PySem.W.Frag) (tl : TE) : TI := fun σ H R => tl σ H fun x H1 => ∃ a xs, x = .ref a ∧ (H1 a = some (.lst xs) ∨ SqT K H1 a xs) ∧ ∀ J, (∀ H', (∀ q o, H1 q = some o → H' q = some o) → Tw.Fits J xs H') → R J H1
theorem pi_seqB {X : Cx} {K : PySem.W.Frag} {tg : Expr} {l : Expr} {tl : TE} (hK : X.K = K) (hl : PE X l tl) : PI X tg l (iSeqB K tl) := by
  subst hK
  refine ⟨fun pins s σ H R I h => ?_⟩
  refine thn (hl.run pins s σ H _ I h) fun v s1 ⟨x, H1, I1, r1, q1⟩ => ?_
  obtain ⟨a, xs, rfl, hs2, q⟩ := q1
  cases r1
  have fp : ∀ b ∈ [s1.heap.objs.size], FpOk X pins H1 b := fun b hb => by
    obtain rfl : b = s1.heap.objs.size := by simpa using hb
    exact I1.fpOk (Nat.le_refl _) (I1.hok.fresh (Nat.le_refl _))
  rcases hs2 with hq | hq
  · replace q := q (Itl X.K a) fun H' e => Tw.fits_l (SqL.of (e _ _ hq))
    obtain ⟨its, rv, p, hz⟩ := I1.list (SqL.of hq)
    refine wpAny_pyIter_list p.isList ?_
    exact ⟨s1.heap.objs.size, [s1.heap.objs.size], _, _, H1, rfl, I1.kept (t' := s1.toks) fun b o e => Heap.get?_push_of_some _ e, turn_list a _, ⟨_, Heap.get?_push_size _ rfl, rfl, rfl⟩, fp, q⟩
  · replace q := q (Itt X.K a) fun H' e => Tw.fits_t (SqT.ext hq e)
    obtain ⟨its, rv, p, hz⟩ := I1.tuple hq
    refine wpAny_pyIter_tuple (show s1.heap.IsTuple a its.toArray from p) ?_
    exact ⟨s1.heap.objs.size, [s1.heap.objs.size], _, _, H1, rfl, I1.kept (t' := s1.toks) fun b o e => Heap.get?_push_of_some _ e, turn_tuple a _, ⟨_, Heap.get?_push_size _ rfl, rfl, rfl⟩, fp, q⟩
end L2
namespace Tw
open PySem L2
theorem g_seqB {K : PySem.W.Frag} {σ : L2.St} {H : Hp} {te : TE} {R : It → Hp → Prop} (q : te σ H fun x H1 => ∃ a xs, x = .ref a ∧ (H1 a = some (.lst xs) ∨ SqT K H1 a xs) ∧ ∀ J, (∀ H', (∀ q o, H1 q = some o → H' q = some o) → Fits J xs H') → R J H1) : iSeqB K te σ H R := q
end Tw

set_option Elab.async false
set_option linter.all false
set_option maxRecDepth 100000
set_option maxHeartbeats 4000000
/-! comprehensions whose items may let an own error out (by a call) -/
namespace L2
open PySem PySem.Spec PyProof.Rows
/-- what calls let out is taken -/
def TakesC (X : Cx) (W : WX) : Prop := ∀ σ, PassesAt (L2.CX X.prog X.w) X σ (WE W σ)
theorem takesC_of {X : Cx} {W : WX} (tk : Takes X W) : TakesC X W := fun σ => passAt tk σ
/-- an error that the def's own frame has noted, what is known of a call behind it -/
def HX (P : Program) (w : World) (st : List Env) (L : Addr) (H : Hp) (s : Shared) (E : XK) (u : Value) (s' : Shared) : Prop :=
  ∃ (a : Addr) (B : Heap) (H' : Hp) (cls : Value) (d : Option Addr), u = .ref a ∧ HandSPX.HeldZ B st a (Zc cls d) L s'.heap ∧ HOk P w H' B ∧ UB (frs st) H H' s.heap B s'.heap ∧ H' a = none ∧ s'.os = s.os ∧ AllBare s'.gens ∧ E cls d H'
section
variable {X : Cx} {pins : List (Addr × Obj)} {σ : St} {H : Hp} {s s' : Shared} {W : WX} {E : XK}
theorem XE.of_held (I : Inv X pins σ H s) (hW : ∀ cls d H', E cls d H' → W cls d σ H') {u : Value} (c : HX X.prog X.w X.stack X.env.locals H s E u s') : XE X W u s' := by
  obtain ⟨a, B, H', cls, d, rfl, hd, hok, ub, na, os, ag, hE⟩ := c
  obtain ⟨G, g1, g2⟩ := restrict s'.heap fun b => (B.get? b).isSome || decide (b ∈ frs X.stack)
  have gB : ∀ b o, B.get? b = some o → G.get? b = some o := fun b o e => (g1 b (by simp [e])).trans (hd.1 b o e)
  have og : ∀ b o, G.get? b = some o → s'.heap.get? b = some o ∧ ((B.get? b).isSome = true ∨ b ∈ frs X.stack) := fun b o e => by
    cases q : ((B.get? b).isSome || decide (b ∈ frs X.stack)) with
    | false => exact absurd e (by rw [g2 b q]; exact nofun)
    | true => exact ⟨(g1 b q).symm.trans e, by simpa [Bool.or_eq_true] using q⟩
  refine ⟨a, B, { s with heap := G, gens := s'.gens, drawn := s'.drawn, toks := s'.toks }, pins, σ, H', cls, d, rfl, ?_, fun b o e hb => ?_, Heap.UpToSlots.of_keeps fun b o e => (og b o e).1, .inr (.inr hd), na, os, ag, hW _ _ _ hE⟩
  · refine I.call (ch := []) ⟨fun b o e n hb _ => gB b o (ub.keep b o e n hb), fun b o e n hb _ => ?_, fun b o e n _ => ub.free b o e n, fun b o e _ => ?_, ub.tups, ub.frzs, ub.tbls⟩ (hok.kept gB) ag (fun _ z => nomatch z)
    · obtain ⟨sl, q⟩ := ub.slot b o e hb
      exact ⟨sl, (g1 b (by simp [hb])).trans q⟩
    · by_cases hb : b ∈ frs X.stack
      · obtain ⟨sl, q⟩ := ub.slot b o e hb
        exact ⟨_, (g1 b (by simp [hb])).trans q⟩
      · obtain ⟨o', q⟩ := ub.there b o e hb
        exact ⟨o', gB b o' q⟩
  · obtain ⟨e', h⟩ := og b o e
    rcases h with h | h
    · obtain ⟨o', q⟩ := Option.isSome_iff_exists.mp h
      have z := hd.1 b o' q
      rw [e'] at z
      cases z
      exact q
    · exact absurd h hb
theorem frames_less {h B B' : Heap} (k : ∀ b o, B'.get? b = some o → B.get? b = some o) : ∀ {l : List Env}, h.FunFrames B l → h.FunFrames B' l
  | [], _ => trivial
  | _ :: _, ⟨hk, ⟨L, o, hf, hb, ho, hd⟩, hr⟩ => ⟨hk, ⟨L, o, hf, (by
      cases q : B'.get? L with
      | none => rfl
      | some x => rw [k L x q] at hb; cases hb), ho, hd⟩, frames_less k hr⟩
theorem none_less {B B' : Heap} (k : ∀ b o, B'.get? b = some o → B.get? b = some o) {b : Addr} (h : B.get? b = none) : B'.get? b = none := by
  cases q : B'.get? b with
  | none => rfl
  | some x => rw [k b x q] at h; cases h
/-- an error that left a call in the block goes on in the def's frame, the block's names let go -/
theorem block_err (I : Inv X pins σ H s) (hst : X.stack = X.env :: X.outer) (hf : X.env.frame = some X.env.locals) (hA : X.A.frames = some X.stack) {ce : Env} (hce : ce.frame = X.env.frame) {C : Addr} (hcl : ce.locals = C) {m : Str → Option Value} (hn : s.heap.Ns C m) (f : FpOk X pins H C) (hC : C ∉ frs X.stack)
    (tk : Takes X W) (hW : ∀ cls d H', E cls d H' → W cls d σ H') {u : Value} (c : CX X.prog X.w X.stack H s E u s') :
    notedBy (model X.prog X.w) X.A ce (CompFails (model X.prog X.w) X.A X.xe ce) u s' := by
  subst hcl
  obtain ⟨a, B, H', cls, d, rfl, fl, hok, ub, na, os, ag, hE⟩ := c
  obtain ⟨oC, es, ep, hoC, hdC, hrC⟩ := hn
  obtain ⟨f0, f1, f2, f3, f4, f5⟩ := f
  have hBC : B.get? ce.locals = some oC := ub.keep _ _ hoC f0 hC
  have hHC : H' ce.locals = none := ub.free _ _ hoC f0
  have hsC : s'.heap.get? ce.locals = some oC := fl.1 _ _ hBC
  -- the ground without the block's names
  have bl : ∀ b o, (PySem.W.hideAll B [ce.locals]).get? b = some o → B.get? b = some o := fun b o e => PySem.W.of_hideAll _ e
  have bk : ∀ b o, B.get? b = some o → b ≠ ce.locals → (PySem.W.hideAll B [ce.locals]).get? b = some o := fun b o e n => PySem.W.hideAll_get _ e (by simpa using n)
  have bn : (PySem.W.hideAll B [ce.locals]).get? ce.locals = none := PySem.W.hideAll_none _ (by simp)
  generalize PySem.W.hideAll B [ce.locals] = B' at bl bk bn
  have bne : ∀ b o, B'.get? b = some o → b ≠ ce.locals := fun b o e z => by rw [z, bn] at e; cases e
  have sl : ∀ b o, (PySem.W.hideAll s.heap [ce.locals]).get? b = some o → s.heap.get? b = some o := fun b o e => PySem.W.of_hideAll _ e
  have sk : ∀ b o, b ≠ ce.locals → s.heap.get? b = some o → (PySem.W.hideAll s.heap [ce.locals]).get? b = some o := fun b o n e => PySem.W.hideAll_get _ e (by simpa using n)
  have sn : (PySem.W.hideAll s.heap [ce.locals]).get? ce.locals = none := PySem.W.hideAll_none _ (by simp)
  generalize PySem.W.hideAll s.heap [ce.locals] = hS at sl sk sn
  have sne : ∀ b o, hS.get? b = some o → b ≠ ce.locals := fun b o e z => by rw [z, sn] at e; cases e
  have I' : Inv X pins σ H { s with heap := hS, toks := s.toks } := I.turned (t' := s.toks) sk f0 f1 f3 f4 f5
  have hok' : HOk X.prog X.w H' B' := fun b o q => (hok b o q).stay (fun c v hc r => bk c v r (by
    rintro rfl
    rcases hc with z | z
    · rw [← z] at q
      rw [hHC] at q
      cases q
    · rw [hHC] at z
      cases z)) (fun _ q => q) fun _ _ q => q
  have fl' : HandSPX.FlyingZ B' X.stack a (Zc cls d) s'.heap := by
    obtain ⟨k1, k2, k3, oe, vs, T, oT, ts, he, hz, hd, h1, hnT, hTe, hT, hdT, h3⟩ := fl
    exact ⟨fun b o e => k1 b o (bl b o e), none_less bl k2, frames_less bl k3, oe, vs, T, oT, ts, he, hz, hd, h1, none_less bl hnT, hTe, hT, hdT, h3⟩
  have nC : ∀ {h : Heap} {m : Str → Option Value} {b : Addr} {o : Obj}, h.Ns ce.locals m → h.get? b = some o → (∃ vs, o.data = .fields vs) → b ≠ ce.locals := fun {h m b o} hn e ⟨vs, hd⟩ z => by
    obtain ⟨o', _, _, ho', hd', _⟩ := hn
    rw [z, ho'] at e
    cases e
    rw [hd'] at hd
    cases hd
  have hnf : ∀ vs, oC.data ≠ .fields vs := fun vs z => by rw [hdC] at z; cases z
  show wpAny _ _ (noteFrame (.ref a) ce) _ _ s'
  rw [noteFrame_env _ hce]
  rw [hst] at fl'
  refine HandSPX.looks_onZ Zc.steady (by rw [hA, hst]) hf fl' fun h1 hh1 up1 => ?_
  obtain ⟨sl1, e1⟩ := up1 _ _ hsC hnf
  have hn1 : h1.Ns ce.locals m := ⟨_, es, ep, e1, hdC, hrC⟩
  refine ⟨m, hn1, fun h2 m2 hn2 sb => ?_⟩
  have hh2 : HandSPX.HeldZ B' (X.env :: X.outer) a (Zc cls d) X.env.locals h2 := by
    obtain ⟨k1, k2, k3, oe, vs, T, oT, ts, he, hz, hd, h1', hnT, hTe, hT, hdT, h3⟩ := hh1
    exact ⟨fun b o e => (sb.2 b (bne b o e)).trans (k1 b o e), k2, Heap.FunFrames.sameBut sb hn2 k3, oe, vs, T, oT, ts, (sb.2 _ (nC hn1 he ⟨_, hd⟩)).trans he, hz, hd, h1', hnT, hTe, (sb.2 _ (nC hn1 hT ⟨_, hdT⟩)).trans hT, hdT, h3⟩
  obtain ⟨oe, vs, T, oT, ts, he, hz, hd, h1', hnT, hTe, hT, hdT, h3⟩ := hh2.2.2.2
  unfold PySem.passOn
  refine wpAny_bind (wpAny_field he hd h1' ?_)
  rw [if_neg (show ¬ ((Value.ref T == Value.none) = true) from by simp)]
  rw [hce, hf]
  refine wpAny_bind (HandSPX.setFlight_onZ hh2 fun h3 hh3 up3 => ?_)
  refine wpAny_throw (tk _ _ (XE.of_held I' hW ⟨a, B', H', cls, d, rfl, by rw [hst]; exact hh3, hok', ?_, na, os, ag, hE⟩))
  refine ⟨fun b o e n hb => bk b o (ub.keep b o (sl b o e) n hb) (sne b o e), fun b o e hb => ?_, fun b o e n => ub.free b o (sl b o e) n, fun b o e hb => ?_, ub.tups, ub.frzs, ub.tbls⟩
  · obtain ⟨sl0, e0⟩ := ub.slot b o (sl b o e) hb
    have hnf' : ∀ vs, o.data ≠ .fields vs := by
      obtain ⟨_, o₀, e₀, hnf⟩ := I'.stack.mem hb
      have e₀ : hS.get? b = some o₀ := e₀
      rw [e] at e₀
      cases e₀
      exact hnf
    obtain ⟨sl1, e1⟩ := up1 _ _ e0 hnf'
    have e2 : h2.get? b = _ := (sb.2 b (sne b o e)).trans e1
    obtain ⟨sl3, e3⟩ := up3 _ _ e2 hnf'
    exact ⟨sl3, e3⟩
  · obtain ⟨o', q⟩ := ub.there b o (sl b o e) hb
    exact ⟨o', bk b o' q (sne b o e)⟩
end
/-- a comprehension whose items may let errors out, told by the def's slots at its start -/
def tLcX (W : WX) (wi : TI) (g : TG) (tt : TT) (te : WX → TE) (vs : List Nat) : TE := fun σ H Q => tLc wi g tt (te fun cls d _ H' => W cls d σ H') vs σ H Q
section
variable {X : Cx} {W : WX}
theorem pe_lcX {elt tg iter : Expr} {ifs : List Expr} {scope : Scope} {own : List (Str × Nat)} {pos : Pos} {wi : TI} {g : TG} {tt : TT} {te : WX → TE} (tk : Takes X W) (hc : X.calm = true) (hst : X.stack = X.env :: X.outer) (hf : X.env.frame = some X.env.locals) (hN : X.N.Nodup)
    (hi : PI X tg iter wi) (ok : BlkOk X.N X.env.scope scope own)
    (hg : ∀ (s : Shared) (H : Hp) (C : Addr) (cl : List (Str × Addr)) (fp : List Addr), PG (X.blk s H scope (compEnvC scope cl C X.env) fp) tg g)
    (ht : ∀ (s : Shared) (H : Hp) (C : Addr) (cl : List (Str × Addr)) (fp : List Addr), PTs (X.blk s H scope (compEnvC scope cl C X.env) fp) ifs tt)
    (he : ∀ (W' : WX) (xe' : Value → Shared → Prop) (s : Shared) (H : Hp) (C : Addr) (cl : List (Str × Addr)) (fp : List Addr), TakesC ((X.blk s H scope (compEnvC scope cl C X.env) fp).wish xe') W' → PE ((X.blk s H scope (compEnvC scope cl C X.env) fp).wish xe') elt (te W'))
    (hs : ∀ x, foldedSetIterable iter X.env x = pure x := by intro _; rfl) : PE X (.ListComp elt [⟨tg, iter, ifs, 0⟩] scope pos) (tLcX W wi g tt te (own.map (·.2))) := by
  refine ⟨fun pins s σ H Q I h => ?_⟩
  have hA : X.A.frames = some X.stack := I.ok.frames
  rw [eval_ListComp]
  have hfree : ∀ y ∈ scope.names, y.2 = .free → ∃ c, X.env.cells.lookup y.1 = some c := fun y hy e => (ok.free y hy e).elim (fun k => I.ok.has _ (.inl k)) fun k => I.ok.has _ (.inr k)
  refine comprehension_at (use := none) rfl hs (closure_ok hfree) ok.kind (fun y hy e => by rw [ok.uniq y hy, e]) (thn (hi.run pins s σ H _ I h) fun xv s1 hx => thn hx fun itv s2 h2 => ?_)
  obtain ⟨it, fp, tn, J, H2, e, I2, T, st2, f2, q⟩ := h2
  subst e
  refine wpAny_newObj_type (newEnv_comp ?_) (by show 0 ≤ sizeLine; decide)
  generalize hD : s2.heap.objs.size = D
  have hDn : H2 D = none := I2.hok.fresh (Nat.le_of_eq hD)
  obtain ⟨Wf, ⟨m0, w0⟩, turn⟩ := q D hDn
  generalize hs3 : ({ s2 with heap := s2.heap.push { cls := .type "list", data := .seq ([] : List Value).toArray } } : Shared) = s3
  have h3 : s3.heap = s2.heap.push { cls := .type "list", data := .seq ([] : List Value).toArray } := by rw [← hs3]
  have I3 : Inv X pins σ (upd H2 D (.lst [])) s3 := by
    rw [← hs3]
    refine I2.laid (t' := s2.toks) (fun b o e => Heap.get?_push_of_some _ e) (Nat.le_of_eq hD) ⟨Nat.zero_le _, [], 0, .nil, ?_⟩
    rw [← hD]
    exact Heap.get?_push_size _ rfl
  have f3 : ∀ b ∈ fp, FpOk X pins (upd H2 D (.lst [])) b ∧ b < s3.heap.objs.size := fun b hb => by
    obtain ⟨o, e, _⟩ := T.obj _ _ st2 b hb
    have hlt := Heap.lt_size e
    refine ⟨⟨?_, (f2 b hb).2⟩, by rw [h3, Heap.size_push]; exact Nat.lt_succ_of_lt hlt⟩
    rw [upd_ne (by rw [← hD]; exact Nat.ne_of_lt hlt)]
    exact (f2 b hb).1
  have st3 : tn 0 s3.heap := T.keep _ _ _ st2 fun b _ o e => by rw [h3]; exact Heap.get?_push_of_some _ e
  have I4 := block_start I3 ok hN f3
  have pg := hg s3 (upd H2 D (.lst [])) s3.heap.objs.size (cellsFrom (s3.heap.objs.size + 1) scope.names (cloFrom X.env.cells scope.names [])) fp
  have pt := ht s3 (upd H2 D (.lst [])) s3.heap.objs.size (cellsFrom (s3.heap.objs.size + 1) scope.names (cloFrom X.env.cells scope.names [])) fp
  have pe := fun xe' => he (fun cls d _ H' => W cls d σ H') xe' s3 (upd H2 D (.lst [])) s3.heap.objs.size (cellsFrom (s3.heap.objs.size + 1) scope.names (cloFrom X.env.cells scope.names [])) fp
  show codeAny _ _ (.compStart (.ListComp elt [⟨tg, iter, ifs, 0⟩] scope pos) 0 (.ref it) (.ref D) (compEnvC scope (cellsFrom (s3.heap.objs.size + 1) scope.names (cloFrom X.env.cells scope.names [])) s3.heap.objs.size X.env)) (compEnds (model X.prog X.w) X.A X.xe none _ (.ref D) (compEnvC scope (cellsFrom (s3.heap.objs.size + 1) scope.names (cloFrom X.env.cells scope.names [])) s3.heap.objs.size X.env)) { s3 with heap := pushCells (s3.heap.push { cls := .type "dict", data := .dict #[] }) scope.names }
  have nfp : ∀ b ∈ fp, (upd H2 D (.lst [])) b = none := fun b hb => (f3 b hb).1.1
  have cF : (compEnvC scope (cellsFrom (s3.heap.objs.size + 1) scope.names (cloFrom X.env.cells scope.names [])) s3.heap.objs.size X.env).frame = X.env.frame := rfl
  generalize hce : compEnvC scope (cellsFrom (s3.heap.objs.size + 1) scope.names (cloFrom X.env.cells scope.names [])) s3.heap.objs.size X.env = ce at I4 pg pt pe cF ⊢
  have cL : ce.locals = s3.heap.objs.size := by subst hce; rfl
  generalize hH3 : upd H2 D (.lst []) = H3 at I3 I4 pg pt pe w0 nfp f3
  generalize hs4 : ({ s3 with heap := pushCells (s3.heap.push { cls := .type "dict", data := .dict #[] }) scope.names } : Shared) = s4 at I4 ⊢
  have st4 : tn 0 s4.heap := T.keep _ _ _ st3 fun b _ o e => by rw [← hs4]; exact pushCells_keeps _ _ _ _ (Heap.get?_push_of_some _ e)
  have stat : ∀ {σ' : St} {H' : Hp} {s' : Shared}, Inv (X.blk s3 H3 scope ce fp) [] σ' H' s' → (∀ b ∈ fp, H' b = none) → ∀ b ∈ fp, FpOk (X.blk s3 H3 scope ce fp) [] H' b := fun {σ' H' s'} I' hn b hb =>
    ⟨hn b hb, (I'.ok.exf b hb).1, I'.ok.exfs b hb, .inl hb, fun x c e => (I'.ok.exf b hb).2 x c e, fun p hp => absurd (show p ∈ ([] : List (Addr × Obj)) ++ [] from hp) (by simp)⟩
  -- a state of the block, seen from the def
  have out : ∀ {pins' : List (Addr × Obj)} {σ' : St} {H' : Hp} {s' : Shared}, Inv (X.blk s3 H3 scope ce fp) pins' σ' H' s' → Inv X pins σ H' s' ∧ FpOk X pins H' ce.locals ∧ ce.locals ∉ frs X.stack ∧ ∃ m, s'.heap.Ns ce.locals m := fun {pins' σ' H' s'} I' => by
    obtain ⟨m, hn, _⟩ := I'.loc
    have hn : s'.heap.Ns ce.locals m := hn
    have nC : H' ce.locals = none := I'.free
    refine ⟨I3.call' (ch := fp) I'.os I'.base I'.hok I'.bare fun b hb => ⟨(f3 b hb).1.2.2.2.1, (f3 b hb).1.2.1, (f3 b hb).1.2.2.2.2.1, (f3 b hb).1.2.2.2.2.2⟩, I3.fpOk (by rw [cL]; exact Nat.le_refl _) nC, fun hm => ?_, m, hn⟩
    obtain ⟨_, o₀, e₀, _⟩ := I3.stack.mem hm
    have := Heap.lt_size e₀
    rw [cL] at this
    exact absurd this (Nat.lt_irrefl _)
  have loop : codeAny (model X.prog X.w) X.A (.compLoop (.ListComp elt [⟨tg, iter, ifs, 0⟩] scope pos) 0 (.ref it) (.ref D) ce) (compEnds (model X.prog X.w) X.A X.xe none (EP X pins σ Q) (.ref D) ce) s4 := by
    refine compLoop_any (fun n s' => ∃ i H', Inv (X.blk s3 H3 scope ce fp) [] (wipe σ (own.map (·.2))) H' s' ∧ tn i s'.heap ∧ (∀ b ∈ fp, H' b = none) ∧ Wf i n H') ?_ m0 ⟨0, H3, I4, st4, nfp, w0⟩
    rintro n s5 ⟨i, H5, I5, st5, n5, w5⟩
    rcases turn i n H5 w5 with ⟨stop, qq⟩ | ⟨go, Nx, hNx, step⟩
    · have td := T.done (X.blk s3 H3 scope ce fp) rfl rfl rfl hc i [] s5 _ H5 (fun _ _ => False) I5 (stat I5 n5) st5 stop
      refine thnF td fun r s6 ⟨hr, I6⟩ => ?_
      subst hr
      obtain ⟨I7, f7, _, m, hn⟩ := out I6
      refine ⟨m, hn, fun h'' sb => ?_⟩
      obtain ⟨f0, f1, f2, f3, f4, f5⟩ := f7
      exact ⟨.ref D, H5, I7.turned (t' := s6.toks) (fun b o hb e => (sb.2 b hb).trans e) f0 f1 f3 f4 f5, rfl, qq⟩
    · have ti := T.item (X.blk s3 H3 scope ce fp) rfl rfl rfl hc i [] s5 _ H5 (fun _ _ => False) I5 (stat I5 n5) st5 go
      refine thnF ti fun r s6 ⟨u, hr, h6⟩ => ?_
      subst hr
      refine thnF h6 fun _ s7 ⟨x, H7, I7, r7, y7, st7, n7⟩ => ?_
      have I7' := I7.pinned (stat I7 n7) (T.obj _ _ st7)
      refine thnF (pg.run _ s7 _ H7 x u _ I7' r7 (step x H7 y7)) fun _ s8 ⟨σ8, H8, I8, hw8, q8⟩ => ?_
      refine thnF (pt.run _ s8 σ8 H8 _ I8 q8) fun b s9 ⟨H9, I9, q9⟩ => ?_
      have fin : ∀ {s' : Shared} {H' : Hp}, Inv (X.blk s3 H3 scope ce fp) ([] ++ pinsAt fp s7.heap) σ8 H' s' → Nx H' → ∃ m, m < n ∧ ∃ i H', Inv (X.blk s3 H3 scope ce fp) [] (wipe σ (own.map (·.2))) H' s' ∧ tn i s'.heap ∧ (∀ b ∈ fp, H' b = none) ∧ Wf i m H' := fun {s' H'} I' nx => by
        obtain ⟨m', hm, w'⟩ := hNx H' nx
        have pin' : ∀ b ∈ fp, ∀ o, s7.heap.get? b = some o → s'.heap.get? b = some o ∧ H' b = none := fun b hb o e =>
          let z := I'.pin (b, o) (List.mem_append_right _ (List.mem_append_right _ (mem_pinsAt hb e)))
          ⟨z.1, z.2.1⟩
        have hl : (wipe σ (own.map (·.2))).length = σ8.length := by rw [← hw8, wipe_length]
        refine ⟨m', hm, i + 1, H', (I'.unpinned (pins := [])).weak hl (fun j v e => ?_), T.keep _ _ _ st7 fun b hb o e => (pin' b hb o e).1, fun b hb => ?_, w'⟩
        · rw [← hw8] at e
          exact (wipe_some e).1
        · obtain ⟨o, e, _⟩ := T.obj _ _ st7 b hb
          exact (pin' b hb o e).2
      cases b with
      | false =>
        simp only [Bool.false_eq_true, if_false] at q9 ⊢
        exact fin I9 q9
      | true =>
        simp only [if_true] at q9 ⊢
        -- an error behind a call of the item
        let XN : Value → Shared → Prop := fun u s' => ∃ (E : XK) (pins' : List (Addr × Obj)) (σ' : St) (H' : Hp) (sc : Shared), Inv (X.blk s3 H3 scope ce fp) pins' σ' H' sc ∧ CX X.prog X.w X.stack H' sc E u s' ∧ ∀ cls d H'', E cls d H'' → W cls d σ H''
        have tkc : TakesC ((X.blk s3 H3 scope ce fp).wish XN) (fun cls d _ H' => W cls d σ H') := fun σ' pins' H' sc u s' I' c => ⟨_, pins', σ', H', sc, I'.unwish, c, fun _ _ _ h => h⟩
        refine wpAny_mono ((pe XN tkc).run _ s9 σ8 H9 _ (I9.wish XN) q9) (fun z s10 told => ?_) fun u s' err => ?_
        · obtain ⟨yv, H10, I10, r10, acc, hD10, hz10, nx⟩ := told
          exact app_ok (X := X.blk s3 H3 scope ce fp) I10.unwish hD10 hz10 r10 fun s11 I11 => fin I11 nx
        · obtain ⟨E, pins', σ', H', sc, I', c, hW⟩ := err
          obtain ⟨Id, fd, nm, m, hn⟩ := out I'
          exact block_err Id hst hf hA cF rfl hn fd nm tk hW c
  exact codeAny_compStart_list loop (T.self X.A 0 _ _ _ st4 loop)
end
end L2
namespace Tw
open PySem L2 PySem.Spec
section
variable {X : Cx} {k j : Nat} {C : Addr} {x m : Str} {p pos apos : Pos} {o e : Expr} {es : List Expr} {ps : List Str} {sp : Sp} {t : TA} {W : WX} {σ : L2.St} {H : Hp} {Q : VK}
/-- a call of a def that may let an error out, where calls' errors are taken -/
theorem pe_defXC (tk : TakesC X W) (D : DefX X.prog X.w X.K X.mg X.base k x ps sp) (hr : Room j X.A) (hg : Gl X x) (ha : PA X (e :: es) t) (hk : k ≤ j := by decide) (hdb : (x == ("__debug__" : Str)) = false := by decide)
    (he : starEach (e :: es) X.env = (false, eval e X.env) :: starEach es X.env := by rfl) (hpl : (backTo pos (starEach es X.env)).any (·.1) = false := by rfl) : PE X (.Call (.Name x p) (e :: es) [] pos) (tCallS sp (WE W) t) := by
  obtain ⟨f, fd, F, hm, hkp, hb⟩ := D.ex
  exact pe_callS F (hr.mono hk) hg hm hkp hb tk ha hdb he hpl
theorem g_lcX {wi : TI} {g : TG} {tt : TT} {te : WX → TE} {vs : List Nat} (q : tLc wi g tt (te fun cls d _ H' => W cls d σ H') vs σ H Q) : tLcX W wi g tt te vs σ H Q := q
/-- d.get(y, x) -/
theorem pe_dget2X {a b c : Expr} {ta tb tc : TE} (hu : X.A.units + 1 < cLine) (ho : PE X a ta) (he : PE X b tb) (hf : PE X c tc) (h1 : attributeBase a "get" X.env (eval a X.env) = eval a X.env := by rfl)
    (h2 : ((backTo pos (starEach [b, c] X.env)).all (fun x => !x.1) && (backToKw pos (keywordEach [] X.env)).all (fun x => x.1.isSome) && decide (([b, c] : List Expr).length + ([] : List Keyword).length + (if ([] : List Keyword).isEmpty then 0 else 1) < 30)) = true := by rfl)
    (h3 : (apos.endLine == pos.line) = true := by rfl) (h4 : backTo pos (starEach [b, c] X.env) = [(false, eval b X.env), (false, eval c X.env)] := by rfl) : PE X (.Call (.Attribute a "get" apos) [b, c] [] pos) (tDGet2 ta tb tc) := pe_dget2 hu ho he hf ⟨h1, h2, h3, h4⟩
theorem g_dget2 {td ty tx : TE} (q : td σ H fun x H1 => ∃ a, x = .ref a ∧ IsD H1 a ∧ ty σ H1 fun y H2 => tx σ H2 fun z H3 => ∃ o, DGet H3 a y o ∧ Q (o.getD z) H3) : tDGet2 td ty tx σ H Q := q
end
end Tw

set_option Elab.async false
set_option linter.all false
/-! f-strings of texts and ints -/
namespace Tw
open PySem L2
theorem g_js {t : TE} {ts : List TE} {acc : Str} {σ : L2.St} {H : Hp} {Q : Str → Hp → Prop} (q : t σ H fun x H1 => ∃ y : Str, x = .str y ∧ (acc ++ y).length ≤ sizeLine ∧ tJs ts (acc ++ y) σ H1 Q) : tJs (t :: ts) acc σ H Q := q
theorem g_js0 {acc : Str} {σ : L2.St} {H : Hp} {Q : Str → Hp → Prop} (q : Q acc H) : tJs [] acc σ H Q := q
theorem g_fmt {te : TE} {σ : L2.St} {H : Hp} {Q : VK} (q : te σ H fun x H1 => (∃ y : Str, x = .str y ∧ y.length ≤ sizeLine ∧ Q (.str y) H1) ∨ ∃ i : Int, x = .int i ∧ i.natAbs.log2 < 1920 ∧ Q (.str (toString i)) H1) : tFmt te σ H Q := q
end Tw
namespace Tw
open PySem L2
theorem hu65_of {A : Around} {k : Nat} (hr : Room k A) : A.units + 65 < cLine := by have := hr.un; omega
theorem op_inDG {X : Cx} {K : PySem.W.Frag} (h : X.K = K) (hu : X.A.units + 65 < cLine) : OpR X (compareOp .In) (rInD K) := by subst h; exact op_inD hu
theorem op_notInDG {X : Cx} {K : PySem.W.Frag} (h : X.K = K) (hu : X.A.units + 65 < cLine) : OpR X (compareOp .NotIn) (rNotInD K) := by subst h; exact op_notInD hu
end Tw
/-! a text n times -/
namespace Tw
open PySem L2 PySem.Spec
def repS (z : Str) (n : Int) : Str := if (n == 1 || z.length == 0) = true then z else ⟨(List.replicate n.toNat z.cps).foldl (· ++ ·) #[]⟩
def rMulS : R2 := fun x y H Q => ∃ z n, x = .str z ∧ y = .int n ∧ 1 ≤ n ∧ n ≤ 1000 ∧ z.length ≤ 1000 ∧ (repS z n).length ≤ sizeLine ∧ Q (.str (repS z n)) H
theorem op_mulS {X : Cx} : OpR X (binaryOp .Mult) rMulS := by
  intro pins s σ H x y v u Q I rx ry h
  obtain ⟨z, n, rfl, rfl, h1, h2, h3, h4, q⟩ := h
  obtain ⟨t, rfl⟩ := rx
  obtain ⟨t', rfl⟩ := ry
  have hn : ¬ n < 1 := by omega
  refine P.mul_str ?_ (fun _ _ => ?_) (fun _ _ => ?_) ?_
  · have a1 : ¬ n < -(2 ^ 63) := by omega
    have a2 : ¬ n ≥ 2 ^ 63 := by omega
    rw [decide_eq_false a1, decide_eq_false a2]; rfl
  · have a0 : (2 ^ 63 - 1) / n ≥ 1000 := by
      refine (Int.le_ediv_iff_mul_le (by omega)).mpr ?_
      omega
    omega
  · have a3 : z.length * n.toNat ≤ 1000 * 1000 := Nat.mul_le_mul h3 (by omega)
    unfold Builtin.Str.tooLong
    exact decide_eq_false (by have := sizeLine_eq; unfold sizeLine at *; omega)
  · rw [if_neg hn]
    unfold repS at q h4
    split
    · rename_i e
      rw [if_pos e] at q
      exact ⟨.str z, H, I, ⟨_, rfl⟩, q⟩
    · rename_i e
      rw [if_neg e] at q h4
      exact ⟨h4, .str _, H, I.tok _, ⟨_, rfl⟩, q⟩
end Tw

/-! ZS: the walk's rules, found by the shape of the goal and not by trying one after another -/
set_option linter.all false
set_option maxRecDepth 100000
namespace Tw
open PySem L2
/-- from what is to be shown to what is left of it -/
class Wk (P : Prop) (Q : outParam Prop) : Prop where
  go : Q → P
abbrev WkOf {P Q : Prop} (_ : Q → P) : Prop := Wk P Q
theorem g_wk {P Q : Prop} [h : Wk P Q] (q : Q) : P := h.go q
theorem id_isi {a b c d} (q : rIsi a b c d) : rIsi a b c d := q
instance {a0 a1 a2 a3 a4 a5} : WkOf (@g_nx a0 a1 a2 a3 a4 a5) := ⟨@g_nx a0 a1 a2 a3 a4 a5⟩
instance {a0 a1 a2 a3 a4 a5} : WkOf (@g_rt a0 a1 a2 a3 a4 a5) := ⟨@g_rt a0 a1 a2 a3 a4 a5⟩
instance {a0 a1 a2 a3 a4} : WkOf (@g_seq a0 a1 a2 a3 a4) := ⟨@g_seq a0 a1 a2 a3 a4⟩
instance {a0 a1 a2 a3} : WkOf (@g_ret a0 a1 a2 a3) := ⟨@g_ret a0 a1 a2 a3⟩
instance {a0 a1 a2 a3 a4 a5} : WkOf (@g_if a0 a1 a2 a3 a4 a5) := ⟨@g_if a0 a1 a2 a3 a4 a5⟩
instance {a0 a1 a2 a3 a4} : WkOf (@g_asg a0 a1 a2 a3 a4) := ⟨@g_asg a0 a1 a2 a3 a4⟩
instance {a0 a1 a2 a3} : WkOf (@g_drop a0 a1 a2 a3) := ⟨@g_drop a0 a1 a2 a3⟩
instance {a0 a1 a2 a3 a4 a5 a6} : WkOf (@g_asgSub a0 a1 a2 a3 a4 a5 a6) := ⟨@g_asgSub a0 a1 a2 a3 a4 a5 a6⟩
instance {a0 a1 a2} : WkOf (@g_next a0 a1 a2) := ⟨@g_next a0 a1 a2⟩
instance {a0 a1 a2 a3 a4 a5} : WkOf (@g_op a0 a1 a2 a3 a4 a5) := ⟨@g_op a0 a1 a2 a3 a4 a5⟩
instance {a0 a1 a2 a3} : WkOf (@g_c a0 a1 a2 a3) := ⟨@g_c a0 a1 a2 a3⟩
instance {a0 a1 a2 a3 a4} : WkOf (@g_cons a0 a1 a2 a3 a4) := ⟨@g_cons a0 a1 a2 a3 a4⟩
instance {a0 a1 a2} : WkOf (@g_nil a0 a1 a2) := ⟨@g_nil a0 a1 a2⟩
instance {a0 a1 a2 a3 a4} : WkOf (@g_def a0 a1 a2 a3 a4) := ⟨@g_def a0 a1 a2 a3 a4⟩
instance {a0 a1 a2 a3 a4} : WkOf (@g_cb a0 a1 a2 a3 a4) := ⟨@g_cb a0 a1 a2 a3 a4⟩
instance {a0 a1 a2 a3} : WkOf (@g_test a0 a1 a2 a3) := ⟨@g_test a0 a1 a2 a3⟩
instance {a0 a1 a2 a3} : WkOf (@g_B a0 a1 a2 a3) := ⟨@g_B a0 a1 a2 a3⟩
instance {a0 a1} : WkOf (@g_bl a0 a1) := ⟨@g_bl a0 a1⟩
instance {a0 a1 a2 a3 a4 a5 a6} : WkOf (@g_sl a0 a1 a2 a3 a4 a5 a6) := ⟨@g_sl a0 a1 a2 a3 a4 a5 a6⟩
instance {a0 a1 a2 a3 a4} : WkOf (@g_name a0 a1 a2 a3 a4) := ⟨@g_name a0 a1 a2 a3 a4⟩
instance {a0 a1 a2 a3 a4 a5 a6 a7} : WkOf (@g_lc a0 a1 a2 a3 a4 a5 a6 a7) := ⟨@g_lc a0 a1 a2 a3 a4 a5 a6 a7⟩
instance {a0 a1 a2 a3} : WkOf (@g_rng1 a0 a1 a2 a3) := ⟨@g_rng1 a0 a1 a2 a3⟩
instance {a0 a1 a2 a3 a4 a5} : WkOf (@g_for a0 a1 a2 a3 a4 a5) := ⟨@g_for a0 a1 a2 a3 a4 a5⟩
instance {a0 a1 a2} : WkOf (@g_yes a0 a1 a2) := ⟨@g_yes a0 a1 a2⟩
instance {a0 a1 a2 a3 a4} : WkOf (@g_ilist a0 a1 a2 a3 a4) := ⟨@g_ilist a0 a1 a2 a3 a4⟩
instance {a0 a1 a2 a3 a4 a5} : WkOf (@g_m1 a0 a1 a2 a3 a4 a5) := ⟨@g_m1 a0 a1 a2 a3 a4 a5⟩
instance {a0 a1 a2 a3 a4} : WkOf (@g_m0 a0 a1 a2 a3 a4) := ⟨@g_m0 a0 a1 a2 a3 a4⟩
instance {a0 a1 a2} : WkOf (@g_noPart a0 a1 a2) := ⟨@g_noPart a0 a1 a2⟩
instance {a0 a1 a2 a3} : WkOf (@g_part a0 a1 a2 a3) := ⟨@g_part a0 a1 a2 a3⟩
instance {a0 a1} : WkOf (@g_int a0 a1) := ⟨@g_int a0 a1⟩
instance {a0 a1 a2 a3 a4} : WkOf (@g_tand a0 a1 a2 a3 a4) := ⟨@g_tand a0 a1 a2 a3 a4⟩
instance {a0 a1 a2 a3 a4} : WkOf (@g_tor a0 a1 a2 a3 a4) := ⟨@g_tor a0 a1 a2 a3 a4⟩
instance {a0 a1 a2 a3} : WkOf (@g_tnot a0 a1 a2 a3) := ⟨@g_tnot a0 a1 a2 a3⟩
instance {a0 a1 a2 a3 a4} : WkOf (@g_vand a0 a1 a2 a3 a4) := ⟨@g_vand a0 a1 a2 a3 a4⟩
instance {a0 a1 a2 a3 a4} : WkOf (@g_vor a0 a1 a2 a3 a4) := ⟨@g_vor a0 a1 a2 a3 a4⟩
instance {a0 a1 a2 a3} : WkOf (@g_vnot a0 a1 a2 a3) := ⟨@g_vnot a0 a1 a2 a3⟩
instance {a0 a1 a2 a3 a4 a5} : WkOf (@g_eif a0 a1 a2 a3 a4 a5) := ⟨@g_eif a0 a1 a2 a3 a4 a5⟩
instance {a0 a1 a2 a3 a4} : WkOf (@g_un a0 a1 a2 a3 a4) := ⟨@g_un a0 a1 a2 a3 a4⟩
instance {a0 a1 a2 a3} : WkOf (@g_addI a0 a1 a2 a3) := ⟨@g_addI a0 a1 a2 a3⟩
instance {a0 a1 a2 a3} : WkOf (@g_subI a0 a1 a2 a3) := ⟨@g_subI a0 a1 a2 a3⟩
instance {a0 a1 a2} : WkOf (@g_negI a0 a1 a2) := ⟨@g_negI a0 a1 a2⟩
instance {a0 a1 a2 a3} : WkOf (@g_ltI a0 a1 a2 a3) := ⟨@g_ltI a0 a1 a2 a3⟩
instance {a0 a1 a2 a3} : WkOf (@g_ltS a0 a1 a2 a3) := ⟨@g_ltS a0 a1 a2 a3⟩
instance {a0 a1 a2 a3} : WkOf (@g_leI a0 a1 a2 a3) := ⟨@g_leI a0 a1 a2 a3⟩
instance {a0 a1 a2 a3} : WkOf (@g_geS a0 a1 a2 a3) := ⟨@g_geS a0 a1 a2 a3⟩
instance {a0 a1 a2 a3 a4} : WkOf (@g_inS a0 a1 a2 a3 a4) := ⟨@g_inS a0 a1 a2 a3 a4⟩
instance {a0 a1 a2 a3 a4} : WkOf (@g_notInS a0 a1 a2 a3 a4) := ⟨@g_notInS a0 a1 a2 a3 a4⟩
instance {a0 a1 a2 a3} : WkOf (@g_max2 a0 a1 a2 a3) := ⟨@g_max2 a0 a1 a2 a3⟩
instance {a0 a1} : WkOf (@g_isBl_tt a0 a1) := ⟨@g_isBl_tt a0 a1⟩
instance {a0 a1} : WkOf (@g_notBl_tt a0 a1) := ⟨@g_notBl_tt a0 a1⟩
instance {a0 a1} : WkOf (@g_isBl_tf a0 a1) := ⟨@g_isBl_tf a0 a1⟩
instance {a0 a1} : WkOf (@g_notBl_tf a0 a1) := ⟨@g_notBl_tf a0 a1⟩
instance {a0 a1} : WkOf (@g_isBl_ft a0 a1) := ⟨@g_isBl_ft a0 a1⟩
instance {a0 a1} : WkOf (@g_notBl_ft a0 a1) := ⟨@g_notBl_ft a0 a1⟩
instance {a0 a1} : WkOf (@g_isBl_ff a0 a1) := ⟨@g_isBl_ff a0 a1⟩
instance {a0 a1} : WkOf (@g_notBl_ff a0 a1) := ⟨@g_notBl_ff a0 a1⟩
instance (priority := low) {a0 a1 a2 a3} : WkOf (@g_isBl a0 a1 a2 a3) := ⟨@g_isBl a0 a1 a2 a3⟩
instance (priority := low) {a0 a1 a2 a3} : WkOf (@g_notBl a0 a1 a2 a3) := ⟨@g_notBl a0 a1 a2 a3⟩
instance {a0 a1 a2 a3} : WkOf (@g_istr a0 a1 a2 a3) := ⟨@g_istr a0 a1 a2 a3⟩
instance {a0 a1} : WkOf (@g_str1 a0 a1) := ⟨@g_str1 a0 a1⟩
instance {a0 a1} : WkOf (@g_strE a0 a1) := ⟨@g_strE a0 a1⟩
instance {a0 a1 a2 a3} : WkOf (@g_gtI a0 a1 a2 a3) := ⟨@g_gtI a0 a1 a2 a3⟩
instance {a0 a1 a2 a3} : WkOf (@g_geI a0 a1 a2 a3) := ⟨@g_geI a0 a1 a2 a3⟩
instance {a0 a1} : WkOf (@g_isN_non a0 a1) := ⟨@g_isN_non a0 a1⟩
instance {a0 a1 a2} : WkOf (@g_isN_int a0 a1 a2) := ⟨@g_isN_int a0 a1 a2⟩
instance {a0 a1 a2} : WkOf (@g_isN_str a0 a1 a2) := ⟨@g_isN_str a0 a1 a2⟩
instance {a0 a1 a2} : WkOf (@g_isN_bl a0 a1 a2) := ⟨@g_isN_bl a0 a1 a2⟩
instance {a0 a1 a2} : WkOf (@g_isN_ref a0 a1 a2) := ⟨@g_isN_ref a0 a1 a2⟩
instance {a0 a1} : WkOf (@g_notN_non a0 a1) := ⟨@g_notN_non a0 a1⟩
instance {a0 a1 a2} : WkOf (@g_notN_int a0 a1 a2) := ⟨@g_notN_int a0 a1 a2⟩
instance {a0 a1 a2} : WkOf (@g_notN_str a0 a1 a2) := ⟨@g_notN_str a0 a1 a2⟩
instance {a0 a1 a2} : WkOf (@g_notN_bl a0 a1 a2) := ⟨@g_notN_bl a0 a1 a2⟩
instance {a0 a1 a2} : WkOf (@g_notN_ref a0 a1 a2) := ⟨@g_notN_ref a0 a1 a2⟩
instance (priority := low) {a0 a1 a2} : WkOf (@g_isN a0 a1 a2) := ⟨@g_isN a0 a1 a2⟩
instance (priority := low) {a0 a1 a2} : WkOf (@g_notN a0 a1 a2) := ⟨@g_notN a0 a1 a2⟩
instance {a0 a1 a2 a3} : WkOf (@g_eqI a0 a1 a2 a3) := ⟨@g_eqI a0 a1 a2 a3⟩
instance {a0 a1 a2 a3} : WkOf (@g_eqS a0 a1 a2 a3) := ⟨@g_eqS a0 a1 a2 a3⟩
instance {a0 a1 a2 a3} : WkOf (@g_eqB a0 a1 a2 a3) := ⟨@g_eqB a0 a1 a2 a3⟩
instance {a0 a1 a2 a3} : WkOf (@g_neI a0 a1 a2 a3) := ⟨@g_neI a0 a1 a2 a3⟩
instance {a0 a1 a2 a3} : WkOf (@g_neS a0 a1 a2 a3) := ⟨@g_neS a0 a1 a2 a3⟩
instance {a0 a1 a2} : WkOf (@g_int1 a0 a1 a2) := ⟨@g_int1 a0 a1 a2⟩
instance {a0 a1 a2} : WkOf (@g_int1B a0 a1 a2) := ⟨@g_int1B a0 a1 a2⟩
instance {a0 a1 a2} : WkOf (@g_bool1B a0 a1 a2) := ⟨@g_bool1B a0 a1 a2⟩
instance {a0 a1 a2} : WkOf (@g_bool1I a0 a1 a2) := ⟨@g_bool1I a0 a1 a2⟩
instance {a0 a1 a2 a3} : WkOf (@g_tup a0 a1 a2 a3) := ⟨@g_tup a0 a1 a2 a3⟩
instance {a0 a1 a2 a3} : WkOf (@g_lst a0 a1 a2 a3) := ⟨@g_lst a0 a1 a2 a3⟩
instance {a0 a1 a2 a3 a4 a5 a6 a7} : WkOf (@g_bm a0 a1 a2 a3 a4 a5 a6 a7) := ⟨@g_bm a0 a1 a2 a3 a4 a5 a6 a7⟩
instance {a0 a1 a2 a3 a4} : WkOf (@g_itup a0 a1 a2 a3 a4) := ⟨@g_itup a0 a1 a2 a3 a4⟩
instance {a0 a1 a2 a3 a4 a5 a6 a7 a8 a9 a10 a11} : WkOf (@g_lc2 a0 a1 a2 a3 a4 a5 a6 a7 a8 a9 a10 a11) := ⟨@g_lc2 a0 a1 a2 a3 a4 a5 a6 a7 a8 a9 a10 a11⟩
instance {a0 a1 a2 a3 a4} : WkOf (@g_sortedSet a0 a1 a2 a3 a4) := ⟨@g_sortedSet a0 a1 a2 a3 a4⟩
instance {a0 a1 a2 a3 a4} : WkOf (@g_dget a0 a1 a2 a3 a4) := ⟨@g_dget a0 a1 a2 a3 a4⟩
instance {a0 a1 a2 a3 a4} : WkOf (@g_din a0 a1 a2 a3 a4) := ⟨@g_din a0 a1 a2 a3 a4⟩
instance {a0 a1 a2 a3 a4} : WkOf (@g_dnotin a0 a1 a2 a3 a4) := ⟨@g_dnotin a0 a1 a2 a3 a4⟩
instance {a0 a1 a2 a3} : WkOf (@g_neB a0 a1 a2 a3) := ⟨@g_neB a0 a1 a2 a3⟩
instance {a0 a1 a2 a3 a4 a5} : WkOf (@g_opW a0 a1 a2 a3 a4 a5) := ⟨@g_opW a0 a1 a2 a3 a4 a5⟩
instance {a0 a1 a2 a3 a4 a5 a6} : WkOf (@g_unW a0 a1 a2 a3 a4 a5 a6) := ⟨@g_unW a0 a1 a2 a3 a4 a5 a6⟩
instance {a0 a1 a2 a3 a4 a5} : WkOf (@g_callS a0 a1 a2 a3 a4 a5) := ⟨@g_callS a0 a1 a2 a3 a4 a5⟩
instance {a0 a1 a2 a3 a4 a5 a6 a7 a8} : WkOf (@g_meX a0 a1 a2 a3 a4 a5 a6 a7 a8) := ⟨@g_meX a0 a1 a2 a3 a4 a5 a6 a7 a8⟩
instance {a0 a1 a2 a3 a4 a5 a6 a7} : WkOf (@g_me a0 a1 a2 a3 a4 a5 a6 a7) := ⟨@g_me a0 a1 a2 a3 a4 a5 a6 a7⟩
instance {a0 a1 a2 a3 a4 a5} : WkOf (@g_new a0 a1 a2 a3 a4 a5) := ⟨@g_new a0 a1 a2 a3 a4 a5⟩
instance {a0 a1 a2 a3 a4 a5 a6} : WkOf (@g_sfld a0 a1 a2 a3 a4 a5 a6) := ⟨@g_sfld a0 a1 a2 a3 a4 a5 a6⟩
instance {a0 a1 a2 a3 a4 a5} : WkOf (@g_fld a0 a1 a2 a3 a4 a5) := ⟨@g_fld a0 a1 a2 a3 a4 a5⟩
instance {a0 a1} : WkOf (@g_T a0 a1) := ⟨@g_T a0 a1⟩
instance {a0 a1} : WkOf (@g_F a0 a1) := ⟨@g_F a0 a1⟩
instance {a0 a1} : WkOf (@g_Tn a0 a1) := ⟨@g_Tn a0 a1⟩
instance {a0 a1} : WkOf (@g_Fn a0 a1) := ⟨@g_Fn a0 a1⟩
instance {a0 a1 a2 a3 a4 a5} : WkOf (@g_bk a0 a1 a2 a3 a4 a5) := ⟨@g_bk a0 a1 a2 a3 a4 a5⟩
instance {a0 a1 a2 a3 a4 a5} : WkOf (@g_ct a0 a1 a2 a3 a4 a5) := ⟨@g_ct a0 a1 a2 a3 a4 a5⟩
instance {a0 a1 a2} : WkOf (@g_ctS a0 a1 a2) := ⟨@g_ctS a0 a1 a2⟩
instance {a0 a1 a2} : WkOf (@g_bkS a0 a1 a2) := ⟨@g_bkS a0 a1 a2⟩
instance {a0 a1 a2 a3 a4 a5 a6 a7 a8} : WkOf (@g_lcX a0 a1 a2 a3 a4 a5 a6 a7 a8) := ⟨@g_lcX a0 a1 a2 a3 a4 a5 a6 a7 a8⟩
instance {a0 a1 a2 a3 a4 a5} : WkOf (@g_dget2 a0 a1 a2 a3 a4 a5) := ⟨@g_dget2 a0 a1 a2 a3 a4 a5⟩
end Tw


set_option Elab.async false
set_option linter.all false
set_option maxRecDepth 100000
set_option maxHeartbeats 4000000
namespace L
open PySem L2 Tw
local macro_rules | `(tactic| walk_at "hp") => `(tactic| first
  | assumption
  | with_reducible exact upd_same
  | (with_reducible refine Eq.trans (upd_ne ?hn) ?hr; (case hn => first | assumption | exact Ne.symm (by assumption)); (case hr => walk_at "hp")))
local macro_rules | `(tactic| walk_at "g1") => `(tactic| first
  | with_reducible refine g_wk ?_
  | ((with_reducible refine g_var0 ?_); refine ⟨_, rfl, ?_⟩)
  | ((with_reducible refine id_isi ?_); (first | ((with_reducible refine g_isiR0 ?_); refine ⟨by assumption, by decide, ?_⟩) | with_reducible refine g_isiI kb_ii ?_ | with_reducible refine g_isiI kb_is ?_ | with_reducible refine g_isiI kb_ib ?_ | with_reducible refine g_isiS kb_si ?_ | with_reducible refine g_isiS kb_ss ?_ | with_reducible refine g_isiS kb_sb ?_ | with_reducible refine g_isiB kb_bi ?_ | with_reducible refine g_isiB kb_bs ?_ | with_reducible refine g_isiB kb_bb ?_ | with_reducible refine g_isiN kb_ni ?_ | with_reducible refine g_isiN kb_ns ?_ | with_reducible refine g_isiN kb_nb ?_))
  | ((with_reducible refine g_modI ?gm ?_); (case gm => first | assumption | decide | omega))
  | ((with_reducible refine g_mulI ?gm ?_); (case gm => first | exact Or.inl ⟨by decide, by decide⟩ | exact Or.inr ⟨by decide, by decide⟩ | (unfold CMul; omega)))
  | ((with_reducible refine g_tyL ?_); refine ⟨⟨_, by walk_at "hp"⟩, ?_⟩)
  | ((with_reducible refine g_app0 ?_); (refine' ⟨_, ?ga, ?gb, ?_⟩; (case ga => walk_at "hp"); (case gb => first | assumption | (simp only [List.length_map, List.length_append, List.length_cons, List.length_nil]; omega) | omega)))
  | ((with_reducible refine g_ixL0 ?_); (refine' ⟨_, _, ?ga, ?gb, ?_⟩; (case ga => walk_at "hp"); (case gb => exact rfl)))
  | ((with_reducible refine g_ixL0 ?_); (refine' ⟨_, _, ?ga, atI_map ?gb, ?_⟩; (case ga => walk_at "hp"); (case gb => omega)))
  | ((with_reducible refine g_powI ?gm ?_); (case gm => first | exact ⟨by decide, by decide +kernel⟩ | exact cpow_small (by decide) (by decide) (by omega) (by omega)))
  | ((with_reducible refine g_fdI ?gm ?_); (case gm => first | exact ⟨by assumption, by assumption⟩ | exact ⟨by decide, by decide +kernel⟩))
  | ((with_reducible refine g_lenL0 ?_); (refine' ⟨_, ?ga, ?_⟩; (case ga => walk_at "hp")))
  | ((with_reducible refine g_setL0 ?_); (refine' ⟨_, _, ?ga, ?gb, ?_⟩; (case ga => walk_at "hp"); (case gb => exact rfl))))
local macro_rules | `(tactic| walk_at "g") => `(tactic| repeat walk_at "g1")
local macro_rules | `(tactic| walk_at "G") => `(tactic| (walk_at "g"; try ((first | with_reducible refine g_dec (fun _ => ?_) (fun _ => ?_) | with_reducible refine g_ndec (fun _ => ?_) (fun _ => ?_)) <;> walk_at "G")))
def C_SIGNS : Str := Str.ofString " !\"#$&'()*+,-./0123456789:;<=>?@ABCDEFGHIJKLMNOPQRSTUVWXYZ[\\]^_`abcdefghijklmnopqrstuvwxyz{|}~"
def C_LETTERS : Str := Str.ofString "abcdefghijklmnopqrstuvwxyz"
def C_WORDS : List V := [.str "and", .str "or", .str "not", .str "sure", .str "in", .str "is", .str "empty", .str "begins", .str "always", .str "never"]
def C_NAME_SIGNS : Str := Str.ofString "abcdefghijklmnopqrstuvwxyz0123456789"
def C_KINDS : List V := [.str "number", .str "text"]
def top (i : Nat) : Stmt := PySem.Challenge.pw_tworows_k87_small_shapes_and_tests.main.body.getD i (.Pass ⟨0, 0, 0, 0⟩)
abbrev S_is_integer : Stmt := top 13
abbrev N_is_integer : List Str := ["thing"]
theorem sc_is_integer : FnScope N_is_integer ["thing"] (defScope S_is_integer) := ⟨rfl, rfl, rfl, by decide +kernel, rfl, by decide +kernel, by decide +kernel⟩
abbrev S_is_sequence : Stmt := top 14
abbrev N_is_sequence : List Str := ["thing"]
theorem sc_is_sequence : FnScope N_is_sequence ["thing"] (defScope S_is_sequence) := ⟨rfl, rfl, rfl, by decide +kernel, rfl, by decide +kernel, by decide +kernel⟩
abbrev S_is_worded : Stmt := top 15
abbrev N_is_worded : List Str := ["thing"]
theorem sc_is_worded : FnScope N_is_worded ["thing"] (defScope S_is_worded) := ⟨rfl, rfl, rfl, by decide +kernel, rfl, by decide +kernel, by decide +kernel⟩
abbrev S_is_text : Stmt := top 16
abbrev N_is_text : List Str := ["thing", "sign"]
theorem sc_is_text : FnScope N_is_text ["thing"] (defScope S_is_text) := ⟨rfl, rfl, rfl, by decide +kernel, rfl, by decide +kernel, by decide +kernel⟩
abbrev S_is_name : Stmt := top 17
abbrev N_is_name : List Str := ["thing", "sign"]
theorem sc_is_name : FnScope N_is_name ["thing"] (defScope S_is_name) := ⟨rfl, rfl, rfl, by decide +kernel, rfl, by decide +kernel, by decide +kernel⟩
abbrev S_kind_of : Stmt := top 18
abbrev N_kind_of : List Str := ["value"]
theorem sc_kind_of : FnScope N_kind_of ["value"] (defScope S_kind_of) := ⟨rfl, rfl, rfl, by decide +kernel, rfl, by decide +kernel, by decide +kernel⟩
abbrev S_is_value : Stmt := top 19
abbrev N_is_value : List Str := ["kind", "thing"]
theorem sc_is_value : FnScope N_is_value ["kind", "thing"] (defScope S_is_value) := ⟨rfl, rfl, rfl, by decide +kernel, rfl, by decide +kernel, by decide +kernel⟩
abbrev S_Test_init : Stmt := inClass (top 23) 0
abbrev N_Test_init : List Str := ["self", "word", "inner", "fields", "terms"]
theorem sc_Test_init : FnScope N_Test_init ["self", "word", "inner", "fields", "terms"] (defScope S_Test_init) := ⟨rfl, rfl, rfl, by decide +kernel, rfl, by decide +kernel, by decide +kernel⟩
abbrev S_Test_atoms : Stmt := inClass (top 23) 3
abbrev N_Test_atoms : List Str := ["self", "part", "atom"]
theorem sc_Test_atoms : FnScope N_Test_atoms ["self"] (defScope S_Test_atoms) := ⟨rfl, rfl, rfl, by decide +kernel, rfl, by decide +kernel, by decide +kernel⟩
abbrev S_Test_names : Stmt := inClass (top 23) 4
abbrev N_Test_names : List Str := ["self", "names", "atom", "name"]
theorem sc_Test_names : FnScope N_Test_names ["self"] (defScope S_Test_names) := ⟨rfl, rfl, rfl, by decide +kernel, rfl, by decide +kernel, by decide +kernel⟩
abbrev S_Test_levels : Stmt := inClass (top 23) 5
abbrev N_Test_levels : List Str := ["self"]
theorem sc_Test_levels : FnScope N_Test_levels ["self"] (defScope S_Test_levels) := ⟨rfl, rfl, rfl, by decide +kernel, rfl, by decide +kernel, by decide +kernel⟩
abbrev S_Test_renamed : Stmt := inClass (top 23) 6
abbrev N_Test_renamed : List Str := ["self", "mapping"]
theorem sc_Test_renamed : FnScope N_Test_renamed ["self", "mapping"] (defScope S_Test_renamed) := ⟨rfl, rfl, rfl, by decide +kernel, rfl, by decide +kernel, by decide +kernel⟩
abbrev S_Test_or : Stmt := inClass (top 23) 9
abbrev N_Test_or : List Str := ["self", "other"]
theorem sc_Test_or : FnScope N_Test_or ["self", "other"] (defScope S_Test_or) := ⟨rfl, rfl, rfl, by decide +kernel, rfl, by decide +kernel, by decide +kernel⟩
abbrev S_Test_invert : Stmt := inClass (top 23) 10
abbrev N_Test_invert : List Str := ["self"]
theorem sc_Test_invert : FnScope N_Test_invert ["self"] (defScope S_Test_invert) := ⟨rfl, rfl, rfl, by decide +kernel, rfl, by decide +kernel, by decide +kernel⟩
abbrev S_Test_eq : Stmt := inClass (top 23) 11
abbrev N_Test_eq : List Str := ["self", "other"]
theorem sc_Test_eq : FnScope N_Test_eq ["self", "other"] (defScope S_Test_eq) := ⟨rfl, rfl, rfl, by decide +kernel, rfl, by decide +kernel, by decide +kernel⟩
abbrev S_size_of : Stmt := top 24
abbrev N_size_of : List Str := ["inner", "part"]
theorem sc_size_of : FnScope N_size_of ["inner"] (defScope S_size_of) := ⟨rfl, rfl, rfl, by decide +kernel, rfl, by decide +kernel, by decide +kernel⟩
abbrev S_depth_of : Stmt := top 25
abbrev N_depth_of : List Str := ["inner", "depth", "part"]
theorem sc_depth_of : FnScope N_depth_of ["inner"] (defScope S_depth_of) := ⟨rfl, rfl, rfl, by decide +kernel, rfl, by decide +kernel, by decide +kernel⟩
abbrev S_combined : Stmt := top 26
abbrev N_combined : List Str := ["word", "inner", "test"]
theorem sc_combined : FnScope N_combined ["word", "inner"] (defScope S_combined) := ⟨rfl, rfl, rfl, by decide +kernel, rfl, by decide +kernel, by decide +kernel⟩
abbrev S_need_column : Stmt := top 27
abbrev N_need_column : List Str := ["thing"]
theorem sc_need_column : FnScope N_need_column ["thing"] (defScope S_need_column) := ⟨rfl, rfl, rfl, by decide +kernel, rfl, by decide +kernel, by decide +kernel⟩
abbrev S_empty : Stmt := top 28
abbrev N_empty : List Str := ["column"]
theorem sc_empty : FnScope N_empty ["column"] (defScope S_empty) := ⟨rfl, rfl, rfl, by decide +kernel, rfl, by decide +kernel, by decide +kernel⟩
abbrev S_always : Stmt := top 29
abbrev N_always : List Str := []
theorem sc_always : FnScope N_always [] (defScope S_always) := ⟨rfl, rfl, rfl, by decide +kernel, rfl, by decide +kernel, by decide +kernel⟩
abbrev S_renamed_by : Stmt := top 30
abbrev N_renamed_by : List Str := ["test", "mapping", "inner", "fields", "name", "part"]
theorem sc_renamed_by : FnScope N_renamed_by ["test", "mapping"] (defScope S_renamed_by) := ⟨rfl, rfl, rfl, by decide +kernel, rfl, by decide +kernel, by decide +kernel⟩
abbrev S_Shape_init : Stmt := inClass (top 42) 0
abbrev N_Shape_init : List Str := ["self", "columns", "checks", "keys", "column", "names", "test"]
theorem sc_Shape_init : FnScope N_Shape_init ["self", "columns", "checks", "keys"] (defScope S_Shape_init) := ⟨rfl, rfl, rfl, by decide +kernel, rfl, by decide +kernel, by decide +kernel⟩
abbrev S_Shape_columns : Stmt := inClass (top 42) 1
abbrev N_Shape_columns : List Str := ["self"]
theorem sc_Shape_columns : FnScope N_Shape_columns ["self"] (defScope S_Shape_columns) := ⟨rfl, rfl, rfl, by decide +kernel, rfl, by decide +kernel, by decide +kernel⟩
abbrev S_Shape_names : Stmt := inClass (top 42) 2
abbrev N_Shape_names : List Str := ["self", "column"]
theorem sc_Shape_names : FnScope N_Shape_names ["self"] (defScope S_Shape_names) := ⟨rfl, rfl, rfl, by decide +kernel, rfl, by decide +kernel, by decide +kernel⟩
abbrev S_Shape_checks : Stmt := inClass (top 42) 3
abbrev N_Shape_checks : List Str := ["self"]
theorem sc_Shape_checks : FnScope N_Shape_checks ["self"] (defScope S_Shape_checks) := ⟨rfl, rfl, rfl, by decide +kernel, rfl, by decide +kernel, by decide +kernel⟩
abbrev S_Shape_unique_keys : Stmt := inClass (top 42) 4
abbrev N_Shape_unique_keys : List Str := ["self"]
theorem sc_Shape_unique_keys : FnScope N_Shape_unique_keys ["self"] (defScope S_Shape_unique_keys) := ⟨rfl, rfl, rfl, by decide +kernel, rfl, by decide +kernel, by decide +kernel⟩
abbrev S_Shape_filled : Stmt := inClass (top 42) 6
abbrev N_Shape_filled : List Str := ["self", "name"]
theorem sc_Shape_filled : FnScope N_Shape_filled ["self", "name"] (defScope S_Shape_filled) := ⟨rfl, rfl, rfl, by decide +kernel, rfl, by decide +kernel, by decide +kernel⟩
abbrev S_Shape_eq : Stmt := inClass (top 42) 10
abbrev N_Shape_eq : List Str := ["self", "other"]
theorem sc_Shape_eq : FnScope N_Shape_eq ["self", "other"] (defScope S_Shape_eq) := ⟨rfl, rfl, rfl, by decide +kernel, rfl, by decide +kernel, by decide +kernel⟩
abbrev S_is_short : Stmt := top 43
abbrev N_is_short : List Str := ["thing", "least", "most"]
theorem sc_is_short : FnScope N_is_short ["thing", "least", "most"] (defScope S_is_short) := ⟨rfl, rfl, rfl, by decide +kernel, rfl, by decide +kernel, by decide +kernel⟩
abbrev S_is_column : Stmt := top 44
abbrev N_is_column : List Str := ["thing", "right_kind"]
theorem sc_is_column : FnScope N_is_column ["thing"] (defScope S_is_column) := ⟨rfl, rfl, rfl, by decide +kernel, rfl, by decide +kernel, by decide +kernel⟩
abbrev S_need_columns : Stmt := top 45
abbrev N_need_columns : List Str := ["columns", "names", "at", "column"]
theorem sc_need_columns : FnScope N_need_columns ["columns"] (defScope S_need_columns) := ⟨rfl, rfl, rfl, by decide +kernel, rfl, by decide +kernel, by decide +kernel⟩
abbrev S_need_checks : Stmt := top 46
abbrev N_need_checks : List Str := ["spots", "checks", "at", "test"]
theorem sc_need_checks : FnScope N_need_checks ["spots", "checks"] (defScope S_need_checks) := ⟨rfl, rfl, rfl, by decide +kernel, rfl, by decide +kernel, by decide +kernel⟩
abbrev S_need_keys : Stmt := top 47
abbrev N_need_keys : List Str := ["spots", "keys", "at", "key"]
theorem sc_need_keys : FnScope N_need_keys ["spots", "keys"] (defScope S_need_keys) := ⟨rfl, rfl, rfl, by decide +kernel, rfl, by decide +kernel, by decide +kernel⟩
abbrev S_are_names : Stmt := top 48
abbrev N_are_names : List Str := ["thing", "least", "most", "name"]
theorem sc_are_names : FnScope N_are_names ["thing", "least", "most"] (defScope S_are_names) := ⟨rfl, rfl, rfl, by decide +kernel, rfl, by decide +kernel, by decide +kernel⟩
abbrev S_is_key : Stmt := top 49
abbrev N_is_key : List Str := ["spots", "thing", "name"]
theorem sc_is_key : FnScope N_is_key ["spots", "thing"] (defScope S_is_key) := ⟨rfl, rfl, rfl, by decide +kernel, rfl, by decide +kernel, by decide +kernel⟩
abbrev S_is_fitting : Stmt := top 50
abbrev N_is_fitting : List Str := ["spots", "thing", "atom"]
theorem sc_is_fitting : FnScope N_is_fitting ["spots", "thing"] (defScope S_is_fitting) := ⟨rfl, rfl, rfl, by decide +kernel, rfl, by decide +kernel, by decide +kernel⟩
abbrev S_atom_fits : Stmt := top 51
abbrev N_atom_fits : List Str := ["spots", "atom", "kinds", "name", "value"]
theorem sc_atom_fits : FnScope N_atom_fits ["spots", "atom"] (defScope S_atom_fits) := ⟨rfl, rfl, rfl, by decide +kernel, rfl, by decide +kernel, by decide +kernel⟩
abbrev S_column_of : Stmt := top 52
abbrev N_column_of : List Str := ["shape", "name"]
theorem sc_column_of : FnScope N_column_of ["shape", "name"] (defScope S_column_of) := ⟨rfl, rfl, rfl, by decide +kernel, rfl, by decide +kernel, by decide +kernel⟩
abbrev S_is_large : Stmt := top 59
abbrev N_is_large : List Str := ["test"]
theorem sc_is_large : FnScope N_is_large ["test"] (defScope S_is_large) := ⟨rfl, rfl, rfl, by decide +kernel, rfl, by decide +kernel, by decide +kernel⟩
abbrev S_is_small : Stmt := top 60
abbrev N_is_small : List Str := ["shape", "tests", "_", "test", "name"]
theorem sc_is_small : FnScope N_is_small ["shape"] (defScope S_is_small) := ⟨rfl, rfl, rfl, by decide +kernel, rfl, by decide +kernel, by decide +kernel⟩
abbrev S_need_small : Stmt := top 61
abbrev N_need_small : List Str := ["shape"]
theorem sc_need_small : FnScope N_need_small ["shape"] (defScope S_need_small) := ⟨rfl, rfl, rfl, by decide +kernel, rfl, by decide +kernel, by decide +kernel⟩
abbrev S_numbered : Stmt := top 62
abbrev N_numbered : List Str := ["name", "i"]
theorem sc_numbered : FnScope N_numbered ["name", "i"] (defScope S_numbered) := ⟨rfl, rfl, rfl, by decide +kernel, rfl, by decide +kernel, by decide +kernel⟩
abbrev S_copies : Stmt := top 63
abbrev N_copies : List Str := ["shape", "n", "columns", "checks", "i", "name", "kind", "filled", "test"]
theorem sc_copies : FnScope N_copies ["shape", "n"] (defScope S_copies) := ⟨rfl, rfl, rfl, by decide +kernel, rfl, by decide +kernel, by decide +kernel⟩
abbrev S_copy_test : Stmt := top 64
abbrev N_copy_test : List Str := ["test", "i", "name"]
theorem sc_copy_test : FnScope N_copy_test ["test", "i"] (defScope S_copy_test) := ⟨rfl, rfl, rfl, by decide +kernel, rfl, by decide +kernel, by decide +kernel⟩
abbrev S_own_rules : Stmt := top 66
abbrev N_own_rules : List Str := ["shape", "filled", "checks", "name", "at"]
theorem sc_own_rules : FnScope N_own_rules ["shape"] (defScope S_own_rules) := ⟨rfl, rfl, rfl, by decide +kernel, rfl, by decide +kernel, by decide +kernel⟩
abbrev S_is_own_rule : Stmt := top 67
abbrev N_is_own_rule : List Str := ["shape", "thing"]
theorem sc_is_own_rule : FnScope N_is_own_rule ["shape", "thing"] (defScope S_is_own_rule) := ⟨rfl, rfl, rfl, by decide +kernel, rfl, by decide +kernel, by decide +kernel⟩
abbrev S_bare : Stmt := top 68
abbrev N_bare : List Str := ["shape", "kept", "at", "name", "columns", "checks", "keys", "kind", "_", "test", "key"]
theorem sc_bare : FnScope N_bare ["shape", "kept"] (defScope S_bare) := ⟨rfl, rfl, rfl, by decide +kernel, rfl, by decide +kernel, by decide +kernel⟩
abbrev S_Desk_init : Stmt := inClass (top 70) 0
abbrev N_Desk_init : List Str := ["self", "shape"]
theorem sc_Desk_init : FnScope N_Desk_init ["self", "shape"] (defScope S_Desk_init) := ⟨rfl, rfl, rfl, by decide +kernel, rfl, by decide +kernel, by decide +kernel⟩
abbrev S_Desk_shape : Stmt := inClass (top 70) 1
abbrev N_Desk_shape : List Str := ["self"]
theorem sc_Desk_shape : FnScope N_Desk_shape ["self"] (defScope S_Desk_shape) := ⟨rfl, rfl, rfl, by decide +kernel, rfl, by decide +kernel, by decide +kernel⟩
abbrev S__law_pool : Stmt := top 72
abbrev N__law_pool : List Str := ["_law_script", "_law_place", "_law_cell"]
theorem sc__law_pool : FnScope N__law_pool ["_law_script", "_law_place"] (defScope S__law_pool) := ⟨rfl, rfl, rfl, by decide +kernel, rfl, by decide +kernel, by decide +kernel⟩
abbrev S__law_draw : Stmt := top 73
abbrev N__law_draw : List Str := ["_law_pool_here", "_law_many", "_law_digit", "_law_one"]
theorem sc__law_draw : FnScope N__law_draw ["_law_pool_here", "_law_many"] (defScope S__law_draw) := ⟨rfl, rfl, rfl, by decide +kernel, rfl, by decide +kernel, by decide +kernel⟩
abbrev S__law_is : Stmt := top 74
abbrev N__law_is : List Str := ["_law_thing", "_law_due"]
theorem sc__law_is : FnScope N__law_is ["_law_thing", "_law_due"] (defScope S__law_is) := ⟨rfl, rfl, rfl, by decide +kernel, rfl, by decide +kernel, by decide +kernel⟩
abbrev S__law_long_name : Stmt := top 75
abbrev N__law_long_name : List Str := ["_law_pool_here", "_law_taken", "_law_many", "_law_letters", "_law_name", "_law_k", "_law_kept"]
theorem sc__law_long_name : FnScope N__law_long_name ["_law_pool_here", "_law_taken", "_law_many"] (defScope S__law_long_name) := ⟨rfl, rfl, rfl, by decide +kernel, rfl, by decide +kernel, by decide +kernel⟩
abbrev S__law_grown : Stmt := top 76
abbrev N__law_grown : List Str := ["_law_test", "_law_by_atoms", "_law_many", "_law_k"]
theorem sc__law_grown : FnScope N__law_grown ["_law_test", "_law_by_atoms", "_law_many"] (defScope S__law_grown) := ⟨rfl, rfl, rfl, by decide +kernel, rfl, by decide +kernel, by decide +kernel⟩
abbrev S__law_refused : Stmt := top 77
abbrev N__law_refused : List Str := ["_law_which", "_law_shape", "e"]
theorem sc__law_refused : FnScope N__law_refused ["_law_which", "_law_shape"] (defScope S__law_refused) := ⟨rfl, rfl, rfl, by decide +kernel, rfl, by decide +kernel, by decide +kernel⟩
abbrev S_law : Stmt := top 78
abbrev N_law : List Str := ["_law_script", "_law_pool_here", "_law_columns", "_law_small", "_law_k", "_law_many", "_law_name", "_law_tests", "_law_unique", "_law_draws", "_law_test", "_law_in_key", "_law_shape", "_law_column"]
theorem sc_law : FnScope N_law ["_law_script"] (defScope S_law) := ⟨rfl, rfl, rfl, by decide +kernel, rfl, by decide +kernel, by decide +kernel⟩
structure Txt (K : PySem.W.Frag) (mg : Str → Option Value) : Prop where
  h_isinstance : mg "isinstance" = none
  h_int : mg "int" = none
  h_bool : mg "bool" = none
  h_list : mg "list" = none
  h_tuple : mg "tuple" = none
  h_str : mg "str" = none
  h_len : mg "len" = none
  h_all : mg "all" = none
  h_sorted : mg "sorted" = none
  h_set : mg "set" = none
  h_dict : mg "dict" = none
  h_sum : mg "sum" = none
  h_enumerate : mg "enumerate" = none
  h_any : mg "any" = none
  h_range : mg "range" = none
  d_is_integer : ∃ f fd, Here K mg "is_integer" S_is_integer ["thing"] f fd
  d_is_sequence : ∃ f fd, Here K mg "is_sequence" S_is_sequence ["thing"] f fd
  d_is_worded : ∃ f fd, Here K mg "is_worded" S_is_worded ["thing"] f fd
  d_is_text : ∃ f fd, Here K mg "is_text" S_is_text ["thing"] f fd
  d_is_name : ∃ f fd, Here K mg "is_name" S_is_name ["thing"] f fd
  d_kind_of : ∃ f fd, Here K mg "kind_of" S_kind_of ["value"] f fd
  d_is_value : ∃ f fd, Here K mg "is_value" S_is_value ["kind", "thing"] f fd
  d_Test_init : ∃ f fd, HereC K (cadr mg "Test") "Test.__init__" S_Test_init ["self", "word", "inner", "fields", "terms"] f fd
  d_Test_atoms : ∃ f fd, HereM K (cadr mg "Test") "atoms" "Test.atoms" S_Test_atoms ["self"] f fd
  d_Test_names : ∃ f fd, HereM K (cadr mg "Test") "names" "Test.names" S_Test_names ["self"] f fd
  d_Test_levels : ∃ f fd, HereM K (cadr mg "Test") "levels" "Test.levels" S_Test_levels ["self"] f fd
  d_Test_renamed : ∃ f fd, HereM K (cadr mg "Test") "renamed" "Test.renamed" S_Test_renamed ["self", "mapping"] f fd
  d_Test_or : ∃ f fd, HereM K (cadr mg "Test") "__or__" "Test.__or__" S_Test_or ["self", "other"] f fd
  d_Test_invert : ∃ f fd, HereM K (cadr mg "Test") "__invert__" "Test.__invert__" S_Test_invert ["self"] f fd
  d_Test_eq : ∃ f fd, HereM K (cadr mg "Test") "__eq__" "Test.__eq__" S_Test_eq ["self", "other"] f fd
  d_size_of : ∃ f fd, Here K mg "size_of" S_size_of ["inner"] f fd
  d_depth_of : ∃ f fd, Here K mg "depth_of" S_depth_of ["inner"] f fd
  d_combined : ∃ f fd, Here K mg "combined" S_combined ["word", "inner"] f fd
  d_need_column : ∃ f fd, Here K mg "need_column" S_need_column ["thing"] f fd
  d_empty : ∃ f fd, Here K mg "empty" S_empty ["column"] f fd
  d_always : ∃ f fd, Here K mg "always" S_always [] f fd
  d_renamed_by : ∃ f fd, Here K mg "renamed_by" S_renamed_by ["test", "mapping"] f fd
  d_Shape_init : ∃ f fd, HereC1 K (cadr mg "Shape") "Shape.__init__" S_Shape_init ["self", "columns", "checks", "keys"] 1 "checks" "keys" f fd
  d_Shape_columns : ∃ f fd, HereM K (cadr mg "Shape") "columns" "Shape.columns" S_Shape_columns ["self"] f fd
  d_Shape_names : ∃ f fd, HereM K (cadr mg "Shape") "names" "Shape.names" S_Shape_names ["self"] f fd
  d_Shape_checks : ∃ f fd, HereM K (cadr mg "Shape") "checks" "Shape.checks" S_Shape_checks ["self"] f fd
  d_Shape_unique_keys : ∃ f fd, HereM K (cadr mg "Shape") "unique_keys" "Shape.unique_keys" S_Shape_unique_keys ["self"] f fd
  d_Shape_filled : ∃ f fd, HereM K (cadr mg "Shape") "filled" "Shape.filled" S_Shape_filled ["self", "name"] f fd
  d_Shape_eq : ∃ f fd, HereM K (cadr mg "Shape") "__eq__" "Shape.__eq__" S_Shape_eq ["self", "other"] f fd
  d_is_short : ∃ f fd, Here K mg "is_short" S_is_short ["thing", "least", "most"] f fd
  d_is_column : ∃ f fd, Here K mg "is_column" S_is_column ["thing"] f fd
  d_need_columns : ∃ f fd, Here K mg "need_columns" S_need_columns ["columns"] f fd
  d_need_checks : ∃ f fd, Here K mg "need_checks" S_need_checks ["spots", "checks"] f fd
  d_need_keys : ∃ f fd, Here K mg "need_keys" S_need_keys ["spots", "keys"] f fd
  d_are_names : ∃ f fd, Here K mg "are_names" S_are_names ["thing", "least", "most"] f fd
  d_is_key : ∃ f fd, Here K mg "is_key" S_is_key ["spots", "thing"] f fd
  d_is_fitting : ∃ f fd, Here K mg "is_fitting" S_is_fitting ["spots", "thing"] f fd
  d_atom_fits : ∃ f fd, Here K mg "atom_fits" S_atom_fits ["spots", "atom"] f fd
  d_column_of : ∃ f fd, Here K mg "column_of" S_column_of ["shape", "name"] f fd
  d_is_large : ∃ f fd, Here K mg "is_large" S_is_large ["test"] f fd
  d_is_small : ∃ f fd, Here K mg "is_small" S_is_small ["shape"] f fd
  d_need_small : ∃ f fd, Here K mg "need_small" S_need_small ["shape"] f fd
  d_numbered : ∃ f fd, Here K mg "numbered" S_numbered ["name", "i"] f fd
  d_copies : ∃ f fd, Here K mg "copies" S_copies ["shape", "n"] f fd
  d_copy_test : ∃ f fd, Here K mg "copy_test" S_copy_test ["test", "i"] f fd
  d_own_rules : ∃ f fd, Here K mg "own_rules" S_own_rules ["shape"] f fd
  d_is_own_rule : ∃ f fd, Here K mg "is_own_rule" S_is_own_rule ["shape", "thing"] f fd
  d_bare : ∃ f fd, Here K mg "bare" S_bare ["shape", "kept"] f fd
  d_Desk_init : ∃ f fd, HereC K (cadr mg "Desk") "Desk.__init__" S_Desk_init ["self", "shape"] f fd
  d_Desk_shape : ∃ f fd, HereM K (cadr mg "Desk") "shape" "Desk.shape" S_Desk_shape ["self"] f fd
  d__law_pool : ∃ f fd, Here K mg "_law_pool" S__law_pool ["_law_script", "_law_place"] f fd
  d__law_draw : ∃ f fd, Here K mg "_law_draw" S__law_draw ["_law_pool_here", "_law_many"] f fd
  d__law_is : ∃ f fd, Here K mg "_law_is" S__law_is ["_law_thing", "_law_due"] f fd
  d__law_long_name : ∃ f fd, Here K mg "_law_long_name" S__law_long_name ["_law_pool_here", "_law_taken", "_law_many"] f fd
  d__law_grown : ∃ f fd, Here K mg "_law_grown" S__law_grown ["_law_test", "_law_by_atoms", "_law_many"] f fd
  d__law_refused : ∃ f fd, Here K mg "_law_refused" S__law_refused ["_law_which", "_law_shape"] f fd
  x_BadShape : ∃ fI, PySem.ErBadShape.Err K mg (cadr mg "BadShape") fI
  x_BadRow : ∃ fI, PySem.ErBadRow.Err K mg (cadr mg "BadRow") fI
  x_BadTest : ∃ fI, PySem.ErBadTest.Err K mg (cadr mg "BadTest") fI
  x_BadClaim : ∃ fI, PySem.ErBadClaim.Err K mg (cadr mg "BadClaim") fI
  is_Test : OwnIs K (cadr mg "Test")
  sf_Test : PySem.W.selfFirst K (cadr mg "Test") = true
  nq_Test : PySem.W.subIn K (.ref (cadr mg "Test")) (.type "NoneType") = some false
  nr_Test_and : PySem.W.findIn K (.ref (cadr mg "Test")) (dunderR "and") = some none
  nr_Test_or : PySem.W.findIn K (.ref (cadr mg "Test")) (dunderR "or") = some none
  e_Test : mg "Test" = some (.ref (cadr mg "Test"))
  ne_Test : OwnNe K (cadr mg "Test")
  cl_Test : Cls K (cadr mg "Test")
  n_Test_word : NoAttr K (cadr mg "Test") "word"
  n_Test_inner : NoAttr K (cadr mg "Test") "inner"
  n_Test_fields : NoAttr K (cadr mg "Test") "fields"
  n_Test_terms : NoAttr K (cadr mg "Test") "terms"
  n_Test_size : NoAttr K (cadr mg "Test") "size"
  n_Test_depth : NoAttr K (cadr mg "Test") "depth"
  is_Shape : OwnIs K (cadr mg "Shape")
  sf_Shape : PySem.W.selfFirst K (cadr mg "Shape") = true
  nq_Shape : PySem.W.subIn K (.ref (cadr mg "Shape")) (.type "NoneType") = some false
  nr_Shape_and : PySem.W.findIn K (.ref (cadr mg "Shape")) (dunderR "and") = some none
  nr_Shape_or : PySem.W.findIn K (.ref (cadr mg "Shape")) (dunderR "or") = some none
  e_Shape : mg "Shape" = some (.ref (cadr mg "Shape"))
  ne_Shape : OwnNe K (cadr mg "Shape")
  cl_Shape : Cls K (cadr mg "Shape")
  n_Shape_layout : NoAttr K (cadr mg "Shape") "layout"
  n_Shape_spots : NoAttr K (cadr mg "Shape") "spots"
  n_Shape_check_tests : NoAttr K (cadr mg "Shape") "check_tests"
  n_Shape_key_rules : NoAttr K (cadr mg "Shape") "key_rules"
  is_Desk : OwnIs K (cadr mg "Desk")
  sf_Desk : PySem.W.selfFirst K (cadr mg "Desk") = true
  nr_Desk_and : PySem.W.findIn K (.ref (cadr mg "Desk")) (dunderR "and") = some none
  nr_Desk_or : PySem.W.findIn K (.ref (cadr mg "Desk")) (dunderR "or") = some none
  e_Desk : mg "Desk" = some (.ref (cadr mg "Desk"))
  cl_Desk : Cls K (cadr mg "Desk")
  n_Desk_now : NoAttr K (cadr mg "Desk") "now"
  n_Desk_past : NoAttr K (cadr mg "Desk") "past"
  n_Desk_future : NoAttr K (cadr mg "Desk") "future"
  n_Desk_claims : NoAttr K (cadr mg "Desk") "claims"
  k_SIGNS : ∃ t, mg "SIGNS" = some (.str C_SIGNS t)
  k_LONGEST_NAME : ∃ t, mg "LONGEST_NAME" = some (.int 8 t)
  k_LETTERS : ∃ t, mg "LETTERS" = some (.str C_LETTERS t)
  k_WORDS : ∃ a, mg "WORDS" = some (.ref a) ∧ ∀ H : Hp, SqT K H a C_WORDS
  k_NAME_SIGNS : ∃ t, mg "NAME_SIGNS" = some (.str C_NAME_SIGNS t)
  k_MOST_ATOMS : ∃ t, mg "MOST_ATOMS" = some (.int 24 t)
  k_MOST_LEVELS : ∃ t, mg "MOST_LEVELS" = some (.int 12 t)
  k_KINDS : ∃ a, mg "KINDS" = some (.ref a) ∧ ∀ H : Hp, SqT K H a C_KINDS
  k_MOST_COLUMNS : ∃ t, mg "MOST_COLUMNS" = some (.int 12 t)
  k_MOST_RULES : ∃ t, mg "MOST_RULES" = some (.int 9 t)
  k_MOST_KEY_NAMES : ∃ t, mg "MOST_KEY_NAMES" = some (.int 3 t)
  k_MOST_SMALL_ATOMS : ∃ t, mg "MOST_SMALL_ATOMS" = some (.int 8 t)
  k_MOST_SMALL_LEVELS : ∃ t, mg "MOST_SMALL_LEVELS" = some (.int 8 t)
  k_MOST_SMALL_COLUMNS : ∃ t, mg "MOST_SMALL_COLUMNS" = some (.int 4 t)
  k_MOST_SMALL_RULES : ∃ t, mg "MOST_SMALL_RULES" = some (.int 3 t)
  k_LONGEST_SMALL_NAME : ∃ t, mg "LONGEST_SMALL_NAME" = some (.int 7 t)
def signs : Str := Str.ofString " !\"#$&'()*+,-./0123456789:;<=>?@ABCDEFGHIJKLMNOPQRSTUVWXYZ[\\]^_`abcdefghijklmnopqrstuvwxyz{|}~"
/-! an atomic test -/
/-- what stands in a test, in the order in which it was put there -/
def tf (w : Str) (i f t : Addr) (n d : Int) : List (Str × V) := [("word", .str w), ("inner", .ref i), ("fields", .ref f), ("terms", .ref t), ("size", .int n), ("depth", .int d)]
theorem putF_new : ∀ {l : List (Str × V)} {k : Str} {v : V} (ks : List Str), l.map (·.1) = ks → k ∉ ks → putF k v l = l ++ [(k, v)]
  | [], k, v, _, _, _ => rfl
  | (a, b) :: r, k, v, _, rfl, hk => by
    have h1 : ¬ a = k := fun e => hk (by rw [e]; exact List.mem_cons_self)
    have h2 := putF_new (l := r) (k := k) (v := v) _ rfl (fun e => hk (List.mem_cons_of_mem _ e))
    show (if a = k then (a, v) :: r else (a, b) :: putF k v r) = _
    rw [if_neg h1, h2]
    rfl
theorem lt_put : ∀ {l : List (Str × V)} {k : Str} {v : V} {n : Nat}, l.length < n → (putF k v l).length < n + 1
  | [], k, v, n, h => Nat.succ_lt_succ h
  | (a, b) :: r, k, v, n, h => by
    show (if a = k then (a, v) :: r else (a, b) :: putF k v r).length < n + 1
    split
    · exact Nat.lt_succ_of_lt h
    · cases n with
      | zero => exact absurd h (Nat.not_lt_zero _)
      | succ n => exact Nat.succ_lt_succ (lt_put (Nat.lt_of_succ_lt_succ h))
structure AtomAt (C : Addr) (H : Hp) (p : Addr) (w : Str) (fs : List Str) (ts : List V) : Prop where
  ex : ∃ dx i f t, H p = some (.ins C dx (tf w i f t 1 0)) ∧ H i = some (.tup []) ∧ H f = some (.tup (fs.map V.str)) ∧ H t = some (.tup ts)
theorem AtomAt.keep {C : Addr} {H H' : Hp} {p : Addr} {w : Str} {fs : List Str} {ts : List V} (A : AtomAt C H p w fs ts) (k : ∀ q o, H q = some o → H' q = some o) : AtomAt C H' p w fs ts := by
  obtain ⟨dx, i, f, t, a, b, c, d⟩ := A.ex
  exact ⟨dx, i, f, t, k _ _ a, k _ _ b, k _ _ c, k _ _ d⟩
theorem tf_word {w : Str} {i f t : Addr} {n d : Int} : (tf w i f t n d).lookup ("word" : Str) = some (.str w) := by rfl
theorem tf_inner {w : Str} {i f t : Addr} {n d : Int} : (tf w i f t n d).lookup ("inner" : Str) = some (.ref i) := by rfl
theorem tf_fields {w : Str} {i f t : Addr} {n d : Int} : (tf w i f t n d).lookup ("fields" : Str) = some (.ref f) := by rfl
theorem tf_terms {w : Str} {i f t : Addr} {n d : Int} : (tf w i f t n d).lookup ("terms" : Str) = some (.ref t) := by rfl
theorem tf_size {w : Str} {i f t : Addr} {n d : Int} : (tf w i f t n d).lookup ("size" : Str) = some (.int n) := by rfl
theorem tf_depth {w : Str} {i f t : Addr} {n d : Int} : (tf w i f t n d).lookup ("depth" : Str) = some (.int d) := by rfl
theorem tf_atoms {w : Str} {i f t : Addr} {n d : Int} : (tf w i f t n d).lookup ("atoms" : Str) = none := by rfl
theorem tf_names {w : Str} {i f t : Addr} {n d : Int} : (tf w i f t n d).lookup ("names" : Str) = none := by rfl
theorem tf_truth {w : Str} {i f t : Addr} {n d : Int} : (tf w i f t n d).lookup ("truth" : Str) = none := by rfl
theorem upd2 {H : Hp} {p : Addr} {a b : HO} : upd (upd H p a) p b = upd H p b := by
  funext q
  by_cases h : q = p
  · subst h; rw [upd_same, upd_same]
  · rw [upd_ne h, upd_ne h, upd_ne h]
/-! tests as trees -/
inductive Ts where
  | at (w : Str) (fs : List Str) (ts : List V)
  | un (w : Str) (a : Ts)
  | bi (w : Str) (a b : Ts)
namespace Ts
def word : Ts → Str
  | .at w _ _ => w
  | .un w _ => w
  | .bi w _ _ => w
def kids : Ts → List Ts
  | .at _ _ _ => []
  | .un _ a => [a]
  | .bi _ a b => [a, b]
def flds : Ts → List Str
  | .at _ fs _ => fs
  | _ => []
def trms : Ts → List V
  | .at _ _ ts => ts
  | _ => []
def size : Ts → Nat
  | .at _ _ _ => 1
  | .un _ a => a.size
  | .bi _ a b => a.size + b.size
def depth : Ts → Nat
  | .at _ _ _ => 0
  | .un _ a => a.depth + 1
  | .bi _ a b => max a.depth b.depth + 1
def atoms : Ts → List Ts
  | .at w fs ts => [.at w fs ts]
  | .un _ a => a.atoms
  | .bi _ a b => a.atoms ++ b.atoms
theorem size_pos : ∀ t : Ts, 0 < t.size
  | .at _ _ _ => Nat.one_pos
  | .un _ a => a.size_pos
  | .bi _ a b => Nat.add_pos_left a.size_pos _
theorem atoms_len : ∀ t : Ts, t.atoms.length = t.size
  | .at _ _ _ => rfl
  | .un _ a => a.atoms_len
  | .bi _ a b => by
    show (a.atoms ++ b.atoms).length = a.size + b.size
    rw [List.length_append, a.atoms_len, b.atoms_len]
theorem kids_depth {t k : Ts} (h : k ∈ t.kids) : k.depth < t.depth := by
  cases t with
  | «at» w fs ts => exact nomatch h
  | un w a =>
    obtain rfl : k = a := by simpa [kids] using h
    exact Nat.lt_succ_self _
  | bi w a b =>
    have h : k = a ∨ k = b := by simpa [kids] using h
    show k.depth < max a.depth b.depth + 1
    rcases h with rfl | rfl <;> omega
theorem atoms_kids {t : Ts} (h : t.kids ≠ []) : t.atoms = t.kids.flatMap atoms := by
  cases t with
  | «at» w fs ts => exact absurd rfl h
  | un w a => simp [kids, atoms]
  | bi w a b => simp [kids, atoms]
theorem size_kids {t : Ts} (h : t.kids ≠ []) : t.size = (t.kids.map size).sum := by
  cases t with
  | «at» w fs ts => exact absurd rfl h
  | un w a => simp [kids, size]
  | bi w a b => simp [kids, size]
theorem kids_len (t : Ts) : t.kids.length ≤ 2 := by cases t <;> simp [kids]
end Ts
/-- the tests ts stand at the places qs, one by one -/
inductive Row (R : Ts → Addr → Prop) : List Ts → List Addr → Prop
  | nil : Row R [] []
  | cons {t : Ts} {q : Addr} {ts : List Ts} {qs : List Addr} (h : R t q) (r : Row R ts qs) : Row R (t :: ts) (q :: qs)
theorem Row.mono {R S : Ts → Addr → Prop} (h : ∀ t q, R t q → S t q) : ∀ {ts : List Ts} {qs : List Addr}, Row R ts qs → Row S ts qs
  | _, _, .nil => .nil
  | _, _, .cons a r => .cons (h _ _ a) (r.mono h)
theorem Row.len {R : Ts → Addr → Prop} : ∀ {ts : List Ts} {qs : List Addr}, Row R ts qs → qs.length = ts.length
  | _, _, .nil => rfl
  | _, _, .cons _ r => congrArg (· + 1) r.len
theorem Row.app {R : Ts → Addr → Prop} : ∀ {ts us : List Ts} {qs ps : List Addr}, Row R ts qs → Row R us ps → Row R (ts ++ us) (qs ++ ps)
  | _, _, _, _, .nil, s => s
  | _, _, _, _, .cons a r, s => .cons a (r.app s)
theorem Row.get {R : Ts → Addr → Prop} : ∀ {ts : List Ts} {qs : List Addr} {i : Nat} {q : Addr}, Row R ts qs → qs[i]? = some q → ∃ t, ts[i]? = some t ∧ R t q
  | _, _, i, _, .nil, h => by simp at h
  | _, _, 0, _, .cons a r, h => by
    simp at h
    subst h
    exact ⟨_, rfl, a⟩
  | _, _, i + 1, _, .cons a r, h => by
    simp at h
    obtain ⟨t, e, x⟩ := r.get h
    exact ⟨t, by simpa using e, x⟩
/-- a test stands at p -/
def TestAt (C : Addr) (H : Hp) : Ts → Addr → Prop
  | .at w fs ts, p => AtomAt C H p w fs ts
  | .un w a, p => ∃ dx i f t q, H p = some (.ins C dx (tf w i f t a.size (a.depth + 1 : Nat))) ∧ H i = some (.tup [.ref q]) ∧ H f = some (.tup []) ∧ H t = some (.tup []) ∧ TestAt C H a q
  | .bi w a b, p => ∃ dx i f t q r, H p = some (.ins C dx (tf w i f t (a.size + b.size : Nat) (max a.depth b.depth + 1 : Nat))) ∧ H i = some (.tup [.ref q, .ref r]) ∧ H f = some (.tup []) ∧ H t = some (.tup []) ∧ TestAt C H a q ∧ TestAt C H b r
theorem TestAt.keep {C : Addr} {H H' : Hp} (k : ∀ q o, H q = some o → H' q = some o) : ∀ {t : Ts} {p : Addr}, TestAt C H t p → TestAt C H' t p
  | .at _ _ _, _, h => AtomAt.keep h k
  | .un _ a, _, ⟨dx, i, f, t, q, h1, h2, h3, h4, h5⟩ => ⟨dx, i, f, t, q, k _ _ h1, k _ _ h2, k _ _ h3, k _ _ h4, TestAt.keep k h5⟩
  | .bi _ a b, _, ⟨dx, i, f, t, q, r, h1, h2, h3, h4, h5, h6⟩ => ⟨dx, i, f, t, q, r, k _ _ h1, k _ _ h2, k _ _ h3, k _ _ h4, TestAt.keep k h5, TestAt.keep k h6⟩
theorem tf_ne {w : Str} {i f t : Addr} {n d : Int} : tf w i f t n d ≠ [] := by unfold tf; exact List.cons_ne_nil _ _
theorem AtomAt.keepN {C : Addr} {H H' : Hp} {p q : Addr} {w : Str} {fs : List Str} {ts : List V} (k : ∀ b o, b ≠ p → H b = some o → H' b = some o) (n : ∀ o, H p = some o → (∀ dx l, o = .ins C dx l → l = []) ∧ ∀ l, o ≠ .tup l) (A : AtomAt C H q w fs ts) : AtomAt C H' q w fs ts := by
  obtain ⟨dx, i, f, t, a, b, c, d⟩ := A.ex
  have nt : ∀ {b : Addr} {l : List V}, H b = some (.tup l) → b ≠ p := fun h z => (n _ (by rw [← z]; exact h)).2 _ rfl
  exact ⟨dx, i, f, t, k _ _ (fun z => tf_ne ((n _ (by rw [← z]; exact a)).1 _ _ rfl)) a, k _ _ (nt b) b, k _ _ (nt c) c, k _ _ (nt d) d⟩
/-- a change at a place at which no test and no tuple stands -/
theorem TestAt.keepN {C : Addr} {H H' : Hp} {p : Addr} (k : ∀ b o, b ≠ p → H b = some o → H' b = some o) (n : ∀ o, H p = some o → (∀ dx l, o = .ins C dx l → l = []) ∧ ∀ l, o ≠ .tup l) : ∀ {t : Ts} {q : Addr}, TestAt C H t q → TestAt C H' t q
  | .at _ _ _, _, h => AtomAt.keepN k n h
  | .un _ a, _, ⟨dx, i, f, t, q, h1, h2, h3, h4, h5⟩ =>
    have nt : ∀ {b : Addr} {l : List V}, H b = some (.tup l) → b ≠ p := fun h z => (n _ (by rw [← z]; exact h)).2 _ rfl
    ⟨dx, i, f, t, q, k _ _ (fun z => tf_ne ((n _ (by rw [← z]; exact h1)).1 _ _ rfl)) h1, k _ _ (nt h2) h2, k _ _ (nt h3) h3, k _ _ (nt h4) h4, TestAt.keepN k n h5⟩
  | .bi _ a b, _, ⟨dx, i, f, t, q, r, h1, h2, h3, h4, h5, h6⟩ =>
    have nt : ∀ {b : Addr} {l : List V}, H b = some (.tup l) → b ≠ p := fun h z => (n _ (by rw [← z]; exact h)).2 _ rfl
    ⟨dx, i, f, t, q, r, k _ _ (fun z => tf_ne ((n _ (by rw [← z]; exact h1)).1 _ _ rfl)) h1, k _ _ (nt h2) h2, k _ _ (nt h3) h3, k _ _ (nt h4) h4, TestAt.keepN k n h5, TestAt.keepN k n h6⟩
/-- what stands at a test, of whatever form it is -/
theorem TestAt.node {C : Addr} {H : Hp} : ∀ {t : Ts} {p : Addr}, TestAt C H t p → ∃ dx i f u qs, H p = some (.ins C dx (tf t.word i f u t.size t.depth)) ∧ H i = some (.tup (qs.map V.ref)) ∧ H f = some (.tup (t.flds.map V.str)) ∧ H u = some (.tup t.trms) ∧ Row (TestAt C H) t.kids qs
  | .at _ _ _, _, h => by
    obtain ⟨dx, i, f, u, h1, h2, h3, h4⟩ := AtomAt.ex h
    exact ⟨dx, i, f, u, [], h1, h2, h3, h4, .nil⟩
  | .un _ a, _, ⟨dx, i, f, u, q, h1, h2, h3, h4, h5⟩ => ⟨dx, i, f, u, [q], h1, h2, h3, h4, .cons h5 .nil⟩
  | .bi _ a b, _, ⟨dx, i, f, u, q, r, h1, h2, h3, h4, h5, h6⟩ => ⟨dx, i, f, u, [q, r], h1, h2, h3, h4, .cons h5 (.cons h6 .nil)⟩
/-- the test of a word and its parts -/
def mkT (w : Str) (fs : List Str) (ts : List V) : List Ts → Ts
  | [] => .at w fs ts
  | [a] => .un w a
  | a :: b :: _ => .bi w a b
def sizeK (ks : List Ts) : Nat := if ks = [] then 1 else (ks.map Ts.size).sum
def depthK (ks : List Ts) : Nat := ks.foldl (fun d k => if d ≤ k.depth then k.depth + 1 else d) 0
def spSizeK (C : Addr) : Sp := fun vs H Q _ => ∃ (i : Addr) (ks : List Ts) (qs : List Addr), vs = [.ref i] ∧ H i = some (.tup (qs.map V.ref)) ∧ Row (TestAt C H) ks qs ∧ ks.length ≤ 1000 ∧ ∀ H', (∀ q o, H q = some o → H' q = some o) → Q (.int (sizeK ks : Nat)) H'
def spDepthK (C : Addr) : Sp := fun vs H Q _ => ∃ (i : Addr) (ks : List Ts) (qs : List Addr), vs = [.ref i] ∧ H i = some (.tup (qs.map V.ref)) ∧ Row (TestAt C H) ks qs ∧ Q (.int (depthK ks : Nat)) H
section
variable {P : Program} {w : World} {K : PySem.W.Frag} {mg : Str → Option Value} {base : Heap}
theorem ok_size_of (T : Txt K mg) : Def P w K mg base 1 "size_of" ["inner"] (spSizeK (cadr mg "Test")) := by
  obtain ⟨f, fd, h⟩ := T.d_size_of
  refine h.def (Fun.okM h.fn sc_size_of (fun vs H Q E h => ?_) (fun cdv A outer s H vs Q E hr h => ?_))
  · obtain ⟨i, ks, qs, rfl, _⟩ := h
    rfl
  · obtain ⟨i, ks, qs, rfl, hi, hR, hl, k⟩ := h
    refine ⟨_, (pss_cons (ps_if (pt_cmpR op_eq (pe_callB (call_lenG (K := K) rfl) (by rfl) T.h_len (by decide +kernel) (pa_cons (pv 0) pa_nil)) pe_int (nomark _))
  (pss_one (ps_ret pe_int))
  pss_nil)
  (pss_one (ps_ret (pe_callB (cr_sum rfl) (by rfl) T.h_sum (by decide +kernel) (pa_cons (pe_lc (own := [("part", 1)]) rfl sc_size_of.nd (pi_tupG (K := K) rfl (pv 0)) (blkOk_by (N := N_size_of) (sc := defScope S_size_of) (by decide +kernel)) (fun _ _ _ _ _ => pg_name (i := 1) sc_size_of.nd rfl (Or.inl rfl)) (fun _ _ _ _ _ => pts_nil) (fun _ _ _ _ _ => (pe_fldG (K := K) rfl (pv 1) rfl))) pa_nil))))), ?_⟩
    have hlen := hR.len
    walk_at "g"
    refine g_lenT (SqT.of hi) ?_
    walk_at "g"
    refine g_dec (fun h0 => ?_) (fun h0 => ?_)
    · walk_at "g"
      have e : ks = [] := List.length_eq_zero_iff.mp (by rw [List.length_map] at h0; omega)
      have := k H fun _ _ h => h
      rw [show (sizeK ks : Nat) = 1 by unfold sizeK; rw [if_pos e]] at this
      exact this
    · walk_at "g"
      have ne : ks ≠ [] := fun e => h0 (by rw [e] at hlen; rw [List.length_map, hlen]; rfl)
      refine ⟨i, rfl, ⟨_, SqT.of hi⟩, fun D hD => ?_⟩
      refine lc_tup (K := K) (a := i) (xs := qs.map V.ref) (fun j H' => H' D = some (.lst ((((ks.take j).map Ts.size).map fun n : Nat => (n : Int)).map V.int)) ∧ ∀ q o, H q = some o → H' q = some o) ⟨upd_same, fun q o h => by rw [upd_ne (ne_of_none h hD)]; exact h⟩ (fun j H' _ p => SqT.of (p.2 _ _ hi)) ?_ ?_
      · rintro j x H2 hj ⟨hD2, k2⟩
        have hj2 : j < ks.length := by
          have := (List.getElem?_eq_some_iff.mp hj).1
          rw [List.length_map] at this; omega
        rw [List.getElem?_map] at hj
        obtain ⟨q, hq, rfl⟩ := Option.map_eq_some_iff.mp hj
        obtain ⟨t, ht, A⟩ := hR.get hq
        obtain ⟨dx, i1, f1, u1, qs1, hp, _⟩ := A.node
        walk_at "g"
        refine ⟨rfl, ?_⟩
        walk_at "g"
        refine ⟨q, _, dx, _, _, rfl, k2 _ _ hp, T.cl_Test, T.n_Test_size, tf_size, ?_⟩
        refine ⟨_, hD2, ?_, ?_, fun q o h => by rw [upd_ne (ne_of_none h hD)]; exact k2 q o h⟩
        · rw [List.length_map, List.length_map, List.length_map, List.length_take, sizeLine_eq]; omega
        · rw [upd_same, List.take_succ, ht, List.map_append, List.map_append, List.map_append]; rfl
      · rintro H2 ⟨hD2, k2⟩
        walk_at "g"
        rw [List.length_map, hlen, List.take_length] at hD2
        refine ⟨D, _, rfl, SqL.of hD2, ?_⟩
        have hsum : (((ks.map Ts.size).map fun n : Nat => (n : Int))).sum = ((sizeK ks : Nat) : Int) := by
          unfold sizeK
          rw [if_neg ne]
          generalize ks.map Ts.size = l
          induction l with
          | nil => rfl
          | cons a l ih => rw [List.map_cons, List.sum_cons, List.sum_cons, ih]; omega
        rw [hsum]
        walk_at "g"
        exact k _ k2
theorem ok_depth_of (T : Txt K mg) : Def P w K mg base 1 "depth_of" ["inner"] (spDepthK (cadr mg "Test")) := by
  obtain ⟨f, fd, h⟩ := T.d_depth_of
  refine h.def (Fun.okM h.fn sc_depth_of (fun vs H Q E h => ?_) (fun cdv A outer s H vs Q E hr h => ?_))
  · obtain ⟨i, ks, qs, rfl, _⟩ := h
    rfl
  · obtain ⟨i, ks, qs, rfl, hi, hR, k⟩ := h
    refine ⟨_, (pss_cons (ps_set (i := 1) sc_depth_of.nd rfl (Or.inl rfl) pe_int)
  (pss_cons (ps_for PassesOwn.never rfl (pi_tupG (K := K) rfl (pv 0)) (pg_name (i := 2) sc_depth_of.nd rfl (Or.inl rfl))
  (pss_one (ps_if (pt_cmpR op_geG (pe_fldG (K := K) rfl (pv 2) rfl) (pv 1) (nomark _))
  (pss_one (ps_set (i := 1) sc_depth_of.nd rfl (Or.inl rfl) (pe_op op_addG (pe_fldG (K := K) rfl (pv 2) rfl) pe_int)))
  pss_nil)))
  (pss_one (ps_ret (pv 1))))), ?_⟩
    have hlen := hR.len
    walk_at "g"
    refine ⟨i, rfl, ⟨_, SqT.of hi⟩, for_tupA (xs := qs.map V.ref) (fun j σ' H' => H' = H ∧ ∃ v, σ' = [some (.ref i), some (.int (depthK (ks.take j) : Nat)), v]) ⟨rfl, none, rfl⟩ (fun _ _ _ _ e => by rw [e.1]; exact SqT.of hi) ?_ ?_⟩
    · rintro j x σ' H2 D' hj ⟨rfl, v, rfl⟩ hnx hct hbk hrt
      rw [List.getElem?_map] at hj
      obtain ⟨q, hq, rfl⟩ := Option.map_eq_some_iff.mp hj
      obtain ⟨t, ht, A⟩ := hR.get hq
      obtain ⟨dx, i1, f1, u1, qs1, hp, _⟩ := A.node
      have e1 : depthK (ks.take (j + 1)) = if depthK (ks.take j) ≤ t.depth then t.depth + 1 else depthK (ks.take j) := by
        unfold depthK
        rw [List.take_succ, ht, List.foldl_append]
        rfl
      walk_at "g"
      refine ⟨q, _, dx, _, _, rfl, hp, T.cl_Test, T.n_Test_depth, tf_depth, ?_⟩
      walk_at "g"
      refine g_dec (fun hle => ?_) (fun hle => ?_)
      · walk_at "g"
        refine ⟨q, _, dx, _, _, rfl, hp, T.cl_Test, T.n_Test_depth, tf_depth, ?_⟩
        walk_at "g"
        refine hnx _ _ ⟨rfl, some (.ref q), ?_⟩
        rw [e1, if_pos (by omega)]
        rfl
      · walk_at "g"
        refine hnx _ _ ⟨rfl, some (.ref q), ?_⟩
        rw [e1, if_neg (by omega)]
        rfl
    · rintro σ' H2 ⟨rfl, v, rfl⟩
      walk_at "g"
      rw [List.length_map, hlen, List.take_length]
      exact k
/-- the maker of a test: word, parts, columns, terms -/
theorem ok_Test_init (T : Txt K mg) : DefC P w K mg base 2 (cadr mg "Test") ["self", "word", "inner", "fields", "terms"] (fun vs H Q _ => ∃ (p dx i f t : Addr) (w : Str) (ks : List Ts) (qs : List Addr), vs = [.ref p, .str w, .ref i, .ref f, .ref t] ∧ H p = some (.ins (cadr mg "Test") dx []) ∧
    H i = some (.tup (qs.map V.ref)) ∧ Row (TestAt (cadr mg "Test") H) ks qs ∧ ks.length ≤ 1000 ∧
    ∀ H', (∀ q o, q ≠ p → H q = some o → H' q = some o) → H' p = some (.ins (cadr mg "Test") dx (tf w i f t (sizeK ks : Nat) (depthK ks : Nat))) → Q .non H') := by
  obtain ⟨f, fd, h⟩ := T.d_Test_init
  refine h.def (Fun.okM h.fn sc_Test_init (fun vs H Q E h => ?_) (fun cdv A outer s H vs Q E hr h => ?_))
  · obtain ⟨p, dx, i, f, t, w, ks, qs, rfl, _⟩ := h
    rfl
  · obtain ⟨p, dx, i, f, t, w, ks, qs, rfl, hp, hi, hR, hl, k⟩ := h
    refine ⟨_, (pss_cons (ps_fld (pv 0) (pv 1) rfl)
  (pss_cons (ps_fld (pv 0) (pv 2) rfl)
  (pss_cons (ps_fld (pv 0) (pv 3) rfl)
  (pss_cons (ps_fld (pv 0) (pv 4) rfl)
  (pss_cons (ps_fld (pv 0) (pe_def (ok_size_of T) hr rfl (pa_cons (pv 2) pa_nil)) rfl)
  (pss_one (ps_fld (pv 0) (pe_def (ok_depth_of T) hr rfl (pa_cons (pv 2) pa_nil)) rfl))))))), ?_⟩
    have hip : i ≠ p := ne_of hi hp (by intro z; cases z)
    -- none of the tests that stand is the one that is made
    have other : ∀ {l : List (Str × V)} {u : Ts} {q : Addr}, TestAt (cadr mg "Test") H u q → TestAt (cadr mg "Test") (upd H p (.ins (cadr mg "Test") dx l)) u q := fun {l u q} h => by
      refine TestAt.keepN (p := p) (fun b o hb e => by rw [upd_ne hb]; exact e) (fun o e => ?_) h
      rw [hp] at e
      injection e with e
      subst e
      exact ⟨fun _ l z => by injection z with _ _ z; exact z.symm, fun l z => nomatch z⟩
    walk_at "g"
    refine ⟨p, _, dx, _, rfl, hp, T.cl_Test, T.n_Test_word, (by repeat (first | (with_reducible refine lt_put ?_) | decide)), ?_⟩
    walk_at "g"
    refine ⟨p, _, dx, _, rfl, upd_same, T.cl_Test, T.n_Test_inner, (by repeat (first | (with_reducible refine lt_put ?_) | decide)), ?_⟩
    rw [upd2]
    walk_at "g"
    refine ⟨p, _, dx, _, rfl, upd_same, T.cl_Test, T.n_Test_fields, (by repeat (first | (with_reducible refine lt_put ?_) | decide)), ?_⟩
    rw [upd2]
    walk_at "g"
    refine ⟨p, _, dx, _, rfl, upd_same, T.cl_Test, T.n_Test_terms, (by repeat (first | (with_reducible refine lt_put ?_) | decide)), ?_⟩
    rw [upd2]
    walk_at "g"
    refine ⟨i, ks, qs, rfl, by rw [upd_ne hip]; exact hi, hR.mono fun _ _ h => other h, hl, fun H2 k2 => ?_⟩
    have hp2 := k2 _ _ upd_same
    walk_at "g"
    refine ⟨p, _, dx, _, rfl, hp2, T.cl_Test, T.n_Test_size, (by repeat (first | (with_reducible refine lt_put ?_) | decide)), ?_⟩
    walk_at "g"
    have keepP : ∀ {l : List (Str × V)} {u : Ts} {q : Addr}, TestAt (cadr mg "Test") H u q → TestAt (cadr mg "Test") (upd H2 p (.ins (cadr mg "Test") dx l)) u q := fun {l u q} h => by
      refine TestAt.keepN (p := p) (fun b o hb e => by rw [upd_ne hb]; exact k2 _ _ (by rw [upd_ne hb]; exact e)) (fun o e => ?_) h
      rw [hp] at e
      injection e with e
      subst e
      exact ⟨fun _ l z => by injection z with _ _ z; exact z.symm, fun l z => nomatch z⟩
    refine ⟨i, ks, qs, rfl, ?_, hR.mono fun _ _ h => keepP h, ?_⟩
    · rw [upd_ne hip]
      exact k2 _ _ (by rw [upd_ne hip]; exact hi)
    walk_at "g"
    refine ⟨p, _, dx, _, rfl, upd_same, T.cl_Test, T.n_Test_depth, (by repeat (first | (with_reducible refine lt_put ?_) | decide)), ?_⟩
    rw [upd2]
    walk_at "g"
    refine k _ (fun q o hq e => ?_) upd_same
    rw [upd_ne hq]
    exact k2 _ _ (by rw [upd_ne hq]; exact e)
end
/-- the places of the atomic tests of a test, from the left -/
def TestAs (C : Addr) (H : Hp) : Ts → Addr → List Addr → Prop
  | .at w fs ts, p, as => AtomAt C H p w fs ts ∧ as = [p]
  | .un w a, p, as => ∃ dx i f t q, H p = some (.ins C dx (tf w i f t a.size (a.depth + 1 : Nat))) ∧ H i = some (.tup [.ref q]) ∧ H f = some (.tup []) ∧ H t = some (.tup []) ∧ TestAs C H a q as
  | .bi w a b, p, as => ∃ dx i f t q r xs ys, H p = some (.ins C dx (tf w i f t (a.size + b.size : Nat) (max a.depth b.depth + 1 : Nat))) ∧ H i = some (.tup [.ref q, .ref r]) ∧ H f = some (.tup []) ∧ H t = some (.tup []) ∧ TestAs C H a q xs ∧ TestAs C H b r ys ∧ as = xs ++ ys
theorem TestAs.keep {C : Addr} {H H' : Hp} (k : ∀ q o, H q = some o → H' q = some o) : ∀ {t : Ts} {p : Addr} {as : List Addr}, TestAs C H t p as → TestAs C H' t p as
  | .at _ _ _, _, _, h => ⟨AtomAt.keep h.1 k, h.2⟩
  | .un _ a, _, _, ⟨dx, i, f, t, q, h1, h2, h3, h4, h5⟩ => ⟨dx, i, f, t, q, k _ _ h1, k _ _ h2, k _ _ h3, k _ _ h4, TestAs.keep k h5⟩
  | .bi _ a b, _, _, ⟨dx, i, f, t, q, r, xs, ys, h1, h2, h3, h4, h5, h6, e⟩ => ⟨dx, i, f, t, q, r, xs, ys, k _ _ h1, k _ _ h2, k _ _ h3, k _ _ h4, TestAs.keep k h5, TestAs.keep k h6, e⟩
theorem TestAt.as {C : Addr} {H : Hp} : ∀ {t : Ts} {p : Addr}, TestAt C H t p → ∃ as, TestAs C H t p as
  | .at _ _ _, p, h => ⟨[p], h, rfl⟩
  | .un _ a, _, ⟨dx, i, f, t, q, h1, h2, h3, h4, h5⟩ =>
    let ⟨as, h⟩ := TestAt.as h5
    ⟨as, dx, i, f, t, q, h1, h2, h3, h4, h⟩
  | .bi _ a b, _, ⟨dx, i, f, t, q, r, h1, h2, h3, h4, h5, h6⟩ =>
    let ⟨xs, x⟩ := TestAt.as h5
    let ⟨ys, y⟩ := TestAt.as h6
    ⟨xs ++ ys, dx, i, f, t, q, r, xs, ys, h1, h2, h3, h4, x, y, rfl⟩
theorem TestAs.row {C : Addr} {H : Hp} : ∀ {t : Ts} {p : Addr} {as : List Addr}, TestAs C H t p as → Row (TestAt C H) t.atoms as
  | .at _ _ _, _, _, ⟨h, e⟩ => by subst e; exact .cons h .nil
  | .un _ a, _, _, h => by
    obtain ⟨_, _, _, _, _, _, _, _, _, h5⟩ := h
    exact TestAs.row (t := a) h5
  | .bi _ a b, _, _, h => by
    obtain ⟨_, _, _, _, _, _, _, _, _, _, _, _, h5, h6, e⟩ := h
    subst e
    exact (TestAs.row (t := a) h5).app (TestAs.row (t := b) h6)
/-- parts, their places, the places of their atomic tests -/
inductive Row3 (R : Ts → Addr → List Addr → Prop) : List Ts → List Addr → List (List Addr) → Prop
  | nil : Row3 R [] [] []
  | cons {t : Ts} {q : Addr} {as : List Addr} {ts : List Ts} {qs : List Addr} {ass : List (List Addr)} (h : R t q as) (r : Row3 R ts qs ass) : Row3 R (t :: ts) (q :: qs) (as :: ass)
theorem Row3.len {R : Ts → Addr → List Addr → Prop} : ∀ {ts : List Ts} {qs : List Addr} {ass : List (List Addr)}, Row3 R ts qs ass → qs.length = ts.length ∧ ass.length = ts.length
  | _, _, _, .nil => ⟨rfl, rfl⟩
  | _, _, _, .cons _ r => ⟨congrArg (· + 1) r.len.1, congrArg (· + 1) r.len.2⟩
theorem Row3.get {R : Ts → Addr → List Addr → Prop} : ∀ {ts : List Ts} {qs : List Addr} {ass : List (List Addr)} {i : Nat} {q : Addr}, Row3 R ts qs ass → qs[i]? = some q → ∃ t as, ts[i]? = some t ∧ ass[i]? = some as ∧ R t q as
  | _, _, _, i, _, .nil, h => by simp at h
  | _, _, _, 0, _, .cons a r, h => by
    simp at h
    subst h
    exact ⟨_, _, rfl, rfl, a⟩
  | _, _, _, i + 1, _, .cons a r, h => by
    simp at h
    obtain ⟨t, as, e1, e2, x⟩ := r.get h
    exact ⟨t, as, by simpa using e1, by simpa using e2, x⟩
theorem TestAs.node {C : Addr} {H : Hp} : ∀ {t : Ts} {p : Addr} {as : List Addr}, TestAs C H t p as → ∃ dx i f u qs ass, H p = some (.ins C dx (tf t.word i f u t.size t.depth)) ∧ H i = some (.tup (qs.map V.ref)) ∧ H f = some (.tup (t.flds.map V.str)) ∧ H u = some (.tup t.trms) ∧
    Row3 (TestAs C H) t.kids qs ass ∧ (t.kids = [] → as = [p]) ∧ (t.kids ≠ [] → as = ass.flatten)
  | .at _ _ _, _, _, ⟨h, e⟩ => by
    obtain ⟨dx, i, f, u, h1, h2, h3, h4⟩ := h.ex
    exact ⟨dx, i, f, u, [], [], h1, h2, h3, h4, .nil, fun _ => e, fun n => absurd rfl n⟩
  | .un _ a, _, as, ⟨dx, i, f, u, q, h1, h2, h3, h4, h5⟩ => ⟨dx, i, f, u, [q], [as], h1, h2, h3, h4, .cons h5 .nil, (fun e => nomatch e), fun _ => by simp⟩
  | .bi _ a b, _, as, ⟨dx, i, f, u, q, r, xs, ys, h1, h2, h3, h4, h5, h6, e⟩ => ⟨dx, i, f, u, [q, r], [xs, ys], h1, h2, h3, h4, .cons h5 (.cons h6 .nil), (fun e => nomatch e), fun _ => by simp [e]⟩
def spAtoms (C : Addr) (n : Nat) : Sp := fun vs H Q _ => ∃ (p : Addr) (t : Ts) (as : List Addr), vs = [.ref p] ∧ TestAs C H t p as ∧ t.depth ≤ n ∧ t.size ≤ 1000 ∧ ∀ l H', H l = none → (∀ q o, H q = some o → H' q = some o) → H' l = some (.lst (as.map V.ref)) → Q (.ref l) H'
theorem kid_size {t k : Ts} (h : k ∈ t.kids) : k.size ≤ t.size := by
  cases t with
  | «at» w fs ts => exact nomatch h
  | un w a =>
    obtain rfl : k = a := by simpa [Ts.kids] using h
    exact Nat.le_refl _
  | bi w a b =>
    have h : k = a ∨ k = b := by simpa [Ts.kids] using h
    show k.size ≤ a.size + b.size
    rcases h with rfl | rfl <;> omega
section
variable {P : Program} {w : World} {K : PySem.W.Frag} {mg : Str → Option Value} {base : Heap}
theorem ok_atomsN (T : Txt K mg) : ∀ n, DefM P w K mg base (n + 1) (cadr mg "Test") "atoms" ["self"] (spAtoms (cadr mg "Test") n) := by
  intro n
  induction n with
  | zero =>
    obtain ⟨f, fd, h⟩ := T.d_Test_atoms
    refine h.def (Fun.okM h.fn sc_Test_atoms (fun vs H Q E h => ?_) (fun cdv A outer s H vs Q E hr h => ?_))
    · obtain ⟨p, t, as, rfl, _⟩ := h
      rfl
    · obtain ⟨p, t, as, rfl, A1, hd, hz, k⟩ := h
      obtain ⟨dx, i, f, u, qs, ass, hp, hi, hf, hu, hR, e0, e1⟩ := A1.node
      refine ⟨_, (pss_cons (ps_if (pt_cmpR op_eq (pe_callB (call_lenG (K := K) rfl) (by rfl) T.h_len (by decide +kernel) (pa_cons (pe_fldG (K := K) rfl (pv 0) rfl) pa_nil)) pe_int (nomark _))
  (pss_one (ps_ret (pe_lst (pa_cons (pv 0) pa_nil))))
  pss_nil)
  (pss_one ps_never)), ?_⟩
      have hk : t.kids = [] := by
        cases t with
        | «at» => rfl
        | un w a => exact absurd hd (by show ¬ a.depth + 1 ≤ 0; omega)
        | bi w a b => exact absurd hd (by show ¬ max a.depth b.depth + 1 ≤ 0; omega)
      have hq : qs = [] := List.length_eq_zero_iff.mp (by rw [hR.len.1, hk]; rfl)
      subst hq
      walk_at "g"
      refine ⟨p, _, dx, _, _, rfl, hp, T.cl_Test, T.n_Test_inner, tf_inner, ?_⟩
      walk_at "g"
      refine g_lenT (SqT.of hi) ?_
      walk_at "g"
      refine g_T ?_
      walk_at "g"
      refine ⟨by show 1 ≤ sizeLine; decide, fun l hl => ?_⟩
      walk_at "g"
      refine k l _ hl (fun q o h => by rw [upd_ne (ne_of_none h hl)]; exact h) ?_
      rw [e0 hk]
      exact upd_same
  | succ n ih =>
    have ok_Test_atoms : Txt K mg → DefM P w K mg base (n + 1) (cadr mg "Test") "atoms" ["self"] (spAtoms (cadr mg "Test") n) := fun _ => ih
    obtain ⟨f, fd, h⟩ := T.d_Test_atoms
    refine h.def (Fun.okM h.fn sc_Test_atoms (fun vs H Q E h => ?_) (fun cdv A outer s H vs Q E hr h => ?_))
    · obtain ⟨p, t, as, rfl, _⟩ := h
      rfl
    · obtain ⟨p, t, as, rfl, A1, hd, hz, k⟩ := h
      obtain ⟨dx, i, f, u, qs, ass, hp, hi, hf, hu, hR, e0, e1⟩ := A1.node
      refine ⟨_, (pss_cons (ps_if (pt_cmpR op_eq (pe_callB (call_lenG (K := K) rfl) (by rfl) T.h_len (by decide +kernel) (pa_cons (pe_fldG (K := K) rfl (pv 0) rfl) pa_nil)) pe_int (nomark _))
  (pss_one (ps_ret (pe_lst (pa_cons (pv 0) pa_nil))))
  pss_nil)
  (pss_one (ps_ret (pe_lc2 (own := [("part", 1), ("atom", 2)]) (vs1 := [2]) rfl sc_Test_atoms.nd (pi_tupG (K := K) rfl (pe_fldG (K := K) rfl (pv 0) rfl)) (blkOk_by (N := N_Test_atoms) (sc := defScope S_Test_atoms) (by decide +kernel)) (by decide) (fun _ _ _ _ _ => pg_name (i := 1) sc_Test_atoms.nd rfl (Or.inl rfl)) (fun _ _ _ _ _ => pts_nil) (fun _ _ _ _ _ => (pi_listG (K := K) rfl (pe_me0 (pv 1) T.cl_Test (ok_Test_atoms T) hr (hk := by omega)))) (fun _ _ _ _ _ => pg_name (i := 2) sc_Test_atoms.nd rfl (Or.inl rfl)) (fun _ _ _ _ _ => pts_nil) (fun _ _ _ _ _ => (pv 2)))))), ?_⟩
      obtain ⟨hl1, hl2⟩ := hR.len
      walk_at "g"
      refine ⟨p, _, dx, _, _, rfl, hp, T.cl_Test, T.n_Test_inner, tf_inner, ?_⟩
      walk_at "g"
      refine g_lenT (SqT.of hi) ?_
      walk_at "g"
      refine g_dec (fun h0 => ?_) (fun h0 => ?_)
      · have hk : t.kids = [] := List.length_eq_zero_iff.mp (by rw [List.length_map] at h0; omega)
        walk_at "g"
        refine ⟨by show 1 ≤ sizeLine; decide, fun l hl => ?_⟩
        walk_at "g"
        refine k l _ hl (fun q o h => by rw [upd_ne (ne_of_none h hl)]; exact h) ?_
        rw [e0 hk]
        exact upd_same
      · have hk : t.kids ≠ [] := fun e => h0 (by rw [List.length_map, hl1, e]; rfl)
        walk_at "g"
        refine ⟨p, _, dx, _, _, rfl, hp, T.cl_Test, T.n_Test_inner, tf_inner, ?_⟩
        refine ⟨i, rfl, ⟨_, SqT.of hi⟩, fun D hD => ?_⟩
        have hfl : (List.range (qs.map V.ref).length).flatMap (fun j => (ass.getD j []).map V.ref) = as.map V.ref := by
          rw [e1 hk, List.length_map, hl1, ← hl2]
          clear e1 e0 hR hl2 A1 k
          induction ass with
          | nil => rfl
          | cons a r ih => rw [List.length_cons, List.range_succ_eq_map, List.flatMap_cons, List.flatMap_map, List.flatten_cons, List.map_append, ← ih]; rfl
        refine lc2_flatI (qs.map V.ref) (fun j => (ass.getD j []).map V.ref) hD (fun H2 k2 => fits_t (SqT.of (k2 _ _ hi))) ?_ (fun j x Hh R S hx hDn kh turn => ?_) (fun H2 k2 h2 => ?_)
        · rw [hfl, List.length_map, A1.row.len, Ts.atoms_len]; omega
        · rw [List.getElem?_map] at hx
          obtain ⟨q, hq, rfl⟩ := Option.map_eq_some_iff.mp hx
          obtain ⟨s1, a1, hs1, ha1, B⟩ := hR.get hq
          have hm := List.mem_of_getElem? hs1
          obtain ⟨dx2, i2, f2, u2, qs2, ass2, hp2, _⟩ := B.node
          walk_at "g"
          refine ⟨rfl, ?_⟩
          walk_at "g"
          refine ⟨q, dx2, _, rfl, kh _ _ hp2, tf_atoms, ?_⟩
          walk_at "g"
          have hsd := Ts.kids_depth hm
          have hsz := kid_size hm
          refine ⟨q, s1, a1, rfl, B.keep kh, by omega, by omega, fun l H3 hl3 k3 h3 => ?_⟩
          refine ⟨l, rfl, ⟨_, SqL.of h3⟩, turn _ _ _ k3 (fun H4 k4 => ?_) fun y Hk R1 S1 hy r => ?_⟩
          · have hlD : l ≠ D := fun z => hDn (by rw [← z]; exact hl3)
            have e : ass.getD j [] = a1 := by rw [List.getD_eq_getElem?_getD, ha1]; rfl
            rw [e]
            exact fits_l (SqL.of (k4 _ _ hlD h3))
          · walk_at "g"
            refine ⟨rfl, ?_⟩
            walk_at "g"
            exact r
        · walk_at "g"
          exact k D H2 hD k2 (by rw [h2, hfl])
end
theorem mkT_size {w : Str} {ks : List Ts} (h : ks.length ≤ 2) : (mkT w [] [] ks).size = sizeK ks := by
  match ks, h with
  | [], _ => rfl
  | [a], _ => simp [mkT, sizeK, Ts.size]
  | [a, b], _ => simp [mkT, sizeK, Ts.size]
theorem mkT_depth {w : Str} {ks : List Ts} (h : ks.length ≤ 2) : (mkT w [] [] ks).depth = depthK ks := by
  match ks, h with
  | [], _ => rfl
  | [a], _ => simp [mkT, depthK, Ts.depth]
  | [a, b], _ =>
    show max a.depth b.depth + 1 = _
    simp only [depthK, List.foldl_cons, List.foldl_nil, Nat.zero_le, if_true]
    split <;> omega
/-- a test stands where its word, its parts and their places do -/
theorem TestAt.made {C : Addr} {H : Hp} {p dx i f u : Addr} {w : Str} {ks : List Ts} {qs : List Addr} (hl : ks.length ≤ 2) (hp : H p = some (.ins C dx (tf w i f u (sizeK ks : Nat) (depthK ks : Nat)))) (hi : H i = some (.tup (qs.map V.ref))) (hf : H f = some (.tup [])) (hu : H u = some (.tup [])) (hR : Row (TestAt C H) ks qs) : TestAt C H (mkT w [] [] ks) p := by
  match ks, qs, hl, hR with
  | [], [], _, _ => exact ⟨dx, i, f, u, hp, hi, hf, hu⟩
  | [a], [q], _, .cons ha .nil => exact ⟨dx, i, f, u, q, by rw [hp]; simp [sizeK, depthK], hi, hf, hu, ha⟩
  | [a, b], [q, r], hl, .cons ha (.cons hb .nil) =>
    have e1 := mkT_size (w := w) hl
    have e2 := mkT_depth (w := w) hl
    refine ⟨dx, i, f, u, q, r, ?_, hi, hf, hu, ha, hb⟩
    rw [hp, ← e1, ← e2]
    rfl
/-- a thing's kind -/
inductive TyOf7 (H : Hp) : V → String → Prop
  | non : TyOf7 H .non "NoneType"
  | bl (b : Bool) : TyOf7 H (.bl b) "bool"
  | int (i : Int) : TyOf7 H (.int i) "int"
  | str (z : Str) : TyOf7 H (.str z) "str"
  | lst {p : Addr} {xs : List V} (h : H p = some (.lst xs)) : TyOf7 H (.ref p) "list"
  | tup {p : Addr} {xs : List V} (h : H p = some (.tup xs)) : TyOf7 H (.ref p) "tuple"
  | dct {p : Addr} {kvs : List (Key × V)} (h : H p = some (.dK kvs)) : TyOf7 H (.ref p) "dict"
theorem TyOf7.x {H : Hp} {v : V} {T : String} (h : TyOf7 H v T) (K : PySem.W.Frag) : TyX K H v (.type T) := by
  cases h with
  | non => exact .base .non
  | bl b => exact .base (.bl b)
  | int i => exact .base (.int i)
  | str z => exact .base (.str z)
  | lst h => exact .base (.lst h)
  | tup h => exact .base (.tup h)
  | dct h => exact .base (.dK h)
def xwhy (s : Str) : HO := .xd [(("why" : Str), .str s)]
/-- what combined, and what leads to it, does: a test, or one of two errors -/
def Outc (C CB : Addr) (t : Ts) (H : Hp) (Q : VK) (E : XK) : Prop :=
  (24 < t.size → ∀ d H', (∀ q o, H q = some o → H' q = some o) → H' d = some (xwhy "large") → E (.ref CB) (some d) H') ∧
  (t.size ≤ 24 → 12 < t.depth → ∀ d H', (∀ q o, H q = some o → H' q = some o) → H' d = some (xwhy "deep") → E (.ref CB) (some d) H') ∧
  (t.size ≤ 24 → t.depth ≤ 12 → ∀ p H', (∀ q o, H q = some o → H' q = some o) → TestAt C H' t p → Q (.ref p) H')
def spComb (C CB : Addr) : Sp := fun vs H Q E => ∃ (w : Str) (i : Addr) (ks : List Ts) (qs : List Addr), vs = [.str w, .ref i] ∧ H i = some (.tup (qs.map V.ref)) ∧ Row (TestAt C H) ks qs ∧ ks.length ≤ 2 ∧ Outc C CB (mkT w [] [] ks) H Q E
section
variable {P : Program} {w : World} {K : PySem.W.Frag} {mg : Str → Option Value} {base : Heap}
theorem ok_combined (T : Txt K mg) : DefX P w K mg base 4 "combined" ["word", "inner"] (spComb (cadr mg "Test") (cadr mg "BadTest")) := by
  obtain ⟨f, fd, h⟩ := T.d_combined
  obtain ⟨t_MOST_ATOMS, G_MOST_ATOMS⟩ := T.k_MOST_ATOMS
  obtain ⟨t_MOST_LEVELS, G_MOST_LEVELS⟩ := T.k_MOST_LEVELS
  obtain ⟨fE_BadTest, EB_BadTest⟩ := T.x_BadTest
  refine h.defX (Fun.okMX h.fn sc_combined (fun vs H Q E h => ?_) (fun cdv A outer s H vs Q E hr h => ?_))
  · obtain ⟨w, i, ks, qs, rfl, _⟩ := h
    rfl
  · obtain ⟨w, i, ks, qs, rfl, hi, hR, hl, kL, kD, kO⟩ := h
    refine ⟨_, (pss_cons (ps_set (i := 2) sc_combined.nd rfl (Or.inl rfl) (pe_new (ok_Test_init T) hr rfl T.e_Test (pa_cons (pv 0) (pa_cons (pv 1) (pa_cons (pe_tup pa_nil) (pa_cons (pe_tup pa_nil) pa_nil))))))
  (pss_cons (ps_if (pt_cmpR op_gtG (pe_fldG (K := K) rfl (pv 2) rfl) (pe_glob (v := .int 24) rfl G_MOST_ATOMS ⟨_, rfl⟩) (nomark _))
  (pss_one (ps_raiseBadTest rfl EB_BadTest hr (takes_of rfl rfl rfl rfl) (pa_cons pe_str pa_nil)))
  pss_nil)
  (pss_cons (ps_if (pt_cmpR op_gtG (pe_fldG (K := K) rfl (pv 2) rfl) (pe_glob (v := .int 12) rfl G_MOST_LEVELS ⟨_, rfl⟩) (nomark _))
  (pss_one (ps_raiseBadTest rfl EB_BadTest hr (takes_of rfl rfl rfl rfl) (pa_cons pe_str pa_nil)))
  pss_nil)
  (pss_one (ps_ret (pv 2)))))), ?_⟩
    walk_at "g"
    refine ⟨Nat.zero_le _, fun f hf => ?_⟩
    walk_at "g"
    refine ⟨Nat.zero_le _, fun u hu => ?_⟩
    walk_at "g"
    intro x dx hx hdx hne
    have kf : ∀ q o, H q = some o → (upd H f (.tup [])) q = some o := fun q o h => by rw [upd_ne (ne_of_none h hf)]; exact h
    have ku : ∀ q o, (upd H f (.tup [])) q = some o → (upd (upd H f (.tup [])) u (.tup [])) q = some o := fun q o h => by rw [upd_ne (ne_of_none h hu)]; exact h
    have kx : ∀ q o, (upd (upd H f (.tup [])) u (.tup [])) q = some o → (upd (upd (upd (upd H f (.tup [])) u (.tup [])) dx (.own x)) x (.ins (cadr mg "Test") dx [])) q = some o := fun q o h => by
      rw [upd_ne (ne_of_none h hx), upd_ne (ne_of_none h hdx)]; exact h
    have k0 : ∀ q o, H q = some o → (upd (upd (upd (upd H f (.tup [])) u (.tup [])) dx (.own x)) x (.ins (cadr mg "Test") dx [])) q = some o := fun q o h => kx _ _ (ku _ _ (kf _ _ h))
    refine ⟨x, dx, i, f, u, w, ks, qs, rfl, upd_same, k0 _ _ hi, hR.mono fun _ _ h => h.keep k0, by omega, fun H2 k2 h2 => ⟨rfl, ?_⟩⟩
    have hHx : H x = none := by
      cases e : H x with
      | none => rfl
      | some o => rw [ku _ _ (kf _ _ e)] at hx; cases hx
    have kk : ∀ q o, H q = some o → H2 q = some o := fun q o h => k2 _ _ (ne_of_none h hHx) (k0 _ _ h)
    have hf2 : H2 f = some (.tup []) := k2 _ _ (fun z => by rw [← z, ku _ _ upd_same] at hx; cases hx) (kx _ _ (ku _ _ upd_same))
    have hu2 : H2 u = some (.tup []) := k2 _ _ (fun z => by rw [← z, upd_same] at hx; cases hx) (kx _ _ upd_same)
    have A2 : TestAt (cadr mg "Test") H2 (mkT w [] [] ks) x := TestAt.made hl h2 (kk _ _ hi) hf2 hu2 (hR.mono fun _ _ h => h.keep kk)
    have es := mkT_size (w := w) hl
    have ed := mkT_depth (w := w) hl
    walk_at "g"
    refine ⟨x, _, dx, _, _, rfl, h2, T.cl_Test, T.n_Test_size, tf_size, ?_⟩
    walk_at "g"
    refine g_dec (fun h24 => ?_) (fun h24 => ?_)
    · walk_at "g"
      exact ⟨_, rfl, fun d hd => kL (by omega) d _ (fun q o h => by rw [upd_ne (ne_of_none (kk q o h) hd)]; exact kk q o h) upd_same⟩
    · walk_at "g"
      refine ⟨x, _, dx, _, _, rfl, h2, T.cl_Test, T.n_Test_depth, tf_depth, ?_⟩
      walk_at "g"
      refine g_dec (fun h12 => ?_) (fun h12 => ?_)
      · walk_at "g"
        exact ⟨_, rfl, fun d hd => kD (by omega) (by omega) d _ (fun q o h => by rw [upd_ne (ne_of_none (kk q o h) hd)]; exact kk q o h) upd_same⟩
      · walk_at "g"
        exact kO (by omega) (by omega) x H2 kk A2
/-- a & b, a | b: a thing that is no test is refused -/
def spOp (C CB : Addr) (w : Str) : Sp := fun vs H Q E => ∃ (p : Addr) (a : Ts) (y : V), vs = [.ref p, y] ∧ TestAt C H a p ∧
  ((∃ (q : Addr) (b : Ts), y = .ref q ∧ TestAt C H b q ∧ Outc C CB (.bi w a b) H Q E) ∨ ((∃ T, T ∈ kinds7 ∧ TyOf7 H y T) ∧ ∀ d H', (∀ q o, H q = some o → H' q = some o) → H' d = some (xwhy "part") → E (.ref CB) (some d) H'))
end
section
variable {P : Program} {w : World} {K : PySem.W.Frag} {mg : Str → Option Value} {base : Heap}
theorem ok_Test_or (T : Txt K mg) : DefMX P w K mg base 5 (cadr mg "Test") "__or__" ["self", "other"] (spOp (cadr mg "Test") (cadr mg "BadTest") "or") := by
  obtain ⟨f, fd, h⟩ := T.d_Test_or
  obtain ⟨fE_BadTest, EB_BadTest⟩ := T.x_BadTest
  refine h.defX (Fun.okMX h.fn sc_Test_or (fun vs H Q E h => ?_) (fun cdv A outer s H vs Q E hr h => ?_))
  · obtain ⟨p, a, y, rfl, _⟩ := h
    rfl
  · obtain ⟨p, a, y, rfl, ha, h⟩ := h
    obtain ⟨dx, i1, f1, u1, qs1, hp, _⟩ := ha.node
    refine ⟨_, (pss_cons (ps_if (pt_not (pt_val (pe_callB (call_isiG (K := K) rfl) (by rfl) T.h_isinstance (by decide +kernel) (pa_cons (pv 1) (pa_cons (pe_cls rfl T.e_Test) pa_nil)))))
  (pss_one (ps_raiseBadTest rfl EB_BadTest hr (takes_of rfl rfl rfl rfl) (pa_cons pe_str pa_nil)))
  pss_nil)
  (pss_one (ps_ret (pe_defX (takes_of rfl rfl rfl rfl) (ok_combined T) hr rfl (pa_cons pe_str (pa_cons (pe_tup (pa_cons (pv 0) (pa_cons (pv 1) pa_nil))) pa_nil)))))), ?_⟩
    rcases h with ⟨q, b, rfl, hb, hO⟩ | ⟨⟨Tn, hT, ty⟩, hE⟩
    · obtain ⟨dx2, i2, f2, u2, qs2, hq, _⟩ := hb.node
      walk_at "g"
      refine g_isOwn T.is_Test T.cl_Test hq ?_
      walk_at "g"
      refine ⟨by show 2 ≤ sizeLine; decide, fun t ht => ?_⟩
      have kt : ∀ r o, H r = some o → (upd H t (.tup [.ref p, .ref q])) r = some o := fun r o h => by rw [upd_ne (ne_of_none h ht)]; exact h
      walk_at "g"
      refine ⟨"or", t, [a, b], [p, q], rfl, upd_same, .cons (ha.keep kt) (.cons (hb.keep kt) .nil), Nat.le_refl _, fun h d H' k e => hO.1 h d H' (fun r o h => k r o (kt r o h)) e, fun h1 h2 d H' k e => hO.2.1 h1 h2 d H' (fun r o h => k r o (kt r o h)) e, fun h1 h2 r H' k A => ?_⟩
      walk_at "g"
      exact hO.2.2 h1 h2 r H' (fun r o h => k r o (kt r o h)) A
    · walk_at "g"
      refine g_isNot T.is_Test (ty.x K) hT ?_
      walk_at "g"
      exact ⟨_, rfl, fun d hd => hE d _ (fun q o h => by rw [upd_ne (ne_of_none h hd)]; exact h) upd_same⟩
/-- ~a, sure(a) -/
def spUn (C CB : Addr) (w : Str) : Sp := fun vs H Q E => ∃ (p : Addr) (a : Ts), vs = [.ref p] ∧ TestAt C H a p ∧ Outc C CB (.un w a) H Q E
theorem ok_Test_invert (T : Txt K mg) : DefMX P w K mg base 5 (cadr mg "Test") "__invert__" ["self"] (spUn (cadr mg "Test") (cadr mg "BadTest") "not") := by
  obtain ⟨f, fd, h⟩ := T.d_Test_invert
  refine h.defX (Fun.okMX h.fn sc_Test_invert (fun vs H Q E h => ?_) (fun cdv A outer s H vs Q E hr h => ?_))
  · obtain ⟨p, a, rfl, _⟩ := h
    rfl
  · obtain ⟨p, a, rfl, ha, hO⟩ := h
    refine ⟨_, (pss_one (ps_ret (pe_defX (takes_of rfl rfl rfl rfl) (ok_combined T) hr rfl (pa_cons pe_str (pa_cons (pe_tup (pa_cons (pv 0) pa_nil)) pa_nil))))), ?_⟩
    walk_at "g"
    refine ⟨by show 1 ≤ sizeLine; decide, fun t ht => ?_⟩
    have kt : ∀ r o, H r = some o → (upd H t (.tup [.ref p])) r = some o := fun r o h => by rw [upd_ne (ne_of_none h ht)]; exact h
    walk_at "g"
    refine ⟨"not", t, [a], [p], rfl, upd_same, .cons (ha.keep kt) .nil, by show 1 ≤ 2; decide, fun h d H' k e => hO.1 h d H' (fun r o h => k r o (kt r o h)) e, fun h1 h2 d H' k e => hO.2.1 h1 h2 d H' (fun r o h => k r o (kt r o h)) e, fun h1 h2 r H' k A => ?_⟩
    walk_at "g"
    exact hO.2.2 h1 h2 r H' (fun r o h => k r o (kt r o h)) A
theorem ok_Test_levels (T : Txt K mg) : DefM P w K mg base 1 (cadr mg "Test") "levels" ["self"] (fun vs H Q _ => ∃ (p : Addr) (t : Ts), vs = [.ref p] ∧ TestAt (cadr mg "Test") H t p ∧ Q (.int (t.depth : Nat)) H) := by
  obtain ⟨f, fd, h⟩ := T.d_Test_levels
  refine h.def (Fun.okM h.fn sc_Test_levels (fun vs H Q E h => ?_) (fun cdv A outer s H vs Q E hr h => ?_))
  · obtain ⟨p, t, rfl, _⟩ := h
    rfl
  · obtain ⟨p, t, rfl, ha, k⟩ := h
    obtain ⟨dx, i1, f1, u1, qs1, hp, _⟩ := ha.node
    refine ⟨_, (pss_one (ps_ret (pe_fldG (K := K) rfl (pv 0) rfl))), ?_⟩
    walk_at "g"
    refine ⟨p, _, dx, _, _, rfl, hp, T.cl_Test, T.n_Test_depth, tf_depth, ?_⟩
    walk_at "g"
    exact k
end
/-! texts of the 94 signs -/
def txtB (z : Str) : Bool := z.cps.toList.all fun c => decide (c ∈ signs.cps.toList)
def isTxtB : V → Bool
  | .str z => txtB z
  | _ => false
theorem none_bad {l : List Nat} {p : Nat → Bool} {f : Nat → V} : decide ((((l.filter fun n => !p n).map f).length : Int) = 0) = l.all p := by
  rw [List.length_map, Bool.eq_iff_iff, decide_eq_true_eq, List.all_eq_true]
  constructor
  · intro h c hc
    have h' : (l.filter fun n => !p n) = [] := List.length_eq_zero_iff.mp (by omega)
    have := (List.filter_eq_nil_iff.mp h') c hc
    simpa using this
  · intro h
    have h' : (l.filter fun n => !p n) = [] := List.filter_eq_nil_iff.mpr fun c hc => by
      have := h c hc
      simpa using this
    rw [h']
    rfl
def spThingB (F : V → Bool) : Sp := fun vs H Q _ => ∃ v, vs = [v] ∧ thing H v ∧ ∀ H', (∀ p o, H p = some o → H' p = some o) → Q (.bl (F v)) H'
def letters : List Nat := (Str.ofString "abcdefghijklmnopqrstuvwxyz").cps.toList
def nameSigns : List Nat := (Str.ofString "abcdefghijklmnopqrstuvwxyz0123456789").cps.toList
def keptWords : List Str := ["and", "or", "not", "sure", "in", "is", "empty", "begins", "always", "never"]
def nameP (z : Str) : Prop := z.length ≠ 0 ∧ z.length ≤ 8 ∧ (∀ c r, z.cps.toList = c :: r → c ∈ letters) ∧ z ∉ keptWords ∧ ∀ c ∈ z.cps.toList, c ∈ nameSigns
noncomputable def nameB : V → Bool
  | .str z => @decide (nameP z) (Classical.propDecidable _)
  | _ => false
theorem nameB_str {z : Str} : nameB (.str z) = true ↔ nameP z := by
  unfold nameB
  exact @decide_eq_true_iff _ (Classical.propDecidable _)
theorem nameB_no {z : Str} (h : ¬ nameP z) : nameB (.str z) = false := by
  cases e : nameB (.str z) with
  | false => rfl
  | true => exact absurd (nameB_str.mp e) h
theorem nameB_is {z : Str} {b : Bool} (h : nameP z ↔ b = true) : nameB (.str z) = b := by
  cases b with
  | true => exact nameB_str.mpr (h.mpr rfl)
  | false => exact nameB_no fun z => absurd (h.mp z) Bool.false_ne_true
def kindV : V → V
  | .int _ => .str (Str.ofString "number")
  | .str z => if txtB z = true then .str (Str.ofString "text") else .non
  | _ => .non
section
variable {P : Program} {w : World} {K : PySem.W.Frag} {mg : Str → Option Value} {base : Heap}
theorem ok_is_integer (T : Txt K mg) : Def P w K mg base 1 "is_integer" ["thing"] (spThingB isIntB) := by
  obtain ⟨f, fd, h⟩ := T.d_is_integer
  refine h.def (Fun.okM h.fn sc_is_integer (fun vs H Q E h => ?_) (fun cdv A outer s H vs Q E hr h => ?_))
  · obtain ⟨x, rfl, _⟩ := h
    rfl
  · obtain ⟨x, rfl, hx, k⟩ := h
    have k' := k H fun _ _ h => h
    refine ⟨_, (pss_one (ps_ret (pe_and (pe_callB (call_isiG (K := K) rfl) (by rfl) T.h_isinstance (by decide +kernel) (pa_cons (pv 0) (pa_cons (pe_bltn (v := .ty "int") (by rfl) T.h_int (by decide +kernel) rfl) pa_nil))) (pe_one (pe_not (pe_callB (call_isiG (K := K) rfl) (by rfl) T.h_isinstance (by decide +kernel) (pa_cons (pv 0) (pa_cons (pe_bltn (v := .ty "bool") (by rfl) T.h_bool (by decide +kernel) rfl) pa_nil)))))))), ?_⟩
    rcases hx with rfl | ⟨b, rfl⟩ | ⟨i, rfl⟩ | ⟨z, rfl, hz⟩ | ⟨p, rfl, hp⟩ <;> walk_at "g" <;> exact k'
end
section
variable {P : Program} {w : World} {K : PySem.W.Frag} {mg : Str → Option Value} {base : Heap}
theorem ok_is_text (T : Txt K mg) : Def P w K mg base 1 "is_text" ["thing"] (spThingB isTxtB) := by
  obtain ⟨f, fd, h⟩ := T.d_is_text
  obtain ⟨t_SIGNS, G_SIGNS⟩ := T.k_SIGNS
  refine h.def (Fun.okM h.fn sc_is_text (fun vs H Q E h => ?_) (fun cdv A outer s H vs Q E hr h => ?_))
  · obtain ⟨x, rfl, _⟩ := h
    rfl
  · obtain ⟨x, rfl, hx, k⟩ := h
    have k' := k H fun _ _ h => h
    refine ⟨_, (pss_cons (ps_if (pt_not (pt_val (pe_callB (call_isiG (K := K) rfl) (by rfl) T.h_isinstance (by decide +kernel) (pa_cons (pv 0) (pa_cons (pe_bltn (v := .ty "str") (by rfl) T.h_str (by decide +kernel) rfl) pa_nil)))))
  (pss_one (ps_ret pe_bl))
  pss_nil)
  (pss_one (ps_ret (pe_callB (cr_all rfl) (by rfl) T.h_all (by decide +kernel) (pa_cons (pe_lc (own := [("sign", 1)]) rfl sc_is_text.nd (pi_str (pv 0)) (blkOk_by (N := N_is_text) (sc := defScope S_is_text) (by decide +kernel)) (fun _ _ _ _ _ => pg_name (i := 1) sc_is_text.nd rfl (Or.inl rfl)) (fun _ _ _ _ _ => pts_nil) (fun _ _ _ _ _ => (pe_cmpR (op_inG (K := K) rfl) (pv 1) (pe_glob (v := .str C_SIGNS) rfl G_SIGNS ⟨_, rfl⟩) (by rfl)))) pa_nil))))), ?_⟩
    rcases hx with rfl | ⟨b, rfl⟩ | ⟨i, rfl⟩ | ⟨z, rfl, hz⟩ | ⟨p, rfl, hp⟩
    case inr.inr.inr.inl =>
      walk_at "g"
      refine fun L hL => ?_
      refine lc_text (fun _ => true) (fun n => .bl (decide (n ∈ signs.cps.toList))) (by omega) (fun n Hh R S hn hK hR hS => ?_) (fun H2 hK hL2 => ?_)
      · walk_at "g"
        refine ⟨rfl, ?_⟩
        walk_at "g"
        exact hR rfl
      · walk_at "g"
        refine ⟨L, z.cps.toList.map fun n => decide (n ∈ signs.cps.toList), rfl, SqL.of ?_, ?_⟩
        · rw [hL2, List.filter_eq_self.mpr (fun _ _ => rfl), List.map_map]; rfl
        · walk_at "g"
          have e : (z.cps.toList.map fun n => decide (n ∈ signs.cps.toList)).all id = isTxtB (.str z) := by
            show _ = txtB z
            unfold txtB
            rw [List.all_map]; rfl
          rw [e]
          exact k _ fun p o h => hK p o (ne_of_none h hL) h
    all_goals (walk_at "g"; exact k')
end
section
variable {P : Program} {w : World} {K : PySem.W.Frag} {mg : Str → Option Value} {base : Heap}
theorem ok_is_name (T : Txt K mg) : Def P w K mg base 1 "is_name" ["thing"] (spThingB nameB) := by
  obtain ⟨f, fd, h⟩ := T.d_is_name
  obtain ⟨t_LONGEST_NAME, G_LONGEST_NAME⟩ := T.k_LONGEST_NAME
  obtain ⟨t_LETTERS, G_LETTERS⟩ := T.k_LETTERS
  obtain ⟨t_WORDS, G_WORDS, Q_WORDS⟩ := T.k_WORDS
  obtain ⟨t_NAME_SIGNS, G_NAME_SIGNS⟩ := T.k_NAME_SIGNS
  refine h.def (Fun.okM h.fn sc_is_name (fun vs H Q E h => ?_) (fun cdv A outer s H vs Q E hr h => ?_))
  · obtain ⟨x, rfl, _⟩ := h
    rfl
  · obtain ⟨x, rfl, hx, k⟩ := h
    have k' := k H fun _ _ h => h
    refine ⟨_, (pss_cons (ps_if (pt_not (pt_val (pe_callB (call_isiG (K := K) rfl) (by rfl) T.h_isinstance (by decide +kernel) (pa_cons (pv 0) (pa_cons (pe_bltn (v := .ty "str") (by rfl) T.h_str (by decide +kernel) rfl) pa_nil)))))
  (pss_one (ps_ret pe_bl))
  pss_nil)
  (pss_cons (ps_if (PW.pt (pw_or (pt_cmpR op_eq (pe_callB (call_lenG (K := K) rfl) (by rfl) T.h_len (by decide +kernel) (pa_cons (pv 0) pa_nil)) pe_int (nomark _)) (pw_or1 (pt_cmpR op_gtG (pe_callB (call_lenG (K := K) rfl) (by rfl) T.h_len (by decide +kernel) (pa_cons (pv 0) pa_nil)) (pe_glob (v := .int 8) rfl G_LONGEST_NAME ⟨_, rfl⟩) (nomark _)))))
  (pss_one (ps_ret pe_bl))
  pss_nil)
  (pss_cons (ps_if (PW.pt (pw_or (pt_cmpR (op_notInG (K := K) rfl) (pe_ix (ix_seqG (K := K) rfl) (pv 0) pe_int (fun _ _ => rfl)) (pe_glob (v := .str C_LETTERS) rfl G_LETTERS ⟨_, rfl⟩) (by rfl)) (pw_or1 (pt_cmpR (op_inG (K := K) rfl) (pv 0) (pe_glob (v := .ref t_WORDS) rfl G_WORDS rfl) (by rfl)))))
  (pss_one (ps_ret pe_bl))
  pss_nil)
  (pss_one (ps_ret (pe_callB (cr_all rfl) (by rfl) T.h_all (by decide +kernel) (pa_cons (pe_lc (own := [("sign", 1)]) rfl sc_is_name.nd (pi_str (pv 0)) (blkOk_by (N := N_is_name) (sc := defScope S_is_name) (by decide +kernel)) (fun _ _ _ _ _ => pg_name (i := 1) sc_is_name.nd rfl (Or.inl rfl)) (fun _ _ _ _ _ => pts_nil) (fun _ _ _ _ _ => (pe_cmpR (op_inG (K := K) rfl) (pv 1) (pe_glob (v := .str C_NAME_SIGNS) rfl G_NAME_SIGNS ⟨_, rfl⟩) (by rfl)))) pa_nil))))))), ?_⟩
    rcases hx with rfl | ⟨b, rfl⟩ | ⟨i, rfl⟩ | ⟨z, rfl, hz⟩ | ⟨p, rfl, hp⟩
    case inr.inr.inr.inl =>
      walk_at "g"
      refine g_lenS (by rw [sizeLine_eq]; omega) ?_
      have no : ¬ nameP z → Q (.bl false) H := fun h => by rw [← nameB_no h]; exact k'
      walk_at "g"
      refine g_dec (fun h0 => ?_) (fun h0 => ?_)
      · walk_at "g"
        exact no fun n => n.1 (by omega)
      walk_at "g"
      refine g_lenS (by rw [sizeLine_eq]; omega) ?_
      walk_at "g"
      refine g_dec (fun h8 => ?_) (fun h8 => ?_)
      · walk_at "g"
        exact no fun n => by have := n.2.1; omega
      walk_at "g"
      obtain ⟨c, r, hcr⟩ : ∃ c r, z.cps.toList = c :: r := by
        cases e : z.cps.toList with
        | nil => exact absurd (by have e2 : z.cps.toList.length = z.length := Array.length_toList
                                  rw [e] at e2; simpa using e2.symm) h0
        | cons c r => exact ⟨c, r, rfl⟩
      refine g_ixS (n := c) (by rw [sizeLine_eq]; omega) (atI_nat (j := 0) (by rw [hcr]; rfl)) ?_
      walk_at "g"
      refine g_ndec (fun hc => ?_) (fun hc => ?_)
      · walk_at "g"
        exact no fun n => hc (n.2.2.1 c r hcr)
      walk_at "g"
      refine .inr ⟨_, keptWords.map V.str, rfl, .inr (Q_WORDS _), rfl, Tw.flat_strs _, ?_⟩
      walk_at "g"
      rw [if_neg Bool.false_ne_true, inV_strs]
      refine g_dec (fun hw => ?_) (fun hw => ?_)
      · walk_at "g"
        exact no fun n => n.2.2.2.1 hw
      walk_at "g"
      refine fun L hL => ?_
      refine lc_text (fun _ => true) (fun n => .bl (decide (n ∈ nameSigns))) (by omega) (fun n Hh R S hn hK hR hS => ?_) (fun H2 hK hL2 => ?_)
      · walk_at "g"
        refine ⟨rfl, ?_⟩
        walk_at "g"
        exact hR rfl
      · walk_at "g"
        refine ⟨L, z.cps.toList.map fun n => decide (n ∈ nameSigns), rfl, SqL.of ?_, ?_⟩
        · rw [hL2, List.filter_eq_self.mpr (fun _ _ => rfl), List.map_map]; rfl
        · walk_at "g"
          have e : nameB (.str z) = (z.cps.toList.map fun n => decide (n ∈ nameSigns)).all id := by
            refine nameB_is ?_
            rw [List.all_map, List.all_eq_true]
            constructor
            · intro n c hc
              exact decide_eq_true (n.2.2.2.2 c hc)
            · intro h
              exact ⟨by omega, by omega, fun c' r' e' => by rw [hcr] at e'; injection e' with e1 _; rw [← e1]; exact hc, hw, fun c hc => of_decide_eq_true (h c hc)⟩
          rw [← e]
          exact k _ fun p o h => hK p o (ne_of_none h hL) h
    all_goals (walk_at "g"; exact k')
end
section
variable {P : Program} {w : World} {K : PySem.W.Frag} {mg : Str → Option Value} {base : Heap}
def spKind : Sp := fun vs H Q _ => ∃ v, vs = [v] ∧ thing H v ∧ ∀ H', (∀ p o, H p = some o → H' p = some o) → Q (kindV v) H'
theorem ok_kind_of (T : Txt K mg) : Def P w K mg base 2 "kind_of" ["value"] spKind := by
  obtain ⟨f, fd, h⟩ := T.d_kind_of
  refine h.def (Fun.okM h.fn sc_kind_of (fun vs H Q E h => ?_) (fun cdv A outer s H vs Q E hr h => ?_))
  · obtain ⟨x, rfl, _⟩ := h
    rfl
  · obtain ⟨x, rfl, hx, k⟩ := h
    refine ⟨_, (pss_cons (ps_if (pt_val (pe_def (ok_is_integer T) hr rfl (pa_cons (pv 0) pa_nil)))
  (pss_one (ps_ret pe_str))
  pss_nil)
  (pss_cons (ps_if (pt_val (pe_def (ok_is_text T) hr rfl (pa_cons (pv 0) pa_nil)))
  (pss_one (ps_ret pe_str))
  pss_nil)
  (pss_one (ps_ret pe_non)))), ?_⟩
    walk_at "g"
    refine ⟨_, rfl, hx, fun H1 h1 => ?_⟩
    have hx1 := hx.keep h1
    rcases hx with rfl | ⟨b, rfl⟩ | ⟨i, rfl⟩ | ⟨z, rfl, hz⟩ | ⟨p, rfl, hp⟩
    case inr.inr.inl =>
      rw [show isIntB (.int i) = true from rfl]
      walk_at "g"
      exact k _ h1
    all_goals
      walk_at "g"
      refine g_split (fun z => absurd z Bool.false_ne_true) (fun _ => ?_)
      walk_at "g"
      refine ⟨_, rfl, hx1, fun H2 h2 => ?_⟩
      have k2 := k H2 fun p o h => h2 p o (h1 p o h)
    case inr.inr.inr.inl =>
      walk_at "g"
      refine g_split (fun e => ?_) (fun e => ?_)
      · walk_at "g"
        have e' : txtB z = true := e
        have k2 : Q (if txtB z = true then V.str (Str.ofString "text") else V.non) H2 := k2
        rw [if_pos e'] at k2
        exact k2
      · walk_at "g"
        have e' : txtB z = false := e
        have k2 : Q (if txtB z = true then V.str (Str.ofString "text") else V.non) H2 := k2
        rw [if_neg (by rw [e']; exact Bool.false_ne_true)] at k2
        exact k2
    all_goals
      walk_at "g"
      refine g_split (fun z => absurd z Bool.false_ne_true) (fun _ => ?_)
      walk_at "g"
      exact k2
end
theorem atom_made {C : Addr} {H H2 : Hp} {i f u x dx : Addr} {w : Str} (fs : List Str) (ts : List V) (hi : H i = none) (hf : (upd H i (.tup [])) f = none) (hu : (upd (upd H i (.tup [])) f (.tup (fs.map V.str))) u = none)
    (hx : (upd (upd (upd H i (.tup [])) f (.tup (fs.map V.str))) u (.tup ts)) x = none) (hdx : (upd (upd (upd H i (.tup [])) f (.tup (fs.map V.str))) u (.tup ts)) dx = none)
    (k2 : ∀ q o, q ≠ x → (upd (upd (upd (upd (upd H i (.tup [])) f (.tup (fs.map V.str))) u (.tup ts)) dx (.own x)) x (.ins C dx [])) q = some o → H2 q = some o)
    (h2 : H2 x = some (.ins C dx (tf w i f u (sizeK [] : Nat) (depthK [] : Nat)))) : (∀ q o, H q = some o → H2 q = some o) ∧ TestAt C H2 (.at w fs ts) x := by
  have ki : ∀ q o, H q = some o → (upd H i (.tup [])) q = some o := fun q o h => by rw [upd_ne (ne_of_none h hi)]; exact h
  have kf : ∀ q o, (upd H i (.tup [])) q = some o → (upd (upd H i (.tup [])) f (.tup (fs.map V.str))) q = some o := fun q o h => by rw [upd_ne (ne_of_none h hf)]; exact h
  have ku : ∀ q o, (upd (upd H i (.tup [])) f (.tup (fs.map V.str))) q = some o → (upd (upd (upd H i (.tup [])) f (.tup (fs.map V.str))) u (.tup ts)) q = some o := fun q o h => by rw [upd_ne (ne_of_none h hu)]; exact h
  have kx : ∀ q o, (upd (upd (upd H i (.tup [])) f (.tup (fs.map V.str))) u (.tup ts)) q = some o → H2 q = some o := fun q o h => k2 q o (ne_of_none h hx) (by rw [upd_ne (ne_of_none h hx), upd_ne (ne_of_none h hdx)]; exact h)
  refine ⟨fun q o h => kx _ _ (ku _ _ (kf _ _ (ki _ _ h))), dx, i, f, u, h2, kx _ _ (ku _ _ (kf _ _ upd_same)), kx _ _ (ku _ _ upd_same), kx _ _ upd_same⟩
def spNeed (G : V → Prop) : Sp := fun vs H Q _ => ∃ v, vs = [v] ∧ G v ∧ ∀ H', (∀ q o, H q = some o → H' q = some o) → Q .non H'
section
variable {P : Program} {w : World} {K : PySem.W.Frag} {mg : Str → Option Value} {base : Heap}
theorem ok_need_column (T : Txt K mg) : Def P w K mg base 2 "need_column" ["thing"] (spNeed fun v => ∃ c, v = .str c ∧ nameP c) := by
  obtain ⟨f, fd, h⟩ := T.d_need_column
  refine h.def (Fun.okM h.fn sc_need_column (fun vs H Q E h => ?_) (fun cdv A outer s H vs Q E hr h => ?_))
  · obtain ⟨v, rfl, _⟩ := h
    rfl
  · obtain ⟨v, rfl, ⟨c, rfl, hc⟩, k⟩ := h
    refine ⟨_, (pss_one (ps_if (pt_not (pt_val (pe_def (ok_is_name T) hr rfl (pa_cons (pv 0) pa_nil))))
  (pss_one ps_never)
  pss_nil)), ?_⟩
    walk_at "g"
    refine ⟨_, rfl, .inr (.inr (.inr (.inl ⟨c, rfl, Nat.le_trans hc.2.1 (by decide)⟩))), fun H1 k1 => ?_⟩
    rw [nameB_str.mpr hc]
    walk_at "g"
    exact k _ k1
end
def Ts.cols (t : Ts) : List Str := t.atoms.flatMap Ts.flds
def spNames (C : Addr) (n : Nat) : Sp := fun vs H Q _ => ∃ (p : Addr) (t : Ts), vs = [.ref p] ∧ TestAt C H t p ∧ t.depth ≤ n ∧ t.size ≤ 1000 ∧ t.cols.length ≤ 1000 ∧
  ∀ zs L H', H L = none → (∀ q o, H q = some o → H' q = some o) → H' L = some (.lst (zs.map V.str)) → PyProof.Rows.sortedS zs = true → zs.Nodup → (∀ k, k ∈ zs ↔ k ∈ t.cols) → Q (.ref L) H'
section
variable {P : Program} {w : World} {K : PySem.W.Frag} {mg : Str → Option Value} {base : Heap}
theorem ok_Test_atoms (T : Txt K mg) : DefM P w K mg base 13 (cadr mg "Test") "atoms" ["self"] (spAtoms (cadr mg "Test") 12) := ok_atomsN T 12
theorem ok_Test_names (T : Txt K mg) : DefM P w K mg base 14 (cadr mg "Test") "names" ["self"] (spNames (cadr mg "Test") 12) := by
  obtain ⟨f, fd, h⟩ := T.d_Test_names
  refine h.def (Fun.okM h.fn sc_Test_names (fun vs H Q E h => ?_) (fun cdv A outer s H vs Q E hr h => ?_))
  · obtain ⟨p, t, rfl, _⟩ := h
    rfl
  · obtain ⟨p, t, rfl, A0, hd, hz, hc, k⟩ := h
    obtain ⟨as, A1⟩ := A0.as
    obtain ⟨dx, i, f, u, qs, ass, hp, hi, hf, hu, hR, e0, e1⟩ := A1.node
    refine ⟨_, (pss_cons (ps_setLc2 (i := 1) (own := [("atom", 2), ("name", 3)]) (vs1 := [3]) rfl sc_Test_names.nd rfl rfl (sw_true rfl rfl rfl (by decide +kernel)) (pi_list (pe_me0 (pv 0) T.cl_Test (ok_Test_atoms T) hr)) (blkOk_by (N := N_Test_names) (sc := defScope S_Test_names) (by decide +kernel)) (by decide) (fun _ _ _ _ _ => pg_name (i := 2) sc_Test_names.nd rfl (Or.inl rfl)) (fun _ _ _ _ _ => pts_nil) (fun _ _ _ _ _ => (pi_tupG (K := K) rfl (pe_fldG (K := K) rfl (pv 2) rfl))) (fun _ _ _ _ _ => pg_name (i := 3) sc_Test_names.nd rfl (Or.inl rfl)) (fun _ _ _ _ _ => pts_nil) (fun _ _ _ _ _ => (pv 3)))
  (pss_one (ps_ret (pe_sortedSet (K := K) rfl rfl rfl T.h_sorted rfl T.h_set (pv 1))))), ?_⟩
    walk_at "g"
    refine ⟨p, dx, _, rfl, hp, tf_atoms, ?_⟩
    walk_at "g"
    refine ⟨p, t, as, rfl, A1, hd, hz, fun l H1 hl k1 h1 => ?_⟩
    refine ⟨l, rfl, ⟨_, SqL.of h1⟩, fun D hD => ?_⟩
    have R1 := (A1.keep k1).row
    have hla := R1.len
    have hfl : (List.range (as.map V.ref).length).flatMap (fun j => ((t.atoms.map Ts.flds).getD j []).map V.str) = t.cols.map V.str := by
      rw [List.length_map, hla]
      unfold Ts.cols
      generalize t.atoms = l
      induction l with
      | nil => rfl
      | cons a r ih => rw [List.length_cons, List.range_succ_eq_map, List.flatMap_cons, List.flatMap_map, List.flatMap_cons, List.map_append, ← ih]; rfl
    refine lc2_flatI (as.map V.ref) (fun j => ((t.atoms.map Ts.flds).getD j []).map V.str) hD (fun H2 k2 => fits_l (SqL.of (k2 _ _ h1))) ?_ (fun j x Hh R S hx hDn kh turn => ?_) (fun H2 k2 h2 => ?_)
    · rw [hfl, List.length_map]; omega
    · rw [List.getElem?_map] at hx
      obtain ⟨q, hq, rfl⟩ := Option.map_eq_some_iff.mp hx
      obtain ⟨s1, hs1, B⟩ := R1.get hq
      obtain ⟨dx2, i2, f2, u2, qs2, hp2, _, hf2, _⟩ := B.node
      walk_at "g"
      refine ⟨rfl, ?_⟩
      walk_at "g"
      refine ⟨q, _, dx2, _, _, rfl, kh _ _ hp2, T.cl_Test, T.n_Test_fields, tf_fields, ?_⟩
      have e : (t.atoms.map Ts.flds).getD j [] = s1.flds := by rw [List.getD_eq_getElem?_getD, List.getElem?_map, hs1]; rfl
      refine ⟨f2, rfl, ⟨_, SqT.of (kh _ _ hf2)⟩, turn _ _ _ (fun _ _ h => h) (fun H4 k4 => ?_) fun y Hk Rx S1 hy r => ?_⟩
      · rw [e]
        exact fits_t (SqT.of (k4 _ _ (ne_of_none hf2 hD) (kh _ _ hf2)))
      · walk_at "g"
        refine ⟨rfl, ?_⟩
        walk_at "g"
        exact r
    · rw [hfl] at h2
      walk_at "g"
      refine ⟨D, _, rfl, SqL.of h2, Nat.lt_of_le_of_lt (Nat.succ_le_succ hc) (by decide), fun zs p2 so nd hm hn => ?_⟩
      walk_at "g"
      have kk : ∀ q o, H q = some o → H2 q = some o := fun q o h => k2 q o (k1 q o h)
      refine k zs p2 _ ?_ (fun q o h => ?_) upd_same so nd hm
      · cases e : H p2 with
        | none => rfl
        | some o => rw [kk _ _ e] at hn; cases hn
      · rw [upd_ne (ne_of_none (kk q o h) hn)]
        exact kk q o h
end
/-! draws from a pool -/
def PD (H : Hp) (p : Addr) (n : Nat) : Prop := ∃ a b c : Int, H p = some (.lst [.int a, .int b, .int c]) ∧ 0 ≤ b ∧ b < 2147483648 ∧ 0 ≤ c ∧ c ≤ n
def Keep (d : Addr) (H H' : Hp) : Prop := ∀ p o, p ≠ d → H p = some o → H' p = some o
theorem Keep.refl (d : Addr) (H : Hp) : Keep d H H := fun _ _ _ h => h
theorem Keep.trans {d : Addr} {H H1 H2 : Hp} (a : Keep d H H1) (b : Keep d H1 H2) : Keep d H H2 := fun p o n h => b p o n (a p o n h)
theorem Keep.upd {d : Addr} {H H1 : Hp} {o : HO} (a : Keep d H H1) : Keep d H (L2.upd H1 d o) := fun p u n h => by rw [upd_ne n]; exact a p u n h
theorem Keep.new {d p : Addr} {H H1 : Hp} {o : HO} (a : Keep d H H1) (hp : H p = none) : Keep d H (L2.upd H1 p o) := fun q u n h => by rw [upd_ne (ne_of_none h hp)]; exact a q u n h
theorem Keep.back {d p : Addr} {H H1 : Hp} (a : Keep d H H1) (n : p ≠ d) (h : H1 p = none) : H p = none := by
  cases hh : H p with
  | none => rfl
  | some o => rw [a p o n hh] at h; cases h
theorem PD.other {H : Hp} {p q : Addr} {n : Nat} {o : HO} (D : PD H p n) (h : q ≠ p) : PD (upd H q o) p n := by
  obtain ⟨a, b, c, e, r⟩ := D
  exact ⟨a, b, c, by rw [upd_ne (Ne.symm h)]; exact e, r⟩
theorem PD.ne {H : Hp} {p q : Addr} {n : Nat} (D : PD H p n) (h : H q = none) : q ≠ p := by
  obtain ⟨a, b, c, e, r⟩ := D
  exact Ne.symm (ne_of_none e h)
theorem PD.new {H : Hp} {p q : Addr} {n : Nat} {o : HO} (D : PD H p n) (h : H q = none) : PD (upd H q o) p n := D.other (D.ne h)
theorem PD.mono {H : Hp} {p : Addr} {n m : Nat} (D : PD H p n) (h : n ≤ m) : PD H p m := by
  obtain ⟨a, b, c, e, h1, h2, h3, h4⟩ := D
  exact ⟨a, b, c, e, h1, h2, h3, by omega⟩
theorem PD.at {H : Hp} {p : Addr} {n : Nat} (D : PD H p n) : ∃ xs, H p = some (.lst xs) := by
  obtain ⟨a, b, c, e, r⟩ := D
  exact ⟨_, e⟩
def spPool (K : PySem.W.Frag) : Sp := fun vs H Q _ => ∃ (a : Addr) (ns : List Int) (k : Nat), vs = [.ref a, .int k] ∧ SqL K H a (ns.map V.int) ∧ ns.length ≤ 63 ∧ k < 100 ∧ ∀ p H', H p = none → Same H H' → PD H' p 200000 → Q (.ref p) H'
def spDrawP : Sp := fun vs H Q _ => ∃ (p : Addr) (m : Int) (n : Nat), vs = [.ref p, .int m] ∧ PD H p n ∧ n ≤ 1000000 ∧ 0 < m ∧ m.natAbs.log2 < 9000 ∧ ∀ r H', 0 ≤ r → r < m → PD H' p (n + 1) → Keep p H H' → Q (.int r) H'
section
variable {P : Program} {w : World} {K : PySem.W.Frag} {mg : Str → Option Value} {base : Heap}
theorem ok__law_pool (T : Txt K mg) : Def P w K mg base 1 "_law_pool" ["_law_script", "_law_place"] (spPool K) := by
  obtain ⟨f, fd, h⟩ := T.d__law_pool
  refine h.def (Fun.okM h.fn sc__law_pool (fun vs H Q E h => ?_) (fun cdv A outer s H vs Q E hr h => ?_))
  · obtain ⟨a, ns, k, rfl, _⟩ := h
    rfl
  · obtain ⟨a, ns, kk, rfl, hS, hlen, hk, k⟩ := h
    refine ⟨_, (pss_cons (ps_set (i := 2) sc__law_pool.nd rfl (Or.inl rfl) pe_int)
  (Evl.pss_cut (ps_if (pt_cmpR op_ltG (pv 1) (pe_callB (call_lenG (K := K) rfl) (by rfl) T.h_len (by decide +kernel) (pa_cons (pv 0) pa_nil)) (nomark _))
  (pss_one (ps_set (i := 2) sc__law_pool.nd rfl (Or.inl rfl) (pe_callTy call_intG (by rfl) T.h_int (by decide +kernel) (pa_cons (pe_ix (ix_seqG (K := K) rfl) (pv 0) (pv 1) (fun _ _ => rfl)) pa_nil))))
  pss_nil)
  (pss_cons (ps_if (pt_cmpR op_geG (pv 2) (pe_op op_powG' pe_int pe_int) (nomark _))
  (pss_one (ps_ret (pe_lst (pa_cons (pv 2) (pa_cons (pe_op op_modG (pe_callTy call_intG (by rfl) T.h_int (by decide +kernel) (pa_cons (pv 2) pa_nil)) pe_int) (pa_cons (pe_op op_mulG pe_int (pv 1)) pa_nil))))))
  pss_nil)
  (pss_one (ps_ret (pe_lst (pa_cons pe_int (pa_cons (pe_op op_modG (pe_callTy call_intG (by rfl) T.h_int (by decide +kernel) (pa_cons (pv 2) pa_nil)) pe_int) (pa_cons (pe_op op_mulG pe_int (pv 1)) pa_nil))))))))), ?_⟩
    walk_at "g"
    refine g_cutA (M := fun σ' H' => ∃ c : Int, σ' = [some (.ref a), some (.int kk), some (.int c)] ∧ H' = H) (fun D' hn _ _ _ => ?_) ?_
    · walk_at "g"
      refine g_lenL hS ?_
      walk_at "g"
      refine g_dec (fun h0 => ?_) (fun h0 => ?_)
      · walk_at "g"
        have hk2 : kk < ns.length := by rw [List.length_map] at h0; omega
        refine g_ixL hS (v := .int ns[kk]) (atI_nat (j := kk) (by rw [List.getElem?_map, List.getElem?_eq_getElem hk2]; rfl)) ?_
        walk_at "g"
        exact hn _ _ ⟨_, rfl, rfl⟩
      · walk_at "g"
        exact hn _ _ ⟨_, rfl, rfl⟩
    · rintro σ' H' ⟨c, rfl, rfl⟩
      have key : ∀ a' : Int, ∀ p, H' p = none → Q (.ref p) (upd H' p (.lst [.int a', .int (c % 2147483647), .int (1009 * (kk : Int))])) := fun a' p hp =>
        k p _ hp (fun q o h => by rw [upd_ne (ne_of_none h hp)]; exact h) ⟨_, _, _, upd_same, Int.emod_nonneg _ (by decide), by have := Int.emod_lt_of_pos c (b := 2147483647) (by decide); omega, by omega, by omega⟩
      walk_at "G"
      all_goals exact ⟨by show 3 ≤ sizeLine; decide, fun p hp => key _ p hp⟩
theorem ok__law_draw (T : Txt K mg) : Def P w K mg base 1 "_law_draw" ["_law_pool_here", "_law_many"] spDrawP := by
  obtain ⟨f, fd, h⟩ := T.d__law_draw
  refine h.def (Fun.okM h.fn sc__law_draw (fun vs H Q E h => ?_) (fun cdv A outer s H vs Q E hr h => ?_))
  · obtain ⟨p, m, n, rfl, _⟩ := h
    rfl
  · obtain ⟨p, m, n, rfl, ⟨a, b, c, e, hb0, hb1, hc0, hc1⟩, hn, hm, hml, k⟩ := h
    refine ⟨_, (pss_cons (ps_if (pt_cmpR op_gtG (pe_ix (ix_seqG (K := K) rfl) (pv 0) pe_int (fun _ _ => rfl)) pe_int (nomark _))
  (pss_cons (ps_set (i := 2) sc__law_draw.nd rfl (Or.inl rfl) (pe_op op_modG (pe_callTy call_intG (by rfl) T.h_int (by decide +kernel) (pa_cons (pe_ix (ix_seqG (K := K) rfl) (pv 0) pe_int (fun _ _ => rfl)) pa_nil)) (pv 1)))
  (pss_cons (ps_asg (pe_op op_fdG (pe_ix (ix_seqG (K := K) rfl) (pv 0) pe_int (fun _ _ => rfl)) (pv 1)) (pg_sub (pv 0) pe_int set_list))
  (pss_one (ps_ret (pv 2)))))
  pss_nil)
  (pss_cons (ps_asg (pe_op op_addG (pe_ix (ix_seqG (K := K) rfl) (pv 0) pe_int (fun _ _ => rfl)) pe_int) (pg_sub (pv 0) pe_int set_list))
  (pss_cons (ps_set (i := 3) sc__law_draw.nd rfl (Or.inl rfl) (pe_op op_modG (pe_callTy call_intG (by rfl) T.h_int (by decide +kernel) (pa_cons (pe_op op_powG' (pe_op op_addG (pe_op op_addG (pe_ix (ix_seqG (K := K) rfl) (pv 0) pe_int (fun _ _ => rfl)) (pe_op op_mulG pe_int (pe_ix (ix_seqG (K := K) rfl) (pv 0) pe_int (fun _ _ => rfl)))) pe_int) pe_int) pa_nil)) pe_int))
  (pss_cons (ps_set (i := 3) sc__law_draw.nd rfl (Or.inl rfl) (pe_op op_modG (pe_callTy call_intG (by rfl) T.h_int (by decide +kernel) (pa_cons (pe_op op_powG' (pe_op op_addG (pe_op op_mulG (pv 3) pe_int) (pe_op op_mulG pe_int (pe_ix (ix_seqG (K := K) rfl) (pv 0) pe_int (fun _ _ => rfl)))) pe_int) pa_nil)) pe_int))
  (pss_cons (ps_set (i := 3) sc__law_draw.nd rfl (Or.inl rfl) (pe_op op_modG (pe_callTy call_intG (by rfl) T.h_int (by decide +kernel) (pa_cons (pe_op op_mulG (pv 3) (pe_op op_addG (pe_op op_fdG (pv 3) pe_int) pe_int)) pa_nil)) pe_int))
  (pss_one (ps_ret (pe_op op_modG (pe_callTy call_intG (by rfl) T.h_int (by decide +kernel) (pa_cons (pe_op op_fdG (pv 3) pe_int) pa_nil)) (pv 1))))))))), ?_⟩
    walk_at "g"
    refine g_dec (fun h0 => ?_) (fun h0 => ?_)
    · walk_at "g"
      refine k _ _ (Int.emod_nonneg _ (by omega)) (Int.emod_lt_of_pos _ hm) ⟨_, _, _, upd_same, hb0, hb1, hc0, by omega⟩ (Keep.refl _ _).upd
    · walk_at "g"
      have m1 : ∀ x : Int, 0 ≤ x % 2147483647 ∧ x % 2147483647 < 2147483647 := fun x => ⟨Int.emod_nonneg _ (by decide), Int.emod_lt_of_pos _ (by decide)⟩
      have m2 : ∀ x : Int, 0 ≤ x % 2147483629 ∧ x % 2147483629 < 2147483629 := fun x => ⟨Int.emod_nonneg _ (by decide), Int.emod_lt_of_pos _ (by decide)⟩
      refine k _ _ (Int.emod_nonneg _ (by omega)) (Int.emod_lt_of_pos _ hm) ⟨_, _, _, upd_same, hb0, hb1, by omega, by omega⟩ (Keep.refl _ _).upd
end
def isI (v : V) : Prop := ∃ i, v = .int i
def isS (v : V) : Prop := ∃ z : Str, v = .str z ∧ z.length ≤ 100 ∧ ∀ c ∈ z.cps.toList, c ∈ signs.cps.toList
/-! the forms of tests -/
inductive At where
  | always
  | never
  | empty (c : Str)
  | among (c : Str) (vs : List V)
  | begins (c z : Str)
  | compare (c op : Str) (v : V)
  | against (c op d : Str) (n : Int)
namespace At
def word : At → Str
  | .always => "always"
  | .never => "never"
  | .empty _ => "empty"
  | .among _ _ => "among"
  | .begins _ _ => "begins"
  | .compare _ _ _ => "compare"
  | .against _ _ _ _ => "against"
def flds : At → List Str
  | .always => []
  | .never => []
  | .empty c => [c]
  | .among c _ => [c]
  | .begins c _ => [c]
  | .compare c _ _ => [c]
  | .against c _ d _ => [c, d]
def trms : At → List V
  | .always => []
  | .never => []
  | .empty _ => []
  | .among _ vs => vs
  | .begins _ z => [.str z]
  | .compare _ op v => [.str op, v]
  | .against _ op _ n => [.str op, .int n]
def ts (a : At) : Ts := .at a.word a.flds a.trms
end At
inductive Fm where
  | at (a : At)
  | un (w : Str) (f : Fm)
  | bi (w : Str) (f g : Fm)
namespace Fm
def ts : Fm → Ts
  | .at a => a.ts
  | .un w f => .un w f.ts
  | .bi w f g => .bi w f.ts g.ts
def cols : Fm → List Str
  | .at a => a.flds
  | .un _ f => f.cols
  | .bi _ f g => f.cols ++ g.cols
theorem ts_cols : ∀ f : Fm, f.ts.cols = f.cols
  | .at a => by simp [ts, cols, Ts.cols, Ts.atoms, At.ts, Ts.flds]
  | .un w f => by
    have := ts_cols f
    simpa [ts, cols, Ts.cols, Ts.atoms] using this
  | .bi w f g => by
    have h1 := ts_cols f
    have h2 := ts_cols g
    simp only [ts, cols, Ts.cols, Ts.atoms, List.flatMap_append] at h1 h2 ⊢
    rw [h1, h2]
def size (f : Fm) : Nat := f.ts.size
def depth (f : Fm) : Nat := f.ts.depth
end Fm
def opsL : List Str := ["<", "<=", "==", "!=", ">", ">="]
/-- a value: a number or a text -/
def isV (_ : Bool) (v : V) : Prop := isI v ∨ isS v
def At.Wf (κ : List (Str × Bool)) : At → Prop
  | .always => True
  | .never => True
  | .empty c => nameP c ∧ ∃ k, (c, k) ∈ κ
  | .among c vs => nameP c ∧ vs ≠ [] ∧ vs.length ≤ 8 ∧ ∃ k, (c, k) ∈ κ ∧ ∀ v ∈ vs, isV k v
  | .begins c z => nameP c ∧ (c, true) ∈ κ ∧ isS (.str z)
  | .compare c op v => nameP c ∧ op ∈ opsL ∧ ∃ k, (c, k) ∈ κ ∧ isV k v
  | .against c op d n => nameP c ∧ nameP d ∧ d ≠ c ∧ op ∈ opsL ∧ ∃ k, (c, k) ∈ κ ∧ (d, k) ∈ κ ∧ (k = true → n = 0)
def Fm.Wf (κ : List (Str × Bool)) : Fm → Prop
  | .at a => a.Wf κ
  | .un w f => (w = "not" ∨ w = "sure") ∧ f.Wf κ
  | .bi w f g => (w = "and" ∨ w = "or") ∧ f.Wf κ ∧ g.Wf κ
theorem isS.txt {z : Str} (h : isS (.str z)) : txtB z = true := by
  obtain ⟨y, e, _, hc⟩ := h
  cases e
  unfold txtB
  rw [List.all_eq_true]
  intro c m
  exact decide_eq_true (hc c m)
theorem isV.thing {H : Hp} {k : Bool} {v : V} (h : isV k v) : thing H v := by
  rcases h with ⟨i, rfl⟩ | ⟨z, rfl, l, _⟩
  · exact .inr (.inr (.inl ⟨i, rfl⟩))
  · exact .inr (.inr (.inr (.inl ⟨z, rfl, l⟩)))
theorem isV.kind {k : Bool} {v : V} (h : isV k v) : ∃ s, kindV v = .str s := by
  rcases h with ⟨i, rfl⟩ | ⟨z, rfl, hz⟩
  · exact ⟨_, rfl⟩
  · have e : txtB z = true := isS.txt ⟨z, rfl, hz⟩
    refine ⟨"text", ?_⟩
    show (if txtB z = true then V.str (Str.ofString "text") else V.non) = _
    rw [if_pos e]
def kS (k : Bool) : Str := if k = true then "text" else "number"
theorem kS_inj {a b : Bool} (h : kS a = kS b) : a = b := by
  revert h
  cases a <;> cases b <;> decide +kernel
/-! columns, orders, rows -/
def LAt (H : Hp) (L : Addr) (ts : List (List V)) : Prop := ∃ qs : List Addr, H L = some (.lst (qs.map V.ref)) ∧ qs.length = ts.length ∧ ∀ (i : Nat) (q : Addr) (t : List V), qs[i]? = some q → ts[i]? = some t → H q = some (.tup t)
theorem LAt.keep {H H' : Hp} {L : Addr} {ts : List (List V)} (h : LAt H L ts) (k : ∀ q o, H q = some o → H' q = some o) : LAt H' L ts := by
  obtain ⟨qs, h1, h2, h3⟩ := h
  exact ⟨qs, k _ _ h1, h2, fun i q t hq ht => k _ _ (h3 i q t hq ht)⟩
theorem LAt.keepP {H H' : Hp} {L p : Addr} {ts : List (List V)} (h : LAt H L ts) (n : L ≠ p) (hp : ∃ xs, H p = some (.lst xs)) (k : Keep p H H') : LAt H' L ts := by
  obtain ⟨qs, h1, h2, h3⟩ := h
  refine ⟨qs, k _ _ n h1, h2, fun i q t hq ht => ?_⟩
  have e := h3 i q t hq ht
  exact k _ _ (fun z => by obtain ⟨xs, hx⟩ := hp; rw [z, hx] at e; cases e) e
theorem LAt.app {H : Hp} {L t : Addr} {ts : List (List V)} {qs : List Addr} {x : List V} (h : LAt H L ts) (e : H L = some (.lst (qs.map V.ref))) (ht : H t = none) :
    LAt (upd (upd H t (.tup x)) L (.lst (qs.map V.ref ++ [.ref t]))) L (ts ++ [x]) := by
  obtain ⟨qs', h1, h2, h3⟩ := h
  obtain rfl : qs' = qs := by
    rw [e] at h1
    injection h1 with e
    injection e with e
    exact ((List.map_inj_right (fun a b h => by injection h)).mp e).symm
  have nt : L ≠ t := ne_of_none e ht
  refine ⟨qs' ++ [t], by rw [upd_same, List.map_append]; rfl, by rw [List.length_append, List.length_append, h2]; rfl, fun i q u hq hu => ?_⟩
  by_cases hlt : i < qs'.length
  · rw [List.getElem?_append_left hlt] at hq
    rw [List.getElem?_append_left (by omega)] at hu
    have e' := h3 i q u hq hu
    rw [upd_ne (fun z => by rw [z, e] at e'; cases e'), upd_ne (ne_of_none e' ht)]
    exact e'
  · rw [List.getElem?_append_right (by omega)] at hq
    rw [List.getElem?_append_right (by omega), ← h2] at hu
    obtain ⟨hi0, _⟩ := List.getElem?_eq_some_iff.mp hq
    have : i - qs'.length = 0 := by simpa using hi0
    rw [this] at hq hu
    obtain rfl : t = q := by simpa using hq
    obtain rfl : x = u := by simpa using hu
    rw [upd_ne (Ne.symm nt)]
    exact upd_same
theorem LAt.get {H : Hp} {L : Addr} {ts : List (List V)} (h : LAt H L ts) {qs : List Addr} (e : H L = some (.lst (qs.map V.ref))) : qs.length = ts.length ∧ ∀ (i : Nat) (q : Addr) (t : List V), qs[i]? = some q → ts[i]? = some t → H q = some (.tup t) := by
  obtain ⟨qs', h1, h2, h3⟩ := h
  obtain rfl : qs' = qs := by
    rw [e] at h1
    injection h1 with e
    injection e with e
    exact ((List.map_inj_right (fun a b h => by injection h)).mp e).symm
  exact ⟨h2, h3⟩
abbrev Col := Str × Bool × Bool
def ct (c : Col) : List V := [.str c.1, .str (kS c.2.1), .bl c.2.2]
def dS (up : Bool) : Str := if up = true then "up" else "down"
def pt (c : Str × Bool) : List V := [.str c.1, .str (dS c.2)]
def kdA (cs : List Col) : Str → Option Bool := cs.foldl (fun f x => fun c => if c = x.1 then some x.2.1 else f c) (fun _ => none)
theorem kdA_app {cs : List Col} {x : Col} {c : Str} : kdA (cs ++ [x]) c = if c = x.1 then some x.2.1 else kdA cs c := by
  unfold kdA
  rw [List.foldl_append]
  rfl
theorem kdA_mem {cs : List Col} {x : Col} (h : x ∈ cs) : ∃ kd, kdA cs x.1 = some kd := by
  have key : ∀ (r : List Col) (l : List Col), x ∈ l ++ r → (x ∈ l → ∃ kd, kdA l x.1 = some kd) → ∃ kd, kdA (l ++ r) x.1 = some kd := by
    intro r
    induction r with
    | nil => intro l h k; rw [List.append_nil] at h ⊢; exact k h
    | cons y r ih =>
      intro l h k
      have e : l ++ y :: r = (l ++ [y]) ++ r := by simp
      rw [e] at h ⊢
      refine ih (l ++ [y]) h fun hm => ?_
      rw [kdA_app]
      by_cases hx : x.1 = y.1
      · rw [if_pos hx]; exact ⟨_, rfl⟩
      · rw [if_neg hx]
        rcases List.mem_append.mp hm with hm | hm
        · exact k hm
        · exact absurd (by rw [List.mem_singleton.mp hm]) hx
  exact key cs [] h fun hm => nomatch hm
theorem strs_of : ∀ {ys : List V}, (∀ y ∈ ys, ∃ z, y = .str z) → ∃ xs : List Str, ys = xs.map V.str
  | [], _ => ⟨[], rfl⟩
  | y :: ys, h => by
    obtain ⟨z, rfl⟩ := h y List.mem_cons_self
    obtain ⟨xs, rfl⟩ := strs_of fun y hy => h y (List.mem_cons_of_mem _ hy)
    exact ⟨z :: xs, rfl⟩
abbrev XT (H H' : Hp) : Prop := ∀ q o, H q = some o → H' q = some o
theorem XT.new {H H1 : Hp} {t : Addr} {o : HO} (k : XT H H1) (h : H1 t = none) : XT H (upd H1 t o) := fun q u e => by rw [upd_ne (ne_of_none (k q u e) h)]; exact k q u e
theorem XT.pool {H H1 H2 : Hp} {p : Addr} (k : XT H H1) (h : H p = none) (K : Keep p H1 H2) : XT H H2 := fun q u e => K q u (ne_of_none e h) (k q u e)
theorem xtL {K : PySem.W.Frag} {H H' : Hp} {a : Addr} {xs : List V} (h : SqL K H a xs) (k : XT H H') : SqL K H' a xs := by
  rcases h with h | h
  · rcases h with h | ⟨o, h⟩
    · exact .inl (.inl (k _ _ h))
    · exact .inl (.inr ⟨o, k _ _ h⟩)
  · exact .inr h
theorem XT.trans {H H1 H2 : Hp} (a : XT H H1) (b : XT H1 H2) : XT H H2 := fun q o h => b q o (a q o h)

/-- a comprehension with a promise over what it has taken -/
theorem lc_inv {σ : L2.St} {g : TG} {tt : TT} {te : TE} {vs : List Nat} {J : It} {H1 : Hp} {D : Addr} {Qd : Hp → Prop} (xs : List V) (Pv : Nat → List V → Hp → Prop) (h0 : Pv 0 [] (upd H1 D (.lst []))) (hJ : ∀ i acc H, Pv i acc H → Fits J xs H) (hlen : xs.length ≤ 1000000)
    (hD : ∀ i acc H, Pv i acc H → H D = some (.lst acc) ∧ acc.length ≤ i)
    (hs : ∀ i acc x Hh (R : V → Hp → Prop) (S : Hp → Prop), xs[i]? = some x → Pv i acc Hh → (∀ y H4, H4 D = some (.lst acc) → Pv (i + 1) (acc ++ [y]) (upd H4 D (.lst (acc ++ [y]))) → R y H4) → (∀ H3, Pv (i + 1) acc H3 → S H3) →
      g x (wipe σ vs) Hh fun σ2 H2 => wipe σ2 vs = wipe σ vs ∧ tt σ2 H2 fun b H3 => if b = true then te σ2 H3 R else S H3)
    (hd : ∀ acc H, Pv xs.length acc H → Qd H) :
    ∃ W : Nat → Nat → Hp → Prop, (∃ m, W 0 m (upd H1 D (.lst []))) ∧ ∀ i m H, W i m H →
      (J.stop i H ∧ Qd H) ∨ (J.go i H ∧ ∃ Nx : Hp → Prop, (∀ H', Nx H' → ∃ m', m' < m ∧ W (i + 1) m' H') ∧ ∀ x H', J.yld i H x H' → g x (wipe σ vs) H' fun σ2 H2 => wipe σ2 vs = wipe σ vs ∧ tt σ2 H2 fun b H3 =>
        if b = true then te σ2 H3 fun y H4 => ∃ acc, H4 D = some (.lst acc) ∧ acc.length < sizeLine ∧ Nx (upd H4 D (.lst (acc ++ [y]))) else Nx H3) := by
  refine ⟨fun i m H => m = xs.length - i ∧ i ≤ xs.length ∧ ∃ acc, Pv i acc H, ⟨xs.length, by simp, Nat.zero_le _, [], h0⟩, ?_⟩
  rintro i m H ⟨rfl, hi, acc, hp⟩
  have fi := hJ i acc H hp
  by_cases hlt : i < xs.length
  · refine .inr ⟨fi.go i hlt, fun H' => ∃ acc, Pv (i + 1) acc H', fun H' w => ⟨xs.length - (i + 1), by omega, rfl, hlt, w⟩, ?_⟩
    intro x H' hy
    obtain ⟨rfl, hx⟩ := fi.yld i x H' hy
    obtain ⟨d1, d2⟩ := hD i acc _ hp
    exact hs i acc x _ _ _ hx hp (fun y H4 e q => ⟨acc, e, by rw [sizeLine_eq]; omega, _, q⟩) (fun H3 q => ⟨_, q⟩)
  · have e : i = xs.length := by omega
    subst e
    exact .inl ⟨fi.stop _ (Nat.le_refl _), hd acc H hp⟩

theorem TyOf7.keep {H H' : Hp} {v : V} {T : String} (h : TyOf7 H v T) (k : XT H H') : TyOf7 H' v T := by
  cases h with
  | non => exact .non
  | bl b => exact .bl b
  | int i => exact .int i
  | str z => exact .str z
  | lst h => exact .lst (k _ _ h)
  | tup h => exact .tup (k _ _ h)
  | dct h => exact .dct (k _ _ h)
theorem XT.refl {H : Hp} : XT H H := fun _ _ h => h
theorem kit_seq {K : PySem.W.Frag} : ∀ T ∈ kinds7, PySem.W.kitAny K (.type T) [.type "list", .type "tuple"] = some (decide (T = "list" ∨ T = "tuple")) := by
  intro T h
  unfold kinds7 at h
  simp only [List.mem_cons, List.not_mem_nil, or_false] at h
  rcases h with rfl | rfl | rfl | rfl | rfl | rfl | rfl
  · exact kitAny_cons (b := false) (kit_ty (by decide +kernel)) (fun _ => kitAny_cons (b := false) (kit_ty (by decide +kernel)) (fun _ => rfl) (fun z => nomatch z)) (fun z => nomatch z)
  · exact kitAny_cons (b := false) (kit_ty (by decide +kernel)) (fun _ => kitAny_cons (b := false) (kit_ty (by decide +kernel)) (fun _ => rfl) (fun z => nomatch z)) (fun z => nomatch z)
  · exact kitAny_cons (b := false) (kit_ty (by decide +kernel)) (fun _ => kitAny_cons (b := false) (kit_ty (by decide +kernel)) (fun _ => rfl) (fun z => nomatch z)) (fun z => nomatch z)
  · exact kitAny_cons (b := false) (kit_ty (by decide +kernel)) (fun _ => kitAny_cons (b := false) (kit_ty (by decide +kernel)) (fun _ => rfl) (fun z => nomatch z)) (fun z => nomatch z)
  · exact kitAny_cons (b := true) (kit_ty (by decide +kernel)) (fun z => nomatch z) (fun _ => by decide)
  · exact kitAny_cons (b := false) (kit_ty (by decide +kernel)) (fun _ => kitAny_cons (b := true) (kit_ty (by decide +kernel)) (fun z => nomatch z) (fun _ => by decide)) (fun z => nomatch z)
  · exact kitAny_cons (b := false) (kit_ty (by decide +kernel)) (fun _ => kitAny_cons (b := false) (kit_ty (by decide +kernel)) (fun _ => rfl) (fun z => nomatch z)) (fun z => nomatch z)
def spSeqX (K : PySem.W.Frag) : Sp := fun vs H Q _ => ∃ v Tn, vs = [v] ∧ Tn ∈ kinds7 ∧ (∀ H', XT H H' → TyX K H' v (.type Tn)) ∧ ∀ H', XT H H' → Q (.bl (decide (Tn = "list" ∨ Tn = "tuple"))) H'
section
variable {P : Program} {w : World} {K : PySem.W.Frag} {mg : Str → Option Value} {base : Heap}
theorem ok_is_sequence (T : Txt K mg) : Def P w K mg base 1 "is_sequence" ["thing"] (spSeqX K) := by
  obtain ⟨f, fd, h⟩ := T.d_is_sequence
  refine h.def (Fun.okM h.fn sc_is_sequence (fun vs H Q E h => ?_) (fun cdv A outer s H vs Q E hr h => ?_))
  · obtain ⟨v, Tn, rfl, _⟩ := h
    rfl
  · obtain ⟨v, Tn, rfl, hT, ty, k⟩ := h
    refine ⟨_, (pss_one (ps_ret (pe_callB call_isiT (by rfl) T.h_isinstance (by decide +kernel) (pa_cons (pv 0) (pa_cons (pe_tup (pa_cons (pe_bltn (v := .ty "list") (by rfl) T.h_list (by decide +kernel) rfl) (pa_cons (pe_bltn (v := .ty "tuple") (by rfl) T.h_tuple (by decide +kernel) rfl) pa_nil))) pa_nil))))), ?_⟩
    walk_at "g"
    refine ⟨by show 2 ≤ sizeLine; decide, fun t ht => ?_⟩
    walk_at "g"
    have kt : XT H (upd H t (.tup [.ty "list", .ty "tuple"])) := fun q o h => by rw [upd_ne (ne_of_none h ht)]; exact h
    refine ⟨v, t, _, _, _, _, rfl, upd_same, .cons (.ty "list") (.cons (.ty "tuple") .nil), ty _ kt, kit_seq Tn hT, ?_⟩
    walk_at "g"
    exact k _ kt
end
inductive RF (R : Fm → Addr → Prop) : List Fm → List Addr → Prop
  | nil : RF R [] []
  | cons {f : Fm} {q : Addr} {fs : List Fm} {qs : List Addr} (h : R f q) (r : RF R fs qs) : RF R (f :: fs) (q :: qs)
theorem RF.mono {R S : Fm → Addr → Prop} (h : ∀ t q, R t q → S t q) : ∀ {ts : List Fm} {qs : List Addr}, RF R ts qs → RF S ts qs
  | _, _, .nil => .nil
  | _, _, .cons a r => .cons (h _ _ a) (r.mono h)
theorem RF.len {R : Fm → Addr → Prop} : ∀ {ts : List Fm} {qs : List Addr}, RF R ts qs → qs.length = ts.length
  | _, _, .nil => rfl
  | _, _, .cons _ r => congrArg (· + 1) r.len
theorem RF.app {R : Fm → Addr → Prop} : ∀ {ts us : List Fm} {qs ps : List Addr}, RF R ts qs → RF R us ps → RF R (ts ++ us) (qs ++ ps)
  | _, _, _, _, .nil, s => s
  | _, _, _, _, .cons a r, s => .cons a (r.app s)
theorem RF.split {R : Fm → Addr → Prop} : ∀ {qa qb : List Addr} {fs : List Fm}, RF R fs (qa ++ qb) → ∃ fa fb, fs = fa ++ fb ∧ RF R fa qa ∧ RF R fb qb
  | [], _, fs, h => ⟨[], fs, rfl, .nil, h⟩
  | q :: qa, qb, fs, h => by
    cases h with
    | cons a r =>
      obtain ⟨fa, fb, e, x, y⟩ := r.split
      exact ⟨_ :: fa, fb, by rw [e]; rfl, .cons a x, y⟩
/-! names of a form -/
def Fm.ats : Fm → List At
  | .at a => [a]
  | .un _ f => f.ats
  | .bi _ f g => f.ats ++ g.ats
theorem Fm.ats_cols : ∀ f : Fm, f.ats.flatMap At.flds = f.cols
  | .at a => by simp [ats, cols]
  | .un _ f => f.ats_cols
  | .bi _ f g => by
    have h1 := f.ats_cols
    have h2 := g.ats_cols
    simp only [ats, cols, List.flatMap_append]
    rw [h1, h2]
theorem Fm.ats_len : ∀ f : Fm, f.ats.length = f.ts.size
  | .at _ => rfl
  | .un _ f => f.ats_len
  | .bi _ f g => by
    show (f.ats ++ g.ats).length = f.ts.size + g.ts.size
    rw [List.length_append, f.ats_len, g.ats_len]
theorem At.flds_len (a : At) : a.flds.length ≤ 2 := by cases a <;> simp [At.flds]
theorem nodup_le {α : Type} [DecidableEq α] : ∀ {ys xs : List α}, ys.Nodup → (∀ y ∈ ys, y ∈ xs) → ys.length ≤ xs.length
  | [], _, _, _ => Nat.zero_le _
  | y :: ys, xs, nd, h => by
    obtain ⟨n1, n2⟩ := List.nodup_cons.mp nd
    have hy := h y List.mem_cons_self
    have h2 : ys.length ≤ (xs.erase y).length := nodup_le n2 fun z hz => (List.mem_erase_of_ne (fun e : z = y => n1 (by rw [← e]; exact hz))).mpr (h z (List.mem_cons_of_mem _ hz))
    rw [List.length_erase_of_mem hy] at h2
    have := List.length_pos_of_mem hy
    simp
    omega
theorem seq_t {K : PySem.W.Frag} {H : Hp} {p : Addr} {xs : List V} (h : H p = some (.lst xs) ∨ H p = some (.tup xs)) : H p = some (.lst xs) ∨ SqT K H p xs := h.elim .inl fun h => .inr (SqT.of h)
theorem seq_a {K : PySem.W.Frag} {H : Hp} {p : Addr} {xs : List V} (h : H p = some (.lst xs) ∨ H p = some (.tup xs)) : SqA K H p xs := h.elim (fun h => .inl (SqL.of h)) fun h => .inr (SqT.of h)
theorem g_ixA {K : PySem.W.Frag} {H : Hp} {p : Addr} {xs : List V} {i : Int} {v : V} {Q : VK} (h : H p = some (.lst xs) ∨ H p = some (.tup xs)) (e : atI xs i = some v) (q : Q v H) : rIx K (.ref p) (.int i) H Q := by
  rcases h with h | h
  · exact g_ixL (SqL.of h) e q
  · exact g_ixT (SqT.of h) e q
theorem seq_keep {H H' : Hp} {p : Addr} {xs : List V} (h : H p = some (.lst xs) ∨ H p = some (.tup xs)) (k : XT H H') : H' p = some (.lst xs) ∨ H' p = some (.tup xs) := h.elim (fun h => .inl (k _ _ h)) fun h => .inr (k _ _ h)
theorem nodup_len {xs zs : List Str} (h : zs.Nodup) (m : ∀ k, k ∈ zs ↔ k ∈ xs) (n : xs.Nodup) : zs.length = xs.length :=
  ((List.perm_ext_iff_of_nodup h n).mpr m).length_eq
/-! columns as a list or a tuple of tuples -/
def LsA (H : Hp) (L : Addr) (ts : List (List V)) : Prop := ∃ qs : List Addr, (H L = some (.lst (qs.map V.ref)) ∨ H L = some (.tup (qs.map V.ref))) ∧ qs.length = ts.length ∧ ∀ (i : Nat) (q : Addr) (t : List V), qs[i]? = some q → ts[i]? = some t → H q = some (.tup t)
theorem LAt.ls {H : Hp} {L : Addr} {ts : List (List V)} (h : LAt H L ts) : LsA H L ts := by
  obtain ⟨qs, h1, h2, h3⟩ := h
  exact ⟨qs, .inl h1, h2, h3⟩
theorem LsA.keep {H H' : Hp} {L : Addr} {ts : List (List V)} (h : LsA H L ts) (k : ∀ q o, H q = some o → H' q = some o) : LsA H' L ts := by
  obtain ⟨qs, h1, h2, h3⟩ := h
  exact ⟨qs, seq_keep h1 k, h2, fun i q t hq ht => k _ _ (h3 i q t hq ht)⟩
/-! shapes -/
def spShort (K : PySem.W.Frag) : Sp := fun vs H Q _ => ∃ (v : V) (a b : Int), vs = [v, .int a, .int b] ∧
  ((∃ Tn, Tn ∈ kinds7 ∧ TyOf7 H v Tn ∧ Tn ≠ "list" ∧ Tn ≠ "tuple" ∧ ∀ H', XT H H' → Q (.bl false) H') ∨
   (∃ p xs, v = .ref p ∧ (H p = some (.lst xs) ∨ SqT K H p xs) ∧ ∀ H', XT H H' → Q (.bl (decide (a ≤ (xs.length : Int)) && decide ((xs.length : Int) ≤ b))) H'))
theorem xtT {K : PySem.W.Frag} {H H' : Hp} {a : Addr} {xs : List V} (h : SqT K H a xs) (k : XT H H') : SqT K H' a xs := by
  rcases h with h | h
  · rcases h with h | ⟨o, h⟩
    · exact .inl (.inl (k _ _ h))
    · exact .inl (.inr ⟨o, k _ _ h⟩)
  · exact .inr h
def keysP (kvs : List (Key × V)) (S : List Str) : Prop := ∀ z : Str, (valV kvs (Sum.inr z)).isSome = decide (z ∈ S)
theorem keysP.nil : keysP [] [] := fun z => rfl
theorem keysP.put {kvs : List (Key × V)} {S : List Str} {c : Str} {v : V} (h : keysP kvs S) : keysP (putK kvs (Sum.inr c) v) (S ++ [c]) := fun z => by
  rw [valV_put]
  by_cases e : z = c
  · rw [if_pos (by rw [e]), e]
    exact (decide_eq_true (List.mem_append.mpr (.inr (List.mem_singleton.mpr rfl)))).symm
  · rw [if_neg (fun h => e (by injection h)), h z]
    exact decide_eq_decide.mpr ⟨fun h => List.mem_append.mpr (.inl h), fun h => (List.mem_append.mp h).elim id fun h => absurd (List.mem_singleton.mp h) e⟩
structure ColsOk (cs : List Col) : Prop where
  ne : 1 ≤ cs.length
  le : cs.length ≤ 12
  nm : ∀ c ∈ cs, nameP c.1
  nd : (cs.map (·.1)).Nodup
/-- the columns by their names -/
def SpotsAt (H : Hp) (kvs : List (Key × V)) (cs : List Col) : Prop := ∀ (j : Nat) c, cs[j]? = some c → ∃ q, valV kvs (Sum.inr c.1) = some (.ref q) ∧ H q = some (.tup (ct c))
theorem SpotsAt.keep {H H' : Hp} {kvs : List (Key × V)} {cs : List Col} (h : SpotsAt H kvs cs) (k : XT H H') : SpotsAt H' kvs cs := fun j c hc => by
  obtain ⟨q, h1, h2⟩ := h j c hc
  exact ⟨q, h1, k _ _ h2⟩
theorem SpotsAt.keepN {H H' : Hp} {x : Addr} {o : HO} {kvs : List (Key × V)} {cs : List Col} (h : SpotsAt H kvs cs) (hx : H x = some o) (no : ∀ l, o ≠ .tup l) (k : ∀ q o, q ≠ x → H q = some o → H' q = some o) : SpotsAt H' kvs cs := fun j c hc => by
  obtain ⟨q, h1, h2⟩ := h j c hc
  exact ⟨q, h1, k _ _ (fun z => by rw [z, hx] at h2; exact no _ (by injection h2)) h2⟩
/-- a shape made of the columns cs -/
def ShapeAt (C : Addr) (H : Hp) (cs : List Col) (x : Addr) : Prop := ∃ dx fs D kvs, H x = some (.ins C dx fs) ∧ fs.lookup ("spots" : Str) = some (V.ref D) ∧ H D = some (.dK kvs) ∧ keysP kvs (cs.map (·.1)) ∧ SpotsAt H kvs cs
theorem ShapeAt.keep {C x : Addr} {H H' : Hp} {cs : List Col} (h : ShapeAt C H cs x) (k : XT H H') : ShapeAt C H' cs x := by
  obtain ⟨dx, fs, D, kvs, h1, h2, h3, h4, h5⟩ := h
  exact ⟨dx, fs, D, kvs, k _ _ h1, h2, k _ _ h3, h4, h5.keep k⟩
theorem g_dput {σ : L2.St} {H : Hp} {D : Ends} {td ty tv : TE} (q : tv σ H fun v H1 => td σ H1 fun x H2 => ty σ H2 fun y H3 => ∃ a H4, x = .ref a ∧ DPut H3 a y v H4 ∧ D.nx σ H4) : sDPut td ty tv D σ H := q
section
variable {P : Program} {w : World} {K : PySem.W.Frag} {mg : Str → Option Value} {base : Heap}
theorem ok_is_short (T : Txt K mg) : Def P w K mg base 2 "is_short" ["thing", "least", "most"] (spShort K) := by
  obtain ⟨f, fd, h⟩ := T.d_is_short
  refine h.def (Fun.okM h.fn sc_is_short (fun vs H Q E h => ?_) (fun cdv A outer s H vs Q E hr h => ?_))
  · obtain ⟨v, a, b, rfl, _⟩ := h
    rfl
  · obtain ⟨v, a, b, rfl, h⟩ := h
    refine ⟨_, (pss_one (ps_ret (pe_and (pe_def (ok_is_sequence T) hr rfl (pa_cons (pv 0) pa_nil)) (pe_and (pe_cmpR op_leG (pv 1) (pe_callB (call_lenG (K := K) rfl) (by rfl) T.h_len (by decide +kernel) (pa_cons (pv 0) pa_nil)) (nomark _)) (pe_one (pe_cmpR op_leG (pe_callB (call_lenG (K := K) rfl) (by rfl) T.h_len (by decide +kernel) (pa_cons (pv 0) pa_nil)) (pv 2) (nomark _))))))), ?_⟩
    rcases h with ⟨Tn, hT, ty, n1, n2, k⟩ | ⟨p, xs, rfl, hp, k⟩
    · walk_at "g"
      refine ⟨v, Tn, rfl, hT, fun H' x => (ty.keep x).x K, fun H' x => ?_⟩
      rw [decide_eq_false (fun h => h.elim n1 n2)]
      walk_at "g"
      exact k _ x
    · rcases hp with hp | hp
      · walk_at "g"
        refine ⟨.ref p, "list", rfl, by decide, fun H' x => .base (.lst (x _ _ hp)), fun H' x => ?_⟩
        rw [show decide ("list" = "list" ∨ "list" = "tuple") = true by decide]
        walk_at "g"
        refine g_lenL (SqL.of (x _ _ hp)) ?_
        walk_at "g"
        by_cases ha : a ≤ (xs.length : Int)
        · rw [decide_eq_true ha]
          walk_at "g"
          refine g_lenL (SqL.of (x _ _ hp)) ?_
          walk_at "g"
          have := k _ x
          rw [decide_eq_true ha, Bool.true_and] at this
          exact this
        · rw [decide_eq_false ha]
          walk_at "g"
          have := k _ x
          rw [decide_eq_false ha, Bool.false_and] at this
          exact this
      · walk_at "g"
        refine ⟨.ref p, "tuple", rfl, by decide, fun H' x => tyx_t (xtT hp x), fun H' x => ?_⟩
        rw [show decide ("tuple" = "list" ∨ "tuple" = "tuple") = true by decide]
        walk_at "g"
        refine g_lenT (xtT hp x) ?_
        walk_at "g"
        by_cases ha : a ≤ (xs.length : Int)
        · rw [decide_eq_true ha]
          walk_at "g"
          refine g_lenT (xtT hp x) ?_
          walk_at "g"
          have := k _ x
          rw [decide_eq_true ha, Bool.true_and] at this
          exact this
        · rw [decide_eq_false ha]
          walk_at "g"
          have := k _ x
          rw [decide_eq_false ha, Bool.false_and] at this
          exact this
theorem ok_is_column (T : Txt K mg) : Def P w K mg base 3 "is_column" ["thing"] (fun vs H Q _ => ∃ (t : Addr) (c : Col), vs = [.ref t] ∧ H t = some (.tup (ct c)) ∧ nameP c.1 ∧ ∀ H', XT H H' → Q (.bl true) H') := by
  obtain ⟨f, fd, h⟩ := T.d_is_column
  obtain ⟨t_KINDS, G_KINDS, Q_KINDS⟩ := T.k_KINDS
  refine h.def (Fun.okM h.fn sc_is_column (fun vs H Q E h => ?_) (fun cdv A outer s H vs Q E hr h => ?_))
  · obtain ⟨t, c, rfl, _⟩ := h
    rfl
  · obtain ⟨t, c, rfl, ht, hc, k⟩ := h
    refine ⟨_, (pss_cons (ps_if (pt_not (pt_val (pe_def (ok_is_short T) hr rfl (pa_cons (pv 0) (pa_cons pe_int (pa_cons pe_int pa_nil))))))
  (pss_one (ps_ret pe_bl))
  pss_nil)
  (pss_cons (ps_set (i := 1) sc_is_column.nd rfl (Or.inl rfl) (pe_and (pe_callB (call_isiG (K := K) rfl) (by rfl) T.h_isinstance (by decide +kernel) (pa_cons (pe_ix (ix_seqG (K := K) rfl) (pv 0) pe_int (fun _ _ => rfl)) (pa_cons (pe_bltn (v := .ty "str") (by rfl) T.h_str (by decide +kernel) rfl) pa_nil))) (pe_one (pe_cmpR (op_inG (K := K) rfl) (pe_ix (ix_seqG (K := K) rfl) (pv 0) pe_int (fun _ _ => rfl)) (pe_glob (v := .ref t_KINDS) rfl G_KINDS rfl) (by rfl)))))
  (pss_one (ps_ret (pe_and (pe_def (ok_is_name T) hr rfl (pa_cons (pe_ix (ix_seqG (K := K) rfl) (pv 0) pe_int (fun _ _ => rfl)) pa_nil)) (pe_and (pv 1) (pe_one (pe_callB (call_isiG (K := K) rfl) (by rfl) T.h_isinstance (by decide +kernel) (pa_cons (pe_ix (ix_seqG (K := K) rfl) (pv 0) pe_int (fun _ _ => rfl)) (pa_cons (pe_bltn (v := .ty "bool") (by rfl) T.h_bool (by decide +kernel) rfl) pa_nil)))))))))), ?_⟩
    walk_at "g"
    refine ⟨_, _, _, rfl, .inr ⟨t, _, rfl, .inr (SqT.of ht), fun H1 x1 => ?_⟩⟩
    have h1 := x1 _ _ ht
    rw [show (decide ((3 : Int) ≤ ((ct c).length : Int)) && decide (((ct c).length : Int) ≤ 3)) = true by rfl]
    walk_at "g"
    refine g_ixT (SqT.of h1) (v := .str (kS c.2.1)) (by rfl) ?_
    walk_at "g"
    refine g_ixT (SqT.of h1) (v := .str (kS c.2.1)) (by rfl) ?_
    walk_at "g"
    refine .inr ⟨_, [Str.ofString "number", Str.ofString "text"].map V.str, rfl, .inr (Q_KINDS _), rfl, Tw.flat_strs _, ?_⟩
    rw [if_neg Bool.false_ne_true, inV_strs, show decide (kS c.2.1 ∈ [Str.ofString "number", Str.ofString "text"]) = true by cases c.2.1 <;> decide +kernel]
    walk_at "g"
    refine g_ixT (SqT.of h1) (v := .str c.1) (by rfl) ?_
    walk_at "g"
    refine ⟨_, rfl, .inr (.inr (.inr (.inl ⟨_, rfl, by have := hc.2.1; omega⟩))), fun H2 x2 => ?_⟩
    rw [nameB_str.mpr hc]
    walk_at "g"
    refine g_ixT (SqT.of (x2 _ _ h1)) (v := .bl c.2.2) (by rfl) ?_
    walk_at "g"
    exact k _ (x1.trans x2)
theorem ok_need_columns (T : Txt K mg) : Def P w K mg base 4 "need_columns" ["columns"] (fun vs H Q _ => ∃ (L : Addr) (cs : List Col), vs = [.ref L] ∧ LsA H L (cs.map ct) ∧ ColsOk cs ∧ ∀ H', XT H H' → Q .non H') := by
  obtain ⟨f, fd, h⟩ := T.d_need_columns
  obtain ⟨t_MOST_COLUMNS, G_MOST_COLUMNS⟩ := T.k_MOST_COLUMNS
  refine h.def (Fun.okM h.fn sc_need_columns (fun vs H Q E h => ?_) (fun cdv A outer s H vs Q E hr h => ?_))
  · obtain ⟨L, cs, rfl, _⟩ := h
    rfl
  · obtain ⟨L, cs, rfl, hC, hcs, k⟩ := h
    obtain ⟨qs, hL, hlen, hcol⟩ := id hC
    rw [List.length_map] at hlen
    have n1 := hcs.ne
    have n2 := hcs.le
    refine ⟨_, (pss_cons (ps_if (pt_not (pt_val (pe_def (ok_is_short T) hr rfl (pa_cons (pv 0) (pa_cons pe_int (pa_cons (pe_glob (v := .int 12) rfl G_MOST_COLUMNS ⟨_, rfl⟩) pa_nil))))))
  (pss_one ps_never)
  pss_nil)
  (pss_cons (ps_set (i := 1) sc_need_columns.nd rfl (Or.inl rfl) pe_dnewK)
  (pss_one (ps_for PassesOwn.never rfl (pi_enumG (K := K) rfl (by rfl) T.h_enumerate (pa_cons (pv 0) pa_nil)) (pg_tupG (K := K) (n := 2) rfl rfl (pgs_cons (pg_name (i := 2) sc_need_columns.nd rfl (Or.inl rfl)) (pgs_cons (pg_name (i := 3) sc_need_columns.nd rfl (Or.inl rfl)) pgs_nil)))
  (pss_cons (ps_if (PW.pt (pw_or (pt_not (pt_val (pe_def (ok_is_column T) hr rfl (pa_cons (pv 3) pa_nil)))) (pw_or1 (pt_cmp (pc_din (hu_of hr) (pe_ix (ix_seqG (K := K) rfl) (pv 3) pe_int (fun _ _ => rfl)) (pv 1))))))
  (pss_one ps_never)
  pss_nil)
  (pss_one (ps_dput (hu_of hr) (pv 1) (pe_ix (ix_seqG (K := K) rfl) (pv 3) pe_int (fun _ _ => rfl)) pe_bl rfl))))))), ?_⟩
    walk_at "g"
    refine ⟨_, _, _, rfl, .inr ⟨L, _, rfl, seq_t hL, fun H1 x1 => ?_⟩⟩
    rw [show (decide ((1 : Int) ≤ ((qs.map V.ref).length : Int)) && decide (((qs.map V.ref).length : Int) ≤ 12)) = true by
      rw [List.length_map, decide_eq_true (by omega), decide_eq_true (by omega)]; rfl]
    walk_at "g"
    intro r hr
    have x2 := x1.new (o := .dK []) hr
    have e2 : (upd H1 r (.dK [])) r = some (.dK []) := upd_same
    generalize upd H1 r (.dK []) = H2 at x2 e2
    have hHr : H r = none := by
      cases e : H r with
      | none => rfl
      | some o => rw [x1 _ _ e] at hr; cases hr
    have nr : L ≠ r := fun z => by rw [z, hHr] at hL; rcases hL with h | h <;> cases h
    walk_at "g"
    refine g_enumG ?_
    walk_at "g"
    refine ⟨L, qs.map V.ref, rfl, seq_a (seq_keep hL x2), fun J hJ => ?_⟩
    refine for_enumA (xs := qs.map V.ref) (fun i σ' H' => ∃ (s2 s3 : Option V) (kvs : List (Key × V)), σ' = [some (.ref L), some (.ref r), s2, s3] ∧ XT H H' ∧ H' r = some (.dK kvs) ∧ keysP kvs ((cs.take i).map (·.1)) ∧ kvs.length ≤ i) ⟨none, none, [], rfl, x2, e2, keysP.nil, Nat.le_refl _⟩ ?_ ?_ ?_
    · rintro i σ' H' hi ⟨s2, s3, kvs, rfl, x3, _⟩
      exact hJ H' (by rcases hL with h | h <;> rw [x3 _ _ h, x2 _ _ h])
    · rintro i v t σ' H3 D' hv ⟨s2, s3, kvs, rfl, x3, e3, hk, hkl⟩ ht hnx hct hbk hrt
      rw [List.getElem?_map] at hv
      obtain ⟨q, hq, rfl⟩ := Option.map_eq_some_iff.mp hv
      have hil : i < cs.length := by
        have := (List.getElem?_eq_some_iff.mp hq).1
        omega
      obtain ⟨c, hc⟩ : ∃ c, cs[i]? = some c := ⟨_, List.getElem?_eq_getElem hil⟩
      have eq := hcol i q (ct c) hq (by rw [List.getElem?_map, hc]; rfl)
      have hcm : c ∈ cs := List.mem_of_getElem? hc
      have etk : (cs.take (i + 1)).map (·.1) = (cs.take i).map (·.1) ++ [c.1] := by rw [List.take_succ, hc, List.map_append]; rfl
      have hnot : c.1 ∉ (cs.take i).map (·.1) := fun hm => by
        have hnd := hcs.nd
        have e1 : cs.map (·.1) = (cs.take (i + 1)).map (·.1) ++ (cs.drop (i + 1)).map (·.1) := by rw [← List.map_append, List.take_append_drop]
        rw [e1, etk, List.append_assoc] at hnd
        exact (List.nodup_append.mp hnd).2.2 _ hm _ (List.mem_append.mpr (.inl (List.mem_singleton.mpr rfl))) rfl
      have x4 := x3.new (o := .tup [.int (i : Nat), .ref q]) ht
      have nrt : r ≠ t := ne_of_none e3 ht
      have e4 : (upd H3 t (.tup [.int (i : Nat), .ref q])) r = some (.dK kvs) := by rw [upd_ne nrt]; exact e3
      refine g_gtup upd_same rfl ?_
      refine g_gcons ?_
      walk_at "g"
      refine g_gcons ?_
      walk_at "g"
      refine g_gnil ?_
      generalize upd H3 t (.tup [.int (i : Nat), .ref q]) = H4 at x4 e4
      have eq4 := x4 _ _ eq
      walk_at "g"
      refine ⟨_, _, rfl, eq4, hcs.nm c hcm, fun H5 x5 => ?_⟩
      walk_at "g"
      refine g_ixT (SqT.of (x5 _ _ eq4)) (v := .str c.1) (by rfl) ?_
      walk_at "g"
      refine ⟨_, _, rfl, DGet.k (k := Sum.inr c.1) (x5 _ _ e4), ?_⟩
      rw [hk, decide_eq_false hnot]
      walk_at "g"
      refine g_dput ?_
      walk_at "g"
      refine g_ixT (SqT.of (x5 _ _ eq4)) (v := .str c.1) (by rfl) ?_
      refine ⟨r, _, rfl, DPut.k (k := Sum.inr c.1) (x5 _ _ e4) (by rw [sizeLine_eq]; omega), ?_⟩
      refine hnx _ _ ⟨_, _, _, rfl, fun q o h => ?_, upd_same, by rw [etk]; exact hk.put, Nat.le_trans (length_putK _ _ _) (by omega)⟩
      rw [upd_ne (fun z => by rw [z, hHr] at h; cases h)]
      exact x5 _ _ (x4 _ _ h)
    · rintro σ' H' ⟨s2, s3, kvs, rfl, x3, _⟩
      exact k _ x3
end
/-! what fits a shape -/
def kB : V → Bool
  | .str _ => true
  | _ => false
theorem isV.kB {k : Bool} {v : V} (h : isV k v) : kindV v = .str (kS (kB v)) := by
  rcases h with ⟨i, rfl⟩ | ⟨z, rfl, hz⟩
  · rfl
  · have e : txtB z = true := isS.txt ⟨z, rfl, hz⟩
    show (if txtB z = true then V.str (Str.ofString "text") else V.non) = _
    rw [if_pos e]
    rfl
theorem kS_dec {a b : Bool} : decide (kS a = kS b) = decide (a = b) := decide_eq_decide.mpr ⟨kS_inj, fun h => by rw [h]⟩
def knd (cs : List Col) (c : Str) : Option Bool := (cs.find? fun x => decide (x.1 = c)).map (·.2.1)
theorem knd_none {cs : List Col} {c : Str} (h : c ∉ cs.map (·.1)) : knd cs c = none := by
  unfold knd
  rw [List.find?_eq_none.mpr fun x hx => by
    simp only [decide_eq_true_eq]
    intro e
    exact h (List.mem_map.mpr ⟨x, hx, e⟩)]
  rfl
theorem knd_some {cs : List Col} {c : Str} (h : c ∈ cs.map (·.1)) : ∃ (j : Nat) (x : Col), cs[j]? = some x ∧ x.1 = c ∧ knd cs c = some x.2.1 := by
  cases e : cs.find? fun x => decide (x.1 = c) with
  | none =>
    obtain ⟨x, hx, hc⟩ := List.mem_map.mp h
    have := List.find?_eq_none.mp e x hx
    simp [hc] at this
  | some x =>
    obtain ⟨j, hj⟩ := List.getElem?_of_mem (List.mem_of_find?_eq_some e)
    have hx := List.find?_some e
    simp only [decide_eq_true_eq] at hx
    exact ⟨j, x, hj, hx, by unfold knd; rw [e]; rfl⟩
theorem knd_mem {cs : List Col} {c : Str} {k : Bool} (h : knd cs c = some k) : c ∈ cs.map (·.1) := Classical.byContradiction fun n => by rw [knd_none n] at h; cases h
def amF : Option Bool → List V → Bool
  | none, _ => false
  | some k, vs => vs.all fun v => decide (kB v = k)
def agF : Option Bool → Option Bool → Int → Bool
  | some k, some k', n => decide (k = k') && (!k || decide (n = 0))
  | _, _, _ => false
theorem agF_none {a : Option Bool} {n : Int} : agF a none n = false := by cases a <;> rfl
def At.fits (cs : List Col) : At → Bool
  | .always => true
  | .never => true
  | .empty c => (knd cs c).isSome
  | .among c vs => amF (knd cs c) vs
  | .begins c _ => decide (knd cs c = some true)
  | .compare c _ v => decide (knd cs c = some (kB v))
  | .against c _ d n => agF (knd cs c) (knd cs d) n
theorem At.fits_no {cs : List Col} {a : At} {c : Str} (h : c ∈ a.flds) (n : c ∉ cs.map (·.1)) : a.fits cs = false := by
  have e := knd_none n
  cases a with
  | always => cases h
  | never => cases h
  | empty c' => obtain rfl := List.mem_singleton.mp h; show (knd cs c).isSome = false; rw [e]; rfl
  | among c' vs => obtain rfl := List.mem_singleton.mp h; show amF (knd cs c) vs = false; rw [e]; rfl
  | begins c' z => obtain rfl := List.mem_singleton.mp h; show decide (knd cs c = some true) = false; rw [e]; rfl
  | compare c' op v => obtain rfl := List.mem_singleton.mp h; show decide (knd cs c = some (kB v)) = false; rw [e]; rfl
  | against c' op d n' =>
    rcases List.mem_cons.mp h with rfl | h
    · show agF (knd cs c) (knd cs d) n' = false
      rw [e]; rfl
    · obtain rfl := List.mem_singleton.mp h
      show agF (knd cs c') (knd cs c) n' = false
      rw [e]; exact agF_none
theorem Fm.ts_atoms : ∀ f : Fm, f.ts.atoms = f.ats.map At.ts
  | .at a => rfl
  | .un _ f => f.ts_atoms
  | .bi _ f g => by
    show f.ts.atoms ++ g.ts.atoms = (f.ats ++ g.ats).map At.ts
    rw [List.map_append, f.ts_atoms, g.ts_atoms]
def Fm.fits (cs : List Col) (f : Fm) : Bool := f.ats.all fun a => a.fits cs
theorem Fm.ats_wf {κ : List (Str × Bool)} : ∀ {f : Fm}, f.Wf κ → ∀ a ∈ f.ats, a.Wf κ
  | .at a, h, b, hb => by rw [List.mem_singleton.mp hb]; exact h
  | .un _ f, h, b, hb => Fm.ats_wf (f := f) h.2 b hb
  | .bi _ f g, h, b, hb => (List.mem_append.mp hb).elim (fun m => Fm.ats_wf (f := f) h.2.1 b m) fun m => Fm.ats_wf (f := g) h.2.2 b m
def spIsVal : Sp := fun vs H Q _ => ∃ (k k' : Bool) (v : V), vs = [.str (kS k), v] ∧ isV k' v ∧ ∀ H', XT H H' → Q (.bl (decide (kB v = k))) H'
def spAtomFits (C : Addr) : Sp := fun vs H Q _ => ∃ (D p : Addr) (cs : List Col) (kvs : List (Key × V)) (a : At) (κ : List (Str × Bool)), vs = [.ref D, .ref p] ∧ H D = some (.dK kvs) ∧ keysP kvs (cs.map (·.1)) ∧ SpotsAt H kvs cs ∧ TestAt C H a.ts p ∧ a.Wf κ ∧ ∀ H', XT H H' → Q (.bl (a.fits cs)) H'
section
variable {P : Program} {w : World} {K : PySem.W.Frag} {mg : Str → Option Value} {base : Heap}
theorem ok_is_value (T : Txt K mg) : Def P w K mg base 3 "is_value" ["kind", "thing"] spIsVal := by
  obtain ⟨f, fd, h⟩ := T.d_is_value
  refine h.def (Fun.okM h.fn sc_is_value (fun vs H Q E h => ?_) (fun cdv A outer s H vs Q E hr h => ?_))
  · obtain ⟨k, k', v, rfl, _⟩ := h
    rfl
  · obtain ⟨k, k', v, rfl, hv, q⟩ := h
    refine ⟨_, (pss_one (ps_ret (pe_cmpR op_eq (pe_def (ok_kind_of T) hr rfl (pa_cons (pv 1) pa_nil)) (pv 0) (nomark _)))), ?_⟩
    walk_at "g"
    refine ⟨_, rfl, hv.thing, fun H1 x1 => ?_⟩
    rw [hv.kB]
    walk_at "g"
    have := q H1 x1
    rw [← kS_dec] at this
    exact this
theorem ok_atom_fits (T : Txt K mg) : Def P w K mg base 4 "atom_fits" ["spots", "atom"] (spAtomFits (cadr mg "Test")) := by
  obtain ⟨f, fd, h⟩ := T.d_atom_fits
  refine h.def (Fun.okM h.fn sc_atom_fits (fun vs H Q E h => ?_) (fun cdv A outer s H vs Q E hr h => ?_))
  · obtain ⟨D, p, cs, kvs, a, κ, rfl, _⟩ := h
    rfl
  · obtain ⟨D, p, cs, kvs, a, κ, rfl, hD, hk, hS, hA, hw, q⟩ := h
    obtain ⟨dx, i, f0, u, qs, hp, hi, hf, hu, _⟩ := hA.node
    have hf : H f0 = some (.tup (a.flds.map V.str)) := hf
    have hu : H u = some (.tup a.trms) := hu
    have hp : H p = some (.ins (cadr mg "Test") dx (tf a.word i f0 u a.ts.size a.ts.depth)) := hp
    refine ⟨_, (pss_cons (ps_if (pt_not (pt_val (pe_callB (cr_all rfl) (by rfl) T.h_all (by decide +kernel) (pa_cons (pe_lc (own := [("name", 3)]) rfl sc_atom_fits.nd (pi_tupG (K := K) rfl (pe_fldG (K := K) rfl (pv 1) rfl)) (blkOk_by (N := N_atom_fits) (sc := defScope S_atom_fits) (by decide +kernel)) (fun _ _ _ _ _ => pg_name (i := 3) sc_atom_fits.nd rfl (Or.inl rfl)) (fun _ _ _ _ _ => pts_nil) (fun _ _ _ _ _ => (pe_cmp (pc_din (hu_of hr) (pv 3) (pv 0))))) pa_nil))))
  (pss_one (ps_ret pe_bl))
  pss_nil)
  (pss_cons (ps_set (i := 2) sc_atom_fits.nd rfl (Or.inr rfl) (pe_lc (own := [("name", 3)]) rfl sc_atom_fits.nd (pi_tupG (K := K) rfl (pe_fldG (K := K) rfl (pv 1) rfl)) (blkOk_by (N := N_atom_fits) (sc := defScope S_atom_fits) (by decide +kernel)) (fun _ _ _ _ _ => pg_name (i := 3) sc_atom_fits.nd rfl (Or.inl rfl)) (fun _ _ _ _ _ => pts_nil) (fun _ _ _ _ _ => (pe_ix (ix_seqG (K := K) rfl) (pe_dget (hu_of hr) (pv 0) (pv 3) (fun _ _ => rfl)) pe_int (fun _ _ => rfl)))))
  (pss_cons (ps_if (pt_cmpR op_eq (pe_fldG (K := K) rfl (pv 1) rfl) pe_str (nomark _))
  (pss_one (ps_ret (pe_def (ok_is_value T) hr rfl (pa_cons (pe_ix (ix_seqG (K := K) rfl) (pv 2) pe_int (fun _ _ => rfl)) (pa_cons (pe_ix (ix_seqG (K := K) rfl) (pe_fldG (K := K) rfl (pv 1) rfl) pe_int (fun _ _ => rfl)) pa_nil)))))
  pss_nil)
  (pss_cons (ps_if (pt_cmpR op_eq (pe_fldG (K := K) rfl (pv 1) rfl) pe_str (nomark _))
  (pss_one (ps_ret (pe_and (pe_cmpR op_eq (pe_ix (ix_seqG (K := K) rfl) (pv 2) pe_int (fun _ _ => rfl)) (pe_ix (ix_seqG (K := K) rfl) (pv 2) pe_int (fun _ _ => rfl)) (nomark _)) (pe_one (pe_or (pe_cmpR op_eq (pe_ix (ix_seqG (K := K) rfl) (pv 2) pe_int (fun _ _ => rfl)) pe_str (nomark _)) (pe_one (pe_cmpR op_eq (pe_ix (ix_seqG (K := K) rfl) (pe_fldG (K := K) rfl (pv 1) rfl) pe_int (fun _ _ => rfl)) pe_int (nomark _))))))))
  pss_nil)
  (pss_cons (ps_if (pt_cmpR op_eq (pe_fldG (K := K) rfl (pv 1) rfl) pe_str (nomark _))
  (pss_one (ps_ret (pe_callB (cr_all rfl) (by rfl) T.h_all (by decide +kernel) (pa_cons (pe_lc (own := [("value", 4)]) rfl sc_atom_fits.nd (pi_tupG (K := K) rfl (pe_fldG (K := K) rfl (pv 1) rfl)) (blkOk_by (N := N_atom_fits) (sc := defScope S_atom_fits) (by decide +kernel)) (fun _ _ _ _ _ => pg_name (i := 4) sc_atom_fits.nd rfl (Or.inl rfl)) (fun _ _ _ _ _ => pts_nil) (fun _ _ _ _ _ => (pe_def (ok_is_value T) hr rfl (pa_cons (pe_ix (ix_seqG (K := K) rfl) (pv 2) pe_int (fun _ _ => rfl)) (pa_cons (pv 4) pa_nil))))) pa_nil))))
  pss_nil)
  (pss_one (ps_ret (pe_or (pe_cmpR op_ne (pe_fldG (K := K) rfl (pv 1) rfl) pe_str (nomark _)) (pe_one (pe_cmpR op_eq (pe_ix (ix_seqG (K := K) rfl) (pv 2) pe_int (fun _ _ => rfl)) pe_str (nomark _))))))))))), ?_⟩
    walk_at "g"
    refine ⟨p, _, dx, _, _, rfl, hp, T.cl_Test, T.n_Test_fields, tf_fields, ?_⟩
    refine ⟨f0, rfl, ⟨_, SqT.of hf⟩, fun L hL => ?_⟩
    refine lc_map (a.flds.map V.str) (fun x => match x with | .str c => .bl (decide (c ∈ cs.map (·.1))) | v => v) hL (fun H2 k2 => fits_t (SqT.of (k2 _ _ hf))) (by have := At.flds_len a; rw [List.length_map]; omega) (fun x Hh R S hx kh hR => ?_) (fun H2 x2 e2 => ?_)
    · obtain ⟨c, hc, rfl⟩ := List.mem_map.mp hx
      walk_at "g"
      refine ⟨rfl, ?_⟩
      walk_at "g"
      refine ⟨D, _, rfl, DGet.k (k := Sum.inr c) (kh _ _ hD), ?_⟩
      rw [hk c]
      exact hR
    walk_at "g"
    refine ⟨L, a.flds.map fun c => decide (c ∈ cs.map (·.1)), rfl, SqL.of (by rw [e2, List.map_map, List.map_map]; rfl), ?_⟩
    walk_at "g"
    cases hall : (a.flds.map fun c => decide (c ∈ cs.map (·.1))).all id with
    | false =>
      walk_at "g"
      obtain ⟨c, hc, hn⟩ : ∃ c ∈ a.flds, c ∉ cs.map (·.1) := by
        rw [List.all_map, List.all_eq_false] at hall
        obtain ⟨c, hc, h⟩ := hall
        exact ⟨c, hc, by simpa using h⟩
      have := q H2 x2
      rw [At.fits_no hc hn] at this
      exact this
    | true =>
      have hin : ∀ c ∈ a.flds, c ∈ cs.map (·.1) := fun c hc => by
        rw [List.all_map, List.all_eq_true] at hall
        simpa using hall c hc
      walk_at "g"
      refine ⟨p, _, dx, _, _, rfl, x2 _ _ hp, T.cl_Test, T.n_Test_fields, tf_fields, ?_⟩
      refine ⟨f0, rfl, ⟨_, SqT.of (x2 _ _ hf)⟩, fun L2 hL2 => ?_⟩
      refine lc_map (a.flds.map V.str) (fun x => match x with | .str c => .str (kS ((knd cs c).getD false)) | v => v) hL2 (fun H3 k3 => fits_t (SqT.of (k3 _ _ (x2 _ _ hf)))) (by have := At.flds_len a; rw [List.length_map]; omega) (fun x Hh R S hx kh hR => ?_) (fun H3 x3 e3 => ?_)
      · obtain ⟨c, hc, rfl⟩ := List.mem_map.mp hx
        obtain ⟨j, y, hj, hy, hkn⟩ := knd_some (hin c hc)
        obtain ⟨t, hv, ht⟩ := hS j y hj
        rw [hy] at hv
        have hR : R (.str (kS ((knd cs c).getD false))) Hh := hR
        rw [hkn] at hR
        walk_at "g"
        refine ⟨rfl, ?_⟩
        walk_at "g"
        refine ⟨D, .ref t, rfl, by rw [← hv]; exact DGet.k (k := Sum.inr c) (kh _ _ (x2 _ _ hD)), ?_⟩
        walk_at "g"
        refine g_ixT (SqT.of (kh _ _ (x2 _ _ ht))) (v := .str (kS y.2.1)) (show atI (ct y) 1 = some (.str (kS y.2.1)) from rfl) ?_
        exact hR
      have hp3 := x3 _ _ (x2 _ _ hp)
      have hu3 := x3 _ _ (x2 _ _ hu)
      have xx : XT H H3 := fun q o h => x3 _ _ (x2 _ _ h)
      have kk : ∀ c ∈ a.flds, ∃ k, knd cs c = some k := fun c hc => by
        obtain ⟨j, y, _, _, h⟩ := knd_some (hin c hc)
        exact ⟨_, h⟩
      rw [List.map_map] at e3
      walk_at "g"
      cases a with
      | always =>
          refine ⟨p, _, dx, _, _, rfl, hp3, T.cl_Test, T.n_Test_word, tf_word, ?_⟩
          walk_at "g"
          refine g_dec (fun h => absurd h (show ("always" : Str) ≠ "compare" by decide +kernel)) (fun _ => ?_)
          walk_at "g"
          refine ⟨p, _, dx, _, _, rfl, hp3, T.cl_Test, T.n_Test_word, tf_word, ?_⟩
          walk_at "g"
          refine g_dec (fun h => absurd h (show ("always" : Str) ≠ "against" by decide +kernel)) (fun _ => ?_)
          walk_at "g"
          refine ⟨p, _, dx, _, _, rfl, hp3, T.cl_Test, T.n_Test_word, tf_word, ?_⟩
          walk_at "g"
          refine g_dec (fun h => absurd h (show ("always" : Str) ≠ "among" by decide +kernel)) (fun _ => ?_)
          walk_at "g"
          refine ⟨p, _, dx, _, _, rfl, hp3, T.cl_Test, T.n_Test_word, tf_word, ?_⟩
          walk_at "g"
          rw [decide_eq_false (show ¬ At.always.word = Str.ofString "begins" from (show ¬ ("always" : Str) = "begins" by decide +kernel))]
          walk_at "g"
          exact q H3 xx
      | never =>
          refine ⟨p, _, dx, _, _, rfl, hp3, T.cl_Test, T.n_Test_word, tf_word, ?_⟩
          walk_at "g"
          refine g_dec (fun h => absurd h (show ("never" : Str) ≠ "compare" by decide +kernel)) (fun _ => ?_)
          walk_at "g"
          refine ⟨p, _, dx, _, _, rfl, hp3, T.cl_Test, T.n_Test_word, tf_word, ?_⟩
          walk_at "g"
          refine g_dec (fun h => absurd h (show ("never" : Str) ≠ "against" by decide +kernel)) (fun _ => ?_)
          walk_at "g"
          refine ⟨p, _, dx, _, _, rfl, hp3, T.cl_Test, T.n_Test_word, tf_word, ?_⟩
          walk_at "g"
          refine g_dec (fun h => absurd h (show ("never" : Str) ≠ "among" by decide +kernel)) (fun _ => ?_)
          walk_at "g"
          refine ⟨p, _, dx, _, _, rfl, hp3, T.cl_Test, T.n_Test_word, tf_word, ?_⟩
          walk_at "g"
          rw [decide_eq_false (show ¬ At.never.word = Str.ofString "begins" from (show ¬ ("never" : Str) = "begins" by decide +kernel))]
          walk_at "g"
          exact q H3 xx
      | empty c =>
          obtain ⟨k, hkc⟩ := kk c List.mem_cons_self
          have q : ∀ H', XT H H' → Q (.bl (knd cs c).isSome) H' := q
          rw [hkc] at q
          refine ⟨p, _, dx, _, _, rfl, hp3, T.cl_Test, T.n_Test_word, tf_word, ?_⟩
          walk_at "g"
          refine g_dec (fun h => absurd h (show ("empty" : Str) ≠ "compare" by decide +kernel)) (fun _ => ?_)
          walk_at "g"
          refine ⟨p, _, dx, _, _, rfl, hp3, T.cl_Test, T.n_Test_word, tf_word, ?_⟩
          walk_at "g"
          refine g_dec (fun h => absurd h (show ("empty" : Str) ≠ "against" by decide +kernel)) (fun _ => ?_)
          walk_at "g"
          refine ⟨p, _, dx, _, _, rfl, hp3, T.cl_Test, T.n_Test_word, tf_word, ?_⟩
          walk_at "g"
          refine g_dec (fun h => absurd h (show ("empty" : Str) ≠ "among" by decide +kernel)) (fun _ => ?_)
          walk_at "g"
          refine ⟨p, _, dx, _, _, rfl, hp3, T.cl_Test, T.n_Test_word, tf_word, ?_⟩
          walk_at "g"
          rw [decide_eq_false (show ¬ (At.empty c).word = Str.ofString "begins" from (show ¬ ("empty" : Str) = "begins" by decide +kernel))]
          walk_at "g"
          exact q H3 xx
      | begins c z =>
          obtain ⟨k, hkc⟩ := kk c List.mem_cons_self
          have q : ∀ H', XT H H' → Q (.bl (decide (knd cs c = some true))) H' := q
          have e3 : H3 L2 = some (.lst [.str (kS ((knd cs c).getD false))]) := e3
          rw [hkc] at q e3
          have e3 : H3 L2 = some (.lst [.str (kS k)]) := e3
          refine ⟨p, _, dx, _, _, rfl, hp3, T.cl_Test, T.n_Test_word, tf_word, ?_⟩
          walk_at "g"
          refine g_dec (fun h => absurd h (show ("begins" : Str) ≠ "compare" by decide +kernel)) (fun _ => ?_)
          walk_at "g"
          refine ⟨p, _, dx, _, _, rfl, hp3, T.cl_Test, T.n_Test_word, tf_word, ?_⟩
          walk_at "g"
          refine g_dec (fun h => absurd h (show ("begins" : Str) ≠ "against" by decide +kernel)) (fun _ => ?_)
          walk_at "g"
          refine ⟨p, _, dx, _, _, rfl, hp3, T.cl_Test, T.n_Test_word, tf_word, ?_⟩
          walk_at "g"
          refine g_dec (fun h => absurd h (show ("begins" : Str) ≠ "among" by decide +kernel)) (fun _ => ?_)
          walk_at "g"
          refine ⟨p, _, dx, _, _, rfl, hp3, T.cl_Test, T.n_Test_word, tf_word, ?_⟩
          walk_at "g"
          rw [decide_eq_true (show (At.begins c z).word = Str.ofString "begins" from rfl)]
          walk_at "g"
          have h := q H3 xx
          rw [show decide (some k = some true) = decide (kS k = Str.ofString "text") by cases k <;> decide +kernel] at h
          exact h
      | compare c op v =>
          obtain ⟨k, hkc⟩ := kk c List.mem_cons_self
          obtain ⟨_, _, kd, _, hvv⟩ := hw
          have q : ∀ H', XT H H' → Q (.bl (decide (knd cs c = some (kB v)))) H' := q
          have e3 : H3 L2 = some (.lst [.str (kS ((knd cs c).getD false))]) := e3
          rw [hkc] at q e3
          have e3 : H3 L2 = some (.lst [.str (kS k)]) := e3
          refine ⟨p, _, dx, _, _, rfl, hp3, T.cl_Test, T.n_Test_word, tf_word, ?_⟩
          walk_at "g"
          refine g_dec (fun _ => ?_) (fun h => absurd rfl h)
          walk_at "g"
          refine ⟨p, _, dx, _, _, rfl, hp3, T.cl_Test, T.n_Test_terms, tf_terms, ?_⟩
          walk_at "g"
          refine g_ixT (SqT.of hu3) (v := v) (by rfl) ?_
          walk_at "g"
          refine ⟨k, kd, v, rfl, hvv, fun H4 x4 => ?_⟩
          walk_at "g"
          have h := q H4 (xx.trans x4)
          rw [show decide (some k = some (kB v)) = decide (kB v = k) from decide_eq_decide.mpr ⟨fun h => by injection h with h; exact h.symm, fun h => by rw [h]⟩] at h
          exact h
      | among c vs =>
          obtain ⟨k, hkc⟩ := kk c List.mem_cons_self
          obtain ⟨_, _, h8, kd, _, hvv⟩ := hw
          have q : ∀ H', XT H H' → Q (.bl (amF (knd cs c) vs)) H' := q
          have e3 : H3 L2 = some (.lst [.str (kS ((knd cs c).getD false))]) := e3
          rw [hkc] at q e3
          have e3 : H3 L2 = some (.lst [.str (kS k)]) := e3
          have hu3 : H3 u = some (.tup vs) := hu3
          refine ⟨p, _, dx, _, _, rfl, hp3, T.cl_Test, T.n_Test_word, tf_word, ?_⟩
          walk_at "g"
          refine g_dec (fun h => absurd h (show ("among" : Str) ≠ "compare" by decide +kernel)) (fun _ => ?_)
          walk_at "g"
          refine ⟨p, _, dx, _, _, rfl, hp3, T.cl_Test, T.n_Test_word, tf_word, ?_⟩
          walk_at "g"
          refine g_dec (fun h => absurd h (show ("among" : Str) ≠ "against" by decide +kernel)) (fun _ => ?_)
          walk_at "g"
          refine ⟨p, _, dx, _, _, rfl, hp3, T.cl_Test, T.n_Test_word, tf_word, ?_⟩
          walk_at "g"
          refine g_dec (fun _ => ?_) (fun h => absurd rfl h)
          walk_at "g"
          refine ⟨p, _, dx, _, _, rfl, hp3, T.cl_Test, T.n_Test_terms, tf_terms, ?_⟩
          refine ⟨u, rfl, ⟨_, SqT.of hu3⟩, fun L4 hL4 => ?_⟩
          refine lc_new vs (fun i y _ => ∃ v, vs[i]? = some v ∧ y = .bl (decide (kB v = k))) hL4 (fun H4 k4 => fits_t (SqT.of (k4 _ _ hu3))) (by omega) (fun i y Ha Hb _ h _ => h) (fun i y Hh R S hy kh _ hR => ?_) (fun H4 ys x4 hW hyl hys => ?_)
          · walk_at "g"
            refine ⟨rfl, ?_⟩
            walk_at "g"
            refine g_ixL (SqL.of (kh _ _ e3)) (v := .str (kS k)) (show atI [V.str (kS k)] 0 = some (V.str (kS k)) from rfl) ?_
            walk_at "g"
            refine ⟨k, kd, y, rfl, hvv y (List.mem_of_getElem? hy), fun H5 x5 => ?_⟩
            exact hR _ _ x5 ⟨y, hy, rfl⟩
          · obtain rfl : ys = (vs.map fun v => decide (kB v = k)).map V.bl := by
              refine List.ext_getElem (by rw [hyl, List.length_map, List.length_map]) fun i g1 g2 => ?_
              obtain ⟨v, hv, e⟩ := hys i ys[i] (List.getElem?_eq_getElem g1)
              rw [e, List.getElem_map, List.getElem_map]
              obtain ⟨h3, h4⟩ := List.getElem?_eq_some_iff.mp hv
              rw [h4]
            walk_at "g"
            refine ⟨L4, vs.map fun v => decide (kB v = k), rfl, SqL.of hW, ?_⟩
            walk_at "g"
            have h := q H4 (xx.trans x4)
            rw [show amF (some k) vs = (vs.map fun v => decide (kB v = k)).all id by rw [List.all_map]; rfl] at h
            exact h
      | against c op d n =>
          obtain ⟨k, hkc⟩ := kk c List.mem_cons_self
          obtain ⟨k2, hkd⟩ := kk d (List.mem_cons_of_mem _ List.mem_cons_self)
          have q : ∀ H', XT H H' → Q (.bl (agF (knd cs c) (knd cs d) n)) H' := q
          have e3 : H3 L2 = some (.lst [.str (kS ((knd cs c).getD false)), .str (kS ((knd cs d).getD false))]) := e3
          rw [hkc, hkd] at q e3
          have q : ∀ H', XT H H' → Q (.bl (decide (k = k2) && (!k || decide (n = 0)))) H' := q
          have e3 : H3 L2 = some (.lst [.str (kS k), .str (kS k2)]) := e3
          refine ⟨p, _, dx, _, _, rfl, hp3, T.cl_Test, T.n_Test_word, tf_word, ?_⟩
          walk_at "g"
          refine g_dec (fun h => absurd h (show ("against" : Str) ≠ "compare" by decide +kernel)) (fun _ => ?_)
          walk_at "g"
          refine ⟨p, _, dx, _, _, rfl, hp3, T.cl_Test, T.n_Test_word, tf_word, ?_⟩
          walk_at "g"
          refine g_dec (fun _ => ?_) (fun h => absurd rfl h)
          walk_at "g"
          rw [kS_dec]
          by_cases hkk : k = k2
          · rw [decide_eq_true hkk] at q
            rw [decide_eq_true hkk]
            walk_at "g"
            cases k with
            | false =>
              rw [decide_eq_true (show kS false = Str.ofString "number" from rfl)]
              walk_at "g"
              exact q H3 xx
            | true =>
              rw [decide_eq_false (show ¬ kS true = Str.ofString "number" by decide +kernel)]
              walk_at "g"
              refine ⟨p, _, dx, _, _, rfl, hp3, T.cl_Test, T.n_Test_terms, tf_terms, ?_⟩
              walk_at "g"
              refine g_ixT (SqT.of hu3) (v := .int n) (by rfl) ?_
              walk_at "g"
              exact q H3 xx
          · rw [decide_eq_false hkk] at q
            rw [decide_eq_false hkk]
            walk_at "g"
            exact q H3 xx
end
def spIsFitting (C : Addr) : Sp := fun vs H Q _ => ∃ (D p : Addr) (cs : List Col) (kvs : List (Key × V)) (f : Fm) (κ : List (Str × Bool)), vs = [.ref D, .ref p] ∧ H D = some (.dK kvs) ∧ keysP kvs (cs.map (·.1)) ∧ SpotsAt H kvs cs ∧ TestAt C H f.ts p ∧ f.Wf κ ∧ f.ts.depth ≤ 12 ∧ f.ts.size ≤ 24 ∧ ∀ H', XT H H' → Q (.bl (f.fits cs)) H'
section
variable {P : Program} {w : World} {K : PySem.W.Frag} {mg : Str → Option Value} {base : Heap}
theorem ok_is_fitting (T : Txt K mg) : Def P w K mg base 14 "is_fitting" ["spots", "thing"] (spIsFitting (cadr mg "Test")) := by
  obtain ⟨f, fd, h⟩ := T.d_is_fitting
  refine h.def (Fun.okM h.fn sc_is_fitting (fun vs H Q E h => ?_) (fun cdv A outer s H vs Q E hr h => ?_))
  · obtain ⟨D, p, cs, kvs, f, κ, rfl, _⟩ := h
    rfl
  · obtain ⟨D, p, cs, kvs, ff, κ, rfl, hD, hk, hS, hA, hw, hd, hz, q⟩ := h
    obtain ⟨dx, i, f0, u, qs, hp, _⟩ := hA.node
    obtain ⟨as, hAs⟩ := hA.as
    refine ⟨_, (pss_one (ps_ret (pe_and (pe_callB (call_isiG (K := K) rfl) (by rfl) T.h_isinstance (by decide +kernel) (pa_cons (pv 1) (pa_cons (pe_cls rfl T.e_Test) pa_nil))) (pe_one (pe_callB (cr_all rfl) (by rfl) T.h_all (by decide +kernel) (pa_cons (pe_lc (own := [("atom", 2)]) rfl sc_is_fitting.nd (pi_list (pe_me0 (pv 1) T.cl_Test (ok_Test_atoms T) hr)) (blkOk_by (N := N_is_fitting) (sc := defScope S_is_fitting) (by decide +kernel)) (fun _ _ _ _ _ => pg_name (i := 2) sc_is_fitting.nd rfl (Or.inl rfl)) (fun _ _ _ _ _ => pts_nil) (fun _ _ _ _ _ => (pe_def (ok_atom_fits T) hr rfl (pa_cons (pv 0) (pa_cons (pv 2) pa_nil))))) pa_nil)))))), ?_⟩
    walk_at "g"
    refine g_isOwn T.is_Test T.cl_Test hp ?_
    walk_at "g"
    refine ⟨p, dx, _, rfl, hp, tf_atoms, ?_⟩
    walk_at "g"
    refine ⟨p, ff.ts, as, rfl, hAs, hd, by omega, fun l H1 hl x1 e1 => ?_⟩
    have hrow := (hAs.keep x1).row
    rw [ff.ts_atoms] at hrow
    have hlen := hrow.len
    rw [List.length_map, Fm.ats_len] at hlen
    refine ⟨l, rfl, ⟨_, SqL.of e1⟩, fun L hL => ?_⟩
    refine lc_new (as.map V.ref) (fun i y _ => ∃ a, ff.ats[i]? = some a ∧ y = .bl (a.fits cs)) hL (fun H2 k2 => fits_l (SqL.of (k2 _ _ e1))) (by rw [List.length_map]; omega) (fun i y Ha Hb _ h _ => h) (fun i y Hh R S hy kh _ hR => ?_) (fun H2 ys x2 hW hyl hys => ?_)
    · rw [List.getElem?_map] at hy
      obtain ⟨r, hr', rfl⟩ := Option.map_eq_some_iff.mp hy
      obtain ⟨t, ht, hT⟩ := hrow.get hr'
      rw [List.getElem?_map] at ht
      obtain ⟨a, ha, rfl⟩ := Option.map_eq_some_iff.mp ht
      walk_at "g"
      refine ⟨rfl, ?_⟩
      walk_at "g"
      exact ⟨D, r, cs, kvs, a, κ, rfl, kh _ _ (x1 _ _ hD), hk, (hS.keep x1).keep kh, hT.keep kh, Fm.ats_wf hw a (List.mem_of_getElem? ha), fun H3 x3 => hR _ _ x3 ⟨a, ha, rfl⟩⟩
    · obtain rfl : ys = (ff.ats.map fun a => a.fits cs).map V.bl := by
        refine List.ext_getElem (by rw [hyl, List.length_map, List.length_map, List.length_map, hlen, Fm.ats_len]) fun i g1 g2 => ?_
        obtain ⟨a, ha, e⟩ := hys i _ (List.getElem?_eq_getElem g1)
        rw [e, List.getElem_map, List.getElem_map]
        obtain ⟨h3, h4⟩ := List.getElem?_eq_some_iff.mp ha
        rw [h4]
      walk_at "g"
      refine ⟨L, ff.ats.map fun a => a.fits cs, rfl, SqL.of hW, ?_⟩
      walk_at "g"
      have h := q H2 (XT.trans x1 x2)
      rw [show ff.fits cs = (ff.ats.map fun a => a.fits cs).all id by rw [List.all_map]; rfl] at h
      exact h
end
/-! checks that may not fit -/
def xshw (w : Str) (i : Int) : HO := .xd [(("why" : Str), .str w), (("at" : Str), .int i)]
theorem g_raiseBS {C : Addr} {W : WX} {ta : TA} {D : Ends} {σ : L2.St} {H : Hp} (q : ta σ H fun vs H1 => ∃ v u, vs = [v, u] ∧ ∀ d, H1 d = none → W (.ref C) (some d) σ (upd H1 d (.xd [(("why" : Str), v), (("at" : Str), u)]))) : tRaiseBadShape C W ta D σ H := q
structure FitAt (C : Addr) (H : Hp) (f : Fm) (p : Addr) : Prop where
  te : TestAt C H f.ts p
  wf : ∃ κ, f.Wf κ
  dp : f.ts.depth ≤ 12
  sz : f.ts.size ≤ 24
theorem FitAt.keep {C p : Addr} {H H' : Hp} {f : Fm} (h : FitAt C H f p) (k : XT H H') : FitAt C H' f p := ⟨h.te.keep k, h.wf, h.dp, h.sz⟩
theorem RF.at {R : Fm → Addr → Prop} : ∀ {ts : List Fm} {qs : List Addr} {i : Nat} {q : Addr}, RF R ts qs → qs[i]? = some q → ∃ t, ts[i]? = some t ∧ R t q
  | _, _, i, _, .nil, h => by simp at h
  | _, _, 0, _, .cons a r, h => by
    simp at h
    subst h
    exact ⟨_, rfl, a⟩
  | _, _, i + 1, _, .cons a r, h => by
    simp at h
    obtain ⟨t, e, x⟩ := r.at h
    exact ⟨t, by simpa using e, x⟩
def spNeedCh (C CB : Addr) : Sp := fun vs H Q E => ∃ (D p : Addr) (cs : List Col) (kvs : List (Key × V)) (fs : List Fm) (qs : List Addr), vs = [.ref D, .ref p] ∧ H D = some (.dK kvs) ∧ keysP kvs (cs.map (·.1)) ∧ SpotsAt H kvs cs ∧
  (H p = some (.lst (qs.map V.ref)) ∨ H p = some (.tup (qs.map V.ref))) ∧ RF (FitAt C H) fs qs ∧ fs.length ≤ 9 ∧
  (∀ (i : Nat) f, fs[i]? = some f → f.fits cs = false → (∀ g ∈ fs.take i, g.fits cs = true) → ∀ e H', XT H H' → H' e = some (xshw "checks" i) → E (.ref CB) (some e) H') ∧ ((∀ f ∈ fs, f.fits cs = true) → ∀ H', XT H H' → Q .non H')
section
variable {P : Program} {w : World} {K : PySem.W.Frag} {mg : Str → Option Value} {base : Heap}
theorem ok_need_checks (T : Txt K mg) : DefX P w K mg base 15 "need_checks" ["spots", "checks"] (spNeedCh (cadr mg "Test") (cadr mg "BadShape")) := by
  obtain ⟨f, fd, h⟩ := T.d_need_checks
  obtain ⟨t_MOST_RULES, G_MOST_RULES⟩ := T.k_MOST_RULES
  obtain ⟨fE_BadShape, EB_BadShape⟩ := T.x_BadShape
  refine h.defX (Fun.okMX h.fn sc_need_checks (fun vs H Q E h => ?_) (fun cdv A outer s H vs Q E hr h => ?_))
  · obtain ⟨D, p, cs, kvs, fs, qs, rfl, _⟩ := h
    rfl
  · obtain ⟨D, p, cs, kvs, fs, qs, rfl, hD, hk, hS, hp, hR, hl, kE, kQ⟩ := h
    have hql := hR.len
    refine ⟨_, (pss_cons (ps_if (pt_not (pt_val (pe_def (ok_is_short T) hr rfl (pa_cons (pv 1) (pa_cons pe_int (pa_cons (pe_glob (v := .int 9) rfl G_MOST_RULES ⟨_, rfl⟩) pa_nil))))))
  (pss_one (ps_raiseBadShape rfl EB_BadShape hr (takes_of rfl rfl rfl rfl) (pa_cons pe_str (pa_cons (pe_un un_negG pe_int) pa_nil))))
  pss_nil)
  (pss_one (ps_for (passes_of rfl) rfl (pi_enumG (K := K) rfl (by rfl) T.h_enumerate (pa_cons (pv 1) pa_nil)) (pg_tupG (K := K) (n := 2) rfl rfl (pgs_cons (pg_name (i := 2) sc_need_checks.nd rfl (Or.inl rfl)) (pgs_cons (pg_name (i := 3) sc_need_checks.nd rfl (Or.inl rfl)) pgs_nil)))
  (pss_one (ps_if (pt_not (pt_val (pe_def (ok_is_fitting T) hr rfl (pa_cons (pv 0) (pa_cons (pv 3) pa_nil)))))
  (pss_one (ps_raiseBadShape rfl EB_BadShape hr (takes_of rfl rfl rfl rfl) (pa_cons pe_str (pa_cons (pv 2) pa_nil))))
  pss_nil))))), ?_⟩
    walk_at "g"
    refine ⟨_, _, _, rfl, .inr ⟨p, qs.map V.ref, rfl, hp.imp id SqT.of, fun H1 x1 => ?_⟩⟩
    rw [show (decide ((0 : Int) ≤ ((qs.map V.ref).length : Int)) && decide (((qs.map V.ref).length : Int) ≤ 9)) = true by
      rw [List.length_map, decide_eq_true (by omega), decide_eq_true (by omega)]; rfl]
    walk_at "g"
    refine g_enumG ?_
    walk_at "g"
    refine ⟨p, qs.map V.ref, rfl, hp.imp (fun h => SqL.of (x1 _ _ h)) (fun h => SqT.of (x1 _ _ h)), fun J hJ => ?_⟩
    refine for_enumA (xs := qs.map V.ref) (fun i σ' H' => (∃ s2 s3, σ' = [some (.ref D), some (.ref p), s2, s3]) ∧ XT H H' ∧ ∀ g ∈ fs.take i, g.fits cs = true) ⟨⟨none, none, rfl⟩, x1, fun g hg => nomatch hg⟩ ?_ ?_ ?_
    · rintro i σ' H' hi ⟨_, x3, _⟩
      refine hJ H' ?_
      rcases hp with h | h
      · rw [x3 _ _ h, x1 _ _ h]
      · rw [x3 _ _ h, x1 _ _ h]
    · rintro i v t σ' H3 D' hv ⟨⟨s2, s3, rfl⟩, x3, hall⟩ ht hnx hct hbk hrt
      rw [List.getElem?_map] at hv
      obtain ⟨q, hq, rfl⟩ := Option.map_eq_some_iff.mp hv
      obtain ⟨ff, hff, hF⟩ := hR.at hq
      obtain ⟨κ, hw⟩ := hF.wf
      have x4 := x3.new (o := .tup [.int (i : Nat), .ref q]) ht
      refine g_gtup upd_same rfl ?_
      refine g_gcons ?_
      walk_at "g"
      refine g_gcons ?_
      walk_at "g"
      refine g_gnil ?_
      generalize upd H3 t (.tup [.int (i : Nat), .ref q]) = H4 at x4
      walk_at "g"
      refine ⟨D, q, cs, kvs, ff, κ, rfl, x4 _ _ hD, hk, hS.keep x4, (hF.keep x4).te, hw, hF.dp, hF.sz, fun H5 x5 => ?_⟩
      have x45 := x4.trans x5
      cases e : ff.fits cs with
      | false =>
        walk_at "g"
        refine g_raiseBS ?_
        walk_at "g"
        exact ⟨_, _, rfl, fun d hdn => kE i ff hff e hall d _ (x45.new hdn) upd_same⟩
      | true =>
        walk_at "g"
        refine hnx _ _ ⟨⟨_, _, rfl⟩, x45, fun g hg => ?_⟩
        rw [List.take_succ, hff] at hg
        rcases List.mem_append.mp hg with hg | hg
        · exact hall g hg
        · rw [List.mem_singleton.mp hg]; exact e
    · rintro σ' H' ⟨⟨s2, s3, rfl⟩, x3, hall⟩
      rw [List.length_map, hql, List.take_length] at hall
      exact kQ hall _ x3
end
theorem g_lenA {K : PySem.W.Frag} {H : Hp} {p : Addr} {xs : List V} {Q : VK} (h : H p = some (.lst xs) ∨ H p = some (.tup xs)) (q : Q (.int (xs.length : Int)) H) : rLenG K [.ref p] H Q := by
  rcases h with h | h
  · exact g_lenL (SqL.of h) q
  · exact g_lenT (SqT.of h) q
theorem seq_ty {K : PySem.W.Frag} {H : Hp} {p : Addr} {xs : List V} (h : H p = some (.lst xs) ∨ H p = some (.tup xs)) : ∃ Tn, Tn ∈ kinds7 ∧ (∀ H', XT H H' → TyX K H' (.ref p) (.type Tn)) ∧ decide (Tn = "list" ∨ Tn = "tuple") = true := by
  rcases h with hp | hp
  · exact ⟨"list", by decide, fun H' x => .base (.lst (x _ _ hp)), by decide⟩
  · exact ⟨"tuple", by decide, fun H' x => .base (.tup (x _ _ hp)), by decide⟩
theorem seq_same {H H' : Hp} {p : Addr} {xs : List V} (h : H p = some (.lst xs) ∨ H p = some (.tup xs)) (k : XT H H') : H' p = H p := by
  rcases h with h | h <;> rw [h, k _ _ h]
theorem scan12 {n : Nat} (h : n ≤ 12) : n + 1 < scanBound := Nat.lt_of_le_of_lt (Nat.succ_le_succ h) (by decide)
theorem dup_less : ∀ {ns : List Str}, ¬ ns.Nodup → ∃ ms : List Str, ms.length + 1 = ns.length ∧ ∀ k ∈ ns, k ∈ ms
  | [], h => absurd List.nodup_nil h
  | x :: r, h => by
    by_cases hx : x ∈ r
    · exact ⟨r, rfl, fun k hk => (List.mem_cons.mp hk).elim (fun e => e ▸ hx) id⟩
    · obtain ⟨ms, h1, h2⟩ := dup_less fun hr => h (List.nodup_cons.mpr ⟨hx, hr⟩)
      exact ⟨x :: ms, by rw [List.length_cons, List.length_cons, h1], fun k hk => (List.mem_cons.mp hk).elim (fun e => e ▸ List.mem_cons_self) fun e => List.mem_cons_of_mem _ (h2 k e)⟩
theorem len_nodup {ns zs : List Str} (z1 : zs.Nodup) (z2 : ∀ k, k ∈ zs ↔ k ∈ ns) : zs.length = ns.length ↔ ns.Nodup := by
  constructor
  · intro e
    refine Classical.byContradiction fun hn => ?_
    obtain ⟨ms, h1, h2⟩ := dup_less hn
    have := nodup_le z1 fun k hk => h2 k ((z2 k).mp hk)
    omega
  · exact nodup_len z1 z2
/-- whether a thing begins with a word -/
def Wd (H : Hp) (v : V) (b : Bool) : Prop := (∃ T : String, T ∈ kinds7 ∧ TyOf7 H v T ∧ T ≠ "list" ∧ T ≠ "tuple" ∧ b = false) ∨ ∃ (p : Addr) (xs : List V), v = .ref p ∧ (H p = some (.lst xs) ∨ H p = some (.tup xs)) ∧
  ((xs = [] ∧ b = false) ∨ (∃ z r, xs = .str z :: r ∧ b = true) ∨ ∃ l r ys, xs = .ref l :: r ∧ H l = some (.lst ys) ∧ b = false)
def spWorded : Sp := fun vs H Q _ => ∃ v b, vs = [v] ∧ Wd H v b ∧ ∀ H', XT H H' → Q (.bl b) H'
def spAreNames : Sp := fun vs H Q _ => ∃ (v : V) (a b : Int) (r : Bool), vs = [v, .int a, .int b] ∧ ((∃ T : String, T ∈ kinds7 ∧ TyOf7 H v T ∧ T ≠ "list" ∧ T ≠ "tuple" ∧ r = false) ∨
  ∃ (l : Addr) (ns : List Str), v = .ref l ∧ (H l = some (.lst (ns.map V.str)) ∨ H l = some (.tup (ns.map V.str))) ∧ ns.length ≤ 12 ∧ (∀ z ∈ ns, z.length ≤ 100) ∧ (r = true ↔ (a ≤ ns.length ∧ (ns.length : Int) ≤ b ∧ (∀ n ∈ ns, nameP n) ∧ ns.Nodup))) ∧ ∀ H', XT H H' → Q (.bl r) H'
section
variable {P : Program} {w : World} {K : PySem.W.Frag} {mg : Str → Option Value} {base : Heap}
theorem ok_is_worded (T : Txt K mg) : Def P w K mg base 2 "is_worded" ["thing"] spWorded := by
  obtain ⟨f, fd, h⟩ := T.d_is_worded
  refine h.def (Fun.okM h.fn sc_is_worded (fun vs H Q E h => ?_) (fun cdv A outer s H vs Q E hr h => ?_))
  · obtain ⟨v, b, rfl, _⟩ := h
    rfl
  · obtain ⟨v, b, rfl, hw, k⟩ := h
    refine ⟨_, (pss_one (ps_ret (pe_and (pe_def (ok_is_sequence T) hr rfl (pa_cons (pv 0) pa_nil)) (pe_and (pe_cmpR op_gtG (pe_callB (call_lenG (K := K) rfl) (by rfl) T.h_len (by decide +kernel) (pa_cons (pv 0) pa_nil)) pe_int (nomark _)) (pe_one (pe_callB (call_isiG (K := K) rfl) (by rfl) T.h_isinstance (by decide +kernel) (pa_cons (pe_ix (ix_seqG (K := K) rfl) (pv 0) pe_int (fun _ _ => rfl)) (pa_cons (pe_bltn (v := .ty "str") (by rfl) T.h_str (by decide +kernel) rfl) pa_nil)))))))), ?_⟩
    rcases hw with ⟨T, hT, ty, n, m, rfl⟩ | ⟨p, xs, rfl, hp, hx⟩
    · walk_at "g"
      refine ⟨v, T, rfl, hT, fun H' x => (ty.keep x).x K, fun H' x => ?_⟩
      rw [decide_eq_false (fun h => h.elim n m)]
      walk_at "g"
      exact k _ x
    · obtain ⟨Tn, h1, h2, h3⟩ := seq_ty (K := K) hp
      walk_at "g"
      refine ⟨.ref p, Tn, rfl, h1, h2, fun H1 x1 => ?_⟩
      rw [h3]
      walk_at "g"
      refine g_lenA (seq_keep hp x1) ?_
      walk_at "g"
      rcases hx with ⟨rfl, rfl⟩ | ⟨z, r, rfl, rfl⟩ | ⟨l, r, ys, rfl, hl, rfl⟩
      · rw [decide_eq_false (show ¬ (0 : Int) < (([] : List V).length : Int) by decide)]
        walk_at "g"
        exact k _ x1
      · rw [decide_eq_true (show (0 : Int) < (((.str z : V) :: r).length : Int) by rw [List.length_cons]; omega)]
        walk_at "g"
        refine g_ixA (seq_keep hp x1) (v := .str z) (atI_nat (j := 0) rfl) ?_
        walk_at "g"
        exact k _ x1
      · rw [decide_eq_true (show (0 : Int) < (((.ref l : V) :: r).length : Int) by rw [List.length_cons]; omega)]
        walk_at "g"
        refine g_ixA (seq_keep hp x1) (v := .ref l) (atI_nat (j := 0) rfl) ?_
        walk_at "g"
        refine g_isi (.base (.lst (x1 _ _ hl))) (show kitB "list" "str" = some false by decide +kernel) ?_
        exact k _ x1
theorem ok_are_names (T : Txt K mg) : Def P w K mg base 3 "are_names" ["thing", "least", "most"] spAreNames := by
  obtain ⟨f, fd, h⟩ := T.d_are_names
  refine h.def (Fun.okM h.fn sc_are_names (fun vs H Q E h => ?_) (fun cdv A outer s H vs Q E hr h => ?_))
  · obtain ⟨v, a, b, r, rfl, _⟩ := h
    rfl
  · obtain ⟨v, a, b, r, rfl, hv, k⟩ := h
    refine ⟨_, (pss_cons (ps_if (PW.pt (pw_or (pt_not (pt_val (pe_def (ok_is_short T) hr rfl (pa_cons (pv 0) (pa_cons (pv 1) (pa_cons (pv 2) pa_nil)))))) (pw_or1 (pt_not (pt_val (pe_callB (cr_all rfl) (by rfl) T.h_all (by decide +kernel) (pa_cons (pe_lc (own := [("name", 3)]) rfl sc_are_names.nd (pi_seqG (K := K) rfl (pv 0)) (blkOk_by (N := N_are_names) (sc := defScope S_are_names) (by decide +kernel)) (fun _ _ _ _ _ => pg_name (i := 3) sc_are_names.nd rfl (Or.inl rfl)) (fun _ _ _ _ _ => pts_nil) (fun _ _ _ _ _ => (pe_def (ok_is_name T) hr rfl (pa_cons (pv 3) pa_nil)))) pa_nil)))))))
  (pss_one (ps_ret pe_bl))
  pss_nil)
  (pss_one (ps_ret (pe_cmpR op_eq (pe_lenSetX (K := K) rfl rfl rfl T.h_len rfl T.h_set (pv 0)) (pe_callB (call_lenG (K := K) rfl) (by rfl) T.h_len (by decide +kernel) (pa_cons (pv 0) pa_nil)) (nomark _))))), ?_⟩
    rcases hv with ⟨T, hT, ty, n, m, rfl⟩ | ⟨l, ns, rfl, hl, h12, hz, hr⟩
    · walk_at "g"
      refine ⟨v, a, b, rfl, .inl ⟨T, hT, ty, n, m, fun H1 x1 => ?_⟩⟩
      walk_at "g"
      exact k _ x1
    · have no : ∀ {H'}, XT H H' → ¬ (a ≤ ns.length ∧ (ns.length : Int) ≤ b ∧ (∀ n ∈ ns, nameP n) ∧ ns.Nodup) → Q (.bl false) H' := fun {H'} x hn => by
        have e : r = false := by
          cases r with
          | false => rfl
          | true => exact absurd (hr.mp rfl) hn
        rw [← e]
        exact k _ x
      walk_at "g"
      refine ⟨.ref l, a, b, rfl, .inr ⟨l, _, rfl, seq_t hl, fun H1 x1 => ?_⟩⟩
      by_cases hab : a ≤ ((ns.map V.str).length : Int) ∧ ((ns.map V.str).length : Int) ≤ b
      · rw [decide_eq_true hab.1, decide_eq_true hab.2]
        rw [show (true && true) = true from rfl]
        rw [List.length_map] at hab
        have hl1 := seq_keep hl x1
        walk_at "g"
        refine g_seqG ?_
        walk_at "g"
        refine ⟨l, ns.map V.str, rfl, seq_a hl1, fun J hJ D hD => ?_⟩
        refine lc_new (ns.map V.str) (fun i y _ => ∃ z, ns[i]? = some z ∧ y = .bl (nameB (.str z))) hD (fun H2 k2 => hJ H2 (seq_same hl1 k2)) (by rw [List.length_map]; omega) (fun i y Ha Hb _ h _ => h) (fun i y Hh R S hy kh _ hR => ?_) (fun H2 ys x2 hW hyl hys => ?_)
        · rw [List.getElem?_map] at hy
          obtain ⟨z, hzi, rfl⟩ := Option.map_eq_some_iff.mp hy
          walk_at "g"
          refine ⟨rfl, ?_⟩
          walk_at "g"
          refine ⟨_, rfl, .inr (.inr (.inr (.inl ⟨_, rfl, hz z (List.mem_of_getElem? hzi)⟩))), fun H3 x3 => ?_⟩
          exact hR _ _ x3 ⟨z, hzi, rfl⟩
        · obtain rfl : ys = (ns.map fun z => nameB (.str z)).map V.bl := by
            refine List.ext_getElem (by rw [hyl, List.length_map, List.length_map, List.length_map]) fun i g1 g2 => ?_
            obtain ⟨z, hz1, hz2⟩ := hys i _ (List.getElem?_eq_getElem g1)
            obtain ⟨h0, h00⟩ := List.getElem?_eq_some_iff.mp hz1
            rw [hz2, List.getElem_map, List.getElem_map, h00]
          have hl2 := seq_keep hl1 x2
          walk_at "g"
          refine ⟨D, ns.map fun z => nameB (.str z), rfl, SqL.of hW, ?_⟩
          by_cases hall : ∀ n ∈ ns, nameP n
          · rw [show (ns.map fun z => nameB (.str z)).all id = true by
              rw [List.all_map]
              exact List.all_eq_true.mpr fun z hm => nameB_str.mpr (hall z hm)]
            walk_at "g"
            refine g_lenSetX ?_
            walk_at "g"
            refine ⟨l, ns, rfl, hl2.elim (fun h => .inl (SqL.of h)) (fun h => .inr (SqT.of h)), scan12 h12, fun zs z1 z2 z3 => ?_⟩
            walk_at "g"
            refine g_lenA hl2 ?_
            walk_at "g"
            rw [List.length_map]
            by_cases hnd : ns.Nodup
            · rw [decide_eq_true (show (zs.length : Int) = ns.length by rw [(len_nodup z1 z2).mpr hnd])]
              have := k _ (x1.trans x2)
              rw [hr.mpr ⟨hab.1, hab.2, hall, hnd⟩] at this
              exact this
            · rw [decide_eq_false (show ¬ (zs.length : Int) = ns.length from fun e => hnd ((len_nodup z1 z2).mp (by omega)))]
              exact no (x1.trans x2) fun h => hnd h.2.2.2
          · rw [show (ns.map fun z => nameB (.str z)).all id = false by
              rw [List.all_map]
              refine Bool.eq_false_iff.mpr fun h => hall fun z hm => nameB_str.mp (List.all_eq_true.mp h z hm)]
            walk_at "g"
            exact no (x1.trans x2) fun h => hall h.2.2.1
      · have : (decide (a ≤ ((ns.map V.str).length : Int)) && decide (((ns.map V.str).length : Int) ≤ b)) = false := by
          by_cases h1 : a ≤ ((ns.map V.str).length : Int)
          · rw [decide_eq_true h1, decide_eq_false (fun h2 => hab ⟨h1, h2⟩)]; rfl
          · rw [decide_eq_false h1]; rfl
        rw [this]
        walk_at "g"
        rw [List.length_map] at hab
        exact no x1 fun h => hab ⟨h.1, h.2.1⟩
end
/-! keys that may not be keys -/
/-- what stands for a key's names -/
def NamesD (H : Hp) (cs : List Col) (y : V) (b : Bool) : Prop := (∃ T : String, T ∈ kinds7 ∧ TyOf7 H y T ∧ T ≠ "list" ∧ T ≠ "tuple" ∧ b = false) ∨
  ∃ (l : Addr) (ns : List Str), y = .ref l ∧ (H l = some (.lst (ns.map V.str)) ∨ H l = some (.tup (ns.map V.str))) ∧ ns.length ≤ 12 ∧ (∀ n ∈ ns, n.length ≤ 100) ∧ (b = true ↔ 1 ≤ ns.length ∧ ns.length ≤ 3 ∧ (∀ n ∈ ns, nameP n) ∧ ns.Nodup ∧ ∀ n ∈ ns, n ∈ cs.map (·.1))
/-- what stands for a key, and whether it is one -/
def KeyD (C : Addr) (H : Hp) (cs : List Col) (v : V) (r : Bool) : Prop := (∃ T : String, T ∈ kinds7 ∧ TyOf7 H v T ∧ T ≠ "list" ∧ T ≠ "tuple" ∧ r = false) ∨
  ∃ (p : Addr) (xs : List V), v = .ref p ∧ (H p = some (.lst xs) ∨ H p = some (.tup xs)) ∧ xs.length ≤ 9 ∧ ((xs.length ≠ 2 ∧ r = false) ∨
    ∃ y z b, xs = [y, z] ∧ NamesD H cs y b ∧ (b = false → r = false) ∧ (b = true → (z = .non ∧ r = true) ∨ ∃ t f, z = .ref t ∧ FitAt C H f t ∧ r = f.fits cs))
def spIsKey (C : Addr) : Sp := fun vs H Q _ => ∃ (D : Addr) (v : V) (cs : List Col) (kvs : List (Key × V)) (r : Bool), vs = [.ref D, v] ∧ H D = some (.dK kvs) ∧ keysP kvs (cs.map (·.1)) ∧ SpotsAt H kvs cs ∧ KeyD C H cs v r ∧ ∀ H', XT H H' → Q (.bl r) H'
section
variable {P : Program} {w : World} {K : PySem.W.Frag} {mg : Str → Option Value} {base : Heap}
theorem ok_is_key (T : Txt K mg) : Def P w K mg base 15 "is_key" ["spots", "thing"] (spIsKey (cadr mg "Test")) := by
  obtain ⟨f, fd, h⟩ := T.d_is_key
  obtain ⟨t_MOST_KEY_NAMES, G_MOST_KEY_NAMES⟩ := T.k_MOST_KEY_NAMES
  refine h.def (Fun.okM h.fn sc_is_key (fun vs H Q E h => ?_) (fun cdv A outer s H vs Q E hr h => ?_))
  · obtain ⟨D, v, cs, kvs, r, rfl, _⟩ := h
    rfl
  · obtain ⟨D, v, cs, kvs, r, rfl, hD, hk, hS, hv, q⟩ := h
    refine ⟨_, (pss_cons (ps_if (PW.pt (pw_or (pt_not (pt_val (pe_def (ok_is_short T) hr rfl (pa_cons (pv 1) (pa_cons pe_int (pa_cons pe_int pa_nil)))))) (pw_or1 (pt_not (pt_val (pe_def (ok_are_names T) hr rfl (pa_cons (pe_ix (ix_seqG (K := K) rfl) (pv 1) pe_int (fun _ _ => rfl)) (pa_cons pe_int (pa_cons (pe_glob (v := .int 3) rfl G_MOST_KEY_NAMES ⟨_, rfl⟩) pa_nil)))))))))
  (pss_one (ps_ret pe_bl))
  pss_nil)
  (pss_cons (ps_if (pt_not (pt_val (pe_callB (cr_all rfl) (by rfl) T.h_all (by decide +kernel) (pa_cons (pe_lc (own := [("name", 2)]) rfl sc_is_key.nd (pi_seqG (K := K) rfl (pe_ix (ix_seqG (K := K) rfl) (pv 1) pe_int (fun _ _ => rfl))) (blkOk_by (N := N_is_key) (sc := defScope S_is_key) (by decide +kernel)) (fun _ _ _ _ _ => pg_name (i := 2) sc_is_key.nd rfl (Or.inl rfl)) (fun _ _ _ _ _ => pts_nil) (fun _ _ _ _ _ => (pe_cmp (pc_din (hu_of hr) (pv 2) (pv 0))))) pa_nil))))
  (pss_one (ps_ret pe_bl))
  pss_nil)
  (pss_one (ps_ret (pe_or (pe_cmpR op_isNG (pe_ix (ix_seqG (K := K) rfl) (pv 1) pe_int (fun _ _ => rfl)) pe_non (nomark _)) (pe_one (pe_def (ok_is_fitting T) hr rfl (pa_cons (pv 0) (pa_cons (pe_ix (ix_seqG (K := K) rfl) (pv 1) pe_int (fun _ _ => rfl)) pa_nil))))))))), ?_⟩
    rcases hv with ⟨Tn, hT, ty, n1, n2, rfl⟩ | ⟨p, xs, rfl, hp, hx9, hx⟩
    · walk_at "g"
      refine ⟨v, _, _, rfl, .inl ⟨Tn, hT, ty, n1, n2, fun H1 x1 => ?_⟩⟩
      walk_at "g"
      exact q _ x1
    · walk_at "g"
      refine ⟨.ref p, _, _, rfl, .inr ⟨p, xs, rfl, hp.imp id SqT.of, fun H1 x1 => ?_⟩⟩
      rcases hx with ⟨hl, rfl⟩ | ⟨y, z, b, rfl, hy, hb0, hb1⟩
      · rw [show (decide ((2 : Int) ≤ (xs.length : Int)) && decide ((xs.length : Int) ≤ 2)) = false by
          by_cases h : (2 : Int) ≤ (xs.length : Int)
          · rw [decide_eq_true h, decide_eq_false (by omega)]; rfl
          · rw [decide_eq_false h]; rfl]
        walk_at "g"
        exact q _ x1
      · rw [show (decide ((2 : Int) ≤ (([y, z] : List V).length : Int)) && decide ((([y, z] : List V).length : Int) ≤ 2)) = true by rfl]
        have hp1 : H1 p = some (.lst [y, z]) ∨ H1 p = some (.tup [y, z]) := hp.imp (x1 _ _) (x1 _ _)
        walk_at "g"
        refine g_ixA hp1 (v := y) (atI_nat (j := 0) rfl) ?_
        walk_at "g"
        rcases hy with ⟨Tn, hT, ty, n1, n2, rfl⟩ | ⟨l, ns, rfl, hl, h12, hz, hb⟩
        · refine ⟨y, 1, 3, false, rfl, .inl ⟨Tn, hT, ty.keep x1, n1, n2, rfl⟩, fun H2 x2 => ?_⟩
          walk_at "g"
          rw [← hb0 rfl]
          exact q _ (x1.trans x2)
        · have hl1 : H1 l = some (.lst (ns.map V.str)) ∨ H1 l = some (.tup (ns.map V.str)) := hl.imp (x1 _ _) (x1 _ _)
          by_cases hn : (1 : Int) ≤ ns.length ∧ (ns.length : Int) ≤ 3 ∧ (∀ n ∈ ns, nameP n) ∧ ns.Nodup
          · refine ⟨.ref l, 1, 3, true, rfl, .inr ⟨l, ns, rfl, hl1, h12, hz, by simp only [true_iff]; exact hn⟩, fun H2 x2 => ?_⟩
            have x12 := x1.trans x2
            have hp2 := seq_keep hp x12
            have hl2 := seq_keep hl x12
            have hD2 := x12 _ _ hD
            walk_at "g"
            refine g_seqG ?_
            walk_at "g"
            refine g_ixA hp2 (v := .ref l) (atI_nat (j := 0) rfl) ?_
            refine ⟨l, ns.map V.str, rfl, seq_a hl2, fun J hJ L hL => ?_⟩
            refine lc_new (ns.map V.str) (fun i y _ => ∃ z, ns[i]? = some z ∧ y = .bl (decide (z ∈ cs.map (·.1)))) hL (fun H2 k2 => hJ H2 (seq_same hl2 k2)) (by rw [List.length_map]; omega) (fun i y Ha Hb _ h _ => h) (fun i y Hh R S hy kh _ hR => ?_) (fun H3 ys x3 hW hyl hys => ?_)
            · rw [List.getElem?_map] at hy
              obtain ⟨z, hzi, rfl⟩ := Option.map_eq_some_iff.mp hy
              walk_at "g"
              refine ⟨rfl, ?_⟩
              walk_at "g"
              refine ⟨D, _, rfl, DGet.k (k := Sum.inr z) (kh _ _ hD2), ?_⟩
              rw [hk z]
              exact hR _ _ (fun _ _ h => h) ⟨z, hzi, rfl⟩
            · obtain rfl : ys = (ns.map fun z => decide (z ∈ cs.map (·.1))).map V.bl := by
                refine List.ext_getElem (by rw [hyl, List.length_map, List.length_map, List.length_map]) fun i g1 g2 => ?_
                obtain ⟨z, hz1, hz2⟩ := hys i _ (List.getElem?_eq_getElem g1)
                obtain ⟨h0, h00⟩ := List.getElem?_eq_some_iff.mp hz1
                rw [hz2, List.getElem_map, List.getElem_map, h00]
              have hp3 := seq_keep hp2 x3
              have hD3 := x3 _ _ hD2
              walk_at "g"
              refine ⟨L, ns.map fun z => decide (z ∈ cs.map (·.1)), rfl, SqL.of hW, ?_⟩
              by_cases hall : ∀ n ∈ ns, n ∈ cs.map (·.1)
              · rw [show (ns.map fun z => decide (z ∈ cs.map (·.1))).all id = true by
                  rw [List.all_map]
                  exact List.all_eq_true.mpr fun z hm => decide_eq_true (hall z hm)]
                have hbt : b = true := hb.mpr ⟨by omega, by omega, hn.2.2.1, hn.2.2.2, hall⟩
                walk_at "g"
                refine g_ixA hp3 (v := z) (atI_nat (j := 1) rfl) ?_
                rcases hb1 hbt with ⟨rfl, rfl⟩ | ⟨t, f', rfl, hF, rfl⟩
                · walk_at "g"
                  exact q _ (x12.trans x3)
                · walk_at "g"
                  refine g_ixA hp3 (v := .ref t) (atI_nat (j := 1) rfl) ?_
                  walk_at "g"
                  have x03 := x12.trans x3
                  obtain ⟨κ, hw⟩ := hF.wf
                  refine ⟨D, t, cs, kvs, f', κ, rfl, hD3, hk, hS.keep x03, (hF.keep x03).te, hw, hF.dp, hF.sz, fun H4 x4 => ?_⟩
                  walk_at "g"
                  exact q _ (x03.trans x4)
              · rw [show (ns.map fun z => decide (z ∈ cs.map (·.1))).all id = false by
                  rw [List.all_map]
                  refine List.all_eq_false.mpr ?_
                  obtain ⟨n, h1⟩ := Classical.not_forall.mp hall
                  obtain ⟨h1, h2⟩ := Classical.not_imp.mp h1
                  exact ⟨n, h1, by show ¬ (decide (n ∈ cs.map (·.1)) = true); rw [decide_eq_false h2]; exact Bool.false_ne_true⟩]
                have hbf : b = false := by
                  cases b with
                  | false => rfl
                  | true => exact absurd (hb.mp rfl).2.2.2.2 hall
                walk_at "g"
                rw [← hb0 hbf]
                exact q _ (x12.trans x3)
          · refine ⟨.ref l, 1, 3, false, rfl, .inr ⟨l, ns, rfl, hl1, h12, hz, by simp only [Bool.false_eq_true, false_iff]; exact hn⟩, fun H2 x2 => ?_⟩
            have hbf : b = false := by
              cases b with
              | false => rfl
              | true =>
                obtain ⟨h1, h2, h3, h4, _⟩ := hb.mp rfl
                exact absurd ⟨by omega, by omega, h3, h4⟩ hn
            walk_at "g"
            rw [← hb0 hbf]
            exact q _ (x1.trans x2)
end
/-! keys that may not be keys, one by one -/
theorem NamesD.keep {H H' : Hp} {cs : List Col} {y : V} {b : Bool} (h : NamesD H cs y b) (k : XT H H') : NamesD H' cs y b := by
  rcases h with ⟨T, h1, h2, h3⟩ | ⟨l, ns, h1, h2, h3⟩
  · exact .inl ⟨T, h1, h2.keep k, h3⟩
  · exact .inr ⟨l, ns, h1, seq_keep h2 k, h3⟩
theorem KeyD.keep {C : Addr} {H H' : Hp} {cs : List Col} {v : V} {r : Bool} (h : KeyD C H cs v r) (k : XT H H') : KeyD C H' cs v r := by
  rcases h with ⟨T, h1, h2, h3⟩ | ⟨p, xs, h1, h2, h3, h4⟩
  · exact .inl ⟨T, h1, h2.keep k, h3⟩
  · refine .inr ⟨p, xs, h1, seq_keep h2 k, h3, ?_⟩
    rcases h4 with h4 | ⟨y, z, b, e, hy, hf, ht⟩
    · exact .inl h4
    · refine .inr ⟨y, z, b, e, hy.keep k, hf, fun hb => ?_⟩
      rcases ht hb with h | ⟨t, f, e1, e2, e3⟩
      · exact .inl h
      · exact .inr ⟨t, f, e1, e2.keep k, e3⟩
def spNeedKe (C CB : Addr) : Sp := fun vs H Q E => ∃ (D p : Addr) (cs : List Col) (kvs : List (Key × V)) (xs : List V) (rs : List Bool), vs = [.ref D, .ref p] ∧ H D = some (.dK kvs) ∧ keysP kvs (cs.map (·.1)) ∧ SpotsAt H kvs cs ∧
  (H p = some (.lst xs) ∨ H p = some (.tup xs)) ∧ xs.length = rs.length ∧ (∀ (i : Nat) v r, xs[i]? = some v → rs[i]? = some r → KeyD C H cs v r) ∧ rs.length ≤ 9 ∧
  (∀ (i : Nat), rs[i]? = some false → (∀ r ∈ rs.take i, r = true) → ∀ e H', XT H H' → H' e = some (xshw "keys" i) → E (.ref CB) (some e) H') ∧ ((∀ r ∈ rs, r = true) → ∀ H', XT H H' → Q .non H')
section
variable {P : Program} {w : World} {K : PySem.W.Frag} {mg : Str → Option Value} {base : Heap}
theorem ok_need_keys (T : Txt K mg) : DefX P w K mg base 16 "need_keys" ["spots", "keys"] (spNeedKe (cadr mg "Test") (cadr mg "BadShape")) := by
  obtain ⟨f, fd, h⟩ := T.d_need_keys
  obtain ⟨t_MOST_RULES, G_MOST_RULES⟩ := T.k_MOST_RULES
  obtain ⟨fE_BadShape, EB_BadShape⟩ := T.x_BadShape
  refine h.defX (Fun.okMX h.fn sc_need_keys (fun vs H Q E h => ?_) (fun cdv A outer s H vs Q E hr h => ?_))
  · obtain ⟨D, p, cs, kvs, xs, rs, rfl, _⟩ := h
    rfl
  · obtain ⟨D, p, cs, kvs, xs, rs, rfl, hD, hk, hS, hp, hlen, hKd, hl, kE, kQ⟩ := h
    refine ⟨_, (pss_cons (ps_if (pt_not (pt_val (pe_def (ok_is_short T) hr rfl (pa_cons (pv 1) (pa_cons pe_int (pa_cons (pe_glob (v := .int 9) rfl G_MOST_RULES ⟨_, rfl⟩) pa_nil))))))
  (pss_one (ps_raiseBadShape rfl EB_BadShape hr (takes_of rfl rfl rfl rfl) (pa_cons pe_str (pa_cons (pe_un un_negG pe_int) pa_nil))))
  pss_nil)
  (pss_one (ps_for (passes_of rfl) rfl (pi_enumG (K := K) rfl (by rfl) T.h_enumerate (pa_cons (pv 1) pa_nil)) (pg_tupG (K := K) (n := 2) rfl rfl (pgs_cons (pg_name (i := 2) sc_need_keys.nd rfl (Or.inl rfl)) (pgs_cons (pg_name (i := 3) sc_need_keys.nd rfl (Or.inl rfl)) pgs_nil)))
  (pss_one (ps_if (pt_not (pt_val (pe_def (ok_is_key T) hr rfl (pa_cons (pv 0) (pa_cons (pv 3) pa_nil)))))
  (pss_one (ps_raiseBadShape rfl EB_BadShape hr (takes_of rfl rfl rfl rfl) (pa_cons pe_str (pa_cons (pv 2) pa_nil))))
  pss_nil))))), ?_⟩
    walk_at "g"
    refine ⟨_, _, _, rfl, .inr ⟨p, xs, rfl, hp.imp id SqT.of, fun H1 x1 => ?_⟩⟩
    rw [show (decide ((0 : Int) ≤ (xs.length : Int)) && decide ((xs.length : Int) ≤ 9)) = true by
      rw [decide_eq_true (by omega), decide_eq_true (by omega)]; rfl]
    walk_at "g"
    refine g_enumG ?_
    walk_at "g"
    refine ⟨p, xs, rfl, seq_a (seq_keep hp x1), fun J hJ => ?_⟩
    refine for_enumA (xs := xs) (fun i σ' H' => (∃ s2 s3, σ' = [some (.ref D), some (.ref p), s2, s3]) ∧ XT H H' ∧ ∀ r ∈ rs.take i, r = true) ⟨⟨none, none, rfl⟩, x1, fun g hg => nomatch hg⟩ ?_ ?_ ?_
    · rintro i σ' H' hi ⟨_, x3, _⟩
      refine hJ H' ?_
      rcases hp with h | h
      · rw [x3 _ _ h, x1 _ _ h]
      · rw [x3 _ _ h, x1 _ _ h]
    · rintro i v t σ' H3 D' hv ⟨⟨s2, s3, rfl⟩, x3, hall⟩ ht hnx hct hbk hrt
      obtain ⟨r, hr'⟩ : ∃ r, rs[i]? = some r := ⟨_, List.getElem?_eq_getElem (by have := (List.getElem?_eq_some_iff.mp hv).1; omega)⟩
      have hKv := hKd i v r hv hr'
      have x4 := x3.new (o := .tup [.int (i : Nat), v]) ht
      refine g_gtup upd_same rfl ?_
      refine g_gcons ?_
      walk_at "g"
      refine g_gcons ?_
      walk_at "g"
      refine g_gnil ?_
      generalize upd H3 t (.tup [.int (i : Nat), v]) = H4 at x4
      walk_at "g"
      refine ⟨D, v, cs, kvs, r, rfl, x4 _ _ hD, hk, hS.keep x4, hKv.keep x4, fun H5 x5 => ?_⟩
      have x45 := x4.trans x5
      cases r with
      | false =>
        walk_at "g"
        refine g_raiseBS ?_
        walk_at "g"
        exact ⟨_, _, rfl, fun d hdn => kE i hr' hall d _ (x45.new hdn) upd_same⟩
      | true =>
        walk_at "g"
        refine hnx _ _ ⟨⟨_, _, rfl⟩, x45, fun g hg => ?_⟩
        rw [List.take_succ, hr'] at hg
        rcases List.mem_append.mp hg with hg | hg
        · exact hall g hg
        · rw [List.mem_singleton.mp hg]
    · rintro σ' H' ⟨⟨s2, s3, rfl⟩, x3, hall⟩
      rw [hlen, List.take_length] at hall
      exact kQ hall _ x3
end
theorem nd_ne {l : List Str} (h : l.Nodup) {i j : Nat} {a b : Str} (ha : l[i]? = some a) (hb : l[j]? = some b) (n : i ≠ j) : a ≠ b := fun e => by
  subst e
  exact n ((List.getElem?_inj (List.getElem?_eq_some_iff.mp ha).1 h).mp (ha.trans hb.symm))
theorem g_tupA {K : PySem.W.Frag} {H : Hp} {p : Addr} {xs : List V} {Q : VK} (h : H p = some (.lst xs) ∨ H p = some (.tup xs)) (q : ∀ t H', Ext H H' → H' t = some (.tup xs) → Q (.ref t) H') : rTupG K [.ref p] H Q := by
  rcases h with h | h
  · exact g_tupL (SqL.of h) fun t ht => q t _ (fun b o e => by rw [upd_ne (ne_of_none e ht)]; exact e) upd_same
  · exact g_tupT (SqT.of h) (q p H (fun _ _ e => e) h)
theorem over_ne {CS x dx p : Addr} {H : Hp} {o : HO} (hx : H x = some (.ins CS dx [])) (h : H p = some o) (n : ∀ C d l, o ≠ .ins C d l) : p ≠ x := fun z => by
  rw [z, hx] at h
  injection h with h
  exact n _ _ _ h.symm
theorem TyOf7.over {CS x dx : Addr} {H H' : Hp} {v : V} {T : String} (hx : H x = some (.ins CS dx [])) (kk : ∀ q o, q ≠ x → H q = some o → H' q = some o) (h : TyOf7 H v T) : TyOf7 H' v T := by
  cases h with
  | non => exact .non
  | bl b => exact .bl b
  | int i => exact .int i
  | str z => exact .str z
  | lst h => exact .lst (kk _ _ (over_ne hx h (fun _ _ _ e => nomatch e)) h)
  | tup h => exact .tup (kk _ _ (over_ne hx h (fun _ _ _ e => nomatch e)) h)
  | dct h => exact .dct (kk _ _ (over_ne hx h (fun _ _ _ e => nomatch e)) h)
theorem seq_over {CS x dx p : Addr} {H H' : Hp} {xs : List V} (hx : H x = some (.ins CS dx [])) (kk : ∀ q o, q ≠ x → H q = some o → H' q = some o) (h : H p = some (.lst xs) ∨ H p = some (.tup xs)) : H' p = some (.lst xs) ∨ H' p = some (.tup xs) := by
  rcases h with h | h
  · exact .inl (kk _ _ (over_ne hx h (fun _ _ _ e => nomatch e)) h)
  · exact .inr (kk _ _ (over_ne hx h (fun _ _ _ e => nomatch e)) h)
theorem FitAt.over {CS C x dx p : Addr} {H H' : Hp} {f : Fm} (hx : H x = some (.ins CS dx [])) (kk : ∀ q o, q ≠ x → H q = some o → H' q = some o) (h : FitAt C H f p) : FitAt C H' f p :=
  ⟨h.te.keepN (p := x) kk fun o e => by rw [hx] at e; cases e; exact ⟨(fun _ _ z => by injection z with _ _ z; exact z.symm), (fun _ z => nomatch z)⟩, h.wf, h.dp, h.sz⟩
theorem KeyD.over {CS C x dx : Addr} {H H' : Hp} {cs : List Col} {v : V} {r : Bool} (hx : H x = some (.ins CS dx [])) (kk : ∀ q o, q ≠ x → H q = some o → H' q = some o) (h : KeyD C H cs v r) : KeyD C H' cs v r := by
  rcases h with ⟨T, h1, h2, h3⟩ | ⟨p, xs, h1, h2, h3, h4⟩
  · exact .inl ⟨T, h1, h2.over hx kk, h3⟩
  · refine .inr ⟨p, xs, h1, seq_over hx kk h2, h3, ?_⟩
    rcases h4 with h4 | ⟨y, z, b, e, hy, hf, ht⟩
    · exact .inl h4
    · refine .inr ⟨y, z, b, e, ?_, hf, fun hb => ?_⟩
      · rcases hy with ⟨T, h1, h2, h3⟩ | ⟨l, ns, h1, h2, h3⟩
        · exact .inl ⟨T, h1, h2.over hx kk, h3⟩
        · exact .inr ⟨l, ns, h1, seq_over hx kk h2, h3⟩
      · rcases ht hb with h | ⟨t, f, e1, e2, e3⟩
        · exact .inl h
        · exact .inr ⟨t, f, e1, e2.over hx kk, e3⟩
/-- everything kept but at x -/
abbrev NXT (x : Addr) (H H' : Hp) : Prop := ∀ q o, q ≠ x → H q = some o → H' q = some o
theorem NXT.trans {x : Addr} {H H1 H2 : Hp} (a : NXT x H H1) (b : NXT x H1 H2) : NXT x H H2 := fun q o n h => b q o n (a q o n h)
theorem NXT.of {x : Addr} {H H1 : Hp} (a : XT H H1) : NXT x H H1 := fun q o _ h => a q o h
theorem NXT.upd {x : Addr} {H : Hp} {o : HO} : NXT x H (upd H x o) := fun q o n h => by rw [upd_ne n]; exact h
/-- a test or None -/
def TzAt (C : Addr) (H : Hp) (z : V) (o : Option Fm) : Prop := (z = .non ∧ o = none) ∨ ∃ t f, z = .ref t ∧ o = some f ∧ FitAt C H f t
abbrev Ky := List Str × Option Fm
/-- a key as it is given -/
def KyIn (C : Addr) (H : Hp) (v : V) (k : Ky) : Prop := ∃ p n z, v = .ref p ∧ H p = some (.tup [.ref n, z]) ∧ (H n = some (.lst (k.1.map V.str)) ∨ H n = some (.tup (k.1.map V.str))) ∧ TzAt C H z k.2
/-- a key of a shape -/
def KyT (C : Addr) (H : Hp) (v : V) (k : Ky) : Prop := ∃ p n z, v = .ref p ∧ H p = some (.tup [.ref n, z]) ∧ H n = some (.tup (k.1.map V.str)) ∧ TzAt C H z k.2
theorem TzAt.keep {C : Addr} {H H' : Hp} {z : V} {o : Option Fm} (h : TzAt C H z o) (k : XT H H') : TzAt C H' z o := by
  rcases h with h | ⟨t, f, h1, h2, h3⟩
  · exact .inl h
  · exact .inr ⟨t, f, h1, h2, h3.keep k⟩
theorem KyIn.keep {C : Addr} {H H' : Hp} {v : V} {y : Ky} (h : KyIn C H v y) (k : XT H H') : KyIn C H' v y := by
  obtain ⟨p, n, z, h1, h2, h3, h4⟩ := h
  exact ⟨p, n, z, h1, k _ _ h2, seq_keep h3 k, h4.keep k⟩
theorem KyT.keep {C : Addr} {H H' : Hp} {v : V} {y : Ky} (h : KyT C H v y) (k : XT H H') : KyT C H' v y := by
  obtain ⟨p, n, z, h1, h2, h3, h4⟩ := h
  exact ⟨p, n, z, h1, k _ _ h2, k _ _ h3, h4.keep k⟩
theorem KyT.inp {C : Addr} {H : Hp} {v : V} {y : Ky} (h : KyT C H v y) : KyIn C H v y := by
  obtain ⟨p, n, z, h1, h2, h3, h4⟩ := h
  exact ⟨p, n, z, h1, h2, .inr h3, h4⟩
/-- kept where neither an instance with fields nor a tuple stood -/
theorem FitAt.keepN {C x : Addr} {H H' : Hp} {f : Fm} {p : Addr} (k : NXT x H H') (n : ∀ o, H x = some o → (∀ dx l, o = .ins C dx l → l = []) ∧ ∀ l, o ≠ .tup l) (h : FitAt C H f p) : FitAt C H' f p := ⟨h.te.keepN (p := x) k n, h.wf, h.dp, h.sz⟩
theorem TzAt.keepN {C x : Addr} {H H' : Hp} {z : V} {o : Option Fm} (k : NXT x H H') (n : ∀ o, H x = some o → (∀ dx l, o = .ins C dx l → l = []) ∧ ∀ l, o ≠ .tup l) (h : TzAt C H z o) : TzAt C H' z o := by
  rcases h with h | ⟨t, f, h1, h2, h3⟩
  · exact .inl h
  · exact .inr ⟨t, f, h1, h2, h3.keepN k n⟩
theorem KyT.keepN {C x : Addr} {H H' : Hp} {v : V} {y : Ky} (k : NXT x H H') (n : ∀ o, H x = some o → (∀ dx l, o = .ins C dx l → l = []) ∧ ∀ l, o ≠ .tup l) (h : KyT C H v y) : KyT C H' v y := by
  obtain ⟨p, m, z, h1, h2, h3, h4⟩ := h
  exact ⟨p, m, z, h1, k _ _ (fun e => (n _ (by rw [← e]; exact h2)).2 _ rfl) h2, k _ _ (fun e => (n _ (by rw [← e]; exact h3)).2 _ rfl) h3, h4.keepN k n⟩
theorem TzAt.over {CS C x dx : Addr} {H H' : Hp} {z : V} {o : Option Fm} (hx : H x = some (.ins CS dx [])) (kk : NXT x H H') (h : TzAt C H z o) : TzAt C H' z o := by
  rcases h with h | ⟨t, f, h1, h2, h3⟩
  · exact .inl h
  · exact .inr ⟨t, f, h1, h2, h3.over hx kk⟩
theorem KyIn.over {CS C x dx : Addr} {H H' : Hp} {v : V} {y : Ky} (hx : H x = some (.ins CS dx [])) (kk : NXT x H H') (h : KyIn C H v y) : KyIn C H' v y := by
  obtain ⟨p, n, z, h1, h2, h3, h4⟩ := h
  exact ⟨p, n, z, h1, kk _ _ (over_ne hx h2 (fun _ _ _ e => nomatch e)) h2, seq_over hx kk h3, h4.over hx kk⟩
theorem refs_of : ∀ {ys : List V}, (∀ y ∈ ys, ∃ q, y = .ref q) → ∃ qs : List Addr, ys = qs.map V.ref
  | [], _ => ⟨[], rfl⟩
  | y :: ys, h => by
    obtain ⟨z, rfl⟩ := h y List.mem_cons_self
    obtain ⟨xs, rfl⟩ := refs_of fun y hy => h y (List.mem_cons_of_mem _ hy)
    exact ⟨z :: xs, rfl⟩
def sf (t D tc tk : Addr) : List (Str × V) := [("layout", .ref t), ("spots", .ref D), ("check_tests", .ref tc), ("key_rules", .ref tk)]
theorem sf_ne {t D tc tk : Addr} : sf t D tc tk ≠ [] := by unfold sf; exact List.cons_ne_nil _ _
/-- keys one by one -/
def KysAt (R : V → Ky → Prop) (xs : List V) (ks : List Ky) : Prop := xs.length = ks.length ∧ ∀ (i : Nat) v k, xs[i]? = some v → ks[i]? = some k → R v k
theorem KysAt.mono {R S : V → Ky → Prop} {xs : List V} {ks : List Ky} (h : KysAt R xs ks) (m : ∀ v k, R v k → S v k) : KysAt S xs ks := ⟨h.1, fun i v k a b => m _ _ (h.2 i v k a b)⟩
/-- a whole shape -/
structure ShpAt (CS C : Addr) (H : Hp) (cs : List Col) (fs : List Fm) (ks : List Ky) (x : Addr) : Prop where
  ex : ∃ (dx t D tc tk : Addr) (kvs : List (Key × V)) (qs us : List Addr) (ys : List V), H x = some (.ins CS dx (sf t D tc tk)) ∧ H D = some (.dK kvs) ∧ keysP kvs (cs.map (·.1)) ∧ SpotsAt H kvs cs ∧
    H t = some (.tup (qs.map V.ref)) ∧ qs.length = cs.length ∧ (∀ (i : Nat) q c, qs[i]? = some q → cs[i]? = some c → H q = some (.tup (ct c))) ∧
    H tc = some (.tup (us.map V.ref)) ∧ RF (FitAt C H) fs us ∧ H tk = some (.tup ys) ∧ KysAt (KyT C H) ys ks
theorem ShpAt.sh {CS C x : Addr} {H : Hp} {cs : List Col} {fs : List Fm} {ks : List Ky} (h : ShpAt CS C H cs fs ks x) : ShapeAt CS H cs x := by
  obtain ⟨dx, t, D, tc, tk, kvs, qs, us, ys, h1, h2, h3, h4, _⟩ := h.ex
  exact ⟨dx, _, D, kvs, h1, by rfl, h2, h3, h4⟩
theorem ShpAt.keep {CS C x : Addr} {H H' : Hp} {cs : List Col} {fs : List Fm} {ks : List Ky} (h : ShpAt CS C H cs fs ks x) (k : XT H H') : ShpAt CS C H' cs fs ks x := by
  obtain ⟨dx, t, D, tc, tk, kvs, qs, us, ys, h1, h2, h3, h4, h5, h6, h7, h8, h9, h10, h11⟩ := h.ex
  exact ⟨dx, t, D, tc, tk, kvs, qs, us, ys, k _ _ h1, k _ _ h2, h3, h4.keep k, k _ _ h5, h6, fun i q c a b => k _ _ (h7 i q c a b), k _ _ h8, h9.mono fun g q h => h.keep k, k _ _ h10, h11.mono fun v y h => h.keep k⟩
section
variable {P : Program} {w : World} {K : PySem.W.Frag} {mg : Str → Option Value} {base : Heap}
theorem eq_of_tup {H : Hp} {q : Addr} {xs ys : List V} (h : H q = some (.tup xs)) (k : H q = some (.tup ys)) : xs = ys := by
  rw [h] at k
  injection k with k
  injection k
def spInit (CS C CB : Addr) : Sp := fun vs H Q E => ∃ (x L pc pk dx : Addr) (cs : List Col) (fs : List Fm) (qs : List Addr) (xs : List V) (rs : List Bool), vs = [.ref x, .ref L, .ref pc, .ref pk] ∧ H x = some (.ins CS dx []) ∧ LsA H L (cs.map ct) ∧ ColsOk cs ∧
  (H pc = some (.lst (qs.map V.ref)) ∨ H pc = some (.tup (qs.map V.ref))) ∧ RF (FitAt C H) fs qs ∧ fs.length ≤ 9 ∧ (H pk = some (.lst xs) ∨ H pk = some (.tup xs)) ∧ xs.length = rs.length ∧ (∀ (i : Nat) v r, xs[i]? = some v → rs[i]? = some r → KeyD C H cs v r) ∧ rs.length ≤ 9 ∧
  (∀ (i : Nat) f, fs[i]? = some f → f.fits cs = false → (∀ g ∈ fs.take i, g.fits cs = true) → ∀ e H', (∀ q o, q ≠ x → H q = some o → H' q = some o) → H' e = some (xshw "checks" i) → E (.ref CB) (some e) H') ∧
  ((∀ f ∈ fs, f.fits cs = true) → ∀ (i : Nat), rs[i]? = some false → (∀ r ∈ rs.take i, r = true) → ∀ e H', (∀ q o, q ≠ x → H q = some o → H' q = some o) → H' e = some (xshw "keys" i) → E (.ref CB) (some e) H') ∧
  ((∀ f ∈ fs, f.fits cs = true) → (∀ r ∈ rs, r = true) → ∃ ks, KysAt (KyIn C H) xs ks ∧ ∀ H', NXT x H H' → ShpAt CS C H' cs fs ks x → Q .non H')
theorem ok_Shape_init (T : Txt K mg) : DefC1X P w K mg base 17 (cadr mg "Shape") ["self", "columns", "checks", "keys"] 1 "checks" "keys" (spInit (cadr mg "Shape") (cadr mg "Test") (cadr mg "BadShape")) := by
  obtain ⟨f, fd, h⟩ := T.d_Shape_init
  refine h.defX (Fun.okMX h.fn sc_Shape_init (fun vs H Q E h => ?_) (fun cdv A outer s H vs Q E hr h => ?_))
  · obtain ⟨x, L, pc, pk, dx, cs, fs, us, xs, rs, rfl, _⟩ := h
    rfl
  · obtain ⟨x, L, pc, pk, dx, cs, fs, us, xs, rs, rfl, hx, hC, hcs, hpc, hRF, hfl, hpk, hxl, hKd, hrl, kE1, kE2, k⟩ := h
    refine ⟨_, (pss_cons (ps_expr (pe_def (ok_need_columns T) hr rfl (pa_cons (pv 1) pa_nil)))
  (pss_cons (ps_fld (pv 0) (pe_callTy (call_tupleG (K := K) rfl) (by rfl) T.h_tuple (by decide +kernel) (pa_cons (pe_lc (own := [("column", 4)]) rfl sc_Shape_init.nd (pi_seqG (K := K) rfl (pv 1)) (blkOk_by (N := N_Shape_init) (sc := defScope S_Shape_init) (by decide +kernel)) (fun _ _ _ _ _ => pg_name (i := 4) sc_Shape_init.nd rfl (Or.inl rfl)) (fun _ _ _ _ _ => pts_nil) (fun _ _ _ _ _ => (pe_callTy (call_tupleG (K := K) rfl) (by rfl) T.h_tuple (by decide +kernel) (pa_cons (pv 4) pa_nil)))) pa_nil)) rfl)
  (pss_cons (ps_fld (pv 0) (pe_dc (own := [("column", 4)]) rfl sc_Shape_init.nd (pi_tupG (K := K) rfl (pe_fldG (K := K) rfl (pv 0) rfl)) (blkOk_by (N := N_Shape_init) (sc := defScope S_Shape_init) (by decide +kernel)) (fun _ _ _ _ _ => pg_name (i := 4) sc_Shape_init.nd rfl (Or.inl rfl)) (fun _ _ _ _ _ => pts_nil) (fun _ _ _ _ _ => (pe_ix (ix_seqG (K := K) rfl) (pv 4) pe_int (fun _ _ => rfl))) (fun _ _ _ _ _ => (pv 4))) rfl)
  (pss_cons (ps_expr (pe_defX (takes_of rfl rfl rfl rfl) (ok_need_checks T) hr rfl (pa_cons (pe_fldG (K := K) rfl (pv 0) rfl) (pa_cons (pv 2) pa_nil))))
  (pss_cons (ps_fld (pv 0) (pe_callTy (call_tupleG (K := K) rfl) (by rfl) T.h_tuple (by decide +kernel) (pa_cons (pv 2) pa_nil)) rfl)
  (pss_cons (ps_expr (pe_defX (takes_of rfl rfl rfl rfl) (ok_need_keys T) hr rfl (pa_cons (pe_fldG (K := K) rfl (pv 0) rfl) (pa_cons (pv 3) pa_nil))))
  (pss_one (ps_fld (pv 0) (pe_callTy (call_tupleG (K := K) rfl) (by rfl) T.h_tuple (by decide +kernel) (pa_cons (pe_lc (own := [("names", 5), ("test", 6)]) rfl sc_Shape_init.nd (pi_seqB (K := K) rfl (pv 3)) (blkOk_by (N := N_Shape_init) (sc := defScope S_Shape_init) (by decide +kernel)) (fun _ _ _ _ _ => (pg_tupG (K := K) (n := 2) rfl rfl (pgs_cons (pg_name (i := 5) sc_Shape_init.nd rfl (Or.inl rfl)) (pgs_cons (pg_name (i := 6) sc_Shape_init.nd rfl (Or.inl rfl)) pgs_nil)))) (fun _ _ _ _ _ => pts_nil) (fun _ _ _ _ _ => (pe_tup (pa_cons (pe_callTy (call_tupleG (K := K) rfl) (by rfl) T.h_tuple (by decide +kernel) (pa_cons (pv 5) pa_nil)) (pa_cons (pv 6) pa_nil))))) pa_nil)) rfl)))))))), ?_⟩
    have hcl := hcs.le
    walk_at "g"
    refine ⟨L, cs, rfl, hC, hcs, fun H1 x1 => ?_⟩
    obtain ⟨qs, hL, hlen, hcol⟩ := id (hC.keep x1)
    rw [List.length_map] at hlen
    have hx1 := x1 _ _ hx
    walk_at "g"
    refine g_seqG ?_
    walk_at "g"
    refine ⟨L, qs.map V.ref, rfl, seq_a hL, fun J hJ D hD => ?_⟩
    refine lc_new (qs.map V.ref) (fun i y H' => ∃ q c, y = .ref q ∧ cs[i]? = some c ∧ H' q = some (.tup (ct c))) hD (fun H2 k2 => hJ H2 (seq_same hL k2)) (by rw [List.length_map]; omega) ?_ ?_ ?_
    · rintro i y Ha Hb ⟨zs, hz⟩ ⟨q, c, rfl, h1, h2⟩ hk
      exact ⟨q, c, rfl, h1, hk _ _ (fun z => by rw [z, hz] at h2; cases h2) h2⟩
    · intro i y Hh R S hy kh _ hR
      rw [List.getElem?_map] at hy
      obtain ⟨q, hqi, rfl⟩ := Option.map_eq_some_iff.mp hy
      have hil : i < cs.length := by
        have := (List.getElem?_eq_some_iff.mp hqi).1
        omega
      obtain ⟨c, hc⟩ : ∃ c, cs[i]? = some c := ⟨_, List.getElem?_eq_getElem hil⟩
      have et := kh _ _ (hcol i q (ct c) hqi (by rw [List.getElem?_map, hc]; rfl))
      walk_at "g"
      refine ⟨rfl, ?_⟩
      walk_at "g"
      refine g_tupT (SqT.of et) ?_
      exact hR _ _ (fun q o h => h) ⟨q, c, rfl, hc, et⟩
    · intro H2 ys x2 hW hyl hys
      have hyq : ∀ (i : Nat) (y : V), ys[i]? = some y → ∃ q c, y = .ref q ∧ cs[i]? = some c ∧ H2 q = some (.tup (ct c)) := hys
      walk_at "g"
      refine g_tupL (SqL.of hW) fun t ht => ?_
      have hx2 := x2 _ _ hx1
      have x3 : XT H2 (upd H2 t (.tup ys)) := fun q o h => by rw [upd_ne (ne_of_none h ht)]; exact h
      have et : (upd H2 t (.tup ys)) t = some (.tup ys) := upd_same
      generalize upd H2 t (.tup ys) = H3 at x3 et
      have hx3 := x3 _ _ hx2
      walk_at "g"
      refine ⟨x, _, dx, _, rfl, hx3, T.cl_Shape, T.n_Shape_layout, by decide, ?_⟩
      have kA : ∀ q o, q ≠ x → H q = some o → (upd H3 x (.ins (cadr mg "Shape") dx (putF "layout" (.ref t) []))) q = some o := fun q o n h => by rw [upd_ne n]; exact x3 _ _ (x2 _ _ (x1 _ _ h))
      have eA : (upd H3 x (.ins (cadr mg "Shape") dx (putF "layout" (.ref t) []))) x = some (.ins (cadr mg "Shape") dx (putF "layout" (.ref t) [])) := upd_same
      have xt : t ≠ x := fun z => by rw [z, hx3] at et; cases et
      have etA : (upd H3 x (.ins (cadr mg "Shape") dx (putF "layout" (.ref t) []))) t = some (.tup ys) := by rw [upd_ne xt]; exact et
      have yA : ∀ (i : Nat) (y : V), ys[i]? = some y → ∃ q c, y = .ref q ∧ cs[i]? = some c ∧ (upd H3 x (.ins (cadr mg "Shape") dx (putF "layout" (.ref t) []))) q = some (.tup (ct c)) := fun i y hy => by
        obtain ⟨q, c, h1, h2, h3⟩ := hyq i y hy
        have h4 := x3 _ _ h3
        exact ⟨q, c, h1, h2, by rw [upd_ne (fun z => by rw [z, hx3] at h4; cases h4)]; exact h4⟩
      have l1 : (putF ("layout" : Str) (V.ref t) []).lookup ("layout" : Str) = some (V.ref t) := by rfl
      have l1n : (putF ("layout" : Str) (V.ref t) []).length < 1000 := by show 1 < 1000; decide
      generalize upd H3 x (.ins (cadr mg "Shape") dx (putF "layout" (.ref t) [])) = HA at kA eA etA yA
      walk_at "g"
      refine g_dc ?_
      walk_at "g"
      refine ⟨x, _, dx, _, _, rfl, eA, T.cl_Shape, T.n_Shape_layout, l1, ?_⟩
      refine ⟨t, rfl, ⟨ys, SqT.of etA⟩, fun D hD => ?_⟩
      have hDt : t ≠ D := ne_of_none etA hD
      refine dc_tup (xs := ys) (fun i H' => (∀ q o, q ≠ D → HA q = some o → H' q = some o) ∧ ∃ kvs, H' D = some (.dK kvs) ∧ keysP kvs ((cs.take i).map (·.1)) ∧ kvs.length ≤ i ∧ ∀ (j : Nat) c, j < i → cs[j]? = some c → ∃ q, valV kvs (Sum.inr c.1) = some (.ref q) ∧ HA q = some (.tup (ct c))) ⟨fun q o n h => by rw [upd_ne n]; exact h, [], upd_same, keysP.nil, Nat.le_refl _, fun j c h => absurd h (Nat.not_lt_zero _)⟩ (fun i H' _ p => SqT.of (p.1 _ _ hDt etA)) ?_ ?_
      · rintro i y H' hy ⟨kD, kvs, eD, hk, hkl, hsp⟩
        obtain ⟨q, c, rfl, hc, hq⟩ := yA i y hy
        have eq := kD _ _ (ne_of_none hq hD) hq
        have hil : i < cs.length := (List.getElem?_eq_some_iff.mp hc).1
        walk_at "g"
        refine ⟨rfl, ?_⟩
        walk_at "g"
        refine g_ixT (SqT.of eq) (v := .str c.1) (by rfl) ?_
        walk_at "g"
        refine ⟨kvs, Sum.inr c.1, rfl, eD, by rw [sizeLine_eq]; omega, fun q o n h => by rw [upd_ne n]; exact kD _ _ n h, _, upd_same, ?_, Nat.le_trans (length_putK _ _ _) (by omega), fun j c2 hj hc2 => ?_⟩
        rotate_left
        · rw [valV_put]
          by_cases e : j = i
          · subst e
            rw [hc] at hc2
            injection hc2 with hc2
            exact ⟨q, by rw [if_pos (by rw [hc2])], by rw [← hc2]; exact hq⟩
          · have hne : c2.1 ≠ c.1 := nd_ne hcs.nd (i := j) (j := i) (by rw [List.getElem?_map, hc2]; rfl) (by rw [List.getElem?_map, hc]; rfl) e
            rw [if_neg (fun h => hne (by injection h))]
            exact hsp j c2 (by omega) hc2
        rw [List.take_succ, hc, List.map_append]
        exact hk.put
      · rintro HB ⟨kB, kvs, eD, hk, hkl, hsp⟩
        have hyl2 : ys.length = cs.length := by rw [hyl, List.length_map, hlen]
        rw [hyl2, List.take_length] at hk
        rw [hyl2] at hsp
        have spA : SpotsAt HA kvs cs := fun j c hc => hsp j c (List.getElem?_eq_some_iff.mp hc).1 hc
        have hxD : x ≠ D := ne_of_none eA hD
        have eB := kB _ _ hxD eA
        have spB : SpotsAt HB kvs cs := fun j c hc => by
          obtain ⟨q, h1, h2⟩ := spA j c hc
          exact ⟨q, h1, kB _ _ (ne_of_none h2 hD) h2⟩
        walk_at "g"
        refine ⟨x, _, dx, _, rfl, eB, T.cl_Shape, T.n_Shape_spots, l1n, ?_⟩
        have fC : ∃ fs_, putF ("spots" : Str) (V.ref D) (putF ("layout" : Str) (V.ref t) []) = fs_ ∧ fs_.lookup ("spots" : Str) = some (V.ref D) ∧ fs_.length < 900 := ⟨_, rfl, by rfl, by show 2 < 900; decide⟩
        obtain ⟨fs_, e3, l3, n3⟩ := fC
        rw [e3]
        have kC : ∀ q o, q ≠ x → H q = some o → (upd HB x (.ins (cadr mg "Shape") dx fs_)) q = some o := fun q o n h => by
          have h2 := kA _ _ n h
          rw [upd_ne n]; exact kB _ _ (ne_of_none h2 hD) h2
        have eC : (upd HB x (.ins (cadr mg "Shape") dx fs_)) x = some (.ins (cadr mg "Shape") dx fs_) := upd_same
        have eDC : (upd HB x (.ins (cadr mg "Shape") dx fs_)) D = some (.dK kvs) := by rw [upd_ne (Ne.symm hxD)]; exact eD
        have spC : SpotsAt (upd HB x (.ins (cadr mg "Shape") dx fs_)) kvs cs := spB.keepN eB (fun l e => nomatch e) fun q o n h => by rw [upd_ne n]; exact h
        have nC : NXT x HB (upd HB x (.ins (cadr mg "Shape") dx fs_)) := NXT.upd
        generalize upd HB x (.ins (cadr mg "Shape") dx fs_) = HC at kC eC eDC spC nC
        walk_at "g"
        refine ⟨x, _, dx, _, _, rfl, eC, T.cl_Shape, T.n_Shape_spots, l3, ?_⟩
        walk_at "g"
        have pcx : pc ≠ x := fun z => by rw [z, hx] at hpc; rcases hpc with h | h <;> cases h
        have fitC : ∀ {H'}, (∀ q o, q ≠ x → H q = some o → H' q = some o) → RF (FitAt (cadr mg "Test") H') fs us := fun {H'} kk => hRF.mono (S := FitAt (cadr mg "Test") H') fun g q h => ⟨h.te.keepN (p := x) kk fun o e => by rw [hx] at e; cases e; exact ⟨(fun _ _ z => by injection z with _ _ z; exact z.symm), (fun _ z => nomatch z)⟩, h.wf, h.dp, h.sz⟩
        refine ⟨D, pc, cs, kvs, fs, us, rfl, eDC, hk, spC, hpc.imp (kC _ _ pcx) (kC _ _ pcx), fitC kC, hfl, fun i f hf hb ha e H' x' he => kE1 i f hf hb ha e H' (fun q o n h => x' _ _ (kC _ _ n h)) he, fun hall HE0 xE0 => ?_⟩
        walk_at "g"
        refine g_tupA (hpc.imp (fun h => xE0 _ _ (kC _ _ pcx h)) fun h => xE0 _ _ (kC _ _ pcx h)) fun t3 HE xE1 et3 => ?_
        have xE : XT HC HE := xE0.trans xE1
        clear xE0 xE1
        walk_at "g"
        refine ⟨x, _, dx, _, rfl, xE _ _ eC, T.cl_Shape, T.n_Shape_check_tests, by omega, ?_⟩
        have fF : ∃ fs', putF ("check_tests" : Str) (V.ref t3) fs_ = fs' ∧ fs'.lookup ("spots" : Str) = some (V.ref D) ∧ fs'.lookup ("layout" : Str) = some (V.ref t) ∧ fs'.lookup ("check_tests" : Str) = some (V.ref t3) ∧ fs'.length < 950 := by
          rw [← e3]
          exact ⟨_, rfl, by rfl, by rfl, by rfl, by show 3 < 950; decide⟩
        obtain ⟨fs', e4, l4, l4l, l4c, n4⟩ := fF
        rw [e4]
        have kF : ∀ q o, q ≠ x → H q = some o → (upd HE x (.ins (cadr mg "Shape") dx fs')) q = some o := fun q o n h => by
          rw [upd_ne n]; exact xE _ _ (kC _ _ n h)
        have eF : (upd HE x (.ins (cadr mg "Shape") dx fs')) x = some (.ins (cadr mg "Shape") dx fs') := upd_same
        have eDF : (upd HE x (.ins (cadr mg "Shape") dx fs')) D = some (.dK kvs) := by rw [upd_ne (Ne.symm hxD)]; exact xE _ _ eDC
        have spF : SpotsAt (upd HE x (.ins (cadr mg "Shape") dx fs')) kvs cs := (spC.keep xE).keepN (xE _ _ eC) (fun l e => nomatch e) fun q o n h => by rw [upd_ne n]; exact h
        have t3x : t3 ≠ x := fun z => by rw [z, xE _ _ eC] at et3; cases et3
        have etF : (upd HE x (.ins (cadr mg "Shape") dx fs')) t3 = some (.tup (us.map V.ref)) := by rw [upd_ne t3x]; exact et3
        have nF : NXT x HE (upd HE x (.ins (cadr mg "Shape") dx fs')) := NXT.upd
        generalize upd HE x (.ins (cadr mg "Shape") dx fs') = HF at kF eF eDF spF etF nF
        walk_at "g"
        refine ⟨x, _, dx, _, _, rfl, eF, T.cl_Shape, T.n_Shape_spots, l4, ?_⟩
        walk_at "g"
        refine ⟨D, pk, cs, kvs, xs, rs, rfl, eDF, hk, spF, seq_over hx kF hpk, hxl, fun i v r h1 h2 => (hKd i v r h1 h2).over hx kF, hrl, fun i h1 h2 e H' x' he => kE2 hall i h1 h2 e H' (fun q o n h => x' _ _ (kF _ _ n h)) he, fun hallr HG xG => ?_⟩
        walk_at "g"
        obtain ⟨ks, hKs, kQ⟩ := k hall hallr
        have nG : NXT x H HG := fun q o n h => xG _ _ (kF _ _ n h)
        have hpkG := seq_over hx nG hpk
        have hks := hKs.1
        refine g_seqB ?_
        walk_at "g"
        refine ⟨pk, xs, rfl, hpkG.imp id SqT.of, fun J2 hJ2 D2 hD2 => ?_⟩
        refine lc_new xs (fun i y H' => ∃ kk t5 t4 z, ks[i]? = some kk ∧ y = .ref t5 ∧ H' t5 = some (.tup [.ref t4, z]) ∧ H' t4 = some (.tup (kk.1.map V.str)) ∧ TzAt (cadr mg "Test") H z kk.2) hD2 (fun H2 k2 => hJ2 H2 k2) (by omega) ?_ ?_ ?_
        · rintro i y Ha Hb ⟨zs, hz⟩ ⟨kk, t5, t4, z, h1, h2, h3, h4, h5⟩ hk
          exact ⟨kk, t5, t4, z, h1, h2, hk _ _ (fun e => by rw [e, hz] at h3; cases h3) h3, hk _ _ (fun e => by rw [e, hz] at h4; cases h4) h4, h5⟩
        · intro i v Hh R S hy kh _ hR
          obtain ⟨kk, hkk⟩ : ∃ kk, ks[i]? = some kk := ⟨_, List.getElem?_eq_getElem (by have := (List.getElem?_eq_some_iff.mp hy).1; omega)⟩
          obtain ⟨p, n, z, rfl, hp, hn, hz⟩ := hKs.2 i v kk hy hkk
          have hp := kh _ _ (nG _ _ (over_ne hx hp (fun _ _ _ e => nomatch e)) hp)
          have hn := seq_keep (seq_over hx nG hn) kh
          refine g_gtup hp rfl ?_
          refine g_gcons ?_
          walk_at "g"
          refine g_gcons ?_
          walk_at "g"
          refine g_gnil ?_
          refine ⟨rfl, ?_⟩
          walk_at "g"
          refine g_tupA hn fun t4 H4 x4 et4 => ?_
          walk_at "g"
          refine ⟨by show 2 ≤ sizeLine; decide, fun t5 ht5 => ?_⟩
          have x5 : XT Hh (upd H4 t5 (.tup [.ref t4, z])) := XT.new x4 ht5
          have x45 : XT H4 (upd H4 t5 (.tup [.ref t4, z])) := XT.new XT.refl ht5
          exact hR _ _ x5 ⟨kk, t5, t4, z, hkk, rfl, upd_same, x45 _ _ et4, hz⟩
        · intro HI ys2 x2' hWI hylI hysI
          walk_at "g"
          refine g_tupL (SqL.of hWI) fun t6 ht6 => ?_
          have xJ : XT HI (upd HI t6 (.tup ys2)) := XT.new XT.refl ht6
          have et6 : (upd HI t6 (.tup ys2)) t6 = some (.tup ys2) := upd_same
          generalize upd HI t6 (.tup ys2) = HJ at xJ et6
          have eJ := xJ _ _ (x2' _ _ (xG _ _ eF))
          walk_at "g"
          refine ⟨x, _, dx, _, rfl, eJ, T.cl_Shape, T.n_Shape_key_rules, by omega, ?_⟩
          walk_at "g"
          have xGJ : XT HG HJ := XT.trans x2' xJ
          have nK : NXT x HJ (upd HJ x (.ins (cadr mg "Shape") dx (putF "key_rules" (.ref t6) fs'))) := NXT.upd
          have eK : (upd HJ x (.ins (cadr mg "Shape") dx (putF "key_rules" (.ref t6) fs'))) x = some (.ins (cadr mg "Shape") dx (putF "key_rules" (.ref t6) fs')) := upd_same
          have ef : putF "key_rules" (.ref t6) fs' = sf t D t3 t6 := by
            rw [← e4, ← e3]
            rfl
          rw [ef] at eK nK ⊢
          generalize upd HJ x (.ins (cadr mg "Shape") dx (sf t D t3 t6)) = HK at eK nK
          have hJx : HJ x = some (.ins (cadr mg "Shape") dx fs') := eJ
          have nAB : NXT x HA HB := fun q o _ h => kB _ _ (ne_of_none h hD) h
          have nAK : NXT x HA HK := nAB.trans (nC.trans ((NXT.of xE).trans (nF.trans ((NXT.of (XT.trans xG xGJ)).trans nK))))
          have nFK : NXT x HF HK := (NXT.of (XT.trans xG xGJ)).trans nK
          have nHK : NXT x H HK := nG.trans ((NXT.of xGJ).trans nK)
          obtain ⟨qL, rfl⟩ := refs_of (ys := ys) fun y hy => by
            obtain ⟨i, hi, e⟩ := List.mem_iff_getElem.mp hy
            obtain ⟨q, c, h1, _⟩ := yA i y (by rw [List.getElem?_eq_getElem hi, e])
            exact ⟨q, h1⟩
          refine kQ HK nHK ⟨dx, t, D, t3, t6, kvs, qL, us, ys2, eK, nFK _ _ (Ne.symm hxD) eDF, hk, spF.keepN eF (fun l e => nomatch e) nFK, nAK _ _ xt etA, by rw [List.length_map] at hyl2; exact hyl2, fun i q c h1 h2 => ?_, nFK _ _ t3x etF, hRF.mono fun g q h => h.over hx nHK, nK _ _ (fun z => by rw [z, eJ] at et6; cases et6) et6, by rw [hylI]; exact hks, fun i v kk h1 h2 => ?_⟩
          · obtain ⟨q', c', h3, h4, h5⟩ := yA i (.ref q) (by rw [List.getElem?_map, h1]; rfl)
            injection h3 with h3
            subst h3
            rw [h4] at h2
            injection h2 with h2
            subst h2
            exact nAK _ _ (fun z => by rw [z, eA] at h5; cases h5) h5
          · obtain ⟨kk', t5, t4, z, h3, h4, h5, h6, h7⟩ := hysI i v h1
            rw [h3] at h2
            injection h2 with h2
            subst h2
            have h5 := xJ _ _ h5
            have h6 := xJ _ _ h6
            exact ⟨t5, t4, z, h4, nK _ _ (fun e => by rw [e, eJ] at h5; cases h5) h5, nK _ _ (fun e => by rw [e, eJ] at h6; cases h6) h6, h7.over hx nHK⟩
end
/-! a shape whose keys are left out -/
def spNeedKeD (K : PySem.W.Frag) : Sp := fun vs H Q _ => ∃ (D p : Addr), vs = [.ref D, .ref p] ∧ (∀ G : Hp, SqT K G p []) ∧ ∀ H', XT H H' → Q .non H'
def spInitD (K : PySem.W.Frag) (CS C : Addr) : Sp := fun vs H Q _ => ∃ (x L pc pk dx : Addr) (cs : List Col) (fs : List Fm) (us : List Addr), vs = [.ref x, .ref L, .ref pc, .ref pk] ∧ H x = some (.ins CS dx []) ∧ LsA H L (cs.map ct) ∧ ColsOk cs ∧
  (H pc = some (.lst (us.map V.ref)) ∨ H pc = some (.tup (us.map V.ref))) ∧ RF (FitAt C H) fs us ∧ fs.length ≤ 9 ∧ (∀ G : Hp, SqT K G pk []) ∧ (∀ f ∈ fs, f.fits cs = true) ∧ ∀ H', NXT x H H' → ShpAt CS C H' cs fs [] x → Q .non H'
section
variable {P : Program} {w : World} {K : PySem.W.Frag} {mg : Str → Option Value} {base : Heap}
theorem ok_need_keys_D (T : Txt K mg) : DefX P w K mg base 16 "need_keys" ["spots", "keys"] (spNeedKeD K) := by
  obtain ⟨f, fd, h⟩ := T.d_need_keys
  obtain ⟨t_MOST_RULES, G_MOST_RULES⟩ := T.k_MOST_RULES
  obtain ⟨fE_BadShape, EB_BadShape⟩ := T.x_BadShape
  refine h.defX (Fun.okMX h.fn sc_need_keys (fun vs H Q E h => ?_) (fun cdv A outer s H vs Q E hr h => ?_))
  · obtain ⟨D, p, rfl, _⟩ := h
    rfl
  · obtain ⟨D, p, rfl, hp, kQ⟩ := h
    refine ⟨_, (pss_cons (ps_if (pt_not (pt_val (pe_def (ok_is_short T) hr rfl (pa_cons (pv 1) (pa_cons pe_int (pa_cons (pe_glob (v := .int 9) rfl G_MOST_RULES ⟨_, rfl⟩) pa_nil))))))
  (pss_one (ps_raiseBadShape rfl EB_BadShape hr (takes_of rfl rfl rfl rfl) (pa_cons pe_str (pa_cons (pe_un un_negG pe_int) pa_nil))))
  pss_nil)
  (pss_one (ps_for (passes_of rfl) rfl (pi_enumG (K := K) rfl (by rfl) T.h_enumerate (pa_cons (pv 1) pa_nil)) (pg_tupG (K := K) (n := 2) rfl rfl (pgs_cons (pg_name (i := 2) sc_need_keys.nd rfl (Or.inl rfl)) (pgs_cons (pg_name (i := 3) sc_need_keys.nd rfl (Or.inl rfl)) pgs_nil)))
  (pss_one (ps_if (pt_not (pt_val (pe_def (ok_is_key T) hr rfl (pa_cons (pv 0) (pa_cons (pv 3) pa_nil)))))
  (pss_one (ps_raiseBadShape rfl EB_BadShape hr (takes_of rfl rfl rfl rfl) (pa_cons pe_str (pa_cons (pv 2) pa_nil))))
  pss_nil))))), ?_⟩
    walk_at "g"
    refine ⟨_, _, _, rfl, .inr ⟨p, [], rfl, .inr (hp _), fun H1 x1 => ?_⟩⟩
    rw [show (decide ((0 : Int) ≤ (([] : List V).length : Int)) && decide ((([] : List V).length : Int) ≤ 9)) = true by rfl]
    walk_at "g"
    refine g_enumG ?_
    walk_at "g"
    refine ⟨p, [], rfl, .inr (hp _), fun J hJ => ?_⟩
    have fE := hJ H1 rfl
    refine ⟨fun i m σ' H' => i = 0 ∧ σ' = [some (.ref D), some (.ref p), none, none] ∧ H' = H1, ⟨0, rfl, rfl, rfl⟩, ?_⟩
    rintro i m σ' H' ⟨rfl, rfl, rfl⟩
    exact .inl ⟨fE.stop, kQ _ x1⟩
theorem ok_Shape_init_D (T : Txt K mg) : DefC1X P w K mg base 17 (cadr mg "Shape") ["self", "columns", "checks", "keys"] 1 "checks" "keys" (spInitD K (cadr mg "Shape") (cadr mg "Test")) := by
  have ok_need_keys : ∀ (_ : Txt K mg), DefX P w K mg base 16 "need_keys" ["spots", "keys"] (spNeedKeD K) := fun _ => ok_need_keys_D T
  obtain ⟨f, fd, h⟩ := T.d_Shape_init
  refine h.defX (Fun.okMX h.fn sc_Shape_init (fun vs H Q E h => ?_) (fun cdv A outer s H vs Q E hr h => ?_))
  · obtain ⟨x, L, pc, pk, dx, cs, fs, us, rfl, _⟩ := h
    rfl
  · obtain ⟨x, L, pc, pk, dx, cs, fs, us, rfl, hx, hC, hcs, hpc, hRF, hfl, hpk, hall0, kQ⟩ := h
    refine ⟨_, (pss_cons (ps_expr (pe_def (ok_need_columns T) hr rfl (pa_cons (pv 1) pa_nil)))
  (pss_cons (ps_fld (pv 0) (pe_callTy (call_tupleG (K := K) rfl) (by rfl) T.h_tuple (by decide +kernel) (pa_cons (pe_lc (own := [("column", 4)]) rfl sc_Shape_init.nd (pi_seqG (K := K) rfl (pv 1)) (blkOk_by (N := N_Shape_init) (sc := defScope S_Shape_init) (by decide +kernel)) (fun _ _ _ _ _ => pg_name (i := 4) sc_Shape_init.nd rfl (Or.inl rfl)) (fun _ _ _ _ _ => pts_nil) (fun _ _ _ _ _ => (pe_callTy (call_tupleG (K := K) rfl) (by rfl) T.h_tuple (by decide +kernel) (pa_cons (pv 4) pa_nil)))) pa_nil)) rfl)
  (pss_cons (ps_fld (pv 0) (pe_dc (own := [("column", 4)]) rfl sc_Shape_init.nd (pi_tupG (K := K) rfl (pe_fldG (K := K) rfl (pv 0) rfl)) (blkOk_by (N := N_Shape_init) (sc := defScope S_Shape_init) (by decide +kernel)) (fun _ _ _ _ _ => pg_name (i := 4) sc_Shape_init.nd rfl (Or.inl rfl)) (fun _ _ _ _ _ => pts_nil) (fun _ _ _ _ _ => (pe_ix (ix_seqG (K := K) rfl) (pv 4) pe_int (fun _ _ => rfl))) (fun _ _ _ _ _ => (pv 4))) rfl)
  (pss_cons (ps_expr (pe_defX (takes_of rfl rfl rfl rfl) (ok_need_checks T) hr rfl (pa_cons (pe_fldG (K := K) rfl (pv 0) rfl) (pa_cons (pv 2) pa_nil))))
  (pss_cons (ps_fld (pv 0) (pe_callTy (call_tupleG (K := K) rfl) (by rfl) T.h_tuple (by decide +kernel) (pa_cons (pv 2) pa_nil)) rfl)
  (pss_cons (ps_expr (pe_defX (takes_of rfl rfl rfl rfl) (ok_need_keys T) hr rfl (pa_cons (pe_fldG (K := K) rfl (pv 0) rfl) (pa_cons (pv 3) pa_nil))))
  (pss_one (ps_fld (pv 0) (pe_callTy (call_tupleG (K := K) rfl) (by rfl) T.h_tuple (by decide +kernel) (pa_cons (pe_lc (own := [("names", 5), ("test", 6)]) rfl sc_Shape_init.nd (pi_seqB (K := K) rfl (pv 3)) (blkOk_by (N := N_Shape_init) (sc := defScope S_Shape_init) (by decide +kernel)) (fun _ _ _ _ _ => (pg_tupG (K := K) (n := 2) rfl rfl (pgs_cons (pg_name (i := 5) sc_Shape_init.nd rfl (Or.inl rfl)) (pgs_cons (pg_name (i := 6) sc_Shape_init.nd rfl (Or.inl rfl)) pgs_nil)))) (fun _ _ _ _ _ => pts_nil) (fun _ _ _ _ _ => (pe_tup (pa_cons (pe_callTy (call_tupleG (K := K) rfl) (by rfl) T.h_tuple (by decide +kernel) (pa_cons (pv 5) pa_nil)) (pa_cons (pv 6) pa_nil))))) pa_nil)) rfl)))))))), ?_⟩
    have hcl := hcs.le
    walk_at "g"
    refine ⟨L, cs, rfl, hC, hcs, fun H1 x1 => ?_⟩
    obtain ⟨qs, hL, hlen, hcol⟩ := id (hC.keep x1)
    rw [List.length_map] at hlen
    have hx1 := x1 _ _ hx
    walk_at "g"
    refine g_seqG ?_
    walk_at "g"
    refine ⟨L, qs.map V.ref, rfl, seq_a hL, fun J hJ D hD => ?_⟩
    refine lc_new (qs.map V.ref) (fun i y H' => ∃ q c, y = .ref q ∧ cs[i]? = some c ∧ H' q = some (.tup (ct c))) hD (fun H2 k2 => hJ H2 (seq_same hL k2)) (by rw [List.length_map]; omega) ?_ ?_ ?_
    · rintro i y Ha Hb ⟨zs, hz⟩ ⟨q, c, rfl, h1, h2⟩ hk
      exact ⟨q, c, rfl, h1, hk _ _ (fun z => by rw [z, hz] at h2; cases h2) h2⟩
    · intro i y Hh R S hy kh _ hR
      rw [List.getElem?_map] at hy
      obtain ⟨q, hqi, rfl⟩ := Option.map_eq_some_iff.mp hy
      have hil : i < cs.length := by
        have := (List.getElem?_eq_some_iff.mp hqi).1
        omega
      obtain ⟨c, hc⟩ : ∃ c, cs[i]? = some c := ⟨_, List.getElem?_eq_getElem hil⟩
      have et := kh _ _ (hcol i q (ct c) hqi (by rw [List.getElem?_map, hc]; rfl))
      walk_at "g"
      refine ⟨rfl, ?_⟩
      walk_at "g"
      refine g_tupT (SqT.of et) ?_
      exact hR _ _ (fun q o h => h) ⟨q, c, rfl, hc, et⟩
    · intro H2 ys x2 hW hyl hys
      have hyq : ∀ (i : Nat) (y : V), ys[i]? = some y → ∃ q c, y = .ref q ∧ cs[i]? = some c ∧ H2 q = some (.tup (ct c)) := hys
      walk_at "g"
      refine g_tupL (SqL.of hW) fun t ht => ?_
      have hx2 := x2 _ _ hx1
      have x3 : XT H2 (upd H2 t (.tup ys)) := fun q o h => by rw [upd_ne (ne_of_none h ht)]; exact h
      have et : (upd H2 t (.tup ys)) t = some (.tup ys) := upd_same
      generalize upd H2 t (.tup ys) = H3 at x3 et
      have hx3 := x3 _ _ hx2
      walk_at "g"
      refine ⟨x, _, dx, _, rfl, hx3, T.cl_Shape, T.n_Shape_layout, by decide, ?_⟩
      have kA : ∀ q o, q ≠ x → H q = some o → (upd H3 x (.ins (cadr mg "Shape") dx (putF "layout" (.ref t) []))) q = some o := fun q o n h => by rw [upd_ne n]; exact x3 _ _ (x2 _ _ (x1 _ _ h))
      have eA : (upd H3 x (.ins (cadr mg "Shape") dx (putF "layout" (.ref t) []))) x = some (.ins (cadr mg "Shape") dx (putF "layout" (.ref t) [])) := upd_same
      have xt : t ≠ x := fun z => by rw [z, hx3] at et; cases et
      have etA : (upd H3 x (.ins (cadr mg "Shape") dx (putF "layout" (.ref t) []))) t = some (.tup ys) := by rw [upd_ne xt]; exact et
      have yA : ∀ (i : Nat) (y : V), ys[i]? = some y → ∃ q c, y = .ref q ∧ cs[i]? = some c ∧ (upd H3 x (.ins (cadr mg "Shape") dx (putF "layout" (.ref t) []))) q = some (.tup (ct c)) := fun i y hy => by
        obtain ⟨q, c, h1, h2, h3⟩ := hyq i y hy
        have h4 := x3 _ _ h3
        exact ⟨q, c, h1, h2, by rw [upd_ne (fun z => by rw [z, hx3] at h4; cases h4)]; exact h4⟩
      have l1 : (putF ("layout" : Str) (V.ref t) []).lookup ("layout" : Str) = some (V.ref t) := by rfl
      have l1n : (putF ("layout" : Str) (V.ref t) []).length < 1000 := by show 1 < 1000; decide
      generalize upd H3 x (.ins (cadr mg "Shape") dx (putF "layout" (.ref t) [])) = HA at kA eA etA yA
      walk_at "g"
      refine g_dc ?_
      walk_at "g"
      refine ⟨x, _, dx, _, _, rfl, eA, T.cl_Shape, T.n_Shape_layout, l1, ?_⟩
      refine ⟨t, rfl, ⟨ys, SqT.of etA⟩, fun D hD => ?_⟩
      have hDt : t ≠ D := ne_of_none etA hD
      refine dc_tup (xs := ys) (fun i H' => (∀ q o, q ≠ D → HA q = some o → H' q = some o) ∧ ∃ kvs, H' D = some (.dK kvs) ∧ keysP kvs ((cs.take i).map (·.1)) ∧ kvs.length ≤ i ∧ ∀ (j : Nat) c, j < i → cs[j]? = some c → ∃ q, valV kvs (Sum.inr c.1) = some (.ref q) ∧ HA q = some (.tup (ct c))) ⟨fun q o n h => by rw [upd_ne n]; exact h, [], upd_same, keysP.nil, Nat.le_refl _, fun j c h => absurd h (Nat.not_lt_zero _)⟩ (fun i H' _ p => SqT.of (p.1 _ _ hDt etA)) ?_ ?_
      · rintro i y H' hy ⟨kD, kvs, eD, hk, hkl, hsp⟩
        obtain ⟨q, c, rfl, hc, hq⟩ := yA i y hy
        have eq := kD _ _ (ne_of_none hq hD) hq
        have hil : i < cs.length := (List.getElem?_eq_some_iff.mp hc).1
        walk_at "g"
        refine ⟨rfl, ?_⟩
        walk_at "g"
        refine g_ixT (SqT.of eq) (v := .str c.1) (by rfl) ?_
        walk_at "g"
        refine ⟨kvs, Sum.inr c.1, rfl, eD, by rw [sizeLine_eq]; omega, fun q o n h => by rw [upd_ne n]; exact kD _ _ n h, _, upd_same, ?_, Nat.le_trans (length_putK _ _ _) (by omega), fun j c2 hj hc2 => ?_⟩
        rotate_left
        · rw [valV_put]
          by_cases e : j = i
          · subst e
            rw [hc] at hc2
            injection hc2 with hc2
            exact ⟨q, by rw [if_pos (by rw [hc2])], by rw [← hc2]; exact hq⟩
          · have hne : c2.1 ≠ c.1 := nd_ne hcs.nd (i := j) (j := i) (by rw [List.getElem?_map, hc2]; rfl) (by rw [List.getElem?_map, hc]; rfl) e
            rw [if_neg (fun h => hne (by injection h))]
            exact hsp j c2 (by omega) hc2
        rw [List.take_succ, hc, List.map_append]
        exact hk.put
      · rintro HB ⟨kB, kvs, eD, hk, hkl, hsp⟩
        have hyl2 : ys.length = cs.length := by rw [hyl, List.length_map, hlen]
        rw [hyl2, List.take_length] at hk
        rw [hyl2] at hsp
        have spA : SpotsAt HA kvs cs := fun j c hc => hsp j c (List.getElem?_eq_some_iff.mp hc).1 hc
        have hxD : x ≠ D := ne_of_none eA hD
        have eB := kB _ _ hxD eA
        have spB : SpotsAt HB kvs cs := fun j c hc => by
          obtain ⟨q, h1, h2⟩ := spA j c hc
          exact ⟨q, h1, kB _ _ (ne_of_none h2 hD) h2⟩
        walk_at "g"
        refine ⟨x, _, dx, _, rfl, eB, T.cl_Shape, T.n_Shape_spots, l1n, ?_⟩
        have fC : ∃ fs_, putF ("spots" : Str) (V.ref D) (putF ("layout" : Str) (V.ref t) []) = fs_ ∧ fs_.lookup ("spots" : Str) = some (V.ref D) ∧ fs_.length < 900 := ⟨_, rfl, by rfl, by show 2 < 900; decide⟩
        obtain ⟨fs_, e3, l3, n3⟩ := fC
        rw [e3]
        have kC : ∀ q o, q ≠ x → H q = some o → (upd HB x (.ins (cadr mg "Shape") dx fs_)) q = some o := fun q o n h => by
          have h2 := kA _ _ n h
          rw [upd_ne n]; exact kB _ _ (ne_of_none h2 hD) h2
        have eC : (upd HB x (.ins (cadr mg "Shape") dx fs_)) x = some (.ins (cadr mg "Shape") dx fs_) := upd_same
        have eDC : (upd HB x (.ins (cadr mg "Shape") dx fs_)) D = some (.dK kvs) := by rw [upd_ne (Ne.symm hxD)]; exact eD
        have spC : SpotsAt (upd HB x (.ins (cadr mg "Shape") dx fs_)) kvs cs := spB.keepN eB (fun l e => nomatch e) fun q o n h => by rw [upd_ne n]; exact h
        have nC : NXT x HB (upd HB x (.ins (cadr mg "Shape") dx fs_)) := NXT.upd
        generalize upd HB x (.ins (cadr mg "Shape") dx fs_) = HC at kC eC eDC spC nC
        walk_at "g"
        refine ⟨x, _, dx, _, _, rfl, eC, T.cl_Shape, T.n_Shape_spots, l3, ?_⟩
        walk_at "g"
        have pcx : pc ≠ x := fun z => by rw [z, hx] at hpc; rcases hpc with h | h <;> cases h
        have fitC : ∀ {H'}, (∀ q o, q ≠ x → H q = some o → H' q = some o) → RF (FitAt (cadr mg "Test") H') fs us := fun {H'} kk => hRF.mono (S := FitAt (cadr mg "Test") H') fun g q h => ⟨h.te.keepN (p := x) kk fun o e => by rw [hx] at e; cases e; exact ⟨(fun _ _ z => by injection z with _ _ z; exact z.symm), (fun _ z => nomatch z)⟩, h.wf, h.dp, h.sz⟩
        refine ⟨D, pc, cs, kvs, fs, us, rfl, eDC, hk, spC, hpc.imp (kC _ _ pcx) (kC _ _ pcx), fitC kC, hfl, fun i f hf hb ha e H' x' he => absurd (hall0 f (List.mem_of_getElem? hf)) (by rw [hb]; exact Bool.false_ne_true), fun hall HE0 xE0 => ?_⟩
        walk_at "g"
        refine g_tupA (hpc.imp (fun h => xE0 _ _ (kC _ _ pcx h)) fun h => xE0 _ _ (kC _ _ pcx h)) fun t3 HE xE1 et3 => ?_
        have xE : XT HC HE := xE0.trans xE1
        clear xE0 xE1
        walk_at "g"
        refine ⟨x, _, dx, _, rfl, xE _ _ eC, T.cl_Shape, T.n_Shape_check_tests, by omega, ?_⟩
        have fF : ∃ fs', putF ("check_tests" : Str) (V.ref t3) fs_ = fs' ∧ fs'.lookup ("spots" : Str) = some (V.ref D) ∧ fs'.lookup ("layout" : Str) = some (V.ref t) ∧ fs'.lookup ("check_tests" : Str) = some (V.ref t3) ∧ fs'.length < 950 := by
          rw [← e3]
          exact ⟨_, rfl, by rfl, by rfl, by rfl, by show 3 < 950; decide⟩
        obtain ⟨fs', e4, l4, l4l, l4c, n4⟩ := fF
        rw [e4]
        have kF : ∀ q o, q ≠ x → H q = some o → (upd HE x (.ins (cadr mg "Shape") dx fs')) q = some o := fun q o n h => by
          rw [upd_ne n]; exact xE _ _ (kC _ _ n h)
        have eF : (upd HE x (.ins (cadr mg "Shape") dx fs')) x = some (.ins (cadr mg "Shape") dx fs') := upd_same
        have eDF : (upd HE x (.ins (cadr mg "Shape") dx fs')) D = some (.dK kvs) := by rw [upd_ne (Ne.symm hxD)]; exact xE _ _ eDC
        have spF : SpotsAt (upd HE x (.ins (cadr mg "Shape") dx fs')) kvs cs := (spC.keep xE).keepN (xE _ _ eC) (fun l e => nomatch e) fun q o n h => by rw [upd_ne n]; exact h
        have t3x : t3 ≠ x := fun z => by rw [z, xE _ _ eC] at et3; cases et3
        have etF : (upd HE x (.ins (cadr mg "Shape") dx fs')) t3 = some (.tup (us.map V.ref)) := by rw [upd_ne t3x]; exact et3
        have nF : NXT x HE (upd HE x (.ins (cadr mg "Shape") dx fs')) := NXT.upd
        generalize upd HE x (.ins (cadr mg "Shape") dx fs') = HF at kF eF eDF spF etF nF
        walk_at "g"
        refine ⟨x, _, dx, _, _, rfl, eF, T.cl_Shape, T.n_Shape_spots, l4, ?_⟩
        walk_at "g"
        refine ⟨D, pk, rfl, hpk, fun HG xG => ?_⟩
        walk_at "g"
        have hKs : KysAt (KyIn (cadr mg "Test") H) ([] : List V) ([] : List Ky) := ⟨rfl, fun i v k a b => by cases a⟩
        have nG : NXT x H HG := fun q o n h => xG _ _ (kF _ _ n h)
        have hks := hKs.1
        refine g_seqB ?_
        walk_at "g"
        refine ⟨pk, [], rfl, .inr (hpk _), fun J2 hJ2 D2 hD2 => ?_⟩
        refine lc_new ([] : List V) (fun i y H' => ∃ kk t5 t4 z, ([] : List Ky)[i]? = some kk ∧ y = .ref t5 ∧ H' t5 = some (.tup [.ref t4, z]) ∧ H' t4 = some (.tup (kk.1.map V.str)) ∧ TzAt (cadr mg "Test") H z kk.2) hD2 (fun H2 k2 => hJ2 H2 k2) (Nat.zero_le _) ?_ ?_ ?_
        · rintro i y Ha Hb ⟨zs, hz⟩ ⟨kk, t5, t4, z, h1, h2, h3, h4, h5⟩ hk
          exact ⟨kk, t5, t4, z, h1, h2, hk _ _ (fun e => by rw [e, hz] at h3; cases h3) h3, hk _ _ (fun e => by rw [e, hz] at h4; cases h4) h4, h5⟩
        · intro i v Hh R S hy kh _ hR
          obtain ⟨kk, hkk⟩ : ∃ kk, ([] : List Ky)[i]? = some kk := nomatch hy
          obtain ⟨p, n, z, rfl, hp, hn, hz⟩ := hKs.2 i v kk hy hkk
          have hp := kh _ _ (nG _ _ (over_ne hx hp (fun _ _ _ e => nomatch e)) hp)
          have hn := seq_keep (seq_over hx nG hn) kh
          refine g_gtup hp rfl ?_
          refine g_gcons ?_
          walk_at "g"
          refine g_gcons ?_
          walk_at "g"
          refine g_gnil ?_
          refine ⟨rfl, ?_⟩
          walk_at "g"
          refine g_tupA hn fun t4 H4 x4 et4 => ?_
          walk_at "g"
          refine ⟨by show 2 ≤ sizeLine; decide, fun t5 ht5 => ?_⟩
          have x5 : XT Hh (upd H4 t5 (.tup [.ref t4, z])) := XT.new x4 ht5
          have x45 : XT H4 (upd H4 t5 (.tup [.ref t4, z])) := XT.new XT.refl ht5
          exact hR _ _ x5 ⟨kk, t5, t4, z, hkk, rfl, upd_same, x45 _ _ et4, hz⟩
        · intro HI ys2 x2' hWI hylI hysI
          walk_at "g"
          refine g_tupL (SqL.of hWI) fun t6 ht6 => ?_
          have xJ : XT HI (upd HI t6 (.tup ys2)) := XT.new XT.refl ht6
          have et6 : (upd HI t6 (.tup ys2)) t6 = some (.tup ys2) := upd_same
          generalize upd HI t6 (.tup ys2) = HJ at xJ et6
          have eJ := xJ _ _ (x2' _ _ (xG _ _ eF))
          walk_at "g"
          refine ⟨x, _, dx, _, rfl, eJ, T.cl_Shape, T.n_Shape_key_rules, by omega, ?_⟩
          walk_at "g"
          have xGJ : XT HG HJ := XT.trans x2' xJ
          have nK : NXT x HJ (upd HJ x (.ins (cadr mg "Shape") dx (putF "key_rules" (.ref t6) fs'))) := NXT.upd
          have eK : (upd HJ x (.ins (cadr mg "Shape") dx (putF "key_rules" (.ref t6) fs'))) x = some (.ins (cadr mg "Shape") dx (putF "key_rules" (.ref t6) fs')) := upd_same
          have ef : putF "key_rules" (.ref t6) fs' = sf t D t3 t6 := by
            rw [← e4, ← e3]
            rfl
          rw [ef] at eK nK ⊢
          generalize upd HJ x (.ins (cadr mg "Shape") dx (sf t D t3 t6)) = HK at eK nK
          have hJx : HJ x = some (.ins (cadr mg "Shape") dx fs') := eJ
          have nAB : NXT x HA HB := fun q o _ h => kB _ _ (ne_of_none h hD) h
          have nAK : NXT x HA HK := nAB.trans (nC.trans ((NXT.of xE).trans (nF.trans ((NXT.of (XT.trans xG xGJ)).trans nK))))
          have nFK : NXT x HF HK := (NXT.of (XT.trans xG xGJ)).trans nK
          have nHK : NXT x H HK := nG.trans ((NXT.of xGJ).trans nK)
          obtain ⟨qL, rfl⟩ := refs_of (ys := ys) fun y hy => by
            obtain ⟨i, hi, e⟩ := List.mem_iff_getElem.mp hy
            obtain ⟨q, c, h1, _⟩ := yA i y (by rw [List.getElem?_eq_getElem hi, e])
            exact ⟨q, h1⟩
          refine kQ HK nHK ⟨dx, t, D, t3, t6, kvs, qL, us, ys2, eK, nFK _ _ (Ne.symm hxD) eDF, hk, spF.keepN eF (fun l e => nomatch e) nFK, nAK _ _ xt etA, by rw [List.length_map] at hyl2; exact hyl2, fun i q c h1 h2 => ?_, nFK _ _ t3x etF, hRF.mono fun g q h => h.over hx nHK, nK _ _ (fun z => by rw [z, eJ] at et6; cases et6) et6, by rw [hylI]; exact hks, fun i v kk h1 h2 => ?_⟩
          · obtain ⟨q', c', h3, h4, h5⟩ := yA i (.ref q) (by rw [List.getElem?_map, h1]; rfl)
            injection h3 with h3
            subst h3
            rw [h4] at h2
            injection h2 with h2
            subst h2
            exact nAK _ _ (fun z => by rw [z, eA] at h5; cases h5) h5
          · obtain ⟨kk', t5, t4, z, h3, h4, h5, h6, h7⟩ := hysI i v h1
            rw [h3] at h2
            injection h2 with h2
            subst h2
            have h5 := xJ _ _ h5
            have h6 := xJ _ _ h6
            exact ⟨t5, t4, z, h4, nK _ _ (fun e => by rw [e, eJ] at h5; cases h5) h5, nK _ _ (fun e => by rw [e, eJ] at h6; cases h6) h6, h7.over hx nHK⟩
end
def isVk : Bool → V → Prop
  | false, v => isI v
  | true, v => isS v
theorem isVk.v {k : Bool} {v : V} (h : isVk k v) : isV k v := by
  cases k with
  | false => exact .inl h
  | true => exact .inr h
/-- the values are of their columns' kinds -/
def At.Kd (κ : List (Str × Bool)) : At → Prop
  | .among c vs => ∀ k, (c, k) ∈ κ → ∀ v ∈ vs, isVk k v
  | .compare c _ v => ∀ k, (c, k) ∈ κ → isVk k v
  | _ => True
def Fm.Kd (κ : List (Str × Bool)) : Fm → Prop
  | .at a => a.Kd κ
  | .un _ f => f.Kd κ
  | .bi _ f g => f.Kd κ ∧ g.Kd κ
theorem atom_words (a : At) : a.word ≠ "and" ∧ a.word ≠ "or" ∧ a.word ≠ "not" ∧ a.word ≠ "sure" := by
  cases a <;> (simp only [At.word]; decide +kernel)
def k2 (cs : List Col) : List (Str × Bool) := cs.map fun c => (c.1, c.2.1)
structure GF (κ : List (Str × Bool)) (f : Fm) : Prop where
  wf : f.Wf κ
  kd : f.Kd κ
  dp : f.ts.depth ≤ 12
  sz : f.ts.size ≤ 24
theorem knd_k2 {cs : List Col} (nd : (cs.map (·.1)).Nodup) {c : Str} {k : Bool} (h : (c, k) ∈ k2 cs) : knd cs c = some k := by
  obtain ⟨y, hy, e⟩ := List.mem_map.mp h
  injection e with e1 e2
  obtain ⟨j, x, hj, hx, hk⟩ := knd_some (cs := cs) (c := c) (List.mem_map.mpr ⟨y, hy, e1⟩)
  obtain ⟨i, hi, ei⟩ := List.mem_iff_getElem.mp hy
  have ha : (cs.map (·.1))[i]? = some c := by rw [List.getElem?_map, List.getElem?_eq_getElem hi, ei]; exact congrArg some e1
  have hb : (cs.map (·.1))[j]? = some c := by rw [List.getElem?_map, hj]; exact congrArg some hx
  have : i = j := (List.getElem?_inj (List.getElem?_eq_some_iff.mp ha).1 nd).mp (ha.trans hb.symm)
  subst this
  rw [List.getElem?_eq_getElem hi, ei] at hj
  injection hj with hj
  rw [hk, ← hj, e2]
theorem isVk.kB {k : Bool} {v : V} (h : isVk k v) : kB v = k := by
  cases k with
  | false => obtain ⟨i, rfl⟩ := h; rfl
  | true => obtain ⟨z, rfl, _⟩ := h; rfl
theorem At.fits_of {κ : List (Str × Bool)} {cs : List Col} (nd : (cs.map (·.1)).Nodup) (sub : ∀ x ∈ κ, x ∈ k2 cs) {a : At} (w : a.Wf κ) (d : a.Kd κ) : a.fits cs = true := by
  cases a with
  | always => rfl
  | never => rfl
  | empty c =>
    obtain ⟨_, k, m⟩ := w
    show (knd cs c).isSome = true
    rw [knd_k2 nd (sub _ m)]
    rfl
  | among c vs =>
    obtain ⟨_, _, _, k, m, _⟩ := w
    show amF (knd cs c) vs = true
    rw [knd_k2 nd (sub _ m)]
    exact List.all_eq_true.mpr fun v hv => decide_eq_true (d k m v hv).kB
  | begins c z =>
    obtain ⟨_, m, _⟩ := w
    exact decide_eq_true (knd_k2 nd (sub _ m))
  | compare c op v =>
    obtain ⟨_, _, k, m, _⟩ := w
    refine decide_eq_true ?_
    rw [knd_k2 nd (sub _ m), (d k m).kB]
  | against c op e n =>
    obtain ⟨_, _, _, _, k, m1, m2, h0⟩ := w
    show agF (knd cs c) (knd cs e) n = true
    rw [knd_k2 nd (sub _ m1), knd_k2 nd (sub _ m2)]
    show (decide (k = k) && (!k || decide (n = 0))) = true
    rw [decide_eq_true rfl, Bool.true_and]
    cases k with
    | false => rfl
    | true => rw [h0 rfl]; rfl
theorem Fm.fits_of {κ : List (Str × Bool)} {cs : List Col} (nd : (cs.map (·.1)).Nodup) (sub : ∀ x ∈ κ, x ∈ k2 cs) : ∀ {f : Fm}, f.Wf κ → f.Kd κ → f.fits cs = true
  | .at a, w, d => by
    show ([a].all fun a => a.fits cs) = true
    rw [List.all_cons, List.all_nil, Bool.and_true]
    exact At.fits_of nd sub w d
  | .un _ f, w, d => Fm.fits_of nd sub (f := f) w.2 d
  | .bi _ f g, w, d => by
    show ((f.ats ++ g.ats).all fun a => a.fits cs) = true
    rw [List.all_append, Bool.and_eq_true]
    exact ⟨Fm.fits_of nd sub (f := f) w.2.1 d.1, Fm.fits_of nd sub (f := g) w.2.2 d.2⟩
section
variable {X : Cx} {K : PySem.W.Frag} {H : Hp} {Q : VK}
theorem hu64_of {A : Around} {k : Nat} (hr : Room k A) : A.units + 64 < cLine := by
  have := hr.un
  omega
theorem op_neDu (h : X.K = K) (hu : X.A.units + 64 < cLine) : OpR X (compareOp .NotEq) (rNeD K) := by subst h; exact op_neD hu
theorem op_eqDu (h : X.K = K) (hu : X.A.units + 64 < cLine) : OpR X (compareOp .Eq) (rEqD K) := by subst h; exact op_eqD hu
/-- two tuples of the same two texts -/
theorem g_neSame {p q : Addr} {a b : Str} (h1 : H p = some (.tup [.str a, .str b])) (h2 : H q = some (.tup [.str a, .str b])) (hs : SeqAt.shaped (.tuple [.str a, .str b]) = true) (he : PyData.eqv (.tuple [.str a, .str b]) (.tuple [.str a, .str b]) = true) (k : Q (.bl false) H) : rNeD K (.ref p) (.ref q) H Q :=
  ⟨.tuple [.str a, .str b], .tuple [.str a, .str b], .tup (SqT.of h1) (.cons (.str a) (.cons (.str b) .nil)), .tup (SqT.of h2) (.cons (.str a) (.cons (.str b) .nil)), hs, hs, by rw [he]; exact k⟩
end
theorem hu0_of {A : Around} {k : Nat} (hr : Room k A) : A.units < cLine := by
  have := hr.un
  omega
theorem call_sortedSG {X : Cx} {K : PySem.W.Frag} (h : X.K = K) : CallR X (.builtin "sorted") (rSortedS K) := by subst h; exact cr_sortedS
/-! == of tests, either answer -/
/-- numbers and texts -/
def kv (v : V) : Prop := (∃ i, v = .int i) ∨ ∃ z, v = .str z
theorem kv.flat {v : V} (h : kv v) : flatV v = true := by
  rcases h with ⟨i, rfl⟩ | ⟨z, rfl⟩ <;> rfl
theorem kv.eq {x y : V} (h : kv x) (h' : kv y) : eqV x y = true ↔ x = y := by
  rcases h with ⟨i, rfl⟩ | ⟨z, rfl⟩ <;> rcases h' with ⟨j, rfl⟩ | ⟨u, rfl⟩ <;> simp [eqV]
theorem all_kv {xs ys : List V} (fx : ∀ x ∈ xs, kv x) (fy : ∀ y ∈ ys, kv y) : ((List.range (min xs.length ys.length)).all (fun i => eqV (xs.getD i .non) (ys.getD i .non)) && xs.length == ys.length) = true ↔ xs = ys := by
  rw [Bool.and_eq_true, List.all_eq_true, beq_iff_eq]
  constructor
  · rintro ⟨h, hl⟩
    refine List.ext_getElem hl fun i h1 h2 => ?_
    have := h i (List.mem_range.mpr (by omega))
    rw [List.getD_eq_getElem?_getD, List.getD_eq_getElem?_getD, List.getElem?_eq_getElem h1, List.getElem?_eq_getElem h2] at this
    exact (kv.eq (fx _ (List.getElem_mem h1)) (fy _ (List.getElem_mem h2))).mp this
  · rintro rfl
    refine ⟨fun i hi => ?_, rfl⟩
    have h1 : i < xs.length := by have := List.mem_range.mp hi; omega
    rw [List.getD_eq_getElem?_getD, List.getElem?_eq_getElem h1]
    exact (kv.eq (fx _ (List.getElem_mem h1)) (fx _ (List.getElem_mem h1))).mpr rfl
theorem rc_kv {K : PySem.W.Frag} {H : Hp} {a b : Addr} {xs ys : List V} (ha : SqT K H a xs) (hb : SqT K H b ys) (fx : ∀ x ∈ xs, kv x) (fy : ∀ y ∈ ys, kv y) : ∃ r, RcNest K H (EqNest K H 1) (.ref a) (.ref b) r ∧ (r = true ↔ xs = ys) := by
  refine ⟨_, .inl ⟨a, b, xs, ys, fun i => eqV (xs.getD i .non) (ys.getD i .non), rfl, rfl, ha, hb, fun i x y hx hy => ?_, rfl⟩, all_kv fx fy⟩
  refine .inl ⟨(fx x (List.mem_of_getElem? hx)).flat, (fy y (List.mem_of_getElem? hy)).flat, ?_⟩
  show eqV (xs.getD i .non) (ys.getD i .non) = eqV x y
  rw [List.getD_eq_getElem?_getD, List.getD_eq_getElem?_getD, hx, hy]
  rfl
/-- tests whose terms are numbers and texts -/
def Ts.Ok : Ts → Prop
  | .at _ _ ts => ∀ v ∈ ts, kv v
  | .un _ a => a.Ok
  | .bi _ a b => a.Ok ∧ b.Ok
theorem Ts.Ok.trms {t : Ts} (h : t.Ok) : ∀ v ∈ t.trms, kv v := by
  cases t with
  | «at» w fs ts => exact h
  | un w a => exact nofun
  | bi w a b => exact nofun
theorem Ts.Ok.kid {t k : Ts} (h : t.Ok) (m : k ∈ t.kids) : k.Ok := by
  cases t with
  | «at» w fs ts => exact nomatch m
  | un w a =>
    obtain rfl : k = a := by simpa [Ts.kids] using m
    exact h
  | bi w a b =>
    have m : k = a ∨ k = b := by simpa [Ts.kids] using m
    rcases m with rfl | rfl
    · exact h.1
    · exact h.2
theorem Ts.same_iff {t u : Ts} : t = u ↔ t.word = u.word ∧ t.flds = u.flds ∧ t.trms = u.trms ∧ t.kids = u.kids := by
  constructor
  · rintro rfl; exact ⟨rfl, rfl, rfl, rfl⟩
  · rintro ⟨h1, h2, h3, h4⟩
    cases t <;> cases u <;> simp [Ts.word, Ts.flds, Ts.trms, Ts.kids] at h1 h2 h3 h4 ⊢
    · exact ⟨h1, h2, h3⟩
    · exact ⟨h1, h4⟩
    · exact ⟨h1, h4⟩
theorem tf_inj {w w' : Str} {i f t i' f' t' : Addr} {n d n' d' : Int} (h : tf w i f t n d = tf w' i' f' t' n' d') : w = w' ∧ i = i' ∧ f = f' ∧ t = t' := by
  unfold tf at h
  injection h with q1 h
  injection h with q2 h
  injection h with q3 h
  injection h with q4 h
  injection q1 with _ q1
  injection q1 with q1
  injection q2 with _ q2
  injection q2 with q2
  injection q3 with _ q3
  injection q3 with q3
  injection q4 with _ q4
  injection q4 with q4
  exact ⟨q1, q2, q3, q4⟩
theorem row_fun {R : Ts → Addr → Prop} : ∀ {ts us : List Ts} {qs : List Addr}, (∀ t u q, t ∈ ts → R t q → R u q → t = u) → Row R ts qs → Row R us qs → ts = us
  | _, _, _, _, .nil, .nil => rfl
  | _, _, _, h, .cons a r, .cons b s => by
    rw [h _ _ _ List.mem_cons_self a b, row_fun (fun t u q m => h t u q (List.mem_cons_of_mem _ m)) r s]
/-- one test only stands at a place -/
theorem testAt_fun {C : Addr} {H : Hp} : ∀ (n : Nat) {t u : Ts} {p : Addr}, t.depth ≤ n → TestAt C H t p → TestAt C H u p → t = u := by
  intro n
  induction n with
  | zero =>
    intro t u p hd h1 h2
    obtain ⟨dx, i, f, x, qs, a1, a2, a3, a4, a5⟩ := h1.node
    obtain ⟨dy, i', f', x', qs', b1, b2, b3, b4, b5⟩ := h2.node
    rw [a1] at b1
    injection b1 with b1
    injection b1 with _ _ b1
    obtain ⟨e1, rfl, rfl, rfl⟩ := tf_inj b1
    rw [a2] at b2
    rw [a3] at b3
    rw [a4] at b4
    injection b2 with b2
    injection b2 with b2
    injection b3 with b3
    injection b3 with b3
    injection b4 with b4
    injection b4 with b4
    have b2 := (List.map_inj_right fun a b e => by injection e).mp b2
    subst b2
    refine Ts.same_iff.mpr ⟨e1, (List.map_inj_right fun a b e => by injection e).mp b3, b4, row_fun (R := TestAt C H) (fun k v q m _ _ => ?_) a5 b5⟩
    have := Ts.kids_depth m
    omega
  | succ n ih =>
    intro t u p hd h1 h2
    obtain ⟨dx, i, f, x, qs, a1, a2, a3, a4, a5⟩ := h1.node
    obtain ⟨dy, i', f', x', qs', b1, b2, b3, b4, b5⟩ := h2.node
    rw [a1] at b1
    injection b1 with b1
    injection b1 with _ _ b1
    obtain ⟨e1, rfl, rfl, rfl⟩ := tf_inj b1
    rw [a2] at b2
    rw [a3] at b3
    rw [a4] at b4
    injection b2 with b2
    injection b2 with b2
    injection b3 with b3
    injection b3 with b3
    injection b4 with b4
    injection b4 with b4
    have b2 := (List.map_inj_right fun a b e => by injection e).mp b2
    subst b2
    refine Ts.same_iff.mpr ⟨e1, (List.map_inj_right fun a b e => by injection e).mp b3, b4, row_fun (R := TestAt C H) (fun k v q m c1 c2 => ih ?_ c1 c2) a5 b5⟩
    have := Ts.kids_depth m
    omega
def RTb (C : Addr) (n : Nat) (a b : Addr) (r : Bool) (H : Hp) : Prop := ∃ t u, TestAt C H t a ∧ TestAt C H u b ∧ t.Ok ∧ u.Ok ∧ t.depth ≤ n ∧ (r = true ↔ t = u)
theorem RTb.mono {C : Addr} {n : Nat} : ∀ a b r H H', Ext H H' → RTb C n a b r H → RTb C n a b r H' := fun a b r H H' e ⟨t, u, h1, h2, h⟩ => ⟨t, u, h1.keep e, h2.keep e, h⟩
theorem RTb.same {C : Addr} {n : Nat} : ∀ a r H, RTb C n a a r H → r = true := fun a r H ⟨t, u, h1, h2, _, _, _, h⟩ => h.mpr (testAt_fun _ (Nat.le_refl _) h1 h2)
theorem scan_kids {C : Addr} {n : Nat} {H : Hp} : ∀ {ts us : List Ts} {qs ps : List Addr}, Row (TestAt C H) ts qs → Row (TestAt C H) us ps → (∀ t ∈ ts, t.Ok ∧ t.depth ≤ n) → (∀ t ∈ us, t.Ok) → ∃ r, Scan (BIns C (RTb C n)) (qs.map V.ref) (ps.map V.ref) r H ∧ (r = true ↔ ts = us)
  | _, _, _, _, .nil, .nil, _, _ => ⟨true, rfl, by simp⟩
  | _, _, _, _, .nil, .cons _ _, _, _ => ⟨false, rfl, by simp⟩
  | _, _, _, _, .cons _ _, .nil, _, _ => ⟨false, rfl, by simp⟩
  | _, _, _, _, .cons (t := t) (q := q) a r, .cons (t := u) (q := p) b s, h1, h2 => by
    obtain ⟨x, hx, hr⟩ := scan_kids r s (fun t m => h1 t (List.mem_cons_of_mem _ m)) fun t m => h2 t (List.mem_cons_of_mem _ m)
    obtain ⟨k1, k2⟩ := h1 t List.mem_cons_self
    have k3 := h2 u List.mem_cons_self
    obtain ⟨dx, _, _, _, _, e1, _⟩ := a.node
    obtain ⟨dy, _, _, _, _, e2, _⟩ := b.node
    by_cases e : t = u
    · exact ⟨x, .inr ⟨⟨q, p, dx, dy, _, _, rfl, rfl, e1, e2, t, u, a, b, k1, k3, k2, by simp [e]⟩, hx⟩, by rw [hr, List.cons.injEq]; simp [e]⟩
    · exact ⟨false, .inl ⟨⟨q, p, dx, dy, _, _, rfl, rfl, e1, e2, t, u, a, b, k1, k3, k2, by simp [e]⟩, rfl⟩, by simp [e]⟩
def spTeq (C : Addr) (n : Nat) : Sp := fun vs H Q _ => ∃ (a : Addr) (t : Ts) (y : V), vs = [.ref a, y] ∧ TestAt C H t a ∧ t.Ok ∧ t.depth ≤ n ∧
  ((∃ (b : Addr) (u : Ts), y = .ref b ∧ TestAt C H u b ∧ u.Ok ∧ ∀ r H', Ext H H' → (r = true ↔ t = u) → Q (.bl r) H') ∨ ((∃ T : String, T ∈ kinds7 ∧ TyOf7 H y T) ∧ ∀ H', Ext H H' → Q (.bl false) H'))
theorem spTeq_of {C : Addr} {n : Nat} : ∀ vs H Q E, spEqb (RTb C n) vs H Q E → spTeq C n vs H Q E := fun vs H Q E ⟨a, b, r, hv, ⟨t, u, h1, h2, h3, h4, h5, h6⟩, k⟩ =>
  ⟨a, t, .ref b, hv, h1, h3, h5, .inl ⟨b, u, rfl, h2, h4, fun r' H' e hr => by
    have : r' = r := by
      cases r <;> cases r'
      · rfl
      · exact (h6.mpr (hr.mp rfl)).symm
      · exact (hr.mpr (h6.mp rfl))
      · rfl
    rw [this]
    exact k H' e⟩⟩
section
variable {P : Program} {w : World} {K : PySem.W.Frag} {mg : Str → Option Value} {base : Heap}
theorem ok_eqN (T : Txt K mg) : ∀ n, DefM P w K mg base (2 * n + 2) (cadr mg "Test") "__eq__" ["self", "other"] (spTeq (cadr mg "Test") n) := by
  intro n
  induction n with
  | zero =>
    have opIn : ∀ {X : Cx} {j : Nat}, X.prog = P → X.w = w → X.K = K → X.mg = mg → X.base = base → Room j X.A → 1 ≤ j → OpR X (compareOp .Eq) (rEqb (BTup K BFlat)) := fun _ _ h _ _ hr hj => by
      subst h
      exact op_eqb (richB_tup monB_flat ansB_flat) (hr.mono hj)
    obtain ⟨f, fd, h⟩ := T.d_Test_eq
    refine h.def (Fun.okM h.fn sc_Test_eq (fun vs H Q E h => ?_) (fun cdv A outer s H vs Q E hr h => ?_))
    · obtain ⟨a, t, y, rfl, _⟩ := h
      rfl
    · obtain ⟨a, t, y, rfl, hA, hO, hd, hy⟩ := h
      refine ⟨_, (pss_one (ps_ret (pe_and (pe_callB (call_isiG (K := K) rfl) (by rfl) T.h_isinstance (by decide +kernel) (pa_cons (pv 1) (pa_cons (pe_cls rfl T.e_Test) pa_nil))) (pe_and (pe_cmpR op_eq (pe_fldG (K := K) rfl (pv 0) rfl) (pe_fldG (K := K) rfl (pv 1) rfl) (nomark _)) (pe_and (pe_cmpR (op_eqNest (K := K) rfl (hu64_of hr)) (pe_fldG (K := K) rfl (pv 0) rfl) (pe_fldG (K := K) rfl (pv 1) rfl) (nomark _)) (pe_and (pe_cmpR (op_eqNest (K := K) rfl (hu64_of hr)) (pe_fldG (K := K) rfl (pv 0) rfl) (pe_fldG (K := K) rfl (pv 1) rfl) (nomark _)) (pe_one (pe_cmpR (opIn rfl rfl rfl rfl rfl hr (by omega)) (pe_fldG (K := K) rfl (pv 0) rfl) (pe_fldG (K := K) rfl (pv 1) rfl) (nomark _))))))))), ?_⟩
      rcases hy with ⟨b, u, rfl, hB, hU, k⟩ | ⟨⟨Tn, hT, ty⟩, k⟩
      · obtain ⟨dx, i1, f1, u1, qs1, hp, hi1, hf1, hu1, hR1⟩ := hA.node
        obtain ⟨dy, i2, f2, u2, qs2, hq, hi2, hf2, hu2, hR2⟩ := hB.node
        have kn : t.kids = [] := by
          cases e : t.kids with
          | nil => rfl
          | cons x l =>
            have := Ts.kids_depth (t := t) (k := x) (by rw [e]; exact List.mem_cons_self)
            omega
        have ff : ∀ {z : Ts}, ∀ v ∈ z.flds.map V.str, kv v := fun {z} v hv => by
          obtain ⟨s, _, rfl⟩ := List.mem_map.mp hv
          exact .inr ⟨s, rfl⟩
        walk_at "g"
        refine g_isOwn T.is_Test T.cl_Test hq ?_
        walk_at "g"
        refine ⟨a, _, dx, _, _, rfl, hp, T.cl_Test, T.n_Test_word, tf_word, ?_⟩
        walk_at "g"
        refine ⟨b, _, dy, _, _, rfl, hq, T.cl_Test, T.n_Test_word, tf_word, ?_⟩
        walk_at "g"
        by_cases hw : t.word = u.word
        · rw [decide_eq_true hw]
          walk_at "g"
          refine ⟨a, _, dx, _, _, rfl, hp, T.cl_Test, T.n_Test_fields, tf_fields, ?_⟩
          walk_at "g"
          refine ⟨b, _, dy, _, _, rfl, hq, T.cl_Test, T.n_Test_fields, tf_fields, ?_⟩
          obtain ⟨r1, hr1, hs1⟩ := rc_kv (K := K) (SqT.of hf1) (SqT.of hf2) ff ff
          refine ⟨1, r1, by decide, hr1, ?_⟩
          have hs1 : r1 = true ↔ t.flds = u.flds := hs1.trans (List.map_inj_right fun a b e => by injection e)
          cases r1 with
          | false =>
            walk_at "g"
            exact k false _ Ext.rfl' ⟨nofun, fun e => absurd (hs1.mpr (by rw [e])) nofun⟩
          | true =>
            walk_at "g"
            refine ⟨a, _, dx, _, _, rfl, hp, T.cl_Test, T.n_Test_terms, tf_terms, ?_⟩
            walk_at "g"
            refine ⟨b, _, dy, _, _, rfl, hq, T.cl_Test, T.n_Test_terms, tf_terms, ?_⟩
            obtain ⟨r2, hr2, hs2⟩ := rc_kv (K := K) (SqT.of hu1) (SqT.of hu2) hO.trms hU.trms
            refine ⟨1, r2, by decide, hr2, ?_⟩
            cases r2 with
            | false =>
              walk_at "g"
              exact k false _ Ext.rfl' ⟨nofun, fun e => absurd (hs2.mpr (by rw [e])) nofun⟩
            | true =>
              walk_at "g"
              refine ⟨a, _, dx, _, _, rfl, hp, T.cl_Test, T.n_Test_inner, tf_inner, ?_⟩
              walk_at "g"
              refine ⟨b, _, dy, _, _, rfl, hq, T.cl_Test, T.n_Test_inner, tf_inner, ?_⟩
              have e1 : qs1 = [] := List.length_eq_zero_iff.mp (by rw [hR1.len, kn]; rfl)
              subst e1
              have hl2 := hR2.len
              refine ⟨decide (u.kids = []), ⟨i1, i2, [], qs2.map V.ref, rfl, rfl, SqT.of hi1, SqT.of hi2, ?_⟩, fun H' x => ?_⟩
              · cases hqs : qs2 with
                | nil =>
                  rw [hqs] at hl2
                  exact decide_eq_true (List.length_eq_zero_iff.mp hl2.symm)
                | cons x l =>
                  rw [hqs] at hl2
                  exact decide_eq_false fun e => by rw [e] at hl2; cases hl2
              · walk_at "g"
                refine k _ _ x ?_
                rw [Ts.same_iff, kn]
                simp only [decide_eq_true_eq]
                exact ⟨fun e => ⟨hw, hs1.mp rfl, hs2.mp rfl, e.symm⟩, fun e => e.2.2.2.symm⟩
        · rw [decide_eq_false hw]
          walk_at "g"
          exact k false _ Ext.rfl' ⟨nofun, fun e => absurd (by rw [e]) hw⟩
      · walk_at "g"
        refine g_isNot T.is_Test (ty.x K) hT ?_
        walk_at "g"
        exact k _ Ext.rfl'
  | succ n ih =>
    have opIn : ∀ {X : Cx} {j : Nat}, X.prog = P → X.w = w → X.K = K → X.mg = mg → X.base = base → Room j X.A → 2 * n + 2 + 1 ≤ j → OpR X (compareOp .Eq) (rEqb (BTup K (BIns (cadr mg "Test") (RTb (cadr mg "Test") n)))) := fun h1 h2 h3 h4 h5 hr hj => op_eqTI RTb.mono RTb.same ih spTeq_of h1 h2 h3 h4 h5 hr hj
    obtain ⟨f, fd, h⟩ := T.d_Test_eq
    refine h.def (Fun.okM h.fn sc_Test_eq (fun vs H Q E h => ?_) (fun cdv A outer s H vs Q E hr h => ?_))
    · obtain ⟨a, t, y, rfl, _⟩ := h
      rfl
    · obtain ⟨a, t, y, rfl, hA, hO, hd, hy⟩ := h
      refine ⟨_, (pss_one (ps_ret (pe_and (pe_callB (call_isiG (K := K) rfl) (by rfl) T.h_isinstance (by decide +kernel) (pa_cons (pv 1) (pa_cons (pe_cls rfl T.e_Test) pa_nil))) (pe_and (pe_cmpR op_eq (pe_fldG (K := K) rfl (pv 0) rfl) (pe_fldG (K := K) rfl (pv 1) rfl) (nomark _)) (pe_and (pe_cmpR (op_eqNest (K := K) rfl (hu64_of hr)) (pe_fldG (K := K) rfl (pv 0) rfl) (pe_fldG (K := K) rfl (pv 1) rfl) (nomark _)) (pe_and (pe_cmpR (op_eqNest (K := K) rfl (hu64_of hr)) (pe_fldG (K := K) rfl (pv 0) rfl) (pe_fldG (K := K) rfl (pv 1) rfl) (nomark _)) (pe_one (pe_cmpR (opIn rfl rfl rfl rfl rfl hr (by omega)) (pe_fldG (K := K) rfl (pv 0) rfl) (pe_fldG (K := K) rfl (pv 1) rfl) (nomark _))))))))), ?_⟩
      rcases hy with ⟨b, u, rfl, hB, hU, k⟩ | ⟨⟨Tn, hT, ty⟩, k⟩
      · obtain ⟨dx, i1, f1, u1, qs1, hp, hi1, hf1, hu1, hR1⟩ := hA.node
        obtain ⟨dy, i2, f2, u2, qs2, hq, hi2, hf2, hu2, hR2⟩ := hB.node
        have ff : ∀ {z : Ts}, ∀ v ∈ z.flds.map V.str, kv v := fun {z} v hv => by
          obtain ⟨s, _, rfl⟩ := List.mem_map.mp hv
          exact .inr ⟨s, rfl⟩
        walk_at "g"
        refine g_isOwn T.is_Test T.cl_Test hq ?_
        walk_at "g"
        refine ⟨a, _, dx, _, _, rfl, hp, T.cl_Test, T.n_Test_word, tf_word, ?_⟩
        walk_at "g"
        refine ⟨b, _, dy, _, _, rfl, hq, T.cl_Test, T.n_Test_word, tf_word, ?_⟩
        walk_at "g"
        by_cases hw : t.word = u.word
        · rw [decide_eq_true hw]
          walk_at "g"
          refine ⟨a, _, dx, _, _, rfl, hp, T.cl_Test, T.n_Test_fields, tf_fields, ?_⟩
          walk_at "g"
          refine ⟨b, _, dy, _, _, rfl, hq, T.cl_Test, T.n_Test_fields, tf_fields, ?_⟩
          obtain ⟨r1, hr1, hs1⟩ := rc_kv (K := K) (SqT.of hf1) (SqT.of hf2) ff ff
          refine ⟨1, r1, by decide, hr1, ?_⟩
          have hs1 : r1 = true ↔ t.flds = u.flds := hs1.trans (List.map_inj_right fun a b e => by injection e)
          cases r1 with
          | false =>
            walk_at "g"
            exact k false _ Ext.rfl' ⟨nofun, fun e => absurd (hs1.mpr (by rw [e])) nofun⟩
          | true =>
            walk_at "g"
            refine ⟨a, _, dx, _, _, rfl, hp, T.cl_Test, T.n_Test_terms, tf_terms, ?_⟩
            walk_at "g"
            refine ⟨b, _, dy, _, _, rfl, hq, T.cl_Test, T.n_Test_terms, tf_terms, ?_⟩
            obtain ⟨r2, hr2, hs2⟩ := rc_kv (K := K) (SqT.of hu1) (SqT.of hu2) hO.trms hU.trms
            refine ⟨1, r2, by decide, hr2, ?_⟩
            cases r2 with
            | false =>
              walk_at "g"
              exact k false _ Ext.rfl' ⟨nofun, fun e => absurd (hs2.mpr (by rw [e])) nofun⟩
            | true =>
              walk_at "g"
              refine ⟨a, _, dx, _, _, rfl, hp, T.cl_Test, T.n_Test_inner, tf_inner, ?_⟩
              walk_at "g"
              refine ⟨b, _, dy, _, _, rfl, hq, T.cl_Test, T.n_Test_inner, tf_inner, ?_⟩
              obtain ⟨r3, hr3, hs3⟩ := scan_kids (n := n) hR1 hR2 (fun z m => ⟨hO.kid m, by have := Ts.kids_depth m; omega⟩) fun z m => hU.kid m
              refine ⟨r3, ⟨i1, i2, _, _, rfl, rfl, SqT.of hi1, SqT.of hi2, hr3⟩, fun H' x => ?_⟩
              walk_at "g"
              refine k _ _ x ?_
              rw [Ts.same_iff, hs3]
              exact ⟨fun e => ⟨hw, hs1.mp rfl, hs2.mp rfl, e⟩, fun e => e.2.2.2⟩
        · rw [decide_eq_false hw]
          walk_at "g"
          exact k false _ Ext.rfl' ⟨nofun, fun e => absurd (by rw [e]) hw⟩
      · walk_at "g"
        refine g_isNot T.is_Test (ty.x K) hT ?_
        walk_at "g"
        exact k _ Ext.rfl'
theorem ok_Test_eq (T : Txt K mg) : DefM P w K mg base 26 (cadr mg "Test") "__eq__" ["self", "other"] (spTeq (cadr mg "Test") 12) := ok_eqN T 12
end
/-! forms as plain data -/
def vpd : V → PyData
  | .int i => .int i
  | .str z => .str z
  | _ => .none
theorem vpd_eq {x y : V} (h : kv x) (h' : kv y) : PyData.eqv (vpd x) (vpd y) = true ↔ x = y := by
  rcases h with ⟨i, rfl⟩ | ⟨z, rfl⟩ <;> rcases h' with ⟨j, rfl⟩ | ⟨u, rfl⟩ <;> simp [vpd, PyData.eqv]
theorem vpds_eq : ∀ {xs ys : List V}, (∀ x ∈ xs, kv x) → (∀ y ∈ ys, kv y) → (PyData.eqvAll (xs.map vpd) (ys.map vpd) = true ↔ xs = ys)
  | [], [], _, _ => by simp [PyData.eqvAll]
  | [], _ :: _, _, _ => by simp [PyData.eqvAll]
  | _ :: _, [], _, _ => by simp [PyData.eqvAll]
  | x :: xs, y :: ys, h1, h2 => by
    simp only [List.map_cons, PyData.eqvAll, Bool.and_eq_true, List.cons.injEq]
    rw [vpd_eq (h1 x List.mem_cons_self) (h2 y List.mem_cons_self), vpds_eq (fun v m => h1 v (List.mem_cons_of_mem _ m)) fun v m => h2 v (List.mem_cons_of_mem _ m)]
def At.args : At → List PyData
  | .always => []
  | .never => []
  | .empty c => [.str c]
  | .among c vs => [.str c, .list (vs.map vpd)]
  | .begins c z => [.str c, .str z]
  | .compare c op v => [.str c, .str op, vpd v]
  | .against c op d n => [.str c, .str op, .str d, .int n]
def Fm.pd : Fm → PyData
  | .at a => .tuple (.str a.word :: a.args)
  | .un w f => .tuple [.str w, f.pd]
  | .bi w f g => .tuple [.str w, f.pd, g.pd]
def At.Kv : At → Prop
  | .among _ vs => ∀ v ∈ vs, kv v
  | .compare _ _ v => kv v
  | _ => True
def Fm.Kv : Fm → Prop
  | .at a => a.Kv
  | .un _ f => f.Kv
  | .bi _ f g => f.Kv ∧ g.Kv
theorem isV.kv {k : Bool} {v : V} (h : isV k v) : kv v := by
  rcases h with h | ⟨z, rfl, _⟩
  · exact .inl h
  · exact .inr ⟨z, rfl⟩
theorem At.Wf.kv {κ : List (Str × Bool)} {a : At} (h : a.Wf κ) : a.Kv := by
  cases a with
  | among c vs => obtain ⟨_, _, _, k, _, hv⟩ := h; exact fun v m => (hv v m).kv
  | compare c op v => obtain ⟨_, _, k, _, hv⟩ := h; exact hv.kv
  | _ => trivial
theorem Fm.Wf.kv {κ : List (Str × Bool)} : ∀ {f : Fm}, f.Wf κ → f.Kv
  | .at _, h => At.Wf.kv h
  | .un _ f, h => Fm.Wf.kv (f := f) h.2
  | .bi _ f g, h => ⟨Fm.Wf.kv (f := f) h.2.1, Fm.Wf.kv (f := g) h.2.2⟩
theorem At.Kv.ok {a : At} (h : a.Kv) : a.ts.Ok := by
  cases a with
  | among c vs => exact h
  | compare c op v =>
    intro x hx
    rcases List.mem_cons.mp hx with rfl | hx
    · exact .inr ⟨op, rfl⟩
    · rw [List.mem_singleton.mp hx]; exact h
  | against c op d n =>
    intro x hx
    rcases List.mem_cons.mp hx with rfl | hx
    · exact .inr ⟨op, rfl⟩
    · rw [List.mem_singleton.mp hx]; exact .inl ⟨n, rfl⟩
  | begins c z =>
    intro x hx
    rw [List.mem_singleton.mp hx]
    exact .inr ⟨z, rfl⟩
  | always => exact nofun
  | never => exact nofun
  | empty c => exact nofun
theorem Fm.Kv.ok : ∀ {f : Fm}, f.Kv → f.ts.Ok
  | .at _, h => At.Kv.ok h
  | .un _ f, h => Fm.Kv.ok (f := f) h
  | .bi _ f g, h => ⟨Fm.Kv.ok (f := f) h.1, Fm.Kv.ok (f := g) h.2⟩
theorem At.eq_of {a b : At} (hw : a.word = b.word) (hf : a.flds = b.flds) (ht : a.trms = b.trms) : a = b := by
  cases a <;> cases b <;> first
    | exact absurd hw (by simp only [At.word]; decide +kernel)
    | rfl
    | (simp only [At.flds, At.trms, List.cons.injEq, V.str.injEq, V.int.injEq] at hf ht; simp_all)
theorem At.args_eq {a b : At} (ha : a.Kv) (hb : b.Kv) (hw : a.word = b.word) : PyData.eqvAll a.args b.args = true ↔ a = b := by
  cases a with
  | always =>
    cases b with
    | always => simp [At.args, PyData.eqvAll]
    | _ => exact absurd hw (by simp only [At.word]; decide +kernel)
  | never =>
    cases b with
    | never => simp [At.args, PyData.eqvAll]
    | _ => exact absurd hw (by simp only [At.word]; decide +kernel)
  | empty c =>
    cases b with
    | empty c2 => simp [At.args, PyData.eqvAll, PyData.eqv]
    | _ => exact absurd hw (by simp only [At.word]; decide +kernel)
  | among c vs =>
    cases b with
    | among c2 us => simp only [At.args, PyData.eqvAll, PyData.eqv, Bool.and_eq_true, Bool.and_true, beq_iff_eq, At.among.injEq]; rw [vpds_eq ha hb]
    | _ => exact absurd hw (by simp only [At.word]; decide +kernel)
  | begins c z =>
    cases b with
    | begins c2 z2 => simp [At.args, PyData.eqvAll, PyData.eqv]
    | _ => exact absurd hw (by simp only [At.word]; decide +kernel)
  | compare c op v =>
    cases b with
    | compare c2 op2 v2 => simp only [At.args, PyData.eqvAll, PyData.eqv, Bool.and_eq_true, Bool.and_true, beq_iff_eq, At.compare.injEq]; rw [vpd_eq ha hb]
    | _ => exact absurd hw (by simp only [At.word]; decide +kernel)
  | against c op d n =>
    cases b with
    | against c2 op2 d2 n2 => simp [At.args, PyData.eqvAll, PyData.eqv]
    | _ => exact absurd hw (by simp only [At.word]; decide +kernel)
theorem Fm.ts_inj : ∀ {f g : Fm}, f.ts = g.ts → f = g
  | .at a, .at b, h => by
    injection h with h1 h2 h3
    rw [At.eq_of h1 h2 h3]
  | .at _, .un _ _, h => by cases h
  | .at _, .bi _ _ _, h => by cases h
  | .un _ _, .at _, h => by cases h
  | .un w f, .un w' g, h => by
    injection h with h1 h2
    rw [h1, Fm.ts_inj h2]
  | .un _ _, .bi _ _ _, h => by cases h
  | .bi _ _ _, .at _, h => by cases h
  | .bi _ _ _, .un _ _, h => by cases h
  | .bi w f g, .bi w' f' g', h => by
    injection h with h1 h2 h3
    rw [h1, Fm.ts_inj h2, Fm.ts_inj h3]
theorem Fm.ts_eq {f g : Fm} : f.ts = g.ts ↔ f = g := ⟨Fm.ts_inj, fun e => by rw [e]⟩
theorem pd_words {w w' : Str} {xs ys : List PyData} : PyData.eqv (.tuple (.str w :: xs)) (.tuple (.str w' :: ys)) = ((w == w') && PyData.eqvAll xs ys) := by simp only [PyData.eqv, PyData.eqvAll]
theorem pd_ne {w w' : Str} {xs ys : List PyData} (h : w ≠ w') : PyData.eqv (.tuple (.str w :: xs)) (.tuple (.str w' :: ys)) = false := by
  rw [pd_words, beq_eq_false_iff_ne.mpr h]
  rfl
theorem un_word {w : Str} (h : w = "not" ∨ w = "sure") (a : At) : a.word ≠ w := by
  obtain ⟨_, _, n3, n4⟩ := atom_words a
  rcases h with rfl | rfl
  · exact n3
  · exact n4
theorem bi_word {w : Str} (h : w = "and" ∨ w = "or") (a : At) : a.word ≠ w := by
  obtain ⟨n1, n2, _, _⟩ := atom_words a
  rcases h with rfl | rfl
  · exact n1
  · exact n2
theorem ub_word {w w' : Str} (h : w = "not" ∨ w = "sure") (h' : w' = "and" ∨ w' = "or") : w ≠ w' := by
  rcases h with rfl | rfl <;> rcases h' with rfl | rfl <;> decide +kernel
theorem Fm.pd_eq {κ κ' : List (Str × Bool)} : ∀ {f g : Fm}, f.Wf κ → g.Wf κ' → (PyData.eqv f.pd g.pd = true ↔ f = g)
  | .at a, .at b, h1, h2 => by
    show PyData.eqv (.tuple (.str a.word :: a.args)) (.tuple (.str b.word :: b.args)) = true ↔ _
    rw [pd_words, Bool.and_eq_true, beq_iff_eq, Fm.at.injEq]
    constructor
    · rintro ⟨hw, h⟩
      exact (At.args_eq (At.Wf.kv h1) (At.Wf.kv h2) hw).mp h
    · rintro rfl
      exact ⟨rfl, (At.args_eq (At.Wf.kv h1) (At.Wf.kv h1) rfl).mpr rfl⟩
  | .at a, .un w g, h1, h2 => by
    show PyData.eqv (.tuple (.str a.word :: a.args)) (.tuple (.str w :: [g.pd])) = true ↔ _
    rw [pd_ne (un_word h2.1 a)]
    exact ⟨nofun, nofun⟩
  | .at a, .bi w g g', h1, h2 => by
    show PyData.eqv (.tuple (.str a.word :: a.args)) (.tuple (.str w :: [g.pd, g'.pd])) = true ↔ _
    rw [pd_ne (bi_word h2.1 a)]
    exact ⟨nofun, nofun⟩
  | .un w f, .at b, h1, h2 => by
    show PyData.eqv (.tuple (.str w :: [f.pd])) (.tuple (.str b.word :: b.args)) = true ↔ _
    rw [pd_ne (Ne.symm (un_word h1.1 b))]
    exact ⟨nofun, nofun⟩
  | .un w f, .un w' g, h1, h2 => by
    show PyData.eqv (.tuple (.str w :: [f.pd])) (.tuple (.str w' :: [g.pd])) = true ↔ _
    rw [pd_words, Bool.and_eq_true, beq_iff_eq, Fm.un.injEq]
    simp only [PyData.eqvAll, Bool.and_true]
    rw [Fm.pd_eq (f := f) (g := g) h1.2 h2.2]
  | .un w f, .bi w' g g', h1, h2 => by
    show PyData.eqv (.tuple (.str w :: [f.pd])) (.tuple (.str w' :: [g.pd, g'.pd])) = true ↔ _
    rw [pd_ne (ub_word h1.1 h2.1)]
    exact ⟨nofun, nofun⟩
  | .bi w f f', .at b, h1, h2 => by
    show PyData.eqv (.tuple (.str w :: [f.pd, f'.pd])) (.tuple (.str b.word :: b.args)) = true ↔ _
    rw [pd_ne (Ne.symm (bi_word h1.1 b))]
    exact ⟨nofun, nofun⟩
  | .bi w f f', .un w' g, h1, h2 => by
    show PyData.eqv (.tuple (.str w :: [f.pd, f'.pd])) (.tuple (.str w' :: [g.pd])) = true ↔ _
    rw [pd_ne (Ne.symm (ub_word h2.1 h1.1))]
    exact ⟨nofun, nofun⟩
  | .bi w f f', .bi w' g g', h1, h2 => by
    show PyData.eqv (.tuple (.str w :: [f.pd, f'.pd])) (.tuple (.str w' :: [g.pd, g'.pd])) = true ↔ _
    rw [pd_words, Bool.and_eq_true, beq_iff_eq, Fm.bi.injEq]
    simp only [PyData.eqvAll, Bool.and_true, Bool.and_eq_true]
    rw [Fm.pd_eq (f := f) (g := g) h1.2.1 h2.2.1, Fm.pd_eq (f := f') (g := g') h1.2.2 h2.2.2]
/-! the data stand where the form stands, and are of the shape that == asks -/
theorem dp_v {K : PySem.W.Frag} {H : Hp} {v : V} (h : kv v) : Dp K H v (vpd v) := by
  rcases h with ⟨i, rfl⟩ | ⟨z, rfl⟩
  · exact .int i
  · exact .str z
theorem dp_vs {K : PySem.W.Frag} {H : Hp} : ∀ {vs : List V}, (∀ v ∈ vs, kv v) → DpAll K H vs (vs.map vpd)
  | [], _ => .nil
  | v :: vs, h => .cons (dp_v (h v List.mem_cons_self)) (dp_vs fun x m => h x (List.mem_cons_of_mem _ m))
theorem str_lay {z : Str} (h : ∀ c ∈ z.cps.toList, c < 0x110000) : PyData.canLay0 (.str z) = true := by
  show (z.cps.all (· < 0x110000)) = true
  rw [← Array.all_toList, List.all_eq_true]
  intro c hc
  exact decide_eq_true (h c hc)
theorem name_lay {z : Str} (h : nameP z) : PyData.canLay0 (.str z) = true := str_lay fun c hc => by
  have : ∀ c ∈ nameSigns, c < 0x110000 := by decide +kernel
  exact this c (h.2.2.2.2 c hc)
theorem op_lay {z : Str} (h : z ∈ opsL) : PyData.canLay0 (.str z) = true := by
  have : ∀ z ∈ opsL, PyData.canLay0 (.str z) = true := by decide +kernel
  exact this z h
theorem isV_lay {k : Bool} {v : V} (h : isV k v) : PyData.canLay0 (vpd v) = true := by
  rcases h with ⟨i, rfl⟩ | ⟨z, rfl, _, hz⟩
  · rfl
  · refine str_lay fun c hc => ?_
    have : ∀ c ∈ signs.cps.toList, c < 0x110000 := by decide +kernel
    exact this c (hz c hc)
theorem isV_lays {k : Bool} : ∀ {vs : List V}, (∀ v ∈ vs, isV k v) → PyData.canLayAll0 (vs.map vpd) = true
  | [], _ => rfl
  | v :: vs, h => by
    simp only [List.map_cons, PyData.canLayAll0, Bool.and_eq_true]
    exact ⟨isV_lay (h v List.mem_cons_self), isV_lays fun x m => h x (List.mem_cons_of_mem _ m)⟩
theorem vpd_depth (v : V) : (vpd v).depth = 0 := by
  cases v <;> rfl
theorem vpds_depth : ∀ (vs : List V), PyData.depthAll (vs.map vpd) = 0
  | [] => rfl
  | v :: vs => by
    simp only [List.map_cons, PyData.depthAll, vpd_depth, vpds_depth vs]
    rfl
theorem Fm.pd_lay {κ : List (Str × Bool)} : ∀ {f : Fm}, f.Wf κ → f.pd.canLay0 = true
  | .at a, h => by
    show PyData.canLay0 (.tuple (.str a.word :: a.args)) = true
    have hw : PyData.canLay0 (.str a.word) = true := by cases a <;> (simp only [At.word]; decide +kernel)
    simp only [PyData.canLay0, PyData.canLayAll0] at hw ⊢
    rw [hw, Bool.true_and]
    cases a with
    | always => rfl
    | never => rfl
    | empty c =>
      have := name_lay h.1
      simp only [PyData.canLay0] at this
      simp [At.args, PyData.canLayAll0, PyData.canLay0, this]
    | among c vs =>
      obtain ⟨hc, _, _, k, _, hv⟩ := h
      have := name_lay hc
      simp only [PyData.canLay0] at this
      simp [At.args, PyData.canLayAll0, PyData.canLay0, this, isV_lays hv]
    | begins c z =>
      obtain ⟨hc, _, hz⟩ := h
      have h1 := name_lay hc
      have h2 := isV_lay (k := true) (.inr hz)
      simp only [PyData.canLay0, vpd] at h1 h2
      simp [At.args, PyData.canLayAll0, PyData.canLay0, h1, h2]
    | compare c op v =>
      obtain ⟨hc, ho, k, _, hv⟩ := h
      have h1 := name_lay hc
      have h2 := op_lay ho
      have h3 := isV_lay hv
      simp only [PyData.canLay0] at h1 h2
      simp [At.args, PyData.canLayAll0, PyData.canLay0, h1, h2, h3]
    | against c op d n =>
      obtain ⟨hc, hd, _, ho, _⟩ := h
      have h1 := name_lay hc
      have h2 := op_lay ho
      have h3 := name_lay hd
      simp only [PyData.canLay0] at h1 h2 h3
      simp [At.args, PyData.canLayAll0, PyData.canLay0, h1, h2, h3]
  | .un w f, h => by
    show PyData.canLay0 (.tuple [.str w, f.pd]) = true
    have hw : PyData.canLay0 (.str w) = true := by rcases h.1 with rfl | rfl <;> decide +kernel
    simp only [PyData.canLay0, PyData.canLayAll0] at hw ⊢
    rw [hw, Fm.pd_lay (f := f) h.2]
    rfl
  | .bi w f g, h => by
    show PyData.canLay0 (.tuple [.str w, f.pd, g.pd]) = true
    have hw : PyData.canLay0 (.str w) = true := by rcases h.1 with rfl | rfl <;> decide +kernel
    simp only [PyData.canLay0, PyData.canLayAll0] at hw ⊢
    rw [hw, Fm.pd_lay (f := f) h.2.1, Fm.pd_lay (f := g) h.2.2]
    rfl
theorem Fm.pd_depth : ∀ f : Fm, f.pd.depth ≤ f.ts.depth + 2
  | .at a => by
    show PyData.depth (.tuple (.str a.word :: a.args)) ≤ 0 + 2
    cases a <;> simp [At.args, PyData.depth, PyData.depthAll, vpd_depth, vpds_depth]
  | .un w f => by
    show PyData.depth (.tuple [.str w, f.pd]) ≤ f.ts.depth + 1 + 2
    have := Fm.pd_depth f
    simp only [PyData.depth, PyData.depthAll]
    omega
  | .bi w f g => by
    show PyData.depth (.tuple [.str w, f.pd, g.pd]) ≤ max f.ts.depth g.ts.depth + 1 + 2
    have := Fm.pd_depth f
    have := Fm.pd_depth g
    simp only [PyData.depth, PyData.depthAll]
    omega
theorem Fm.shaped {κ : List (Str × Bool)} {f : Fm} (h : f.Wf κ) (hd : f.ts.depth ≤ 12) : SeqAt.shaped f.pd = true := by
  unfold SeqAt.shaped
  rw [Fm.pd_lay h, decide_eq_true (by have := Fm.pd_depth f; omega)]
  rfl
section
variable {K : PySem.W.Frag} {H : Hp} {Q : VK} {κ κ' : List (Str × Bool)} {f g : Fm} {p q : Addr}
end
/-! shapes compared -/
section
variable {C : Addr} {H : Hp}
/-- == of tuples of the heap -/
def BTH (D : Eqb) : Eqb := fun x y r H => ∃ a b xs ys, x = .ref a ∧ y = .ref b ∧ H a = some (.tup xs) ∧ H b = some (.tup ys) ∧ Scan D xs ys r H
theorem BTH.tup {K : PySem.W.Frag} {D : Eqb} {x y : V} {r : Bool} {H : Hp} (h : BTH D x y r H) : BTup K D x y r H := by
  obtain ⟨a, b, xs, ys, h1, h2, h3, h4, h5⟩ := h
  exact ⟨a, b, xs, ys, h1, h2, SqT.of h3, SqT.of h4, h5⟩
theorem monB_th {D : Eqb} (hD : MonB D) : MonB (BTH D) := fun x y r H H' e d => by
  obtain ⟨a, b, xs, ys, h1, h2, h3, h4, h5⟩ := d
  exact ⟨a, b, xs, ys, h1, h2, e _ _ h3, e _ _ h4, scan_mono hD e h5⟩
def SameB (D : Eqb) : Prop := ∀ x r H, D x x r H → r = true
theorem scan_same {D : Eqb} (h : SameB D) : ∀ {xs : List V} {r : Bool} {H : Hp}, Scan D xs xs r H → r = true
  | [], _, _, e => e
  | x :: xs, r, H, e => by
    rcases e with ⟨d, rfl⟩ | ⟨_, e⟩
    · exact absurd (h x false H d) nofun
    · exact scan_same h e
theorem same_th {D : Eqb} (h : SameB D) : SameB (BTH D) := fun x r H d => by
  obtain ⟨a, b, xs, ys, h1, h2, h3, h4, h5⟩ := d
  rw [h1] at h2
  injection h2 with h2
  subst h2
  rw [h3] at h4
  injection h4 with h4
  injection h4 with h4
  subst h4
  exact scan_same h h5
theorem richB_th {X : Cx} {n : Nat} {D : Eqb} (hD : MonB D) (h : AnsB X n D) : RichB X (n + 1) (BTH D) := fun A pins s σ H x y r u v sb I rx ry d => richB_tup hD h A pins s σ H x y r u v sb I rx ry d.tup
theorem ansB_th {X : Cx} {n : Nat} {D : Eqb} (hD : MonB D) (hS : SameB D) (h : AnsB X n D) : AnsB X (n + 1) (BTH D) := RichB.ans (richB_th hD h) fun x y r H d => by
  obtain ⟨a, b, xs, ys, h1, h2, h3, h4, h5⟩ := id d
  exact ⟨a, b, h1, h2, fun e => by subst e; subst h2; rw [h1] at d; exact same_th hS _ _ _ d⟩
/-- numbers, texts and None -/
def kvn (v : V) : Prop := kv v ∨ v = .non
def BKv : Eqb := fun x y r _ => kvn x ∧ kvn y ∧ (r = true ↔ x = y)
theorem BKv.flat {x y : V} {r : Bool} {H : Hp} (h : BKv x y r H) : BFlat x y r H := by
  obtain ⟨h1, h2, h3⟩ := h
  have fl : ∀ {v : V}, kvn v → flatV v = true := fun {v} h => h.elim kv.flat fun e => by rw [e]; rfl
  refine ⟨fl h1, fl h2, ?_⟩
  have : eqV x y = true ↔ x = y := by
    rcases h1 with h1 | rfl <;> rcases h2 with h2 | rfl
    · exact h1.eq h2
    · rcases h1 with ⟨i, rfl⟩ | ⟨z, rfl⟩ <;> exact ⟨nofun, nofun⟩
    · rcases h2 with ⟨i, rfl⟩ | ⟨z, rfl⟩ <;> exact ⟨nofun, nofun⟩
    · exact ⟨fun _ => rfl, fun _ => rfl⟩
  cases r <;> cases e : eqV x y
  · rfl
  · exact absurd (h3.mpr (this.mp e)) nofun
  · exact absurd (this.mpr (h3.mp rfl)) (by rw [e]; nofun)
  · rfl
theorem monB_kv : MonB BKv := fun _ _ _ _ _ _ d => d
theorem same_kv : SameB BKv := fun _ _ _ d => d.2.2.mpr rfl
theorem ansB_kv {X : Cx} : AnsB X 0 BKv := fun A pins s σ H x y r u v sb I rx ry d => ansB_flat A pins s σ H x y r u v sb I rx ry d.flat
/-- what stands in a key: the names, the test or None -/
def NTb (C : Addr) (a : Addr) (H : Hp) : Prop := ∃ t, TestAt C H t a ∧ t.Ok ∧ t.depth ≤ 12
def BKy (C : Addr) : Eqb := fun x y r H => ((BKv x y r H ∨ BTH BKv x y r H) ∨ BIns C (RTb C 12) x y r H) ∨ BNon C (NTb C) x y r H
theorem NTb.mono {C : Addr} : ∀ a H H', Ext H H' → NTb C a H → NTb C a H' := fun a H H' e ⟨t, h1, h2, h3⟩ => ⟨t, h1.keep e, h2, h3⟩
theorem monB_ky {C : Addr} : MonB (BKy C) := ((monB_kv.or (monB_th monB_kv)).or (monB_ins RTb.mono)).or (monB_non NTb.mono)
theorem same_ky {C : Addr} : SameB (BKy C) := fun x r H d => by
  rcases d with ((d | d) | d) | d
  · exact same_kv _ _ _ d
  · exact same_th same_kv _ _ _ d
  · obtain ⟨a, b, dx, dy, fs, gs, h1, h2, _, _, h3⟩ := d
    rw [h1] at h2
    injection h2 with h2
    subst h2
    exact RTb.same _ _ _ h3
  · obtain ⟨_, a, dx, fs, _, _, h⟩ := d
    rcases h with ⟨h1, h2⟩ | ⟨h1, h2⟩ <;> rw [h1] at h2 <;> cases h2
theorem none_sub {K : PySem.W.Frag} {C : Addr} : PySem.W.subIn K (.type "NoneType") (.ref C) = some false := by kernel_rfl
theorem spTeq_non {C : Addr} {n : Nat} : ∀ a H Q E, (∃ t, TestAt C H t a ∧ t.Ok ∧ t.depth ≤ n) → (∀ H', Ext H H' → Q (.bl false) H') → spTeq C n [.ref a, .non] H Q E := fun a H Q E ⟨t, h1, h2, h3⟩ k =>
  ⟨a, t, .non, rfl, h1, h2, h3, .inr ⟨⟨"NoneType", by decide, .non⟩, k⟩⟩
end
section
variable {P : Program} {w : World} {K : PySem.W.Frag} {mg : Str → Option Value} {base : Heap}
theorem ansB_ky (T : Txt K mg) {X : Cx} (h1 : X.prog = P) (h2 : X.w = w) (h3 : X.K = K) (h4 : X.mg = mg) (h5 : X.base = base) (D : DefM P w K mg base 26 (cadr mg "Test") "__eq__" ["self", "other"] (spTeq (cadr mg "Test") 12)) : AnsB X 26 (BKy (cadr mg "Test")) := by
  subst h1 h2 h3 h4 h5
  obtain ⟨f, fd, F, hm, hb⟩ := D.ex
  have a1 : AnsB X 26 (BIns (cadr X.mg "Test") (RTb (cadr X.mg "Test") 12)) := RichB.ans (richB_ins F spTeq_of hm.at_ hm.fn hb pass0) fun x y r H d => by
    obtain ⟨a, b, dx, dy, fs, gs, rfl, rfl, _, _, q⟩ := d
    exact ⟨a, b, rfl, rfl, fun e => by subst e; exact RTb.same _ _ _ q⟩
  have a2 : AnsB X 26 (BNon (cadr X.mg "Test") (NTb (cadr X.mg "Test"))) := ansB_non F spTeq_non hm.at_ hm.fn hb pass0 T.nq_Test none_sub
  exact (((ansB_kv.mono (by decide)).or ((ansB_th monB_kv same_kv ansB_kv).mono (by decide))).or a1).or a2
theorem op_eqKeys (T : Txt K mg) {X : Cx} {j : Nat} (h1 : X.prog = P) (h2 : X.w = w) (h3 : X.K = K) (h4 : X.mg = mg) (h5 : X.base = base) (D : DefM P w K mg base 26 (cadr mg "Test") "__eq__" ["self", "other"] (spTeq (cadr mg "Test") 12)) (hr : Room j X.A) (hj : 28 ≤ j) :
    OpR X (compareOp .Eq) (rEqb (BTH (BTH (BKy (cadr mg "Test"))))) := op_eqb (richB_th (monB_th monB_ky) (ansB_th monB_ky same_ky (ansB_ky T h1 h2 h3 h4 h5 D))) (hr.mono hj)
end
theorem scan_cons {D : Eqb} {xs ys : List V} {x y : V} {H : Hp} {p q : Prop} (h1 : ∃ r, D x y r H ∧ (r = true ↔ p)) (h2 : ∃ r, Scan D xs ys r H ∧ (r = true ↔ q)) : ∃ r, Scan D (x :: xs) (y :: ys) r H ∧ (r = true ↔ p ∧ q) := by
  obtain ⟨r, h1, hp⟩ := h1
  obtain ⟨r2, h2, hq⟩ := h2
  cases r with
  | false => exact ⟨false, .inl ⟨h1, rfl⟩, ⟨nofun, fun h => absurd (hp.mpr h.1) nofun⟩⟩
  | true => exact ⟨r2, .inr ⟨h1, h2⟩, by rw [hq]; exact ⟨fun h => ⟨hp.mp rfl, h⟩, fun h => h.2⟩⟩
theorem scan_nil {D : Eqb} {H : Hp} : ∃ r, Scan D [] [] r H ∧ (r = true ↔ True) := ⟨true, rfl, by simp⟩
/-- two lists item by item -/
def All2 {α : Type} (P : V → α → Prop) : List V → List α → Prop
  | [], [] => True
  | x :: xs, a :: as => P x a ∧ All2 P xs as
  | _, _ => False
theorem scan_of {α : Type} {D : Eqb} {H : Hp} {P Q : V → α → Prop} (h : ∀ x y a b, P x a → Q y b → ∃ r, D x y r H ∧ (r = true ↔ a = b)) : ∀ {xs ys : List V} {as bs : List α}, All2 P xs as → All2 Q ys bs → ∃ r, Scan D xs ys r H ∧ (r = true ↔ as = bs)
  | [], [], [], [], _, _ => ⟨true, rfl, by simp⟩
  | [], _ :: _, [], _ :: _, _, _ => ⟨false, rfl, by simp⟩
  | _ :: _, [], _ :: _, [], _, _ => ⟨false, rfl, by simp⟩
  | x :: xs, y :: ys, a :: as, b :: bs, ⟨p, ps⟩, ⟨q, qs⟩ => by
    obtain ⟨r, h1, h2⟩ := scan_cons (h x y a b p q) (scan_of h ps qs)
    exact ⟨r, h1, by rw [h2, List.cons.injEq]⟩
theorem KysAt.all {R : V → Ky → Prop} : ∀ {xs : List V} {ks : List Ky}, KysAt R xs ks → All2 R xs ks
  | [], [], _ => trivial
  | [], _ :: _, h => nomatch h.1
  | _ :: _, [], h => nomatch h.1
  | x :: xs, k :: ks, h => ⟨h.2 0 x k rfl rfl, KysAt.all ⟨by simpa using h.1, fun i v k a b => h.2 (i + 1) v k (by simpa using a) (by simpa using b)⟩⟩
theorem RF.all {R : Fm → Addr → Prop} : ∀ {fs : List Fm} {us : List Addr}, RF R fs us → All2 (fun v f => ∃ p, v = .ref p ∧ R f p) (us.map V.ref) fs
  | _, _, .nil => trivial
  | _, _, .cons a r => ⟨⟨_, rfl, a⟩, r.all⟩
theorem strs_all : ∀ {ns : List Str}, All2 (fun v z => v = .str z) (ns.map V.str) ns
  | [] => trivial
  | z :: ns => ⟨rfl, strs_all⟩
/-- texts, flags -/
def BSB : Eqb := fun x y r _ => ((∃ a b, x = .str a ∧ y = .str b) ∨ ∃ a b, x = .bl a ∧ y = .bl b) ∧ (r = true ↔ x = y)
theorem BSB.flat {x y : V} {r : Bool} {H : Hp} (h : BSB x y r H) : BFlat x y r H := by
  obtain ⟨h1, h3⟩ := h
  rcases h1 with ⟨a, b, rfl, rfl⟩ | ⟨a, b, rfl, rfl⟩
  · refine ⟨rfl, rfl, ?_⟩
    have : eqV (.str a) (.str b) = true ↔ V.str a = V.str b := kv.eq (.inr ⟨a, rfl⟩) (.inr ⟨b, rfl⟩)
    cases r <;> cases e : eqV (.str a) (.str b)
    · rfl
    · exact absurd (h3.mpr (this.mp e)) nofun
    · exact absurd (this.mpr (h3.mp rfl)) (by rw [e]; nofun)
    · rfl
  · refine ⟨rfl, rfl, ?_⟩
    cases a <;> cases b <;> cases r <;> first
      | rfl
      | exact absurd (h3.mpr rfl) nofun
      | exact absurd (h3.mp rfl) nofun
theorem monB_sb : MonB BSB := fun _ _ _ _ _ _ d => d
theorem same_sb : SameB BSB := fun _ _ _ d => d.2.mpr rfl
theorem ansB_sb {X : Cx} : AnsB X 0 BSB := fun A pins s σ H x y r u v sb I rx ry d => ansB_flat A pins s σ H x y r u v sb I rx ry d.flat
theorem op_eqLay {X : Cx} {j : Nat} (hr : Room j X.A) (hj : 2 ≤ j) : OpR X (compareOp .Eq) (rEqb (BTH (BTH BSB))) := op_eqb (richB_th (monB_th monB_sb) (ansB_th monB_sb same_sb ansB_sb)) (hr.mono hj)
theorem sb_str {a b : Str} {H : Hp} : ∃ r, BSB (.str a) (.str b) r H ∧ (r = true ↔ a = b) := ⟨decide (a = b), ⟨.inl ⟨a, b, rfl, rfl⟩, by simp⟩, by simp⟩
theorem sb_bl {a b : Bool} {H : Hp} : ∃ r, BSB (.bl a) (.bl b) r H ∧ (r = true ↔ a = b) := ⟨decide (a = b), ⟨.inr ⟨a, b, rfl, rfl⟩, by simp⟩, by simp⟩
theorem ct_scan {H : Hp} {c c' : Col} : ∃ r, Scan BSB (ct c) (ct c') r H ∧ (r = true ↔ c = c') := by
  obtain ⟨n, k, f⟩ := c
  obtain ⟨n', k', f'⟩ := c'
  obtain ⟨r, h1, h2⟩ := scan_cons (H := H) (sb_str (a := n) (b := n')) (scan_cons (sb_str (a := kS k) (b := kS k')) (scan_cons (sb_bl (a := f) (b := f')) scan_nil))
  refine ⟨r, h1, ?_⟩
  rw [h2, Prod.mk.injEq, Prod.mk.injEq]
  exact ⟨fun ⟨a, b, c, _⟩ => ⟨a, kS_inj b, c⟩, fun ⟨a, b, c⟩ => ⟨a, by rw [b], c, trivial⟩⟩
theorem col_eqb {H : Hp} {x y : V} {c c' : Col} (h : ∃ q, x = .ref q ∧ H q = some (.tup (ct c))) (h' : ∃ q, y = .ref q ∧ H q = some (.tup (ct c'))) : ∃ r, BTH BSB x y r H ∧ (r = true ↔ c = c') := by
  obtain ⟨q, rfl, e⟩ := h
  obtain ⟨q', rfl, e'⟩ := h'
  obtain ⟨r, h1, h2⟩ := ct_scan (H := H) (c := c) (c' := c')
  exact ⟨r, ⟨q, q', _, _, rfl, rfl, e, e', h1⟩, h2⟩
theorem cols_all {H : Hp} : ∀ {qs : List Addr} {cs : List Col}, qs.length = cs.length → (∀ (i : Nat) q c, qs[i]? = some q → cs[i]? = some c → H q = some (.tup (ct c))) → All2 (fun v c => ∃ q, v = .ref q ∧ H q = some (.tup (ct c))) (qs.map V.ref) cs
  | [], [], _, _ => trivial
  | [], _ :: _, h, _ => nomatch h
  | _ :: _, [], h, _ => nomatch h
  | q :: qs, c :: cs, h, k => ⟨⟨q, rfl, k 0 q c rfl rfl⟩, cols_all (by simpa using h) fun i q c a b => k (i + 1) q c (by simpa using a) (by simpa using b)⟩
section
variable {C : Addr} {H : Hp}
theorem FitAt.ok {f : Fm} {p : Addr} (h : FitAt C H f p) : f.ts.Ok := by
  obtain ⟨κ, hw⟩ := h.wf
  exact hw.kv.ok
theorem FitAt.ins {f : Fm} {p : Addr} (h : FitAt C H f p) : ∃ dx fs, H p = some (.ins C dx fs) := by
  obtain ⟨dx, _, _, _, _, e, _⟩ := h.te.node
  exact ⟨dx, _, e⟩
theorem fit_eqb {f g : Fm} {p q : Addr} (h : FitAt C H f p) (h' : FitAt C H g q) : ∃ r, BIns C (RTb C 12) (.ref p) (.ref q) r H ∧ (r = true ↔ f = g) := by
  obtain ⟨dx, fs, e⟩ := h.ins
  obtain ⟨dy, gs, e'⟩ := h'.ins
  obtain ⟨r, hr⟩ : ∃ r : Bool, r = true ↔ f.ts = g.ts := by
    by_cases hh : f.ts = g.ts
    · exact ⟨true, by simp [hh]⟩
    · exact ⟨false, by simp [hh]⟩
  exact ⟨r, ⟨p, q, dx, dy, fs, gs, rfl, rfl, e, e', f.ts, g.ts, h.te, h'.te, h.ok, h'.ok, h.dp, hr⟩, by rw [hr, Fm.ts_eq]⟩
theorem tz_eqb {x y : V} {o o' : Option Fm} (h : TzAt C H x o) (h' : TzAt C H y o') : ∃ r, BKy C x y r H ∧ (r = true ↔ o = o') := by
  rcases h with ⟨rfl, rfl⟩ | ⟨t, f, rfl, rfl, hf⟩ <;> rcases h' with ⟨rfl, rfl⟩ | ⟨t', f', rfl, rfl, hf'⟩
  · exact ⟨true, .inl (.inl (.inl ⟨.inr rfl, .inr rfl, by simp⟩)), by simp⟩
  · obtain ⟨dx, fs, e⟩ := hf'.ins
    exact ⟨false, .inr ⟨rfl, t', dx, fs, e, ⟨f'.ts, hf'.te, hf'.ok, hf'.dp⟩, .inr ⟨rfl, rfl⟩⟩, by simp⟩
  · obtain ⟨dx, fs, e⟩ := hf.ins
    exact ⟨false, .inr ⟨rfl, t, dx, fs, e, ⟨f.ts, hf.te, hf.ok, hf.dp⟩, .inl ⟨rfl, rfl⟩⟩, by simp⟩
  · obtain ⟨r, h1, h2⟩ := fit_eqb hf hf'
    exact ⟨r, .inl (.inr h1), by rw [h2, Option.some.injEq]⟩
theorem names_eqb {n n' : Addr} {ns ns' : List Str} (h : H n = some (.tup (ns.map V.str))) (h' : H n' = some (.tup (ns'.map V.str))) : ∃ r, BKy C (.ref n) (.ref n') r H ∧ (r = true ↔ ns = ns') := by
  obtain ⟨r, h1, h2⟩ := scan_of (D := BKv) (H := H) (P := fun v z => v = .str z) (Q := fun v z => v = .str z) (fun x y a b hx hy => by
    subst hx hy
    exact ⟨decide (a = b), ⟨.inl (.inr ⟨a, rfl⟩), .inl (.inr ⟨b, rfl⟩), by simp⟩, by simp⟩) (strs_all (ns := ns)) (strs_all (ns := ns'))
  exact ⟨r, .inl (.inl (.inr ⟨n, n', _, _, rfl, rfl, h, h', h1⟩)), h2⟩
theorem ky_eqb {x y : V} {k k' : Ky} (h : KyT C H x k) (h' : KyT C H y k') : ∃ r, BTH (BKy C) x y r H ∧ (r = true ↔ k = k') := by
  obtain ⟨p, n, z, rfl, h1, h2, h3⟩ := h
  obtain ⟨p', n', z', rfl, h1', h2', h3'⟩ := h'
  obtain ⟨r, e1, e2⟩ := scan_cons (names_eqb h2 h2') (scan_cons (tz_eqb h3 h3') scan_nil)
  refine ⟨r, ⟨p, p', _, _, rfl, rfl, h1, h1', e1⟩, ?_⟩
  obtain ⟨ns, o⟩ := k
  obtain ⟨ns', o'⟩ := k'
  rw [e2, Prod.mk.injEq]
  simp
end
def spShEq (CS C : Addr) : Sp := fun vs H Q _ => ∃ (a : Addr) (y : V) (cs : List Col) (fs : List Fm) (ks : List Ky), vs = [.ref a, y] ∧ ShpAt CS C H cs fs ks a ∧
  ((∃ (b : Addr) (cs' : List Col) (fs' : List Fm) (ks' : List Ky), y = .ref b ∧ ShpAt CS C H cs' fs' ks' b ∧ ∀ r H', XT H H' → (r = true ↔ cs = cs' ∧ fs = fs' ∧ ks = ks') → Q (.bl r) H') ∨ ((∃ T : String, T ∈ kinds7 ∧ TyOf7 H y T) ∧ ∀ H', XT H H' → Q (.bl false) H'))
section
variable {P : Program} {w : World} {K : PySem.W.Frag} {mg : Str → Option Value} {base : Heap}
theorem ok_Shape_eq (T : Txt K mg) : DefM P w K mg base 30 (cadr mg "Shape") "__eq__" ["self", "other"] (spShEq (cadr mg "Shape") (cadr mg "Test")) := by
  obtain ⟨f, fd, h⟩ := T.d_Shape_eq
  refine h.def (Fun.okM h.fn sc_Shape_eq (fun vs H Q E h => ?_) (fun cdv A outer s H vs Q E hr h => ?_))
  · obtain ⟨a, y, cs, fs, ks, rfl, _⟩ := h
    rfl
  · obtain ⟨a, y, cs, fs, ks, rfl, hA, hy⟩ := h
    refine ⟨_, (pss_one (ps_ret (pe_and (pe_callB (call_isiG (K := K) rfl) (by rfl) T.h_isinstance (by decide +kernel) (pa_cons (pv 1) (pa_cons (pe_cls rfl T.e_Shape) pa_nil))) (pe_and (pe_cmpR (op_eqLay hr (by decide)) (pe_fldG (K := K) rfl (pv 0) rfl) (pe_fldG (K := K) rfl (pv 1) rfl) (nomark _)) (pe_and (pe_cmpR (op_eqTI RTb.mono RTb.same (ok_Test_eq T) spTeq_of rfl rfl rfl rfl rfl hr (by decide)) (pe_fldG (K := K) rfl (pv 0) rfl) (pe_fldG (K := K) rfl (pv 1) rfl) (nomark _)) (pe_one (pe_cmpR (op_eqKeys T rfl rfl rfl rfl rfl (ok_Test_eq T) hr (by decide)) (pe_fldG (K := K) rfl (pv 0) rfl) (pe_fldG (K := K) rfl (pv 1) rfl) (nomark _)))))))), ?_⟩
    obtain ⟨dx, t, D, tc, tk, kvs, qs, us, ys, a1, a2, a3, a4, a5, a6, a7, a8, a9, a10, a11⟩ := hA.ex
    rcases hy with ⟨b, cs', fs', ks', rfl, hB, k⟩ | ⟨⟨Tn, hT, ty⟩, k⟩
    · obtain ⟨dx', t', D', tc', tk', kvs', qs', us', ys', b1, b2, b3, b4, b5, b6, b7, b8, b9, b10, b11⟩ := hB.ex
      obtain ⟨r1, h1, e1⟩ := scan_of (fun x y c c' => col_eqb) (cols_all a6 a7) (cols_all b6 b7)
      obtain ⟨r2, h2, e2⟩ := scan_of (D := BIns (cadr mg "Test") (RTb (cadr mg "Test") 12)) (fun x y f g ⟨p, hp, hf⟩ ⟨q, hq, hg⟩ => by subst hp hq; exact fit_eqb hf hg) a9.all b9.all
      obtain ⟨r3, h3, e3⟩ := scan_of (D := BTH (BKy (cadr mg "Test"))) (P := KyT (cadr mg "Test") H) (Q := KyT (cadr mg "Test") H) (fun x y k k' => ky_eqb) a11.all b11.all
      walk_at "g"
      refine g_isOwn T.is_Shape T.cl_Shape b1 ?_
      walk_at "g"
      refine ⟨a, _, dx, _, _, rfl, a1, T.cl_Shape, T.n_Shape_layout, by rfl, ?_⟩
      walk_at "g"
      refine ⟨b, _, dx', _, _, rfl, b1, T.cl_Shape, T.n_Shape_layout, by rfl, ?_⟩
      refine ⟨r1, ⟨t, t', _, _, rfl, rfl, a5, b5, h1⟩, fun H1 x1 => ?_⟩
      cases r1 with
      | false =>
        walk_at "g"
        exact k _ _ x1 ⟨nofun, fun h => absurd (e1.mpr h.1) nofun⟩
      | true =>
        walk_at "g"
        refine ⟨a, _, dx, _, _, rfl, x1 _ _ a1, T.cl_Shape, T.n_Shape_check_tests, by rfl, ?_⟩
        walk_at "g"
        refine ⟨b, _, dx', _, _, rfl, x1 _ _ b1, T.cl_Shape, T.n_Shape_check_tests, by rfl, ?_⟩
        refine ⟨r2, ⟨tc, tc', _, _, rfl, rfl, SqT.of (x1 _ _ a8), SqT.of (x1 _ _ b8), scan_mono (monB_ins RTb.mono) x1 h2⟩, fun H2 x2 => ?_⟩
        have x12 := XT.trans x1 x2
        cases r2 with
        | false =>
          walk_at "g"
          exact k _ _ x12 ⟨nofun, fun h => absurd (e2.mpr h.2.1) nofun⟩
        | true =>
          walk_at "g"
          refine ⟨a, _, dx, _, _, rfl, x12 _ _ a1, T.cl_Shape, T.n_Shape_key_rules, by rfl, ?_⟩
          walk_at "g"
          refine ⟨b, _, dx', _, _, rfl, x12 _ _ b1, T.cl_Shape, T.n_Shape_key_rules, by rfl, ?_⟩
          refine ⟨r3, ⟨tk, tk', _, _, rfl, rfl, x12 _ _ a10, x12 _ _ b10, scan_mono (monB_th monB_ky) x12 h3⟩, fun H3 x3 => ?_⟩
          walk_at "g"
          exact k _ _ (XT.trans x12 x3) (by rw [e3]; exact ⟨fun h => ⟨e1.mp rfl, e2.mp rfl, h⟩, fun h => h.2.2⟩)
    · walk_at "g"
      refine g_isNot T.is_Shape (ty.x K) hT ?_
      walk_at "g"
      exact k _ XT.refl
end
/-! shapes that grow -/
def KyOk (cs : List Col) (k : Ky) : Prop := 1 ≤ k.1.length ∧ k.1.length ≤ 3 ∧ k.1.Nodup ∧ (∀ n ∈ k.1, n ∈ cs.map (·.1)) ∧ ∀ f, k.2 = some f → f.fits cs = true
structure ShOk (cs : List Col) (fs : List Fm) (ks : List Ky) : Prop where
  co : ColsOk cs
  fi : ∀ f ∈ fs, f.fits cs = true
  fl : fs.length ≤ 9
  kl : ks.length ≤ 9
  ky : ∀ k ∈ ks, KyOk cs k
theorem ColsOk.name {cs : List Col} (h : ColsOk cs) {n : Str} (m : n ∈ cs.map (·.1)) : nameP n := by
  obtain ⟨c, hc, rfl⟩ := List.mem_map.mp m
  exact h.nm c hc
theorem nameP.len100 {n : Str} (h : nameP n) : n.length ≤ 100 := by
  have := h.2.1
  omega
section
variable {CS C CB : Addr} {H : Hp}
theorem KyIn.keyD {cs : List Col} {v : V} {k : Ky} (hc : ColsOk cs) (h : KyIn C H v k) (o : KyOk cs k) : KeyD C H cs v true := by
  obtain ⟨p, n, z, rfl, h1, h2, h3⟩ := h
  obtain ⟨o1, o2, o3, o4, o5⟩ := o
  refine .inr ⟨p, [.ref n, z], rfl, .inr h1, by show 2 ≤ 9; decide, .inr ⟨.ref n, z, true, rfl, .inr ⟨n, k.1, rfl, h2, by omega, fun m hm => (hc.name (o4 m hm)).len100, ⟨fun _ => ⟨o1, o2, fun m hm => hc.name (o4 m hm), o3, o4⟩, fun _ => rfl⟩⟩, nofun, fun _ => ?_⟩⟩
  rcases h3 with ⟨rfl, h3⟩ | ⟨t, f, rfl, h4, h5⟩
  · exact .inl ⟨rfl, rfl⟩
  · exact .inr ⟨t, f, rfl, h5, (o5 f h4).symm⟩
theorem RF.mem {R : Fm → Addr → Prop} : ∀ {fs : List Fm} {us : List Addr}, RF R fs us → fs.length = us.length
  | _, _, h => h.len.symm
/-- a shape that is made of what is right -/
theorem init_good {x L pc pk dx : Addr} {cs : List Col} {fs : List Fm} {us : List Addr} {xs : List V} {ks : List Ky} {Q : VK} {E : XK} (ok : ShOk cs fs ks) (hx : H x = some (.ins CS dx [])) (hL : LsA H L (cs.map ct)) (hpc : H pc = some (.lst (us.map V.ref)) ∨ H pc = some (.tup (us.map V.ref))) (hR : RF (FitAt C H) fs us)
    (hpk : H pk = some (.lst xs) ∨ H pk = some (.tup xs)) (hK : KysAt (KyIn C H) xs ks) (k : ∀ H', NXT x H H' → ShpAt CS C H' cs fs ks x → Q .non H') : spInit CS C CB [.ref x, .ref L, .ref pc, .ref pk] H Q E := by
  refine ⟨x, L, pc, pk, dx, cs, fs, us, xs, ks.map fun _ => true, rfl, hx, hL, ok.co, hpc, hR, ok.fl, hpk, by rw [List.length_map]; exact hK.1, fun i v r h1 h2 => ?_, by rw [List.length_map]; exact ok.kl, fun i f hf hb => ?_, fun _ i hi => ?_, fun _ _ => ⟨ks, hK, k⟩⟩
  · rw [List.getElem?_map] at h2
    obtain ⟨kk, h3, rfl⟩ := Option.map_eq_some_iff.mp h2
    exact (hK.2 i v kk h1 h3).keyD ok.co (ok.ky kk (List.mem_of_getElem? h3))
  · rw [ok.fi f (List.mem_of_getElem? hf)] at hb
    cases hb
  · rw [List.getElem?_map] at hi
    obtain ⟨kk, h3, h4⟩ := Option.map_eq_some_iff.mp hi
    cases h4
theorem xt_new2 {x dx : Addr} {C' : Addr} (h1 : H x = none) (h2 : H dx = none) (h3 : dx ≠ x) : XT H (upd (upd H dx (.own x)) x (.ins C' dx [])) := XT.new (XT.new XT.refl h2) (by rw [upd_ne (Ne.symm h3)]; exact h1)
theorem xt_made {x : Addr} {H1 H' : Hp} (h1 : H x = none) (a : XT H H1) (b : NXT x H1 H') : XT H H' := fun q o h => b q o (ne_of_none h h1) (a q o h)
theorem KysAt.app {R : V → Ky → Prop} {xs ys : List V} {ks ls : List Ky} (h : KysAt R xs ks) (h' : KysAt R ys ls) : KysAt R (xs ++ ys) (ks ++ ls) := by
  refine ⟨by rw [List.length_append, List.length_append, h.1, h'.1], fun i v k a b => ?_⟩
  by_cases hi : i < xs.length
  · rw [List.getElem?_append_left hi] at a
    rw [List.getElem?_append_left (by rw [← h.1]; exact hi)] at b
    exact h.2 i v k a b
  · rw [List.getElem?_append_right (by omega)] at a
    rw [List.getElem?_append_right (by rw [← h.1]; omega), ← h.1] at b
    exact h'.2 _ v k a b
theorem KysAt.one {R : V → Ky → Prop} {x : V} {k : Ky} (h : R x k) : KysAt R [x] [k] := ⟨rfl, fun i v l a b => by
  cases i with
  | zero =>
    injection a with a
    injection b with b
    rw [← a, ← b]
    exact h
  | succ i => cases a⟩
theorem lsa_tup {t : Addr} {qs : List Addr} {cs : List Col} (h1 : H t = some (.tup (qs.map V.ref))) (h2 : qs.length = cs.length) (h3 : ∀ (i : Nat) q c, qs[i]? = some q → cs[i]? = some c → H q = some (.tup (ct c))) : LsA H t (cs.map ct) :=
  ⟨qs, .inr h1, by rw [List.length_map]; exact h2, fun i q t hq ht => by
    rw [List.getElem?_map] at ht
    obtain ⟨c, hc, rfl⟩ := Option.map_eq_some_iff.mp ht
    exact h3 i q c hq hc⟩
theorem take_all {α : Type} {p : α → Prop} {xs : List α} {n : Nat} (h : ∀ x ∈ xs, p x) : ∀ x ∈ xs.take n, p x := fun x m => h x (List.mem_of_mem_take m)
end
def spWithCheck (CS C CB : Addr) : Sp := fun vs H Q E => ∃ (x p : Addr) (cs : List Col) (fs : List Fm) (ks : List Ky) (g : Fm), vs = [.ref x, .ref p] ∧ ShpAt CS C H cs fs ks x ∧ ShOk cs fs ks ∧ fs.length + 1 ≤ 9 ∧ FitAt C H g p ∧
  (g.fits cs = true → ∀ y H', XT H H' → ShpAt CS C H' cs (fs ++ [g]) ks y → Q (.ref y) H') ∧ (g.fits cs = false → ∀ d H', XT H H' → H' d = some (xshw "checks" fs.length) → E (.ref CB) (some d) H')
def spWithKey (CS C CB : Addr) : Sp := fun vs H Q E => ∃ (x : Addr) (v : V) (cs : List Col) (fs : List Fm) (ks : List Ky) (r : Bool), vs = [.ref x, v] ∧ ShpAt CS C H cs fs ks x ∧ ShOk cs fs ks ∧ ks.length + 1 ≤ 9 ∧ KeyD C H cs v r ∧
  (r = true → ∃ k, KyIn C H v k ∧ ∀ y H', XT H H' → ShpAt CS C H' cs fs (ks ++ [k]) y → Q (.ref y) H') ∧ (r = false → ∀ d H', XT H H' → H' d = some (xshw "keys" ks.length) → E (.ref CB) (some d) H')
section
variable {P : Program} {w : World} {K : PySem.W.Frag} {mg : Str → Option Value} {base : Heap}
end
/-! renaming the columns of a test -/
def mv (kvs : List (Key × V)) (c : Str) : V := (valV kvs (Sum.inr c)).getD (.str c)
def strV : V → Str → Str
  | .str z, _ => z
  | _, c => c
def mvS (kvs : List (Key × V)) (c : Str) : Str := strV (mv kvs c) c
def samePair : List Str → Bool
  | [a, b] => decide (a = b)
  | _ => false
theorem samePair_len {l : List Str} (h : l.length ≠ 2) : samePair l = false := by
  match l, h with
  | [], _ => rfl
  | [a], _ => rfl
  | [a, b], h => exact absurd rfl h
  | a :: b :: c :: r, _ => rfl
noncomputable def okF (kvs : List (Key × V)) (fs : List Str) : Bool := fs.all (fun c => nameB (mv kvs c)) && !samePair (fs.map (mvS kvs))
theorem nameB_strV {v : V} (c : Str) (h : nameB v = true) : v = .str (strV v c) := by
  cases v with
  | str z => rfl
  | _ => cases h
theorem mv_str {kvs : List (Key × V)} {c : Str} (h : nameB (mv kvs c) = true) : mv kvs c = .str (mvS kvs c) := nameB_strV c h
noncomputable def ren (kvs : List (Key × V)) : Ts → Option Ts
  | .at w fs ts => if okF kvs fs then some (.at w (fs.map (mvS kvs)) ts) else none
  | .un w a => (ren kvs a).map (.un w)
  | .bi w a b => match ren kvs a, ren kvs b with
    | some x, some y => some (.bi w x y)
    | _, _ => none
noncomputable def renL (kvs : List (Key × V)) : List Ts → Option (List Ts)
  | [] => some []
  | k :: r => match ren kvs k, renL kvs r with
    | some x, some y => some (x :: y)
    | _, _ => none
theorem renL_none {kvs : List (Key × V)} {k : Ts} (e : ren kvs k = none) : ∀ {l : List Ts}, k ∈ l → renL kvs l = none
  | a :: r, h => by
    unfold renL
    rcases List.mem_cons.mp h with rfl | h
    · rw [e]
    · rw [renL_none e h]
      cases ren kvs a <;> rfl
theorem renL_snoc {kvs : List (Key × V)} {k x : Ts} (e : ren kvs k = some x) : ∀ {l us : List Ts}, renL kvs l = some us → renL kvs (l ++ [k]) = some (us ++ [x])
  | [], us, h => by
    cases h
    show (match ren kvs k, renL kvs [] with | some x, some y => some (x :: y) | _, _ => none) = _
    rw [e]
    rfl
  | a :: r, us, h => by
    unfold renL at h
    cases ea : ren kvs a with
    | none => rw [ea] at h; cases h
    | some y =>
      cases er : renL kvs r with
      | none => rw [ea, er] at h; cases h
      | some ys =>
        rw [ea, er] at h
        cases h
        show (match ren kvs a, renL kvs (r ++ [k]) with | some x, some y => some (x :: y) | _, _ => none) = _
        rw [ea, renL_snoc e er]
        rfl
theorem okF_nil {kvs : List (Key × V)} : okF kvs [] = true := rfl
theorem ren_none {kvs : List (Key × V)} {t : Ts} (h : renL kvs t.kids = none) : ren kvs t = none := by
  cases t with
  | «at» w fs ts => cases h
  | un w a =>
    unfold ren
    cases e : ren kvs a with
    | none => rfl
    | some x =>
      have h : (match ren kvs a, renL kvs [] with | some x, some y => some (x :: y) | _, _ => none) = none := h
      rw [e] at h
      cases h
  | bi w a b =>
    unfold ren
    cases e : ren kvs a with
    | none => rfl
    | some x =>
      cases f : ren kvs b with
      | none => rfl
      | some y =>
        have h : (match ren kvs a, (match ren kvs b, renL kvs [] with | some x, some y => some (x :: y) | _, _ => none) with | some x, some y => some (x :: y) | _, _ => none) = none := h
        rw [e, f] at h
        cases h
theorem ren_some {kvs : List (Key × V)} {t : Ts} {us : List Ts} (h : renL kvs t.kids = some us) : ren kvs t = if okF kvs t.flds then some (mkT t.word (t.flds.map (mvS kvs)) t.trms us) else none := by
  cases t with
  | «at» w fs ts => cases h; rfl
  | un w a =>
    have h : (match ren kvs a, renL kvs [] with | some x, some y => some (x :: y) | _, _ => none) = some us := h
    cases e : ren kvs a with
    | none => rw [e] at h; cases h
    | some x =>
      rw [e] at h
      cases h
      unfold ren
      rw [e]
      rfl
  | bi w a b =>
    have h : (match ren kvs a, (match ren kvs b, renL kvs [] with | some x, some y => some (x :: y) | _, _ => none) with | some x, some y => some (x :: y) | _, _ => none) = some us := h
    cases e : ren kvs a with
    | none => rw [e] at h; cases h
    | some x =>
      cases f : ren kvs b with
      | none => rw [e, f] at h; cases h
      | some y =>
        rw [e, f] at h
        cases h
        unfold ren
        rw [e, f]
        rfl
theorem flds_cols {t : Ts} {c : Str} (h : c ∈ t.flds) : c ∈ t.cols := by
  cases t with
  | «at» w fs ts => simpa [Ts.cols, Ts.atoms, Ts.flds] using h
  | un w a => exact nomatch h
  | bi w a b => exact nomatch h
theorem kid_cols {t k : Ts} {c : Str} (m : k ∈ t.kids) (h : c ∈ k.cols) : c ∈ t.cols := by
  cases t with
  | «at» w fs ts => exact nomatch m
  | un w a =>
    obtain rfl : k = a := by simpa [Ts.kids] using m
    exact h
  | bi w a b =>
    have m : k = a ∨ k = b := by simpa [Ts.kids] using m
    show c ∈ (a.atoms ++ b.atoms).flatMap Ts.flds
    rw [List.flatMap_append, List.mem_append]
    rcases m with rfl | rfl
    · exact .inl h
    · exact .inr h
theorem flds_colsL (t : Ts) : t.flds.length ≤ t.cols.length := by
  cases t with
  | «at» w fs ts => simp [Ts.cols, Ts.atoms, Ts.flds]
  | un w a => exact Nat.zero_le _
  | bi w a b => exact Nat.zero_le _
theorem kid_colsL {t k : Ts} (m : k ∈ t.kids) : k.cols.length ≤ t.cols.length := by
  cases t with
  | «at» w fs ts => exact nomatch m
  | un w a =>
    obtain rfl : k = a := by simpa [Ts.kids] using m
    exact Nat.le_refl _
  | bi w a b =>
    have m : k = a ∨ k = b := by simpa [Ts.kids] using m
    have e : (Ts.bi w a b).cols.length = a.cols.length + b.cols.length := by
      show ((a.atoms ++ b.atoms).flatMap Ts.flds).length = _
      rw [List.flatMap_append, List.length_append]
      rfl
    rcases m with rfl | rfl <;> omega
theorem TestAt.made2 {C : Addr} {H : Hp} {p dx i f u : Addr} {w : Str} {fs : List Str} {ts : List V} {ks : List Ts} {qs : List Addr} (hl : ks.length ≤ 2) (hz : ks ≠ [] → fs = [] ∧ ts = []) (hp : H p = some (.ins C dx (tf w i f u (sizeK ks : Nat) (depthK ks : Nat)))) (hi : H i = some (.tup (qs.map V.ref))) (hf : H f = some (.tup (fs.map V.str))) (hu : H u = some (.tup ts)) (hR : Row (TestAt C H) ks qs) : TestAt C H (mkT w fs ts ks) p := by
  by_cases hk : ks = []
  · subst hk
    cases hR
    exact ⟨dx, i, f, u, hp, hi, hf, hu⟩
  · obtain ⟨rfl, rfl⟩ := hz hk
    exact TestAt.made hl hp hi hf hu hR
/-! a form with its columns renamed -/
def At.move (m : Str → Str) : At → At
  | .always => .always
  | .never => .never
  | .empty c => .empty (m c)
  | .among c vs => .among (m c) vs
  | .begins c z => .begins (m c) z
  | .compare c op v => .compare (m c) op v
  | .against c op d n => .against (m c) op (m d) n
def Fm.move (m : Str → Str) : Fm → Fm
  | .at a => .at (a.move m)
  | .un w f => .un w (f.move m)
  | .bi w f g => .bi w (f.move m) (g.move m)
theorem strV_nameB {v : V} {c : Str} (h : nameB v = true) : nameP (strV v c) := by
  have e := nameB_strV c h
  rw [e] at h
  exact nameB_str.mp h
theorem mvS_name {kvs : List (Key × V)} {c : Str} (h : nameB (mv kvs c) = true) : nameP (mvS kvs c) := strV_nameB h
theorem mem_fst {cs : List (Str × Bool)} {c : Str} {k : Bool} (h : (c, k) ∈ cs) : c ∈ cs.map (·.1) := List.mem_map.mpr ⟨(c, k), h, rfl⟩
theorem At.cols_in {cs : List (Str × Bool)} {a : At} (h : a.Wf cs) : ∀ c ∈ a.flds, c ∈ cs.map (·.1) := by
  intro c hc
  cases a with
  | always => exact nomatch hc
  | never => exact nomatch hc
  | empty d => obtain ⟨_, k, m⟩ := h; rw [List.mem_singleton.mp hc]; exact mem_fst m
  | among d vs => obtain ⟨_, _, _, k, m, _⟩ := h; rw [List.mem_singleton.mp hc]; exact mem_fst m
  | begins d z => rw [List.mem_singleton.mp hc]; exact mem_fst h.2.1
  | compare d op v => obtain ⟨_, _, k, m, _⟩ := h; rw [List.mem_singleton.mp hc]; exact mem_fst m
  | against d op e n =>
    obtain ⟨_, _, _, _, k, m1, m2, _⟩ := h
    rcases List.mem_cons.mp hc with rfl | hc
    · exact mem_fst m1
    · rw [List.mem_singleton.mp hc]; exact mem_fst m2
theorem Fm.cols_in {cs : List (Str × Bool)} : ∀ {f : Fm}, f.Wf cs → ∀ c ∈ f.cols, c ∈ cs.map (·.1)
  | .at a, h => At.cols_in h
  | .un _ f, h => Fm.cols_in (f := f) h.2
  | .bi _ f g, h => fun c hc => (List.mem_append.mp hc).elim (Fm.cols_in (f := f) h.2.1 c) (Fm.cols_in (f := g) h.2.2 c)
theorem At.move_flds (m : Str → Str) (a : At) : (a.move m).flds = a.flds.map m := by cases a <;> rfl
theorem At.move_ts (m : Str → Str) (a : At) : (a.move m).ts = .at a.word (a.flds.map m) a.trms := by cases a <;> rfl
theorem Fm.move_cols (m : Str → Str) : ∀ f : Fm, (f.move m).cols = f.cols.map m
  | .at a => At.move_flds m a
  | .un _ f => Fm.move_cols m f
  | .bi _ f g => by
    show (f.move m).cols ++ (g.move m).cols = (f.cols ++ g.cols).map m
    rw [Fm.move_cols m f, Fm.move_cols m g, List.map_append]
theorem Fm.move_depth (m : Str → Str) : ∀ f : Fm, (f.move m).ts.depth = f.ts.depth
  | .at a => by cases a <;> rfl
  | .un _ f => congrArg (· + 1) (Fm.move_depth m f)
  | .bi _ f g => by
    show max (f.move m).ts.depth (g.move m).ts.depth + 1 = max f.ts.depth g.ts.depth + 1
    rw [Fm.move_depth m f, Fm.move_depth m g]
theorem Fm.move_size (m : Str → Str) : ∀ f : Fm, (f.move m).ts.size = f.ts.size
  | .at a => by cases a <;> rfl
  | .un _ f => Fm.move_size m f
  | .bi _ f g => by
    show (f.move m).ts.size + (g.move m).ts.size = f.ts.size + g.ts.size
    rw [Fm.move_size m f, Fm.move_size m g]

/-- what a suffix does to the columns -/
theorem At.suf_wf {κ κ' : List (Str × Bool)} {m : Str → Str} (hm : ∀ c k, (c, k) ∈ κ → nameP (m c) ∧ (m c, k) ∈ κ') (inj : ∀ c d, m c = m d → c = d) {a : At} (h : a.Wf κ) : (a.move m).Wf κ' := by
  cases a with
  | always => trivial
  | never => trivial
  | empty d => obtain ⟨_, k, h3⟩ := h; exact ⟨(hm _ _ h3).1, k, (hm _ _ h3).2⟩
  | among d vs => obtain ⟨_, h1, h2, k, h4, h3⟩ := h; exact ⟨(hm _ _ h4).1, h1, h2, k, (hm _ _ h4).2, h3⟩
  | begins d z => obtain ⟨_, h4, h2⟩ := h; exact ⟨(hm _ _ h4).1, (hm _ _ h4).2, h2⟩
  | compare d op v => obtain ⟨_, h1, k, h4, h3⟩ := h; exact ⟨(hm _ _ h4).1, h1, k, (hm _ _ h4).2, h3⟩
  | against d op e n =>
    obtain ⟨_, _, hne, h1, k, m1, m2, h3⟩ := h
    exact ⟨(hm _ _ m1).1, (hm _ _ m2).1, fun e => hne (inj _ _ e), h1, k, (hm _ _ m1).2, (hm _ _ m2).2, h3⟩
theorem Fm.suf_wf {κ κ' : List (Str × Bool)} {m : Str → Str} (hm : ∀ c k, (c, k) ∈ κ → nameP (m c) ∧ (m c, k) ∈ κ') (inj : ∀ c d, m c = m d → c = d) : ∀ {f : Fm}, f.Wf κ → (f.move m).Wf κ'
  | .at _, h => At.suf_wf hm inj h
  | .un _ f, h => ⟨h.1, Fm.suf_wf hm inj (f := f) h.2⟩
  | .bi _ f g, h => ⟨h.1, Fm.suf_wf hm inj (f := f) h.2.1, Fm.suf_wf hm inj (f := g) h.2.2⟩
theorem At.suf_kd {κ κ' : List (Str × Bool)} {m : Str → Str} (hm : ∀ c k, (m c, k) ∈ κ' → (c, k) ∈ κ) {a : At} (h : a.Kd κ) : (a.move m).Kd κ' := by
  cases a with
  | among d vs => exact fun k e => h k (hm _ _ e)
  | compare d op v => exact fun k e => h k (hm _ _ e)
  | _ => trivial
theorem Fm.suf_kd {κ κ' : List (Str × Bool)} {m : Str → Str} (hm : ∀ c k, (m c, k) ∈ κ' → (c, k) ∈ κ) : ∀ {f : Fm}, f.Kd κ → (f.move m).Kd κ'
  | .at _, h => At.suf_kd hm h
  | .un _ f, h => Fm.suf_kd hm (f := f) h
  | .bi _ f g, h => ⟨Fm.suf_kd hm (f := f) h.1, Fm.suf_kd hm (f := g) h.2⟩
theorem okF_suf {kvs : List (Key × V)} {m : Str → Str} (inj : ∀ c d, m c = m d → c = d) {κ : List (Str × Bool)} {a : At} (w : a.Wf κ) (h : ∀ c ∈ a.flds, mv kvs c = .str (m c) ∧ nameP (m c)) : okF kvs a.flds = true := by
  have hall : a.flds.all (fun c => nameB (mv kvs c)) = true := List.all_eq_true.mpr fun c e => by rw [(h c e).1]; exact nameB_str.mpr (h c e).2
  unfold okF
  rw [hall, Bool.true_and]
  cases a with
  | against d op e n =>
    obtain ⟨_, _, hne, _⟩ := w
    have e1 : mvS kvs d = m d := by unfold mvS; rw [(h d (by simp [At.flds])).1]; rfl
    have e2 : mvS kvs e = m e := by unfold mvS; rw [(h e (by simp [At.flds])).1]; rfl
    show (!decide (mvS kvs d = mvS kvs e)) = true
    rw [e1, e2, decide_eq_false fun z => hne (inj _ _ z).symm]
    rfl
  | _ => rfl
theorem ren_suf {kvs : List (Key × V)} {m : Str → Str} (inj : ∀ c d, m c = m d → c = d) {κ : List (Str × Bool)} : ∀ {f : Fm}, f.Wf κ → (∀ c ∈ f.cols, mv kvs c = .str (m c) ∧ nameP (m c)) → ren kvs f.ts = some (f.move m).ts
  | .at a, w, h => by
    show ren kvs (.at a.word a.flds a.trms) = some (a.move m).ts
    unfold ren
    rw [if_pos (okF_suf inj w h), At.move_ts]
    congr 2
    exact List.map_congr_left fun c e => by unfold mvS; rw [(h c e).1]; rfl
  | .un wd f, w, h => by
    show ren kvs (.un wd f.ts) = some (.un wd (f.move m).ts)
    unfold ren
    rw [ren_suf inj (f := f) w.2 h]
    rfl
  | .bi wd f g, w, h => by
    show ren kvs (.bi wd f.ts g.ts) = some (.bi wd (f.move m).ts (g.move m).ts)
    unfold ren
    rw [ren_suf inj (f := f) w.2.1 fun c e => h c (List.mem_append.mpr (.inl e)), ren_suf inj (f := g) w.2.2 fun c e => h c (List.mem_append.mpr (.inr e))]
/-! renaming where nothing is refused -/
theorem renL_some {kvs : List (Key × V)} {t u : Ts} (h : ren kvs t = some u) : ∃ us, renL kvs t.kids = some us := by
  cases e : renL kvs t.kids with
  | some us => exact ⟨us, rfl⟩
  | none => rw [ren_none e] at h; cases h
def spRenP (C : Addr) (n : Nat) : Sp := fun vs H Q _ => ∃ (p d : Addr) (t u : Ts) (kvs : List (Key × V)), vs = [.ref p, .ref d] ∧ TestAt C H t p ∧ H d = some (.dK kvs) ∧ ren kvs t = some u ∧ t.depth < n ∧ t.cols.length ≤ 1000 ∧ ∀ q H', Ext H H' → TestAt C H' u q → Q (.ref q) H'
section
variable {P : Program} {w : World} {K : PySem.W.Frag} {mg : Str → Option Value} {base : Heap}
theorem ok_renN (T : Txt K mg) : ∀ n, Def P w K mg base (n + 6) "renamed_by" ["test", "mapping"] (spRenP (cadr mg "Test") n) := by
  intro n
  induction n with
  | zero =>
    obtain ⟨f, fd, h⟩ := T.d_renamed_by
    refine h.def (Fun.okM h.fn sc_renamed_by (fun vs H Q E h => ?_) (fun cdv A outer s H vs Q E hr h => ?_))
    · obtain ⟨p, d, t, u0, kvs, rfl, _⟩ := h
      rfl
    · obtain ⟨p, d, t, u0, kvs, rfl, hA, hD, hren0, hd, hz, kQ⟩ := h
      exact absurd hd (Nat.not_lt_zero _)
  | succ n ih =>
    have ok_renamed_by : ∀ (_ : Txt K mg), Def P w K mg base (n + 6) "renamed_by" ["test", "mapping"] (spRenP (cadr mg "Test") n) := fun _ => ih
    obtain ⟨f, fd, h⟩ := T.d_renamed_by
    refine h.def (Fun.okM h.fn sc_renamed_by (fun vs H Q E h => ?_) (fun cdv A outer s H vs Q E hr h => ?_))
    · obtain ⟨p, d, t, u0, kvs, rfl, _⟩ := h
      rfl
    · obtain ⟨p, d, t, u0, kvs, rfl, hA, hD, hren0, hd, hz, kQ⟩ := h
      obtain ⟨dx, i, f, u, qs, hp, hi, hf, hu, hR⟩ := hA.node
      obtain ⟨usA, husA⟩ := renL_some hren0
      have hlen := hR.len
      have hk2 := Ts.kids_len t
      refine ⟨_, (pss_cons (ps_set (i := 2) sc_renamed_by.nd rfl (Or.inl rfl) (pe_callTy (call_tupleG (K := K) rfl) (by rfl) T.h_tuple (by decide +kernel) (pa_cons (pe_lc (own := [("part", 5)]) rfl sc_renamed_by.nd (pi_tupG (K := K) rfl (pe_fldG (K := K) rfl (pv 0) rfl)) (blkOk_by (N := N_renamed_by) (sc := defScope S_renamed_by) (by decide +kernel)) (fun _ _ _ _ _ => pg_name (i := 5) sc_renamed_by.nd rfl (Or.inl rfl)) (fun _ _ _ _ _ => pts_nil) (fun _ _ _ _ _ => (pe_def (ok_renamed_by T) hr rfl (pa_cons (pv 5) (pa_cons (pv 1) pa_nil)) (hk := by omega)))) pa_nil)))
  (pss_cons (ps_set (i := 3) sc_renamed_by.nd rfl (Or.inl rfl) (pe_callTy (call_tupleG (K := K) rfl) (by rfl) T.h_tuple (by decide +kernel) (pa_cons (pe_lc (own := [("name", 4)]) rfl sc_renamed_by.nd (pi_tupG (K := K) rfl (pe_fldG (K := K) rfl (pv 0) rfl)) (blkOk_by (N := N_renamed_by) (sc := defScope S_renamed_by) (by decide +kernel)) (fun _ _ _ _ _ => pg_name (i := 4) sc_renamed_by.nd rfl (Or.inl rfl)) (fun _ _ _ _ _ => pts_nil) (fun _ _ _ _ _ => (pe_dget2X (hu_of hr) (pv 1) (pv 4) (pv 4)))) pa_nil)))
  (pss_cons (ps_for PassesOwn.never rfl (pi_tupG (K := K) rfl (pv 3)) (pg_name (i := 4) sc_renamed_by.nd rfl (Or.inl rfl))
  (pss_one (ps_expr (pe_def (ok_need_column T) hr rfl (pa_cons (pv 4) pa_nil) (hk := by omega)))))
  (pss_cons (ps_if (PW.pt (pw_and (pt_cmpR op_eq (pe_callB (call_lenG (K := K) rfl) (by rfl) T.h_len (by decide +kernel) (pa_cons (pv 3) pa_nil)) pe_int (nomark _)) (pw_and1 (pt_cmpR op_eq (pe_ix (ix_seqG (K := K) rfl) (pv 3) pe_int (fun _ _ => rfl)) (pe_ix (ix_seqG (K := K) rfl) (pv 3) pe_int (fun _ _ => rfl)) (nomark _)))))
  (pss_one ps_never)
  pss_nil)
  (pss_one (ps_ret (pe_new (ok_Test_init T) hr rfl T.e_Test (pa_cons (pe_fldG (K := K) rfl (pv 0) rfl) (pa_cons (pv 2) (pa_cons (pv 3) (pa_cons (pe_fldG (K := K) rfl (pv 0) rfl) pa_nil)))) (hk := by omega)))))))), ?_⟩
      walk_at "g"
      refine ⟨p, _, dx, _, _, rfl, hp, T.cl_Test, T.n_Test_inner, tf_inner, ?_⟩
      walk_at "g"
      refine ⟨i, rfl, ⟨_, SqT.of hi⟩, fun D hDn => ?_⟩
      refine lc_tup (K := K) (a := i) (xs := qs.map V.ref) (fun j H' => (∃ us rs, renL kvs (t.kids.take j) = some us ∧ H' D = some (.lst (rs.map V.ref)) ∧ Row (TestAt (cadr mg "Test") H') us rs ∧ rs.length = j) ∧ Ext H H') ⟨⟨[], [], rfl, upd_same, .nil, rfl⟩, fun q o h => by rw [upd_ne (ne_of_none h hDn)]; exact h⟩ (fun j H' _ p => SqT.of (p.2 _ _ hi)) ?_ ?_
      · rintro j x H2 hj ⟨⟨us, rs, hren, hD2, hrow, hrl⟩, x2⟩
        rw [List.getElem?_map] at hj
        obtain ⟨q, hq, rfl⟩ := Option.map_eq_some_iff.mp hj
        obtain ⟨kt, hkt, A⟩ := hR.get hq
        have hmem := List.mem_of_getElem? hkt
        have hdep := Ts.kids_depth hmem
        obtain ⟨u', e⟩ : ∃ u', ren kvs kt = some u' := by
          cases e : ren kvs kt with
          | some u' => exact ⟨u', rfl⟩
          | none => rw [renL_none e hmem] at husA; cases husA
        walk_at "g"
        refine ⟨rfl, ?_⟩
        walk_at "g"
        refine ⟨q, d, kt, u', kvs, rfl, A.keep x2, x2 _ _ hD, e, by omega, Nat.le_trans (kid_colsL hmem) hz, fun q' H' x A' => ?_⟩
        have hD' := x _ _ hD2
        refine ⟨_, hD', ?_, ⟨us ++ [u'], rs ++ [q'], ?_, ?_, ?_, by simp [hrl]⟩, fun q o h => by rw [upd_ne (ne_of_none h hDn)]; exact x _ _ (x2 _ _ h)⟩
        · have hj3 := (List.getElem?_eq_some_iff.mp hkt).1
          rw [List.length_map, hrl, sizeLine_eq]
          omega
        · rw [List.take_succ, hkt]
          exact renL_snoc e hren
        · rw [upd_same, List.map_append]
          rfl
        · have kk : ∀ b o, b ≠ D → H' b = some o → (upd H' D (.lst (rs.map V.ref ++ [.ref q']))) b = some o := fun b o n h => by rw [upd_ne n]; exact h
          have nn : ∀ o, H' D = some o → (∀ dx l, o = .ins (cadr mg "Test") dx l → l = []) ∧ ∀ l, o ≠ .tup l := fun o h => by
            rw [hD'] at h
            cases h
            exact ⟨(fun _ _ e => nomatch e), fun _ e => nomatch e⟩
          exact (hrow.mono fun _ _ h => (h.keep x).keepN kk nn).app (.cons (A'.keepN kk nn) .nil)
      · rintro H2 ⟨⟨us, rs, hren, hD2, hrow, hrl⟩, x2⟩
        rw [List.length_map, hlen, List.take_length] at hren
        have hso := ren_some hren
        rw [hren0] at hso
        obtain ⟨hok, rfl⟩ : okF kvs t.flds = true ∧ u0 = mkT t.word (t.flds.map (mvS kvs)) t.trms us := by
          by_cases h : okF kvs t.flds = true
          · rw [if_pos h] at hso
            exact ⟨h, Option.some.inj hso⟩
          · rw [if_neg h] at hso
            cases hso
        have hall' : ∀ c ∈ t.flds, nameB (mv kvs c) = true := by
          unfold okF at hok
          exact List.all_eq_true.mp ((Bool.and_eq_true _ _).mp hok).1
        have hsp : samePair (t.flds.map (mvS kvs)) = false := by
          unfold okF at hok
          have := ((Bool.and_eq_true _ _).mp hok).2
          simpa using this
        have hul : us.length = t.kids.length := by rw [← hrow.len, hrl, List.length_map, hlen]
        walk_at "g"
        refine ⟨D, _, rfl, .inl ⟨SqL.of hD2, fun l hl => ?_⟩⟩
        have x3 : Ext H2 (upd H2 l (.tup (rs.map V.ref))) := fun q o h => by rw [upd_ne (ne_of_none h hl)]; exact h
        have hinner : (upd H2 l (.tup (rs.map V.ref))) l = some (.tup (rs.map V.ref)) := upd_same
        have row3 : Row (TestAt (cadr mg "Test") (upd H2 l (.tup (rs.map V.ref)))) us rs := hrow.mono fun _ _ h => h.keep x3
        have x03 : Ext H (upd H2 l (.tup (rs.map V.ref))) := fun q o h => x3 _ _ (x2 _ _ h)
        generalize upd H2 l (.tup (rs.map V.ref)) = H3 at x3 hinner row3 x03
        walk_at "g"
        refine ⟨p, _, dx, _, _, rfl, x03 _ _ hp, T.cl_Test, T.n_Test_fields, tf_fields, ?_⟩
        walk_at "g"
        refine ⟨f, rfl, ⟨_, SqT.of (x03 _ _ hf)⟩, fun D2 hD2n => ?_⟩
        refine lc_tup (K := K) (a := f) (xs := t.flds.map V.str) (fun j H' => H' D2 = some (.lst ((t.flds.take j).map (mv kvs))) ∧ Ext H3 H') ⟨upd_same, fun q o h => by rw [upd_ne (ne_of_none h hD2n)]; exact h⟩ (fun j H' _ p => SqT.of (p.2 _ _ (x03 _ _ hf))) ?_ ?_
        · rintro j x H4 hj ⟨hD4, x4⟩
          rw [List.getElem?_map] at hj
          obtain ⟨c, hc, rfl⟩ := Option.map_eq_some_iff.mp hj
          have hd4 := x4 _ _ (x03 _ _ hD)
          walk_at "g"
          refine ⟨rfl, ?_⟩
          walk_at "g"
          refine ⟨d, rfl, .inl ⟨kvs, .inl hd4⟩, ?_⟩
          walk_at "g"
          refine ⟨_, DGet.k (k := Sum.inr c) hd4, _, hD4, ?_, ?_, fun q o h => by rw [upd_ne (ne_of_none h hD2n)]; exact x4 _ _ h⟩
          · have h3 := (List.getElem?_eq_some_iff.mp hc).1
            have := flds_colsL t
            rw [List.length_map, List.length_take, sizeLine_eq]
            omega
          · rw [upd_same, List.take_succ, hc, List.map_append]
            rfl
        · rintro H4 ⟨hD4, x4⟩
          rw [List.length_map, List.take_length] at hD4
          walk_at "g"
          refine ⟨D2, _, rfl, .inl ⟨SqL.of hD4, fun fl hfl => ?_⟩⟩
          have x5 : Ext H4 (upd H4 fl (.tup (t.flds.map (mv kvs)))) := fun q o h => by rw [upd_ne (ne_of_none h hfl)]; exact h
          have hF : (upd H4 fl (.tup (t.flds.map (mv kvs)))) fl = some (.tup (t.flds.map (mv kvs))) := upd_same
          have x05 : Ext H (upd H4 fl (.tup (t.flds.map (mv kvs)))) := fun q o h => x5 _ _ (x4 _ _ (x03 _ _ h))
          have hinner5 := x5 _ _ (x4 _ _ hinner)
          have row5 : Row (TestAt (cadr mg "Test") (upd H4 fl (.tup (t.flds.map (mv kvs))))) us rs := row3.mono fun _ _ h => h.keep fun q o h => x5 _ _ (x4 _ _ h)
          generalize upd H4 fl (.tup (t.flds.map (mv kvs))) = H5 at x5 hF x05 hinner5 row5
          walk_at "g"
          refine ⟨fl, rfl, ⟨_, SqT.of hF⟩, ?_⟩
          refine for_tupA (xs := t.flds.map (mv kvs)) (fun j σ' H' => (∃ v4, σ' = [some (.ref p), some (.ref d), some (.ref l), some (.ref fl), v4, none]) ∧ Ext H5 H') ⟨⟨none, rfl⟩, fun q o h => h⟩ (fun _ _ H' _ e => SqT.of (e.2 _ _ hF)) ?_ ?_
          · rintro j x σ' H6 D' hj ⟨⟨v4, rfl⟩, x6⟩ hnx hct hbk hrt
            rw [List.getElem?_map] at hj
            obtain ⟨c, hc, rfl⟩ := Option.map_eq_some_iff.mp hj
            have hcm := List.mem_of_getElem? hc
            walk_at "g"
            refine ⟨_, rfl, ⟨mvS kvs c, mv_str (hall' c hcm), mvS_name (hall' c hcm)⟩, fun H' x => ?_⟩
            walk_at "g"
            exact hnx _ _ ⟨⟨_, rfl⟩, fun q o h => x _ _ (x6 _ _ h)⟩
          · rintro σ' H6 ⟨⟨v4, rfl⟩, x6⟩
            have hmap : t.flds.map (mv kvs) = (t.flds.map (mvS kvs)).map V.str := by
              rw [List.map_map]
              exact List.map_congr_left fun c m => mv_str (hall' c m)
            have hF6 := x6 _ _ hF
            rw [hmap] at hF6
            have row6 : Row (TestAt (cadr mg "Test") H6) us rs := row5.mono fun _ _ h => h.keep x6
            have hin6 := x6 _ _ hinner5
            have x06 : Ext H H6 := fun q o h => x6 _ _ (x05 _ _ h)
            have made : ∀ x dx2, H6 x = none → H6 dx2 = none → dx2 ≠ x → ∀ H', (∀ q o, q ≠ x → (upd (upd H6 dx2 (.own x)) x (.ins (cadr mg "Test") dx2 [])) q = some o → H' q = some o) → H' x = some (.ins (cadr mg "Test") dx2 (tf t.word l fl u (sizeK us : Nat) (depthK us : Nat))) → Q (.ref x) H' := fun x dx2 hx hdx hne H' k' h' => by
              have kk : ∀ q o, H6 q = some o → H' q = some o := fun q o h => k' q o (ne_of_none h hx) (by rw [upd_ne (ne_of_none h hx), upd_ne (ne_of_none h hdx)]; exact h)
              refine kQ x H' (fun q o h => kk _ _ (x06 _ _ h)) (TestAt.made2 (by omega) (fun hne => ?_) h' (kk _ _ hin6) (kk _ _ hF6) (kk _ _ (x06 _ _ hu)) (row6.mono fun _ _ h => h.keep kk))
              have hkn : t.kids ≠ [] := fun e => hne (List.length_eq_zero_iff.mp (by rw [hul, e]; rfl))
              cases t with
              | «at» w fs ts => exact absurd rfl hkn
              | un w a => exact ⟨rfl, rfl⟩
              | bi w a b => exact ⟨rfl, rfl⟩
            walk_at "g"
            refine g_lenT (SqT.of hF6) ?_
            walk_at "g"
            have fin : ∀ (_ : True), True := fun _ => trivial
            refine g_dec (fun h2 => ?_) (fun h2 => ?_)
            · have h2 : (t.flds.map (mvS kvs)).length = 2 := by rw [List.length_map] at h2 ⊢; rw [List.length_map] at h2; omega
              obtain ⟨a, b, e1⟩ : ∃ a b, t.flds.map (mvS kvs) = [a, b] := by
                match e : t.flds.map (mvS kvs), h2 with
                | [a, b], _ => exact ⟨a, b, rfl⟩
              rw [e1] at hsp
              have hab : ¬ a = b := of_decide_eq_false hsp
              have hF7 := hF6
              rw [e1] at hF7
              walk_at "g"
              refine g_ixT (SqT.of hF7) (v := .str a) (by rfl) ?_
              walk_at "g"
              refine g_ixT (SqT.of hF7) (v := .str b) (by rfl) ?_
              walk_at "g"
              refine g_dec (fun h => absurd h hab) (fun _ => ?_)
              walk_at "g"
              refine ⟨p, _, dx, _, _, rfl, x06 _ _ hp, T.cl_Test, T.n_Test_word, tf_word, ?_⟩
              walk_at "g"
              refine ⟨p, _, dx, _, _, rfl, x06 _ _ hp, T.cl_Test, T.n_Test_terms, tf_terms, ?_⟩
              walk_at "g"
              intro x dx2 hx hdx hne
              have kn : ∀ q o, H6 q = some o → (upd (upd H6 dx2 (.own x)) x (.ins (cadr mg "Test") dx2 [])) q = some o := fun q o h => by rw [upd_ne (ne_of_none h hx), upd_ne (ne_of_none h hdx)]; exact h
              exact ⟨x, dx2, l, fl, u, t.word, us, rs, rfl, upd_same, kn _ _ hin6, row6.mono fun _ _ h => h.keep kn, by omega, fun H' k' h' => ⟨rfl, made x dx2 hx hdx hne H' k' h'⟩⟩
            · walk_at "g"
              refine ⟨p, _, dx, _, _, rfl, x06 _ _ hp, T.cl_Test, T.n_Test_word, tf_word, ?_⟩
              walk_at "g"
              refine ⟨p, _, dx, _, _, rfl, x06 _ _ hp, T.cl_Test, T.n_Test_terms, tf_terms, ?_⟩
              walk_at "g"
              intro x dx2 hx hdx hne
              have kn : ∀ q o, H6 q = some o → (upd (upd H6 dx2 (.own x)) x (.ins (cadr mg "Test") dx2 [])) q = some o := fun q o h => by rw [upd_ne (ne_of_none h hx), upd_ne (ne_of_none h hdx)]; exact h
              exact ⟨x, dx2, l, fl, u, t.word, us, rs, rfl, upd_same, kn _ _ hin6, row6.mono fun _ _ h => h.keep kn, by omega, fun H' k' h' => ⟨rfl, made x dx2 hx hdx hne H' k' h'⟩⟩
theorem ok_renamed_by (T : Txt K mg) : Def P w K mg base 19 "renamed_by" ["test", "mapping"] (spRenP (cadr mg "Test") 13) := ok_renN T 13
end
theorem kb_dict : ∀ T ∈ kinds7, kitB T "dict" = some (decide (T = "dict")) := by
  intro T h
  unfold kinds7 at h
  simp only [List.mem_cons, List.not_mem_nil, or_false] at h
  rcases h with rfl | rfl | rfl | rfl | rfl | rfl | rfl <;> decide +kernel
/-! what a shape tells -/
theorem g_listT' {K : PySem.W.Frag} {H : Hp} {Q : VK} {p : Addr} {xs : List V} (h : SqT K H p xs) (q : ∀ l, H l = none → Q (.ref l) (upd H l (.lst xs))) : rListG K [.ref p] H Q := ⟨p, xs, rfl, .inr h, q⟩
def spShCols (CS C : Addr) : Sp := fun vs H Q _ => ∃ (x : Addr) (cs : List Col) (fs : List Fm) (ks : List Ky), vs = [.ref x] ∧ ShpAt CS C H cs fs ks x ∧ ∀ l H', XT H H' → H l = none → LAt H' l (cs.map ct) → Q (.ref l) H'
def spShChecks (CS C : Addr) : Sp := fun vs H Q _ => ∃ (x : Addr) (cs : List Col) (fs : List Fm) (ks : List Ky), vs = [.ref x] ∧ ShpAt CS C H cs fs ks x ∧ ∀ l us H', XT H H' → H l = none → H' l = some (.lst (us.map V.ref)) → RF (FitAt C H') fs us → Q (.ref l) H'
def spShKeys (CS C : Addr) : Sp := fun vs H Q _ => ∃ (x : Addr) (cs : List Col) (fs : List Fm) (ks : List Ky), vs = [.ref x] ∧ ShpAt CS C H cs fs ks x ∧ ∀ l ys H', XT H H' → H l = none → H' l = some (.lst ys) → KysAt (KyT C H') ys ks → Q (.ref l) H'
def spShNames (CS C : Addr) : Sp := fun vs H Q _ => ∃ (x : Addr) (cs : List Col) (fs : List Fm) (ks : List Ky), vs = [.ref x] ∧ ShpAt CS C H cs fs ks x ∧ cs.length ≤ 12 ∧ ∀ l H', XT H H' → H l = none → H' l = some (.lst ((cs.map (·.1)).map V.str)) → Q (.ref l) H'
def spColOfG (CS : Addr) : Sp := fun vs H Q _ => ∃ (x : Addr) (cs : List Col) (i : Nat) (c : Col), vs = [.ref x, .str c.1] ∧ ShapeAt CS H cs x ∧ cs[i]? = some c ∧ nameP c.1 ∧ ∀ q H', XT H H' → H' q = some (.tup (ct c)) → Q (.ref q) H'
def spFilledG (CS : Addr) : Sp := fun vs H Q _ => ∃ (x : Addr) (cs : List Col) (i : Nat) (c : Col), vs = [.ref x, .str c.1] ∧ ShapeAt CS H cs x ∧ cs[i]? = some c ∧ nameP c.1 ∧ ∀ H', XT H H' → Q (.bl c.2.2) H'
section
variable {P : Program} {w : World} {K : PySem.W.Frag} {mg : Str → Option Value} {base : Heap}
theorem ok_Shape_columns (T : Txt K mg) : DefM P w K mg base 1 (cadr mg "Shape") "columns" ["self"] (spShCols (cadr mg "Shape") (cadr mg "Test")) := by
  obtain ⟨f, fd, h⟩ := T.d_Shape_columns
  refine h.def (Fun.okM h.fn sc_Shape_columns (fun vs H Q E h => ?_) (fun cdv A outer s H vs Q E hr h => ?_))
  · obtain ⟨x, cs, fs, ks, rfl, _⟩ := h
    rfl
  · obtain ⟨x, cs, fs, ks, rfl, hS, q⟩ := h
    obtain ⟨dx, t, D, tc, tk, kvs, qs, us, ys, a1, a2, a3, a4, a5, a6, a7, a8, a9, a10, a11⟩ := hS.ex
    refine ⟨_, (pss_one (ps_ret (pe_callTy (call_listG (K := K) rfl) (by rfl) T.h_list (by decide +kernel) (pa_cons (pe_fldG (K := K) rfl (pv 0) rfl) pa_nil)))), ?_⟩
    walk_at "g"
    refine ⟨x, _, dx, _, _, rfl, a1, T.cl_Shape, T.n_Shape_layout, by rfl, ?_⟩
    refine g_listT' (SqT.of a5) fun l hl => ?_
    have x1 : XT H (upd H l (.lst (qs.map V.ref))) := XT.new XT.refl hl
    walk_at "g"
    exact q l _ x1 hl ⟨qs, upd_same, by rw [List.length_map, a6], fun i p tt hq ht => by
      rw [List.getElem?_map] at ht
      obtain ⟨c, hc, rfl⟩ := Option.map_eq_some_iff.mp ht
      exact x1 _ _ (a7 i p c hq hc)⟩
theorem ok_Shape_checks (T : Txt K mg) : DefM P w K mg base 1 (cadr mg "Shape") "checks" ["self"] (spShChecks (cadr mg "Shape") (cadr mg "Test")) := by
  obtain ⟨f, fd, h⟩ := T.d_Shape_checks
  refine h.def (Fun.okM h.fn sc_Shape_checks (fun vs H Q E h => ?_) (fun cdv A outer s H vs Q E hr h => ?_))
  · obtain ⟨x, cs, fs, ks, rfl, _⟩ := h
    rfl
  · obtain ⟨x, cs, fs, ks, rfl, hS, q⟩ := h
    obtain ⟨dx, t, D, tc, tk, kvs, qs, us, ys, a1, a2, a3, a4, a5, a6, a7, a8, a9, a10, a11⟩ := hS.ex
    refine ⟨_, (pss_one (ps_ret (pe_callTy (call_listG (K := K) rfl) (by rfl) T.h_list (by decide +kernel) (pa_cons (pe_fldG (K := K) rfl (pv 0) rfl) pa_nil)))), ?_⟩
    walk_at "g"
    refine ⟨x, _, dx, _, _, rfl, a1, T.cl_Shape, T.n_Shape_check_tests, by rfl, ?_⟩
    refine g_listT' (SqT.of a8) fun l hl => ?_
    have x1 : XT H (upd H l (.lst (us.map V.ref))) := XT.new XT.refl hl
    walk_at "g"
    exact q l us _ x1 hl upd_same (a9.mono fun f p h => h.keep x1)
theorem ok_Shape_unique_keys (T : Txt K mg) : DefM P w K mg base 1 (cadr mg "Shape") "unique_keys" ["self"] (spShKeys (cadr mg "Shape") (cadr mg "Test")) := by
  obtain ⟨f, fd, h⟩ := T.d_Shape_unique_keys
  refine h.def (Fun.okM h.fn sc_Shape_unique_keys (fun vs H Q E h => ?_) (fun cdv A outer s H vs Q E hr h => ?_))
  · obtain ⟨x, cs, fs, ks, rfl, _⟩ := h
    rfl
  · obtain ⟨x, cs, fs, ks, rfl, hS, q⟩ := h
    obtain ⟨dx, t, D, tc, tk, kvs, qs, us, ys, a1, a2, a3, a4, a5, a6, a7, a8, a9, a10, a11⟩ := hS.ex
    refine ⟨_, (pss_one (ps_ret (pe_callTy (call_listG (K := K) rfl) (by rfl) T.h_list (by decide +kernel) (pa_cons (pe_fldG (K := K) rfl (pv 0) rfl) pa_nil)))), ?_⟩
    walk_at "g"
    refine ⟨x, _, dx, _, _, rfl, a1, T.cl_Shape, T.n_Shape_key_rules, by rfl, ?_⟩
    refine g_listT' (SqT.of a10) fun l hl => ?_
    have x1 : XT H (upd H l (.lst ys)) := XT.new XT.refl hl
    walk_at "g"
    exact q l ys _ x1 hl upd_same (a11.mono fun v k h => h.keep x1)
theorem ok_Shape_names (T : Txt K mg) : DefM P w K mg base 1 (cadr mg "Shape") "names" ["self"] (spShNames (cadr mg "Shape") (cadr mg "Test")) := by
  obtain ⟨f, fd, h⟩ := T.d_Shape_names
  refine h.def (Fun.okM h.fn sc_Shape_names (fun vs H Q E h => ?_) (fun cdv A outer s H vs Q E hr h => ?_))
  · obtain ⟨x, cs, fs, ks, rfl, _⟩ := h
    rfl
  · obtain ⟨x, cs, fs, ks, rfl, hS, hcl, k⟩ := h
    obtain ⟨dx, t, D, tc, tk, kvs, qs, us, ys, a1, a2, a3, a4, a5, a6, a7, a8, a9, a10, a11⟩ := hS.ex
    refine ⟨_, (pss_one (ps_ret (pe_lc (own := [("column", 1)]) rfl sc_Shape_names.nd (pi_tupG (K := K) rfl (pe_fldG (K := K) rfl (pv 0) rfl)) (blkOk_by (N := N_Shape_names) (sc := defScope S_Shape_names) (by decide +kernel)) (fun _ _ _ _ _ => pg_name (i := 1) sc_Shape_names.nd rfl (Or.inl rfl)) (fun _ _ _ _ _ => pts_nil) (fun _ _ _ _ _ => (pe_ix (ix_seqG (K := K) rfl) (pv 1) pe_int (fun _ _ => rfl)))))), ?_⟩
    walk_at "g"
    refine ⟨x, _, dx, _, _, rfl, a1, T.cl_Shape, T.n_Shape_layout, by rfl, ?_⟩
    walk_at "g"
    refine ⟨t, rfl, ⟨_, SqT.of a5⟩, fun l hl => ?_⟩
    refine lc_new (qs.map V.ref) (fun i y _ => ∃ c, cs[i]? = some c ∧ y = .str c.1) hl (fun H2 k2 => fits_t (SqT.of (k2 _ _ a5))) (by rw [List.length_map]; omega) (fun i y Ha Hb _ h _ => h) ?_ ?_
    · intro j y Hh R S hy kh _ hR
      rw [List.getElem?_map] at hy
      obtain ⟨q, hqj, rfl⟩ := Option.map_eq_some_iff.mp hy
      have hjl : j < cs.length := by
        have := (List.getElem?_eq_some_iff.mp hqj).1
        omega
      obtain ⟨c, hc⟩ : ∃ c, cs[j]? = some c := ⟨_, List.getElem?_eq_getElem hjl⟩
      have et := kh _ _ (a7 j q c hqj hc)
      walk_at "g"
      refine ⟨rfl, ?_⟩
      walk_at "g"
      refine g_ixT (SqT.of et) (v := .str c.1) (by rfl) ?_
      exact hR _ _ (fun q o h => h) ⟨c, hc, rfl⟩
    · intro H2 ys x2 hW hyl hys
      obtain rfl : ys = (cs.map (·.1)).map V.str := by
        refine List.ext_getElem (by rw [hyl, List.length_map, List.length_map, List.length_map, a6]) fun i g1 g2 => ?_
        obtain ⟨c, hc, e⟩ := hys i ys[i] (List.getElem?_eq_getElem g1)
        rw [e, List.getElem_map, List.getElem_map]
        obtain ⟨h3, h4⟩ := List.getElem?_eq_some_iff.mp hc
        rw [h4]
      walk_at "g"
      exact k l _ x2 hl hW
theorem ok_column_of (T : Txt K mg) : Def P w K mg base 2 "column_of" ["shape", "name"] (spColOfG (cadr mg "Shape")) := by
  obtain ⟨f, fd, h⟩ := T.d_column_of
  refine h.def (Fun.okM h.fn sc_column_of (fun vs H Q E h => ?_) (fun cdv A outer s H vs Q E hr h => ?_))
  · obtain ⟨x, cs, i, c, rfl, _⟩ := h
    rfl
  · obtain ⟨x, cs, i, c, rfl, hSh, hc, hn, k⟩ := h
    have hl := hn.len100
    refine ⟨_, (pss_cons (ps_if (PW.pt (pw_or (pt_not (pt_val (pe_def (ok_is_name T) hr rfl (pa_cons (pv 1) pa_nil)))) (pw_or1 (pt_cmp (pc_dnotin (hu_of hr) (pv 1) (pe_fldG (K := K) rfl (pv 0) rfl))))))
  (pss_one ps_never)
  pss_nil)
  (pss_one (ps_ret (pe_dget (hu_of hr) (pe_fldG (K := K) rfl (pv 0) rfl) (pv 1) (fun _ _ => rfl))))), ?_⟩
    walk_at "g"
    refine ⟨_, rfl, .inr (.inr (.inr (.inl ⟨_, rfl, hl⟩))), fun H1 x1 => ?_⟩
    rw [nameB_str.mpr hn]
    obtain ⟨dx, fs, D, kvs, h1, h2, h3, h4, h5⟩ := hSh.keep x1
    walk_at "g"
    refine ⟨x, _, dx, _, _, rfl, h1, T.cl_Shape, T.n_Shape_spots, h2, ?_⟩
    refine ⟨D, _, rfl, DGet.k (k := Sum.inr c.1) h3, ?_⟩
    rw [h4 c.1, decide_eq_true (List.mem_map.mpr ⟨c, List.mem_of_getElem? hc, rfl⟩)]
    walk_at "g"
    refine ⟨x, _, dx, _, _, rfl, h1, T.cl_Shape, T.n_Shape_spots, h2, ?_⟩
    walk_at "g"
    obtain ⟨q, h6, h7⟩ := h5 i c hc
    refine ⟨D, .ref q, rfl, by rw [← h6]; exact DGet.k (k := Sum.inr c.1) h3, ?_⟩
    walk_at "g"
    exact k q _ x1 h7
theorem ok_Shape_filled (T : Txt K mg) : DefM P w K mg base 3 (cadr mg "Shape") "filled" ["self", "name"] (spFilledG (cadr mg "Shape")) := by
  obtain ⟨f, fd, h⟩ := T.d_Shape_filled
  refine h.def (Fun.okM h.fn sc_Shape_filled (fun vs H Q E h => ?_) (fun cdv A outer s H vs Q E hr h => ?_))
  · obtain ⟨x, cs, i, c, rfl, _⟩ := h
    rfl
  · obtain ⟨x, cs, i, c, rfl, hS, hc, hn, k⟩ := h
    refine ⟨_, (pss_one (ps_ret (pe_ix (ix_seqG (K := K) rfl) (pe_def (ok_column_of T) hr rfl (pa_cons (pv 0) (pa_cons (pv 1) pa_nil))) pe_int (fun _ _ => rfl)))), ?_⟩
    walk_at "g"
    refine ⟨x, cs, i, c, rfl, hS, hc, hn, fun t H1 x1 ht => ?_⟩
    walk_at "g"
    refine g_ixT (SqT.of ht) (v := .bl c.2.2) (by rfl) ?_
    walk_at "g"
    exact k _ x1
theorem ok_Test_renamed (T : Txt K mg) : DefM P w K mg base 20 (cadr mg "Test") "renamed" ["self", "mapping"] (spRenP (cadr mg "Test") 13) := by
  obtain ⟨f, fd, h⟩ := T.d_Test_renamed
  refine h.def (Fun.okM h.fn sc_Test_renamed (fun vs H Q E h => ?_) (fun cdv A outer s H vs Q E hr h => ?_))
  · obtain ⟨p, d, t, u0, kvs, rfl, _⟩ := h
    rfl
  · obtain ⟨p, d, t, u0, kvs, rfl, hA, hD, hren, hd, hz, kQ⟩ := h
    refine ⟨_, (pss_cons (ps_if (pt_not (pt_val (pe_callB (call_isiG (K := K) rfl) (by rfl) T.h_isinstance (by decide +kernel) (pa_cons (pv 1) (pa_cons (pe_bltn (v := .ty "dict") (by rfl) T.h_dict (by decide +kernel) rfl) pa_nil)))))
  (pss_one ps_never)
  pss_nil)
  (pss_one (ps_ret (pe_def (ok_renamed_by T) hr rfl (pa_cons (pv 0) (pa_cons (pv 1) pa_nil)))))), ?_⟩
    walk_at "g"
    refine g_isi ((TyOf7.dct hD).x K) (kb_dict "dict" (by decide)) ?_
    rw [decide_eq_true rfl]
    walk_at "g"
    refine ⟨p, d, t, u0, kvs, rfl, hA, hD, hren, hd, hz, fun q H' x' hT => ?_⟩
    walk_at "g"
    exact kQ q H' x' hT
end
/-! numbers behind names -/
theorem dc_fits {J : It} {xs : List V} {g : TG} {tt : TT} {tk tv : TE} {vs : List Nat} {σ : L2.St} {H1 : Hp} {D : Addr} {Qd : Hp → Prop} (Pv : Nat → Hp → Prop) (h0 : Pv 0 (upd H1 D (.dK []))) (hl : ∀ i H, i ≤ xs.length → Pv i H → Fits J xs H)
    (hs : ∀ i x H, xs[i]? = some x → Pv i H → g x (wipe σ vs) H fun σ2 H2 => wipe σ2 vs = wipe σ vs ∧ tt σ2 H2 fun b H3 =>
      if b = true then tk σ2 H3 fun y H4 => tv σ2 H4 fun z H5 => ∃ kvs k, y = kV k ∧ H5 D = some (.dK kvs) ∧ kvs.length < sizeLine ∧ Pv (i + 1) (upd H5 D (.dK (putK kvs k z))) else Pv (i + 1) H3) (hd : ∀ H, Pv xs.length H → Qd H) :
    ∃ W : Nat → Nat → Hp → Prop, (∃ m, W 0 m (upd H1 D (.dK []))) ∧ ∀ i m H, W i m H →
      (J.stop i H ∧ Qd H) ∨ (J.go i H ∧ ∃ Nx : Hp → Prop, (∀ H', Nx H' → ∃ m', m' < m ∧ W (i + 1) m' H') ∧ ∀ x H', J.yld i H x H' → g x (wipe σ vs) H' fun σ2 H2 => wipe σ2 vs = wipe σ vs ∧ tt σ2 H2 fun b H3 =>
        if b = true then tk σ2 H3 fun y H4 => tv σ2 H4 fun z H5 => ∃ kvs k, y = kV k ∧ H5 D = some (.dK kvs) ∧ kvs.length < sizeLine ∧ Nx (upd H5 D (.dK (putK kvs k z))) else Nx H3) := by
  refine ⟨fun i m H => m = xs.length - i ∧ i ≤ xs.length ∧ Pv i H, ⟨xs.length, by simp, Nat.zero_le _, h0⟩, ?_⟩
  rintro i m H ⟨rfl, hi, p⟩
  have fi := hl i H hi p
  by_cases hlt : i < xs.length
  · refine .inr ⟨fi.go i hlt, Pv (i + 1), fun H' p' => ⟨xs.length - (i + 1), by omega, rfl, hlt, p'⟩, fun x H' y => ?_⟩
    obtain ⟨rfl, hx⟩ := fi.yld i x H' y
    exact hs i x _ hx p
  · have e : i = xs.length := by omega
    subst e
    exact .inl ⟨fi.stop _ (Nat.le_refl _), hd H p⟩
def digN (k : Nat) : Str := Str.ofString (toString (k : Int))
theorem digN_ok : ∀ k ∈ List.range 10, (digN k).length = 1 ∧ (∀ c ∈ (digN k).cps.toList, c ∈ nameSigns ∧ c < 97) := by decide +kernel
theorem digN_inj : ((List.range 10).map digN).Nodup := by decide +kernel
theorem kept_big' : ∀ z ∈ keptWords, ∀ c ∈ z.cps.toList, 97 ≤ c := by decide +kernel
def suf (i : Nat) (c : Str) : Str := c ++ digN i
theorem str_ext {a b : Str} (h : a.cps.toList = b.cps.toList) : a = b := by
  cases a with
  | mk x => cases b with
    | mk y => congr 1; exact Array.toList_inj.mp h
theorem suf_cps (i : Nat) (c : Str) : (suf i c).cps.toList = c.cps.toList ++ (digN i).cps.toList := PySem.W.KT.app_list _ _
theorem suf_inj (i : Nat) (c d : Str) (h : suf i c = suf i d) : c = d := by
  have : (suf i c).cps.toList = (suf i d).cps.toList := by rw [h]
  rw [suf_cps, suf_cps] at this
  exact str_ext (List.append_cancel_right this)
theorem digN_cps {i : Nat} (h : i < 10) : ∃ c, (digN i).cps.toList = [c] ∧ c ∈ nameSigns ∧ c < 97 := by
  obtain ⟨h1, h2⟩ := digN_ok i (List.mem_range.mpr h)
  have : (digN i).cps.toList.length = (digN i).length := Array.length_toList
  match e : (digN i).cps.toList with
  | [] => rw [e, h1] at this; cases this
  | [c] => exact ⟨c, rfl, h2 c (by rw [e]; exact List.mem_cons_self)⟩
  | a :: b :: r => rw [e, h1] at this; cases this
/-- a name with a number behind it tells both -/
theorem suf_inj2 {i j : Nat} (hi : i < 10) (hj : j < 10) {c d : Str} (h : suf i c = suf j d) : i = j ∧ c = d := by
  obtain ⟨x, hx, _⟩ := digN_cps hi
  obtain ⟨y, hy, _⟩ := digN_cps hj
  have e : (suf i c).cps.toList = (suf j d).cps.toList := by rw [h]
  rw [suf_cps, suf_cps, hx, hy] at e
  obtain ⟨e1, e2⟩ := List.append_inj' e rfl
  refine ⟨?_, str_ext e1⟩
  have e3 : digN i = digN j := str_ext (by rw [hx, hy, e2])
  have hia : ((List.range 10).map digN)[i]? = some (digN i) := by rw [List.getElem?_map, List.getElem?_range hi]; rfl
  have hja : ((List.range 10).map digN)[j]? = some (digN i) := by rw [List.getElem?_map, List.getElem?_range hj, e3]; rfl
  exact (List.getElem?_inj (List.getElem?_eq_some_iff.mp hia).1 digN_inj).mp (hia.trans hja.symm)
theorem suf_len {i : Nat} (h : i < 10) (c : Str) : (suf i c).length = c.length + 1 := by
  unfold suf
  rw [PySem.Str.length_append, (digN_ok i (List.mem_range.mpr h)).1]
theorem suf_name {i : Nat} (hi : i < 10) {c : Str} (hc : nameP c) (h7 : c.length ≤ 7) : nameP (suf i c) := by
  obtain ⟨x, hx, hx1, hx2⟩ := digN_cps hi
  have hl := suf_len hi c
  have hcp := suf_cps i c
  rw [hx] at hcp
  refine ⟨by omega, by omega, fun a r h => ?_, fun hk => ?_, fun a h => ?_⟩
  · rw [hcp] at h
    cases e : c.cps.toList with
    | nil =>
      have : c.cps.toList.length = c.length := Array.length_toList
      rw [e] at this
      exact absurd this.symm hc.1
    | cons b s =>
      rw [e] at h
      injection h with h1 _
      rw [← h1]
      exact hc.2.2.1 b s e
  · have := kept_big' _ hk x (by rw [hcp]; exact List.mem_append.mpr (.inr List.mem_cons_self))
    omega
  · rw [hcp] at h
    rcases List.mem_append.mp h with h | h
    · exact hc.2.2.2.2 a h
    · rw [List.mem_singleton.mp h]; exact hx1
/-- the dict of the new names -/
def SufAt (kvs : List (Key × V)) (i : Nat) (zs : List Str) : Prop := kvs.length ≤ zs.length ∧ ∀ c ∈ zs, valV kvs (Sum.inr c) = some (.str (suf i c))
theorem SufAt.put {kvs : List (Key × V)} {i : Nat} {zs : List Str} {c : Str} (h : SufAt kvs i zs) : SufAt (putK kvs (Sum.inr c) (.str (suf i c))) i (zs ++ [c]) := by
  refine ⟨Nat.le_trans (length_putK _ _ _) (by rw [List.length_append]; have := h.1; show _ ≤ zs.length + 1; omega), fun d hd => ?_⟩
  rw [valV_put]
  by_cases e : d = c
  · rw [if_pos (by rw [e]), e]
  · rw [if_neg (fun z => e (by injection z))]
    rcases List.mem_append.mp hd with hd | hd
    · exact h.2 d hd
    · exact absurd (List.mem_singleton.mp hd) e
def spNumd : Sp := fun vs H Q _ => ∃ (z : Str) (i : Nat), vs = [.str z, .int i] ∧ z.length ≤ 100 ∧ i < 10 ∧ Q (.str (suf i z)) H
def spCopyT (C : Addr) : Sp := fun vs H Q _ => ∃ (p : Addr) (i : Nat) (f : Fm) (κ : List (Str × Bool)), vs = [.ref p, .int i] ∧ TestAt C H f.ts p ∧ f.Wf κ ∧ f.ts.depth ≤ 12 ∧ f.ts.size ≤ 24 ∧ i < 10 ∧ (∀ c ∈ f.cols, nameP c ∧ c.length ≤ 7) ∧ ∀ q H', XT H H' → TestAt C H' (f.move (suf i)).ts q → Q (.ref q) H'
section
variable {P : Program} {w : World} {K : PySem.W.Frag} {mg : Str → Option Value} {base : Heap}
theorem ok_numbered (T : Txt K mg) : Def P w K mg base 1 "numbered" ["name", "i"] spNumd := by
  obtain ⟨f, fd, h⟩ := T.d_numbered
  refine h.def (Fun.okM h.fn sc_numbered (fun vs H Q E h => ?_) (fun cdv A outer s H vs Q E hr h => ?_))
  · obtain ⟨z, i, rfl, _⟩ := h
    rfl
  · obtain ⟨z, i, rfl, hz, hi, k⟩ := h
    refine ⟨_, (pss_one (ps_ret (pe_joined (PJ.cons (pe_fmt (pv 0)) (PJ.cons (pe_fmt (pv 1)) PJ.nil))))), ?_⟩
    walk_at "g"
    refine g_js ?_
    refine g_fmt ?_
    walk_at "g"
    refine .inl ⟨z, rfl, by rw [sizeLine_eq]; omega, z, rfl, by rw [Str.empty_append, sizeLine_eq]; omega, ?_⟩
    rw [Str.empty_append]
    refine g_js ?_
    refine g_fmt ?_
    walk_at "g"
    have hl := suf_len hi z
    have hlg : ((i : Nat) : Int).natAbs.log2 < 1920 := by
      have h64 : ((i : Nat) : Int).natAbs < 2 ^ 64 := by omega
      exact Nat.lt_of_lt_of_le (PySem.Flt.log2_lt_of (by decide) h64) (by decide)
    refine .inr ⟨i, rfl, hlg, digN i, rfl, by show (suf i z).length ≤ _; rw [sizeLine_eq]; omega, ?_⟩
    refine g_js0 ?_
    exact k
theorem ok_copy_test (T : Txt K mg) : Def P w K mg base 21 "copy_test" ["test", "i"] (spCopyT (cadr mg "Test")) := by
  obtain ⟨f, fd, h⟩ := T.d_copy_test
  refine h.def (Fun.okM h.fn sc_copy_test (fun vs H Q E h => ?_) (fun cdv A outer s H vs Q E hr h => ?_))
  · obtain ⟨p, i, f0, κ, rfl, _⟩ := h
    rfl
  · obtain ⟨p, i, f0, κ, rfl, hA, hw, hd, hz, hi, hc, k⟩ := h
    obtain ⟨dx, i0, f1, u0, qs0, hp, _⟩ := hA.node
    have hcl : f0.ts.cols.length ≤ 1000 := by
      rw [Fm.ts_cols]
      have := Fm.ats_cols f0
      have h2 := Fm.ats_len f0
      have h3 : (f0.ats.flatMap At.flds).length ≤ 2 * f0.ats.length := by
        generalize f0.ats = l
        induction l with
        | nil => exact Nat.le_refl _
        | cons a r ih =>
          rw [List.flatMap_cons, List.length_append, List.length_cons]
          have := At.flds_len a
          omega
      rw [this] at h3
      omega
    refine ⟨_, (pss_one (ps_ret (pe_me (pv 0) T.cl_Test (ok_Test_renamed T) hr (pa_cons (pe_dc (own := [("name", 2)]) rfl sc_copy_test.nd (pi_list (pe_me0 (pv 0) T.cl_Test (ok_Test_names T) hr)) (blkOk_by (N := N_copy_test) (sc := defScope S_copy_test) (by decide +kernel)) (fun _ _ _ _ _ => pg_name (i := 2) sc_copy_test.nd rfl (Or.inl rfl)) (fun _ _ _ _ _ => pts_nil) (fun _ _ _ _ _ => (pv 2)) (fun _ _ _ _ _ => (pe_def (ok_numbered T) hr rfl (pa_cons (pv 2) (pa_cons (pv 1) pa_nil))))) pa_nil)))), ?_⟩
    walk_at "g"
    refine ⟨p, dx, _, rfl, hp, by rfl, ?_⟩
    walk_at "g"
    refine g_dc ?_
    walk_at "g"
    refine ⟨p, dx, _, rfl, hp, by rfl, ?_⟩
    walk_at "g"
    refine ⟨p, f0.ts, rfl, hA, hd, by omega, hcl, fun zs L H1 hL x1 eL _ hnd hm => ?_⟩
    refine ⟨L, rfl, ⟨_, SqL.of eL⟩, fun D hD => ?_⟩
    have nLD : L ≠ D := ne_of_none eL hD
    have hzl : zs.length ≤ 1000 := by
      have := nodup_le hnd (fun y hy => (hm y).mp hy)
      omega
    refine dc_fits (xs := zs.map V.str) (fun j H' => (∀ q o, q ≠ D → H1 q = some o → H' q = some o) ∧ ∃ kvs, H' D = some (.dK kvs) ∧ SufAt kvs i (zs.take j)) ⟨fun q o n h => by rw [upd_ne n]; exact h, [], upd_same, Nat.le_refl _, fun c h => nomatch h⟩ (fun j H' _ p => fits_l (SqL.of (p.1 _ _ nLD eL))) ?_ ?_
    · rintro j y H' hy ⟨kD, kvs, eD, hs⟩
      rw [List.getElem?_map] at hy
      obtain ⟨c, hcj, rfl⟩ := Option.map_eq_some_iff.mp hy
      have hcm : c ∈ f0.cols := by rw [← Fm.ts_cols]; exact (hm c).mp (List.mem_of_getElem? hcj)
      have h7 := (hc c hcm).2
      walk_at "g"
      refine ⟨rfl, ?_⟩
      walk_at "g"
      refine ⟨c, i, rfl, by omega, hi, ?_⟩
      refine ⟨kvs, Sum.inr c, rfl, eD, by have := hs.1; rw [List.length_take] at this; rw [sizeLine_eq]; omega, fun q o n h => by rw [upd_ne n]; exact kD _ _ n h, _, upd_same, ?_⟩
      rw [List.take_succ, hcj]
      exact hs.put
    · rintro H2 ⟨kD, kvs, eD, hs⟩
      rw [List.length_map, List.take_length] at hs
      have x2 : XT H H2 := fun q o h => kD q o (ne_of_none (x1 q o h) hD) (x1 q o h)
      walk_at "g"
      have hmv : ∀ c ∈ f0.cols, mv kvs c = .str (suf i c) ∧ nameP (suf i c) := fun c hcm => by
        refine ⟨?_, suf_name hi (hc c hcm).1 (hc c hcm).2⟩
        unfold mv
        rw [hs.2 c ((hm c).mpr (by rw [Fm.ts_cols]; exact hcm))]
        rfl
      exact ⟨p, D, f0.ts, _, kvs, rfl, hA.keep x2, eD, ren_suf (suf_inj i) hw hmv, by omega, hcl, fun q H3 x3 hT => k q H3 (XT.trans x2 x3) hT⟩
end
/-! small shapes -/
def large (f : Fm) : Bool := decide (8 < f.ts.size) || decide (8 < f.ts.depth)
def keyTs (ks : List Ky) : List Fm := ks.filterMap (·.2)
def smallB (cs : List Col) (fs : List Fm) (ks : List Ky) : Bool := decide (cs.length ≤ 4) && ((cs.all fun c => decide (c.1.length ≤ 7)) && (decide (fs.length ≤ 3) && (decide (ks.length ≤ 3) && !((fs ++ keyTs ks).any large))))
theorem RF.filt {C : Addr} {H : Hp} {us : List Addr} {fs : List Fm} {q : Addr} {f : Fm} (h : RF (FitAt C H) fs us) (a : FitAt C H f q) : RF (FitAt C H) (fs ++ [f]) (us ++ [q]) := h.app (.cons a .nil)
def spLarge (C : Addr) : Sp := fun vs H Q _ => ∃ (p : Addr) (f : Fm), vs = [.ref p] ∧ FitAt C H f p ∧ ∀ H', XT H H' → Q (.bl (large f)) H'
def spSmall (CS C : Addr) : Sp := fun vs H Q _ => ∃ (x : Addr) (cs : List Col) (fs : List Fm) (ks : List Ky), vs = [.ref x] ∧ ShpAt CS C H cs fs ks x ∧ ColsOk cs ∧ fs.length ≤ 9 ∧ ks.length ≤ 9 ∧ ∀ H', XT H H' → Q (.bl (smallB cs fs ks)) H'
def spNeedS (CS C CB : Addr) : Sp := fun vs H Q E => ∃ (x : Addr) (cs : List Col) (fs : List Fm) (ks : List Ky), vs = [.ref x] ∧ ShpAt CS C H cs fs ks x ∧ ColsOk cs ∧ fs.length ≤ 9 ∧ ks.length ≤ 9 ∧ (smallB cs fs ks = true → ∀ H', XT H H' → Q .non H') ∧ (smallB cs fs ks = false → ∀ d H', XT H H' → H' d = some (xwhy "shape") → E (.ref CB) (some d) H')
section
variable {P : Program} {w : World} {K : PySem.W.Frag} {mg : Str → Option Value} {base : Heap}
theorem ok_is_large (T : Txt K mg) : Def P w K mg base 14 "is_large" ["test"] (spLarge (cadr mg "Test")) := by
  obtain ⟨f, fd, h⟩ := T.d_is_large
  obtain ⟨t_MOST_SMALL_ATOMS, G_MOST_SMALL_ATOMS⟩ := T.k_MOST_SMALL_ATOMS
  obtain ⟨t_MOST_SMALL_LEVELS, G_MOST_SMALL_LEVELS⟩ := T.k_MOST_SMALL_LEVELS
  refine h.def (Fun.okM h.fn sc_is_large (fun vs H Q E h => ?_) (fun cdv A outer s H vs Q E hr h => ?_))
  · obtain ⟨p, f0, rfl, _⟩ := h
    rfl
  · obtain ⟨p, f0, rfl, hF, q⟩ := h
    obtain ⟨as, A⟩ := hF.te.as
    obtain ⟨dx, i0, f1, u0, qs0, hp, _⟩ := hF.te.node
    have hsz := hF.sz
    refine ⟨_, (pss_one (ps_ret (pe_or (pe_cmpR op_gtG (pe_callB (call_lenG (K := K) rfl) (by rfl) T.h_len (by decide +kernel) (pa_cons (pe_me0 (pv 0) T.cl_Test (ok_Test_atoms T) hr) pa_nil)) (pe_glob (v := .int 8) rfl G_MOST_SMALL_ATOMS ⟨_, rfl⟩) (nomark _)) (pe_one (pe_cmpR op_gtG (pe_me0 (pv 0) T.cl_Test (ok_Test_levels T) hr) (pe_glob (v := .int 8) rfl G_MOST_SMALL_LEVELS ⟨_, rfl⟩) (nomark _)))))), ?_⟩
    walk_at "g"
    refine ⟨p, dx, _, rfl, hp, by rfl, ?_⟩
    walk_at "g"
    refine ⟨p, f0.ts, as, rfl, A, hF.dp, by omega, fun l H1 hl x1 eL => ?_⟩
    walk_at "g"
    have hal : as.length = f0.ts.size := by rw [A.row.len, Ts.atoms_len]
    rw [List.length_map, hal]
    walk_at "g"
    by_cases h8 : 8 < f0.ts.size
    · rw [decide_eq_true (show ((f0.ts.size : Nat) : Int) > 8 by omega)]
      walk_at "g"
      have : large f0 = true := by unfold large; rw [decide_eq_true h8]; rfl
      rw [this] at q
      exact q _ x1
    · rw [decide_eq_false (show ¬ ((f0.ts.size : Nat) : Int) > 8 by omega)]
      walk_at "g"
      refine ⟨p, dx, _, rfl, x1 _ _ hp, by rfl, ?_⟩
      walk_at "g"
      refine ⟨p, f0.ts, rfl, hF.te.keep x1, ?_⟩
      walk_at "g"
      have : large f0 = decide (((f0.ts.depth : Nat) : Int) > 8) := by
        unfold large
        rw [decide_eq_false h8, Bool.false_or]
        exact decide_eq_decide.mpr ⟨fun h => by omega, fun h => by omega⟩
      rw [this] at q
      exact q _ x1
theorem ok_is_small (T : Txt K mg) : Def P w K mg base 15 "is_small" ["shape"] (spSmall (cadr mg "Shape") (cadr mg "Test")) := by
  obtain ⟨f, fd, h⟩ := T.d_is_small
  obtain ⟨t_MOST_SMALL_COLUMNS, G_MOST_SMALL_COLUMNS⟩ := T.k_MOST_SMALL_COLUMNS
  obtain ⟨t_MOST_SMALL_RULES, G_MOST_SMALL_RULES⟩ := T.k_MOST_SMALL_RULES
  obtain ⟨t_LONGEST_SMALL_NAME, G_LONGEST_SMALL_NAME⟩ := T.k_LONGEST_SMALL_NAME
  refine h.def (Fun.okM h.fn sc_is_small (fun vs H Q E h => ?_) (fun cdv A outer s H vs Q E hr h => ?_))
  · obtain ⟨x, cs, fs, ks, rfl, _⟩ := h
    rfl
  · obtain ⟨x, cs, fs, ks, rfl, hS, hcs, hf9, hk9, q⟩ := h
    have hle := hcs.le
    obtain ⟨dx, t0, D0, tc0, tk0, kvs0, qs0, us0, ys0, ex, _⟩ := hS.ex
    refine ⟨_, (pss_cons (ps_set (i := 1) sc_is_small.nd rfl (Or.inl rfl) (pe_op op_addG (pe_me0 (pv 0) T.cl_Shape (ok_Shape_checks T) hr) (pe_lc (own := [("_", 2), ("test", 3)]) rfl sc_is_small.nd (pi_list (pe_me0 (pv 0) T.cl_Shape (ok_Shape_unique_keys T) hr)) (blkOk_by (N := N_is_small) (sc := defScope S_is_small) (by decide +kernel)) (fun _ _ _ _ _ => (pg_tupG (K := K) (n := 2) rfl rfl (pgs_cons (pg_name (i := 2) sc_is_small.nd rfl (Or.inl rfl)) (pgs_cons (pg_name (i := 3) sc_is_small.nd rfl (Or.inl rfl)) pgs_nil)))) (fun _ _ _ _ _ => pts_one (pt_cmpR op_notNG (pv 3) pe_non (nomark _))) (fun _ _ _ _ _ => (pv 3)))))
  (pss_one (ps_ret (pe_and (pe_cmpR op_leG (pe_callB (call_lenG (K := K) rfl) (by rfl) T.h_len (by decide +kernel) (pa_cons (pe_me0 (pv 0) T.cl_Shape (ok_Shape_names T) hr) pa_nil)) (pe_glob (v := .int 4) rfl G_MOST_SMALL_COLUMNS ⟨_, rfl⟩) (nomark _)) (pe_and (pe_callB (cr_all rfl) (by rfl) T.h_all (by decide +kernel) (pa_cons (pe_lc (own := [("name", 4)]) rfl sc_is_small.nd (pi_list (pe_me0 (pv 0) T.cl_Shape (ok_Shape_names T) hr)) (blkOk_by (N := N_is_small) (sc := defScope S_is_small) (by decide +kernel)) (fun _ _ _ _ _ => pg_name (i := 4) sc_is_small.nd rfl (Or.inl rfl)) (fun _ _ _ _ _ => pts_nil) (fun _ _ _ _ _ => (pe_cmpR op_leG (pe_callB (call_lenG (K := K) rfl) (by rfl) T.h_len (by decide +kernel) (pa_cons (pv 4) pa_nil)) (pe_glob (v := .int 7) rfl G_LONGEST_SMALL_NAME ⟨_, rfl⟩) (nomark _)))) pa_nil)) (pe_and (pe_cmpR op_leG (pe_callB (call_lenG (K := K) rfl) (by rfl) T.h_len (by decide +kernel) (pa_cons (pe_me0 (pv 0) T.cl_Shape (ok_Shape_checks T) hr) pa_nil)) (pe_glob (v := .int 3) rfl G_MOST_SMALL_RULES ⟨_, rfl⟩) (nomark _)) (pe_and (pe_cmpR op_leG (pe_callB (call_lenG (K := K) rfl) (by rfl) T.h_len (by decide +kernel) (pa_cons (pe_me0 (pv 0) T.cl_Shape (ok_Shape_unique_keys T) hr) pa_nil)) (pe_glob (v := .int 3) rfl G_MOST_SMALL_RULES ⟨_, rfl⟩) (nomark _)) (pe_one (pe_not (pe_callB (cr_any rfl) (by rfl) T.h_any (by decide +kernel) (pa_cons (pe_lc (own := [("test", 3)]) rfl sc_is_small.nd (pi_list (pv 1)) (blkOk_by (N := N_is_small) (sc := defScope S_is_small) (by decide +kernel)) (fun _ _ _ _ _ => pg_name (i := 3) sc_is_small.nd rfl (Or.inl rfl)) (fun _ _ _ _ _ => pts_nil) (fun _ _ _ _ _ => (pe_def (ok_is_large T) hr rfl (pa_cons (pv 3) pa_nil)))) pa_nil))))))))))), ?_⟩
    walk_at "g"
    refine ⟨x, dx, _, rfl, ex, by rfl, ?_⟩
    walk_at "g"
    refine ⟨x, cs, fs, ks, rfl, hS, fun l us H1 x1 hl el hR => ?_⟩
    have hS1 := hS.keep x1
    have hul := hR.len
    walk_at "g"
    refine ⟨x, dx, _, rfl, x1 _ _ ex, by rfl, ?_⟩
    walk_at "g"
    refine ⟨x, cs, fs, ks, rfl, hS1, fun l2 ys H2 x2 hl2 el2 hK => ?_⟩
    have hS2 := hS1.keep x2
    have hyl := hK.1
    refine ⟨l2, rfl, ⟨_, SqL.of el2⟩, fun D hD => ?_⟩
    have nD : l2 ≠ D := ne_of_none el2 hD
    refine lc_inv ys (fun i acc Hi => NXT D H2 Hi ∧ Hi D = some (.lst acc) ∧ acc.length ≤ i ∧ ∃ vs, acc = vs.map V.ref ∧ RF (FitAt (cadr mg "Test") H2) (keyTs (ks.take i)) vs) ⟨fun q o n h => by rw [upd_ne n]; exact h, upd_same, Nat.le_refl _, [], rfl, .nil⟩ (fun i acc Hi p => fits_l (SqL.of (p.1 _ _ nD el2))) (by omega) (fun i acc Hi p => ⟨p.2.1, p.2.2.1⟩) ?_ ?_
    · rintro i acc y Hh R S hy ⟨kD, eD, hal, vs, rfl, hV⟩ hR hS'
      obtain ⟨k, hk⟩ : ∃ k, ks[i]? = some k := ⟨_, List.getElem?_eq_getElem (by have := (List.getElem?_eq_some_iff.mp hy).1; omega)⟩
      obtain ⟨p, n, z, rfl, hp, hn, hz⟩ := hK.2 i y k hy hk
      have hp' := kD _ _ (ne_of_none hp hD) hp
      have etk : keyTs (ks.take (i + 1)) = keyTs (ks.take i) ++ keyTs [k] := by unfold keyTs; rw [List.take_succ, hk, List.filterMap_append]; rfl
      refine g_gtup hp' rfl ?_
      refine g_gcons ?_
      walk_at "g"
      refine g_gcons ?_
      walk_at "g"
      refine g_gnil ?_
      refine ⟨rfl, ?_⟩
      rcases hz with ⟨rfl, hz⟩ | ⟨tt, ff, rfl, hz, hT⟩
      · walk_at "g"
        refine hS' _ ⟨kD, eD, by omega, vs, rfl, ?_⟩
        rw [etk, show keyTs [k] = [] by unfold keyTs; rw [List.filterMap_cons, hz]; rfl, List.append_nil]
        exact hV
      · walk_at "g"
        refine hR _ _ eD ⟨fun q o n h => by rw [upd_ne n]; exact kD q o n h, upd_same, by rw [List.length_append]; show _ + 1 ≤ _; omega, vs ++ [tt], by rw [List.map_append]; rfl, ?_⟩
        rw [etk, show keyTs [k] = [ff] by unfold keyTs; rw [List.filterMap_cons, hz]; rfl]
        exact hV.filt hT
    · rintro acc H3 ⟨kD, eD, hal, vs, rfl, hV⟩
      rw [hyl, List.take_length] at hV
      have x3 : XT H2 H3 := fun q o h => kD q o (ne_of_none h hD) h
      have hvl := hV.len
      have hkl : (keyTs ks).length ≤ 9 := by unfold keyTs; exact Nat.le_trans (List.length_filterMap_le _ _) hk9
      have el3 := x3 _ _ (x2 _ _ el)
      refine .inr (.inr ⟨l, D, _, _, rfl, rfl, el3, eD, by rw [List.length_map, List.length_map, sizeLine_eq]; omega, fun L hL => ?_⟩)
      have em : us.map V.ref ++ vs.map V.ref = (us ++ vs).map V.ref := by rw [List.map_append]
      rw [em]
      have x4 : XT H3 (upd H3 L (.lst ((us ++ vs).map V.ref))) := XT.new XT.refl hL
      have eL : (upd H3 L (.lst ((us ++ vs).map V.ref))) L = some (.lst ((us ++ vs).map V.ref)) := upd_same
      generalize upd H3 L (.lst ((us ++ vs).map V.ref)) = H4 at x4 eL
      have x24 := XT.trans x3 x4
      have hS4 := hS2.keep x24
      have hR4 : RF (FitAt (cadr mg "Test") H4) (fs ++ keyTs ks) (us ++ vs) := ((hR.mono fun f q h => h.keep x2).mono fun f q h => h.keep x24).app (hV.mono fun f q h => h.keep x24)
      have ex4 := x24 _ _ (x2 _ _ (x1 _ _ ex))
      have x04 : XT H H4 := XT.trans x1 (XT.trans x2 x24)
      clear hS hS1 hS2 hV hR x3 x4 el3 el el2 eD kD hK ex
      walk_at "g"
      refine ⟨x, dx, _, rfl, ex4, by rfl, ?_⟩
      walk_at "g"
      refine ⟨x, cs, fs, ks, rfl, hS4, hle, fun l5 H5 x5 hl5 el5 => ?_⟩
      walk_at "g"
      rw [List.length_map, List.length_map]
      walk_at "g"
      have no : ∀ {H'}, XT H H' → smallB cs fs ks = false → Q (.bl false) H' := fun {H'} x e => by rw [e] at q; exact q H' x
      by_cases c1 : cs.length ≤ 4
      case neg =>
        rw [decide_eq_false (show ¬ ((cs.length : Nat) : Int) ≤ 4 by omega)]
        walk_at "g"
        exact no (XT.trans x04 x5) (by unfold smallB; rw [decide_eq_false c1]; rfl)
      rw [decide_eq_true (show ((cs.length : Nat) : Int) ≤ 4 by omega)]
      have hS5 := hS4.keep x5
      have hR5 := hR4.mono fun f q h => FitAt.keep (H' := H5) h x5
      have ex5 := x5 _ _ ex4
      have eL5 := x5 _ _ eL
      have x05 := XT.trans x04 x5
      clear hS4 hR4 ex4 eL x04 x5 el5
      walk_at "g"
      refine ⟨x, dx, _, rfl, ex5, by rfl, ?_⟩
      walk_at "g"
      refine ⟨x, cs, fs, ks, rfl, hS5, hle, fun l6 H6 x6 hl6 el6 => ?_⟩
      refine ⟨l6, rfl, ⟨_, SqL.of el6⟩, fun D6 hD6 => ?_⟩
      refine lc_new ((cs.map (·.1)).map V.str) (fun i y _ => ∃ c, cs[i]? = some c ∧ y = .bl (decide (c.1.length ≤ 7))) hD6 (fun H2 k2 => fits_l (SqL.of (k2 _ _ el6))) (by rw [List.length_map, List.length_map]; omega) (fun i y Ha Hb _ h _ => h) ?_ ?_
      · intro j y Hh R S hy kh _ hR
        rw [List.getElem?_map, List.getElem?_map] at hy
        obtain ⟨z, hz, rfl⟩ := Option.map_eq_some_iff.mp hy
        obtain ⟨c, hc, rfl⟩ := Option.map_eq_some_iff.mp hz
        have h8 := (hcs.nm c (List.mem_of_getElem? hc)).2.1
        walk_at "g"
        refine ⟨rfl, ?_⟩
        walk_at "g"
        refine g_lenS (by rw [sizeLine_eq]; omega) ?_
        walk_at "g"
        exact hR _ _ (fun q o h => h) ⟨c, hc, congrArg V.bl (decide_eq_decide.mpr ⟨fun h => by omega, fun h => by omega⟩)⟩
      intro H7 bs x7 eD7 hbl hbs
      obtain rfl : bs = (cs.map fun c => decide (c.1.length ≤ 7)).map V.bl := by
        refine List.ext_getElem (by rw [hbl, List.length_map, List.length_map, List.length_map, List.length_map]) fun i g1 g2 => ?_
        obtain ⟨c, hc, e⟩ := hbs i bs[i] (List.getElem?_eq_getElem g1)
        rw [e, List.getElem_map, List.getElem_map]
        obtain ⟨h3, h4⟩ := List.getElem?_eq_some_iff.mp hc
        rw [h4]
      have x57 := XT.trans x6 x7
      have hS7 := hS5.keep x57
      have hR7 := hR5.mono fun f q h => FitAt.keep (H' := H7) h x57
      have ex7 := x57 _ _ ex5
      have eL7 := x57 _ _ eL5
      have x07 := XT.trans x05 x57
      clear hS5 hR5 ex5 eL5 x05 x57 x6 x7 el6 hbs hbl
      walk_at "g"
      refine ⟨D6, _, rfl, SqL.of eD7, ?_⟩
      rw [List.all_map]
      walk_at "g"
      cases c2 : cs.all (id ∘ fun c => decide (c.1.length ≤ 7)) with
      | false =>
        walk_at "g"
        exact no x07 (by unfold smallB; rw [show (cs.all fun c => decide (c.1.length ≤ 7)) = false from c2, Bool.false_and, Bool.and_false])
      | true =>
      have c2' : (cs.all fun c => decide (c.1.length ≤ 7)) = true := c2
      walk_at "g"
      refine ⟨x, dx, _, rfl, ex7, by rfl, ?_⟩
      walk_at "g"
      refine ⟨x, cs, fs, ks, rfl, hS7, fun l8 u8 H8 x8 hl8 el8 hR8 => ?_⟩
      have h8l := hR8.len
      walk_at "g"
      rw [List.length_map, h8l]
      walk_at "g"
      by_cases c3 : fs.length ≤ 3
      case neg =>
        rw [decide_eq_false (show ¬ ((fs.length : Nat) : Int) ≤ 3 by omega)]
        walk_at "g"
        exact no (XT.trans x07 x8) (by unfold smallB; rw [decide_eq_false c3, Bool.false_and, Bool.and_false, Bool.and_false])
      rw [decide_eq_true (show ((fs.length : Nat) : Int) ≤ 3 by omega)]
      have hS8 := hS7.keep x8
      walk_at "g"
      refine ⟨x, dx, _, rfl, x8 _ _ ex7, by rfl, ?_⟩
      walk_at "g"
      refine ⟨x, cs, fs, ks, rfl, hS8, fun l9 y9 H9 x9 hl9 el9 hK9 => ?_⟩
      have h9l := hK9.1
      walk_at "g"
      rw [h9l]
      have x79 := XT.trans x8 x9
      have hR9 := hR7.mono fun f q h => FitAt.keep (H' := H9) h x79
      have eL9 := x79 _ _ eL7
      have x09 := XT.trans x07 x79
      have hS9 := hS7.keep x79
      clear hS7 hS8 hR7 hR8 hK9 el9 el8 eL7 x8 x9 x79 ex7 x07
      walk_at "g"
      by_cases c4 : ks.length ≤ 3
      case neg =>
        rw [decide_eq_false (show ¬ ((ks.length : Nat) : Int) ≤ 3 by omega)]
        walk_at "g"
        exact no x09 (by unfold smallB; rw [decide_eq_false c4, Bool.false_and, Bool.and_false, Bool.and_false, Bool.and_false])
      rw [decide_eq_true (show ((ks.length : Nat) : Int) ≤ 3 by omega)]
      walk_at "g"
      refine ⟨L, rfl, ⟨_, SqL.of eL9⟩, fun DA hDA => ?_⟩
      have hrl := hR9.len
      refine lc_new ((us ++ vs).map V.ref) (fun i y _ => ∃ f, (fs ++ keyTs ks)[i]? = some f ∧ y = .bl (large f)) hDA (fun H2 k2 => fits_l (SqL.of (k2 _ _ eL9))) (by rw [List.length_map, hrl, List.length_append]; omega) (fun i y Ha Hb _ h _ => h) ?_ ?_
      · intro j y Hh R S hy kh _ hR
        rw [List.getElem?_map] at hy
        obtain ⟨p, hp, rfl⟩ := Option.map_eq_some_iff.mp hy
        obtain ⟨f, hf, hF⟩ := hR9.at hp
        walk_at "g"
        refine ⟨rfl, ?_⟩
        walk_at "g"
        exact ⟨p, f, rfl, hF.keep kh, fun H' x' => hR _ _ x' ⟨f, hf, rfl⟩⟩
      intro HB bs xB eDB hbl hbs
      obtain rfl : bs = ((fs ++ keyTs ks).map large).map V.bl := by
        refine List.ext_getElem (by rw [hbl, List.length_map, List.length_map, List.length_map, hrl]) fun i g1 g2 => ?_
        obtain ⟨f, hf, e⟩ := hbs i bs[i] (List.getElem?_eq_getElem g1)
        rw [e, List.getElem_map, List.getElem_map]
        obtain ⟨h3, h4⟩ := List.getElem?_eq_some_iff.mp hf
        rw [h4]
      walk_at "g"
      refine ⟨DA, _, rfl, SqL.of eDB, ?_⟩
      rw [List.any_map]
      walk_at "g"
      have hq := q HB (XT.trans x09 xB)
      unfold smallB at hq
      rw [decide_eq_true c1, c2', decide_eq_true c3, decide_eq_true c4] at hq
      exact hq
theorem ok_need_small (T : Txt K mg) : DefX P w K mg base 16 "need_small" ["shape"] (spNeedS (cadr mg "Shape") (cadr mg "Test") (cadr mg "BadClaim")) := by
  obtain ⟨f, fd, h⟩ := T.d_need_small
  obtain ⟨fE_BadClaim, EB_BadClaim⟩ := T.x_BadClaim
  refine h.defX (Fun.okMX h.fn sc_need_small (fun vs H Q E h => ?_) (fun cdv A outer s H vs Q E hr h => ?_))
  · obtain ⟨x, cs, fs, ks, rfl, _⟩ := h
    rfl
  · obtain ⟨x, cs, fs, ks, rfl, hS, hcs, hf9, hk9, kQ, kE⟩ := h
    refine ⟨_, (pss_one (ps_if (pt_not (pt_val (pe_def (ok_is_small T) hr rfl (pa_cons (pv 0) pa_nil))))
  (pss_one (ps_raiseBadClaim rfl EB_BadClaim hr (takes_of rfl rfl rfl rfl) (pa_cons pe_str pa_nil)))
  pss_nil)), ?_⟩
    walk_at "g"
    refine ⟨x, cs, fs, ks, rfl, hS, hcs, hf9, hk9, fun H1 x1 => ?_⟩
    cases e : smallB cs fs ks with
    | true =>
      walk_at "g"
      exact kQ e _ x1
    | false =>
      walk_at "g"
      exact ⟨_, rfl, fun d hd => kE e d _ (XT.new x1 hd) upd_same⟩
end
/-! the names of a shape's own rules -/
theorem lc_enum {σ : L2.St} {g : TG} {tt : TT} {te : TE} {vs : List Nat} {J : It} {H1 : Hp} {D : Addr} {Qd : Hp → Prop} (xs : List V) (Pv : Nat → List V → Hp → Prop) (h0 : Pv 0 [] (upd H1 D (.lst []))) (hJ : ∀ i acc H, Pv i acc H → EFits J xs H) (hlen : xs.length ≤ 1000000)
    (hD : ∀ i acc H, Pv i acc H → H D = some (.lst acc) ∧ acc.length ≤ i)
    (hs : ∀ i acc v t Hh (R : V → Hp → Prop) (S : Hp → Prop), xs[i]? = some v → Pv i acc Hh → Hh t = none → (∀ y H4, H4 D = some (.lst acc) → Pv (i + 1) (acc ++ [y]) (upd H4 D (.lst (acc ++ [y]))) → R y H4) → (∀ H3, Pv (i + 1) acc H3 → S H3) →
      g (.ref t) (wipe σ vs) (upd Hh t (.tup [.int (i : Nat), v])) fun σ2 H2 => wipe σ2 vs = wipe σ vs ∧ tt σ2 H2 fun b H3 => if b = true then te σ2 H3 R else S H3)
    (hd : ∀ acc H, Pv xs.length acc H → Qd H) :
    ∃ W : Nat → Nat → Hp → Prop, (∃ m, W 0 m (upd H1 D (.lst []))) ∧ ∀ i m H, W i m H →
      (J.stop i H ∧ Qd H) ∨ (J.go i H ∧ ∃ Nx : Hp → Prop, (∀ H', Nx H' → ∃ m', m' < m ∧ W (i + 1) m' H') ∧ ∀ x H', J.yld i H x H' → g x (wipe σ vs) H' fun σ2 H2 => wipe σ2 vs = wipe σ vs ∧ tt σ2 H2 fun b H3 =>
        if b = true then te σ2 H3 fun y H4 => ∃ acc, H4 D = some (.lst acc) ∧ acc.length < sizeLine ∧ Nx (upd H4 D (.lst (acc ++ [y]))) else Nx H3) := by
  refine ⟨fun i m H => m = xs.length - i ∧ i ≤ xs.length ∧ ∃ acc, Pv i acc H, ⟨xs.length, by simp, Nat.zero_le _, [], h0⟩, ?_⟩
  rintro i m H ⟨rfl, hi, acc, hp⟩
  have fi := hJ i acc H hp
  by_cases hlt : i < xs.length
  · refine .inr ⟨fi.go i hlt, fun H' => ∃ acc, Pv (i + 1) acc H', fun H' w => ⟨xs.length - (i + 1), by omega, rfl, hlt, w⟩, ?_⟩
    intro x H' hy
    obtain ⟨t, v, rfl, ht, rfl, hx⟩ := fi.yld i x H' hy
    obtain ⟨d1, d2⟩ := hD i acc _ hp
    exact hs i acc v t _ _ _ hx hp ht (fun y H4 e q => ⟨acc, e, by rw [sizeLine_eq]; omega, _, q⟩) (fun H3 q => ⟨_, q⟩)
  · have e : i = xs.length := by omega
    subst e
    exact .inl ⟨fi.stop, hd acc H hp⟩
def rFil (c : Col) : List V := [.str "filled", .str c.1]
def rChk (i : Nat) : List V := [.str "check", .int (i : Nat)]
def rKey (i : Nat) : List V := [.str "key", .int (i : Nat)]
def filTs (cs : List Col) : List (List V) := (cs.filter (·.2.2)).map rFil
def ruleTs (cs : List Col) (nf nk : Nat) : List (List V) := filTs cs ++ (List.range nf).map rChk ++ (List.range nk).map rKey
/-- new tuples one by one -/
def TupsAt (H : Hp) (qs : List Addr) (ts : List (List V)) : Prop := qs.length = ts.length ∧ ∀ (i : Nat) q t, qs[i]? = some q → ts[i]? = some t → H q = some (.tup t)
theorem TupsAt.mono {H H' : Hp} {qs : List Addr} {ts : List (List V)} (h : TupsAt H qs ts) (k : ∀ q t, H q = some (.tup t) → H' q = some (.tup t)) : TupsAt H' qs ts := ⟨h.1, fun i q t a b => k _ _ (h.2 i q t a b)⟩
theorem TupsAt.snoc {H : Hp} {qs : List Addr} {ts : List (List V)} {q : Addr} {t : List V} (h : TupsAt H qs ts) (e : H q = some (.tup t)) : TupsAt H (qs ++ [q]) (ts ++ [t]) := by
  refine ⟨by rw [List.length_append, List.length_append, h.1]; rfl, fun i p u a b => ?_⟩
  by_cases hi : i < qs.length
  · rw [List.getElem?_append_left hi] at a
    rw [List.getElem?_append_left (by have := h.1; omega)] at b
    exact h.2 i p u a b
  · rw [List.getElem?_append_right (by omega)] at a
    rw [List.getElem?_append_right (by have := h.1; omega)] at b
    have hi0 : i - qs.length = 0 := by
      have := (List.getElem?_eq_some_iff.mp a).1
      simp at this
      omega
    rw [hi0] at a
    have hi1 : i - ts.length = 0 := by have := h.1; omega
    rw [hi1] at b
    cases a
    cases b
    exact e
theorem TupsAt.app {H : Hp} {qs ps : List Addr} {ts us : List (List V)} (h : TupsAt H qs ts) (h' : TupsAt H ps us) : TupsAt H (qs ++ ps) (ts ++ us) := by
  refine ⟨by rw [List.length_append, List.length_append, h.1, h'.1], fun i p u a b => ?_⟩
  by_cases hi : i < qs.length
  · rw [List.getElem?_append_left hi] at a
    rw [List.getElem?_append_left (by have := h.1; omega)] at b
    exact h.2 i p u a b
  · rw [List.getElem?_append_right (by omega)] at a
    rw [List.getElem?_append_right (by have := h.1; omega), ← h.1] at b
    exact h'.2 _ p u a b
theorem TupsAt.nil {H : Hp} : TupsAt H [] [] := ⟨rfl, fun i q t a b => by cases a⟩
theorem TupsAt.lat {H : Hp} {qs : List Addr} {ts : List (List V)} {L : Addr} (h : TupsAt H qs ts) (e : H L = some (.lst (qs.map V.ref))) : LAt H L ts := ⟨qs, e, h.1, h.2⟩
theorem filTs_take {cs : List Col} {i : Nat} {c : Col} (h : cs[i]? = some c) : filTs (cs.take (i + 1)) = filTs (cs.take i) ++ if c.2.2 = true then [rFil c] else [] := by
  unfold filTs
  rw [List.take_succ, h, List.filter_append, List.map_append]
  congr 1
  show List.map rFil (List.filter (fun x : Col => x.2.2) [c]) = _
  cases e : c.2.2 with
  | true => rw [List.filter_cons_of_pos (by exact e), if_pos rfl]; rfl
  | false => rw [List.filter_cons_of_neg (by rw [e]; exact Bool.false_ne_true), if_neg Bool.false_ne_true]; rfl
def spOwn (CS C : Addr) : Sp := fun vs H Q _ => ∃ (x : Addr) (cs : List Col) (fs : List Fm) (ks : List Ky), vs = [.ref x] ∧ ShpAt CS C H cs fs ks x ∧ ColsOk cs ∧ fs.length ≤ 9 ∧ ks.length ≤ 9 ∧ ∀ l H', XT H H' → H l = none → LAt H' l (ruleTs cs fs.length ks.length) → Q (.ref l) H'
section
variable {P : Program} {w : World} {K : PySem.W.Frag} {mg : Str → Option Value} {base : Heap}
theorem ok_own_rules (T : Txt K mg) : Def P w K mg base 15 "own_rules" ["shape"] (spOwn (cadr mg "Shape") (cadr mg "Test")) := by
  obtain ⟨f, fd, h⟩ := T.d_own_rules
  refine h.def (Fun.okM h.fn sc_own_rules (fun vs H Q E h => ?_) (fun cdv A outer s H vs Q E hr h => ?_))
  · obtain ⟨x, cs, fs, ks, rfl, _⟩ := h
    rfl
  · obtain ⟨x, cs, fs, ks, rfl, hS, hcs, hf9, hk9, q⟩ := h
    have hle := hcs.le
    obtain ⟨dx, t0, D0, tc0, tk0, kvs0, qs0, us0, ys0, ex, _⟩ := hS.ex
    refine ⟨_, (pss_cons (ps_setLc (i := 1) (own := [("name", 3)]) rfl sc_own_rules.nd rfl rfl (sw_true rfl rfl rfl (by decide +kernel)) (pi_list (pe_me0 (pv 0) T.cl_Shape (ok_Shape_names T) hr)) (blkOk_by (N := N_own_rules) (sc := defScope S_own_rules) (by decide +kernel)) (fun _ _ _ _ _ => pg_name (i := 3) sc_own_rules.nd rfl (Or.inl rfl)) (fun _ _ _ _ _ => pts_one (pt_val (pe_me (pv 0) T.cl_Shape (ok_Shape_filled T) hr (pa_cons (pv 3) pa_nil)))) (fun _ _ _ _ _ => (pe_tup (pa_cons pe_str (pa_cons (pv 3) pa_nil)))))
  (pss_cons (ps_setLc (i := 2) (own := [("at", 4)]) rfl sc_own_rules.nd rfl rfl (sw_true rfl rfl rfl (by decide +kernel)) (pi_range1 rfl T.h_range (pa_cons (pe_callB (call_lenG (K := K) rfl) (by rfl) T.h_len (by decide +kernel) (pa_cons (pe_me0 (pv 0) T.cl_Shape (ok_Shape_checks T) hr) pa_nil)) pa_nil)) (blkOk_by (N := N_own_rules) (sc := defScope S_own_rules) (by decide +kernel)) (fun _ _ _ _ _ => pg_name (i := 4) sc_own_rules.nd rfl (Or.inl rfl)) (fun _ _ _ _ _ => pts_nil) (fun _ _ _ _ _ => (pe_tup (pa_cons pe_str (pa_cons (pv 4) pa_nil)))))
  (pss_one (ps_ret (pe_op op_addG (pe_op op_addG (pv 1) (pv 2)) (pe_lc (own := [("at", 4)]) rfl sc_own_rules.nd (pi_range1 rfl T.h_range (pa_cons (pe_callB (call_lenG (K := K) rfl) (by rfl) T.h_len (by decide +kernel) (pa_cons (pe_me0 (pv 0) T.cl_Shape (ok_Shape_unique_keys T) hr) pa_nil)) pa_nil)) (blkOk_by (N := N_own_rules) (sc := defScope S_own_rules) (by decide +kernel)) (fun _ _ _ _ _ => pg_name (i := 4) sc_own_rules.nd rfl (Or.inl rfl)) (fun _ _ _ _ _ => pts_nil) (fun _ _ _ _ _ => (pe_tup (pa_cons pe_str (pa_cons (pv 4) pa_nil)))))))))), ?_⟩
    walk_at "g"
    refine ⟨x, dx, _, rfl, ex, by rfl, ?_⟩
    walk_at "g"
    refine ⟨x, cs, fs, ks, rfl, hS, hle, fun l H1 x1 hl el => ?_⟩
    refine ⟨l, rfl, ⟨_, SqL.of el⟩, fun D hD => ?_⟩
    have nD : l ≠ D := ne_of_none el hD
    have hS1 := hS.keep x1
    have ex1 := x1 _ _ ex
    refine lc_inv ((cs.map (·.1)).map V.str) (fun i acc Hi => NXT D H1 Hi ∧ Hi D = some (.lst acc) ∧ acc.length ≤ i ∧ ∃ qs, acc = qs.map V.ref ∧ TupsAt Hi qs (filTs (cs.take i))) ⟨fun q o n h => by rw [upd_ne n]; exact h, upd_same, Nat.le_refl _, [], rfl, TupsAt.nil⟩ (fun i acc Hi p => fits_l (SqL.of (p.1 _ _ nD el))) (by rw [List.length_map, List.length_map]; omega) (fun i acc Hi p => ⟨p.2.1, p.2.2.1⟩) ?_ ?_
    · rintro i acc y Hh R S hy ⟨kD, eD, hal, qs, rfl, hV⟩ hR hS'
      rw [List.getElem?_map, List.getElem?_map] at hy
      obtain ⟨z, hz, rfl⟩ := Option.map_eq_some_iff.mp hy
      obtain ⟨c, hc, rfl⟩ := Option.map_eq_some_iff.mp hz
      have xD : XT H1 Hh := fun q o h => kD q o (ne_of_none h hD) h
      have hVl := hV.1
      walk_at "g"
      refine ⟨rfl, ?_⟩
      walk_at "g"
      refine ⟨x, dx, _, rfl, xD _ _ ex1, by rfl, ?_⟩
      walk_at "g"
      refine ⟨x, cs, i, c, rfl, (hS1.keep xD).sh, hc, hcs.nm c (List.mem_of_getElem? hc), fun H3 x3 => ?_⟩
      have eD3 := x3 _ _ eD
      have k3 : NXT D H1 H3 := fun q o n h => x3 _ _ (kD q o n h)
      have hV3 := hV.mono fun q t e => x3 _ _ e
      have htk := filTs_take hc
      cases hfl : c.2.2 with
      | false =>
        rw [hfl, if_neg Bool.false_ne_true, List.append_nil] at htk
        walk_at "g"
        exact hS' _ ⟨k3, eD3, by omega, qs, rfl, by rw [htk]; exact hV3⟩
      | true =>
        rw [hfl, if_pos rfl] at htk
        walk_at "g"
        refine ⟨by show 2 ≤ sizeLine; decide, fun p hp => ?_⟩
        have nDp : D ≠ p := ne_of_none eD3 hp
        have eD4 : (upd H3 p (.tup (rFil c))) D = some (.lst (qs.map V.ref)) := by rw [upd_ne nDp]; exact eD3
        refine hR _ _ eD4 ⟨fun q o n h => ?_, upd_same, by rw [List.length_append]; show _ + 1 ≤ _; omega, qs ++ [p], by rw [List.map_append]; rfl, ?_⟩
        · rw [upd_ne n, upd_ne (ne_of_none (k3 q o n h) hp)]
          exact k3 q o n h
        · rw [htk]
          refine (hV3.mono fun q t e => ?_).snoc ?_
          · rw [upd_ne (fun z => by rw [z, eD3] at e; cases e), upd_ne (ne_of_none e hp)]
            exact e
          · rw [upd_ne (Ne.symm nDp)]
            exact upd_same
    rintro acc H2 ⟨kD, eD, hal, qs, rfl, hV⟩
    rw [List.length_map, List.length_map, List.take_length] at hV
    rw [List.length_map, List.length_map, List.length_map] at hal
    have x2 : XT H1 H2 := fun q o h => kD q o (ne_of_none h hD) h
    have x02 := XT.trans x1 x2
    have hS2 := hS.keep x02
    have ex2 := x2 _ _ ex1
    clear kD hS1 ex1
    walk_at "g"
    refine ⟨x, dx, _, rfl, ex2, by rfl, ?_⟩
    walk_at "g"
    refine ⟨x, cs, fs, ks, rfl, hS2, fun l3 us H3 x3 hl3 el3 hR3 => ?_⟩
    have h3l := hR3.len
    have hV3 := hV.mono fun q t e => x3 _ _ e
    have eD3 := x3 _ _ eD
    have ex3 := x3 _ _ ex2
    have hS3 := hS2.keep x3
    have x03 := XT.trans x02 x3
    clear hR3
    walk_at "g"
    rw [List.length_map, h3l]
    refine ⟨_, rfl, by omega, by omega, fun D4 hD4 => ?_⟩
    refine lc_range (fun i Hi => NXT D4 H3 Hi ∧ ∃ ps, Hi D4 = some (.lst (ps.map V.ref)) ∧ TupsAt Hi ps ((List.range i).map rChk)) ?_ ?_ ?_
    · exact ⟨fun q o n h => by rw [upd_ne n]; exact h, [], upd_same, TupsAt.nil⟩
    · rintro i Hi hi ⟨kD4, ps, eD4, hP⟩
      have hpl := hP.1
      rw [List.length_map, List.length_range] at hpl
      refine ⟨rfl, ?_⟩
      walk_at "g"
      refine ⟨by show 2 ≤ sizeLine; decide, fun p hp => ?_⟩
      have nDp : D4 ≠ p := ne_of_none eD4 hp
      have eD5 : (upd Hi p (.tup (rChk i))) D4 = some (.lst (ps.map V.ref)) := by rw [upd_ne nDp]; exact eD4
      have e0 : upd Hi p (.tup [.str (Str.ofString "check"), .int (0 + (i : Nat))]) = upd Hi p (.tup (rChk i)) := by unfold rChk; rw [Int.zero_add]
      rw [e0]
      refine ⟨_, eD5, by rw [List.length_map, sizeLine_eq]; omega, fun q o n h => ?_, ps ++ [p], by rw [upd_same, List.map_append]; rfl, ?_⟩
      · rw [upd_ne n, upd_ne (ne_of_none (kD4 q o n h) hp)]
        exact kD4 q o n h
      · rw [List.range_succ, List.map_append]
        refine (hP.mono fun q t e => ?_).snoc ?_
        · rw [upd_ne (fun z => by rw [z, eD4] at e; cases e), upd_ne (ne_of_none e hp)]
          exact e
        · rw [upd_ne (Ne.symm nDp)]
          exact upd_same
    rintro H5 ⟨kD4, ps, eD4, hP⟩
    have x5 : XT H3 H5 := fun q o h => kD4 q o (ne_of_none h hD4) h
    have hP5 : TupsAt H5 ps ((List.range fs.length).map rChk) := by
      have e : fs.length = fs.length := rfl
      simpa using hP
    have hV5 := hV3.mono fun q t e => x5 _ _ e
    have eD5 := x5 _ _ eD3
    have ex5 := x5 _ _ ex3
    have hS5 := hS3.keep x5
    have x05 := XT.trans x03 x5
    have hpl := hP5.1
    rw [List.length_map, List.length_range] at hpl
    clear hV hV3 eD eD3 ex2 ex3 hS2 hS3 x02 x03 kD4 hP x3 x5 el3
    walk_at "g"
    refine .inr (.inr ⟨D, D4, _, _, rfl, rfl, eD5, eD4, by rw [List.length_map, List.length_map, sizeLine_eq]; omega, fun L hL => ?_⟩)
    have em : qs.map V.ref ++ ps.map V.ref = (qs ++ ps).map V.ref := by rw [List.map_append]
    rw [em]
    have x6 : XT H5 (upd H5 L (.lst ((qs ++ ps).map V.ref))) := XT.new XT.refl hL
    have eL : (upd H5 L (.lst ((qs ++ ps).map V.ref))) L = some (.lst ((qs ++ ps).map V.ref)) := upd_same
    generalize upd H5 L (.lst ((qs ++ ps).map V.ref)) = H6 at x6 eL
    have hA6 : TupsAt H6 (qs ++ ps) (filTs cs ++ (List.range fs.length).map rChk) := (hV5.app hP5).mono fun q t e => x6 _ _ e
    have ex6 := x6 _ _ ex5
    have hS6 := hS5.keep x6
    have x06 := XT.trans x05 x6
    clear hV5 hP5 eD5 eD4 ex5 hS5 x05 x6
    walk_at "g"
    refine ⟨x, dx, _, rfl, ex6, by rfl, ?_⟩
    walk_at "g"
    refine ⟨x, cs, fs, ks, rfl, hS6, fun l7 ys H7 x7 hl7 el7 hK7 => ?_⟩
    have h7l := hK7.1
    have eL7 := x7 _ _ eL
    have hA7 := hA6.mono fun q t e => x7 _ _ e
    have x07 := XT.trans x06 x7
    clear hK7 hA6 eL hS6 ex6 x06 x7
    walk_at "g"
    rw [h7l]
    refine ⟨_, rfl, by omega, by omega, fun D8 hD8 => ?_⟩
    refine lc_range (fun i Hi => NXT D8 H7 Hi ∧ ∃ ps, Hi D8 = some (.lst (ps.map V.ref)) ∧ TupsAt Hi ps ((List.range i).map rKey)) ?_ ?_ ?_
    · exact ⟨fun q o n h => by rw [upd_ne n]; exact h, [], upd_same, TupsAt.nil⟩
    · rintro i Hi hi ⟨kD4, ps, eD4, hP⟩
      have hpl := hP.1
      rw [List.length_map, List.length_range] at hpl
      refine ⟨rfl, ?_⟩
      walk_at "g"
      refine ⟨by show 2 ≤ sizeLine; decide, fun p hp => ?_⟩
      have nDp : D8 ≠ p := ne_of_none eD4 hp
      have eD5 : (upd Hi p (.tup (rKey i))) D8 = some (.lst (ps.map V.ref)) := by rw [upd_ne nDp]; exact eD4
      have e0 : upd Hi p (.tup [.str (Str.ofString "key"), .int (0 + (i : Nat))]) = upd Hi p (.tup (rKey i)) := by unfold rKey; rw [Int.zero_add]
      rw [e0]
      refine ⟨_, eD5, by rw [List.length_map, sizeLine_eq]; omega, fun q o n h => ?_, ps ++ [p], by rw [upd_same, List.map_append]; rfl, ?_⟩
      · rw [upd_ne n, upd_ne (ne_of_none (kD4 q o n h) hp)]
        exact kD4 q o n h
      · rw [List.range_succ, List.map_append]
        refine (hP.mono fun q t e => ?_).snoc ?_
        · rw [upd_ne (fun z => by rw [z, eD4] at e; cases e), upd_ne (ne_of_none e hp)]
          exact e
        · rw [upd_ne (Ne.symm nDp)]
          exact upd_same
    rintro H8 ⟨kD8, rs, eD8, hR⟩
    have x8 : XT H7 H8 := fun q o h => kD8 q o (ne_of_none h hD8) h
    have hR8 : TupsAt H8 rs ((List.range ks.length).map rKey) := by simpa using hR
    have hrl := hR8.1
    rw [List.length_map, List.length_range] at hrl
    have eL8 := x8 _ _ eL7
    have hA8 := hA7.mono fun q t e => x8 _ _ e
    have x08 := XT.trans x07 x8
    walk_at "g"
    refine .inr (.inr ⟨L, D8, _, _, rfl, rfl, eL8, eD8, by rw [List.length_map, List.length_map, List.length_append, sizeLine_eq]; omega, fun M hM => ?_⟩)
    have em : (qs ++ ps).map V.ref ++ rs.map V.ref = ((qs ++ ps) ++ rs).map V.ref := (List.map_append).symm
    rw [em]
    have x9 : XT H8 (upd H8 M (.lst (((qs ++ ps) ++ rs).map V.ref))) := XT.new XT.refl hM
    have hHM : H M = none := by
      cases e : H M with
      | none => rfl
      | some o => rw [x08 _ _ e] at hM; cases hM
    walk_at "g"
    exact q M _ (XT.trans x08 x9) hHM (((hA8.app hR8).mono fun q t e => x9 _ _ e).lat upd_same)
end
/-! rules in a list of rules -/
def pdT (t : List V) : PyData := .tuple (t.map vpd)
structure OkT (t : List V) : Prop where
  kv : ∀ v ∈ t, kv v
  lay : PyData.canLayAll0 (t.map vpd) = true
theorem lay_all : ∀ {ds : List PyData}, (∀ d ∈ ds, d.canLay0 = true) → PyData.canLayAll0 ds = true
  | [], _ => rfl
  | d :: ds, h => by
    simp only [PyData.canLayAll0, Bool.and_eq_true]
    exact ⟨h d List.mem_cons_self, lay_all fun e m => h e (List.mem_cons_of_mem _ m)⟩
theorem pdT_eq {t u : List V} (h : OkT t) (h' : OkT u) : PyData.eqv (pdT t) (pdT u) = true ↔ t = u := by
  unfold pdT
  rw [show PyData.eqv (.tuple (t.map vpd)) (.tuple (u.map vpd)) = PyData.eqvAll (t.map vpd) (u.map vpd) by simp only [PyData.eqv]]
  exact vpds_eq h.kv h'.kv
theorem pdT_any {t : List V} {ts : List (List V)} (h : OkT t) (hs : ∀ u ∈ ts, OkT u) : ((ts.map pdT).any fun z => PyData.eqv z (pdT t)) = decide (t ∈ ts) := by
  rw [List.any_map]
  by_cases e : t ∈ ts
  · rw [decide_eq_true e]
    exact List.any_eq_true.mpr ⟨t, e, (pdT_eq h h).mpr rfl⟩
  · rw [decide_eq_false e]
    exact List.any_eq_false.mpr fun u hu z => e (by rw [← (pdT_eq (hs u hu) h).mp z]; exact hu)
theorem pdT_lay {t : List V} (h : OkT t) : (pdT t).canLay0 = true := by
  unfold pdT
  simp only [PyData.canLay0]
  exact h.lay
theorem pdT_depth (t : List V) : (pdT t).depth = 1 := by
  unfold pdT
  simp only [PyData.depth]
  rw [vpds_depth]
theorem pdTs_depth : ∀ ts : List (List V), PyData.depthAll (ts.map pdT) ≤ 1
  | [] => Nat.zero_le _
  | t :: ts => by
    simp only [List.map_cons, PyData.depthAll]
    have h1 := pdT_depth t
    have h2 := pdTs_depth ts
    omega
theorem dp_tups {K : PySem.W.Frag} {H : Hp} : ∀ {qs : List Addr} {ts : List (List V)}, TupsAt H qs ts → (∀ u ∈ ts, OkT u) → DpAll K H (qs.map V.ref) (ts.map pdT)
  | [], [], _, _ => .nil
  | [], _ :: _, h, _ => nomatch h.1
  | _ :: _, [], h, _ => nomatch h.1
  | q :: qs, t :: ts, h, k => .cons (.tup (SqT.of (h.2 0 q t rfl rfl)) (dp_vs (k t List.mem_cons_self).kv)) (dp_tups ⟨by have := h.1; simpa using this, fun i p u a b => h.2 (i + 1) p u (by simpa using a) (by simpa using b)⟩ fun u m => k u (List.mem_cons_of_mem _ m))
theorem g_inT {K : PySem.W.Frag} {H : Hp} {Q : VK} {q L : Addr} {t : List V} {qs : List Addr} {ts : List (List V)} (hq : H q = some (.tup t)) (hL : H L = some (.lst (qs.map V.ref))) (hT : TupsAt H qs ts) (h : OkT t) (hs : ∀ u ∈ ts, OkT u) (k : Q (.bl (decide (t ∈ ts))) H) : rInD K (.ref q) (.ref L) H Q := by
  refine ⟨pdT t, ts.map pdT, .tup (SqT.of hq) (dp_vs h.kv), .lst (SqL.of hL) (dp_tups hT hs), ?_, ?_, ?_⟩
  · unfold SeqAt.shaped
    rw [pdT_lay h, pdT_depth]
    rfl
  · unfold SeqAt.shaped
    have h1 : (PyData.list (ts.map pdT)).canLay0 = true := by
      simp only [PyData.canLay0]
      exact lay_all fun d hd => by
        obtain ⟨u, hu, rfl⟩ := List.mem_map.mp hd
        exact pdT_lay (hs u hu)
    have h2 : (PyData.list (ts.map pdT)).depth ≤ 64 := by
      simp only [PyData.depth]
      have := pdTs_depth ts
      omega
    rw [h1, decide_eq_true h2]
    rfl
  · rw [pdT_any h hs]
    exact k
theorem okT_fil {c : Col} (h : nameP c.1) : OkT (rFil c) := ⟨fun v hv => by
    unfold rFil at hv
    rcases List.mem_cons.mp hv with rfl | hv
    · exact .inr ⟨_, rfl⟩
    · rw [List.mem_singleton.mp hv]; exact .inr ⟨_, rfl⟩, lay_all fun d hd => by
    obtain ⟨v, hv, rfl⟩ := List.mem_map.mp hd
    unfold rFil at hv
    rcases List.mem_cons.mp hv with rfl | hv
    · exact str_lay (by decide +kernel)
    · rw [List.mem_singleton.mp hv]; exact name_lay h⟩
theorem okT_num {w : Str} (i : Nat) (h : ∀ c ∈ w.cps.toList, c < 0x110000) : OkT [.str w, .int (i : Nat)] := ⟨fun v hv => by
    rcases List.mem_cons.mp hv with rfl | hv
    · exact .inr ⟨_, rfl⟩
    · rw [List.mem_singleton.mp hv]; exact .inl ⟨_, rfl⟩, lay_all fun d hd => by
    obtain ⟨v, hv, rfl⟩ := List.mem_map.mp hd
    rcases List.mem_cons.mp hv with rfl | hv
    · exact str_lay h
    · rw [List.mem_singleton.mp hv]; rfl⟩
theorem okT_chk (i : Nat) : OkT (rChk i) := okT_num i (by decide +kernel)
theorem okT_key (i : Nat) : OkT (rKey i) := okT_num i (by decide +kernel)
theorem okT_rules {cs : List Col} {nf nk : Nat} (h : ∀ c ∈ cs, nameP c.1) : ∀ t ∈ ruleTs cs nf nk, OkT t := fun t ht => by
  unfold ruleTs at ht
  rcases List.mem_append.mp ht with ht | ht
  · rcases List.mem_append.mp ht with ht | ht
    · obtain ⟨c, hc, rfl⟩ := List.mem_map.mp ht
      exact okT_fil (h c (List.mem_filter.mp hc).1)
    · obtain ⟨i, _, rfl⟩ := List.mem_map.mp ht
      exact okT_chk i
  · obtain ⟨i, _, rfl⟩ := List.mem_map.mp ht
    exact okT_key i
theorem fil_ne_chk {c : Col} {i : Nat} : rFil c ≠ rChk i := fun e => by
  unfold rFil rChk at e
  injection e with _ e
  injection e with e
  cases e
theorem fil_ne_key {c : Col} {i : Nat} : rFil c ≠ rKey i := fun e => by
  unfold rFil rKey at e
  injection e with _ e
  injection e with e
  cases e
theorem chk_ne_key {i j : Nat} : rChk i ≠ rKey j := fun e => by
  unfold rChk rKey at e
  injection e with e
  injection e with e
  exact absurd e (by decide +kernel)
theorem rChk_inj {i j : Nat} (e : rChk i = rChk j) : i = j := by
  unfold rChk at e
  injection e with _ e
  injection e with e
  injection e with e
  exact Int.ofNat.inj e
theorem rKey_inj {i j : Nat} (e : rKey i = rKey j) : i = j := by
  unfold rKey at e
  injection e with _ e
  injection e with e
  injection e with e
  exact Int.ofNat.inj e
theorem rFil_inj {c d : Col} (e : rFil c = rFil d) : c.1 = d.1 := by
  unfold rFil at e
  injection e with _ e
  injection e with e
  injection e
theorem mem_rules {cs : List Col} {nf nk : Nat} {t : List V} : t ∈ ruleTs cs nf nk ↔ (∃ c ∈ cs, c.2.2 = true ∧ rFil c = t) ∨ (∃ i, i < nf ∧ rChk i = t) ∨ ∃ i, i < nk ∧ rKey i = t := by
  unfold ruleTs filTs
  simp only [List.mem_append, List.mem_map, List.mem_filter, List.mem_range, and_assoc, or_assoc]
theorem col_of_name {cs : List Col} (nd : (cs.map (·.1)).Nodup) {c d : Col} (hc : c ∈ cs) (hd : d ∈ cs) (e : c.1 = d.1) : c = d := by
  obtain ⟨i, hi, ei⟩ := List.mem_iff_getElem.mp hc
  obtain ⟨j, hj, ej⟩ := List.mem_iff_getElem.mp hd
  have ha : (cs.map (·.1))[i]? = some c.1 := by rw [List.getElem?_map, List.getElem?_eq_getElem hi, ei]; rfl
  have hb : (cs.map (·.1))[j]? = some c.1 := by rw [List.getElem?_map, List.getElem?_eq_getElem hj, ej]; exact congrArg some e.symm
  have : i = j := (List.getElem?_inj (List.getElem?_eq_some_iff.mp ha).1 nd).mp (ha.trans hb.symm)
  subst this
  rw [← ei, ej]
theorem fil_mem {cs : List Col} (nd : (cs.map (·.1)).Nodup) {nf nk : Nat} {c : Col} (hc : c ∈ cs) : decide (rFil c ∈ ruleTs cs nf nk) = c.2.2 := by
  cases e : c.2.2 with
  | true => exact decide_eq_true (mem_rules.mpr (.inl ⟨c, hc, e, rfl⟩))
  | false =>
    refine decide_eq_false fun h => ?_
    rcases mem_rules.mp h with ⟨d, hd, h1, h2⟩ | ⟨i, _, h2⟩ | ⟨i, _, h2⟩
    · rw [col_of_name nd hc hd (rFil_inj h2).symm, h1] at e
      cases e
    · exact fil_ne_chk h2.symm
    · exact fil_ne_key h2.symm
theorem chk_mem {cs : List Col} {nf nk i : Nat} (h : i < nf) : decide (rChk i ∈ ruleTs cs nf nk) = true := decide_eq_true (mem_rules.mpr (.inr (.inl ⟨i, h, rfl⟩)))
theorem key_mem {cs : List Col} {nf nk i : Nat} (h : i < nk) : decide (rKey i ∈ ruleTs cs nf nk) = true := decide_eq_true (mem_rules.mpr (.inr (.inr ⟨i, h, rfl⟩)))
theorem map_nodup {α β : Type} {f : α → β} (inj : ∀ a b, f a = f b → a = b) : ∀ {l : List α}, l.Nodup → (l.map f).Nodup
  | [], _ => List.nodup_nil
  | a :: l, h => by
    obtain ⟨h1, h2⟩ := List.nodup_cons.mp h
    exact List.nodup_cons.mpr ⟨fun m => by obtain ⟨b, hb, e⟩ := List.mem_map.mp m; rw [← inj _ _ e.symm] at hb; exact h1 hb, map_nodup inj h2⟩
theorem fil_nodup : ∀ {cs : List Col}, (cs.map (·.1)).Nodup → (filTs cs).Nodup
  | [], _ => List.nodup_nil
  | c :: cs, h => by
    obtain ⟨h1, h2⟩ := List.nodup_cons.mp h
    have ih := fil_nodup h2
    unfold filTs at ih ⊢
    by_cases e : c.2.2 = true
    · rw [List.filter_cons_of_pos (by exact e), List.map_cons]
      refine List.nodup_cons.mpr ⟨fun m => ?_, ih⟩
      obtain ⟨d, hd, e⟩ := List.mem_map.mp m
      exact h1 (List.mem_map.mpr ⟨d, (List.mem_filter.mp hd).1, rFil_inj e⟩)
    · rw [List.filter_cons_of_neg (by exact e)]
      exact ih
theorem rules_nodup {cs : List Col} (nd : (cs.map (·.1)).Nodup) (nf nk : Nat) : (ruleTs cs nf nk).Nodup := by
  unfold ruleTs
  refine List.nodup_append.mpr ⟨List.nodup_append.mpr ⟨fil_nodup nd, map_nodup (fun _ _ e => rChk_inj e) List.nodup_range, fun a ha b hb e => ?_⟩, map_nodup (fun _ _ e => rKey_inj e) List.nodup_range, fun a ha b hb e => ?_⟩
  · obtain ⟨c, _, rfl⟩ := List.mem_map.mp ha
    obtain ⟨i, _, rfl⟩ := List.mem_map.mp hb
    exact fil_ne_chk e
  · obtain ⟨i, _, rfl⟩ := List.mem_map.mp hb
    rcases List.mem_append.mp ha with ha | ha
    · obtain ⟨c, _, rfl⟩ := List.mem_map.mp ha
      exact fil_ne_key e
    · obtain ⟨j, _, rfl⟩ := List.mem_map.mp ha
      exact chk_ne_key e
theorem rules_len {cs : List Col} {nf nk : Nat} : (ruleTs cs nf nk).length ≤ cs.length + nf + nk := by
  unfold ruleTs filTs
  simp only [List.length_append, List.length_map, List.length_range]
  have := List.length_filter_le (fun c : Col => c.2.2) cs
  omega
/-- a rule: a word, and a name or a number -/
theorem rule_form {cs : List Col} {nf nk : Nat} (h : ∀ c ∈ cs, nameP c.1) {t : List V} (ht : t ∈ ruleTs cs nf nk) : ∃ wd v, t = [.str wd, v] ∧ ((∃ i : Nat, v = .int i) ∨ ∃ z, v = .str z ∧ nameP z) := by
  rcases mem_rules.mp ht with ⟨c, hc, _, rfl⟩ | ⟨i, _, rfl⟩ | ⟨i, _, rfl⟩
  · exact ⟨_, _, rfl, .inr ⟨_, rfl, h c hc⟩⟩
  · exact ⟨_, _, rfl, .inl ⟨i, rfl⟩⟩
  · exact ⟨_, _, rfl, .inl ⟨i, rfl⟩⟩
theorem kb_tuple : ∀ T ∈ kinds7, kitB T "tuple" = some (decide (T = "tuple")) := by
  intro T h
  unfold kinds7 at h
  simp only [List.mem_cons, List.not_mem_nil, or_false] at h
  rcases h with rfl | rfl | rfl | rfl | rfl | rfl | rfl <;> decide +kernel
theorem cut_take {xs : List V} {n : Nat} (h : n ≤ xs.length) : cutV xs none (some (n : Int)) = xs.take n := by
  unfold cutV
  rw [HT.sIx_nat, HT.sIx_none, Nat.min_eq_left h, List.drop_zero, Nat.sub_zero]
def spIsOwn (CS C : Addr) : Sp := fun vs H Q _ => ∃ (x q : Addr) (cs : List Col) (fs : List Fm) (ks : List Ky) (t : List V), vs = [.ref x, .ref q] ∧ ShpAt CS C H cs fs ks x ∧ ColsOk cs ∧ fs.length ≤ 9 ∧ ks.length ≤ 9 ∧ H q = some (.tup t) ∧ t ∈ ruleTs cs fs.length ks.length ∧ ∀ H', XT H H' → Q (.bl true) H'
def spBare (CS C : Addr) : Sp := fun vs H Q _ => ∃ (x L : Addr) (cs : List Col) (fs : List Fm) (ks : List Ky), vs = [.ref x, .ref L] ∧ ShpAt CS C H cs fs ks x ∧ ShOk cs fs ks ∧ LAt H L (ruleTs cs fs.length ks.length) ∧ ∀ y H', XT H H' → ShpAt CS C H' cs fs ks y → Q (.ref y) H'
section
variable {P : Program} {w : World} {K : PySem.W.Frag} {mg : Str → Option Value} {base : Heap}
theorem ok_is_own_rule (T : Txt K mg) : Def P w K mg base 16 "is_own_rule" ["shape", "thing"] (spIsOwn (cadr mg "Shape") (cadr mg "Test")) := by
  obtain ⟨f, fd, h⟩ := T.d_is_own_rule
  refine h.def (Fun.okM h.fn sc_is_own_rule (fun vs H Q E h => ?_) (fun cdv A outer s H vs Q E hr h => ?_))
  · obtain ⟨x, q, cs, fs, ks, t, rfl, _⟩ := h
    rfl
  · obtain ⟨x, q, cs, fs, ks, t, rfl, hS, hcs, hf9, hk9, hq, ht, k⟩ := h
    have hok := okT_rules hcs.nm _ ht
    obtain ⟨wd, v, rfl, hv⟩ := rule_form hcs.nm ht
    refine ⟨_, (pss_cons (ps_if (PW.pt (pw_or (pt_not (pt_val (pe_callB (call_isiG (K := K) rfl) (by rfl) T.h_isinstance (by decide +kernel) (pa_cons (pv 1) (pa_cons (pe_bltn (v := .ty "tuple") (by rfl) T.h_tuple (by decide +kernel) rfl) pa_nil))))) (pw_or (pt_cmpR op_ne (pe_callB (call_lenG (K := K) rfl) (by rfl) T.h_len (by decide +kernel) (pa_cons (pv 1) pa_nil)) pe_int (nomark _)) (pw_or1 (pt_not (pt_val (pe_def (ok_is_worded T) hr rfl (pa_cons (pv 1) pa_nil))))))))
  (pss_one (ps_ret pe_bl))
  pss_nil)
  (pss_one (ps_ret (pe_and (pe_or (pe_def (ok_is_integer T) hr rfl (pa_cons (pe_ix (ix_seqG (K := K) rfl) (pv 1) pe_int (fun _ _ => rfl)) pa_nil)) (pe_one (pe_def (ok_is_name T) hr rfl (pa_cons (pe_ix (ix_seqG (K := K) rfl) (pv 1) pe_int (fun _ _ => rfl)) pa_nil)))) (pe_one (pe_cmpR (op_inDG (K := K) rfl (hu65_of hr)) (pv 1) (pe_def (ok_own_rules T) hr rfl (pa_cons (pv 0) pa_nil)) (by rfl))))))), ?_⟩
    walk_at "g"
    refine g_isi ((TyOf7.tup hq).x K) (kb_tuple "tuple" (by decide)) ?_
    rw [decide_eq_true rfl]
    walk_at "g"
    refine g_lenT (SqT.of hq) ?_
    walk_at "g"
    rw [show decide ((([V.str wd, v].length : Nat) : Int) = 2) = true from rfl]
    walk_at "g"
    refine ⟨.ref q, true, rfl, .inr ⟨q, _, rfl, .inr hq, .inr (.inl ⟨wd, [v], rfl, rfl⟩)⟩, fun H1 x1 => ?_⟩
    have h1 := x1 _ _ hq
    have hS1 := hS.keep x1
    have fin : ∀ {H2 : Hp} {Q' : VK}, XT H1 H2 → (∀ H', XT H H' → Q' (.bl true) H') → ∀ (L : Addr) (H3 : Hp), XT H2 H3 → LAt H3 L (ruleTs cs fs.length ks.length) → rInD K (.ref q) (.ref L) H3 Q' := fun {H2 Q'} x2 k' L H3 x3 hL => by
      obtain ⟨qs, e1, e2, e3⟩ := hL
      refine g_inT (x3 _ _ (x2 _ _ h1)) e1 ⟨e2, e3⟩ hok (okT_rules hcs.nm) ?_
      rw [decide_eq_true ht]
      exact k' _ (XT.trans x1 (XT.trans x2 x3))
    walk_at "g"
    refine g_ixT (SqT.of h1) (v := v) (by rfl) ?_
    walk_at "g"
    rcases hv with ⟨i, rfl⟩ | ⟨z, rfl, hz⟩
    · refine ⟨_, rfl, .inr (.inr (.inl ⟨_, rfl⟩)), fun H2 x2 => ?_⟩
      rw [show isIntB (.int (i : Nat)) = true from rfl]
      walk_at "g"
      refine ⟨x, cs, fs, ks, rfl, hS1.keep x2, hcs, hf9, hk9, fun L H3 x3 _ hL => ?_⟩
      exact fin x2 k L H3 x3 hL
    · have hl := hz.len100
      refine ⟨_, rfl, .inr (.inr (.inr (.inl ⟨_, rfl, hl⟩))), fun H2 x2 => ?_⟩
      rw [show isIntB (.str z) = false from rfl]
      walk_at "g"
      refine g_ixT (SqT.of (x2 _ _ h1)) (v := .str z) (by rfl) ?_
      walk_at "g"
      refine ⟨_, rfl, .inr (.inr (.inr (.inl ⟨_, rfl, hl⟩))), fun H3 x3 => ?_⟩
      rw [nameB_str.mpr hz]
      walk_at "g"
      refine ⟨x, cs, fs, ks, rfl, (hS1.keep x2).keep x3, hcs, hf9, hk9, fun L H4 x4 _ hL => ?_⟩
      exact fin (XT.trans x2 x3) k L H4 x4 hL
theorem ok_bare (T : Txt K mg) : Def P w K mg base 19 "bare" ["shape", "kept"] (spBare (cadr mg "Shape") (cadr mg "Test")) := by
  obtain ⟨f, fd, h⟩ := T.d_bare
  refine h.def (Fun.okM h.fn sc_bare (fun vs H Q E h => ?_) (fun cdv A outer s H vs Q E hr h => ?_))
  · obtain ⟨x, L, cs, fs, ks, rfl, _⟩ := h
    rfl
  · obtain ⟨x, L, cs, fs, ks, rfl, hS, ok, hL, q⟩ := h
    have hcs := ok.co
    have hle := hcs.le
    have hf9 := ok.fl
    have hk9 := ok.kl
    obtain ⟨dx, t0, D0, tc0, tk0, kvs0, qs0, us0, ys0, ex, _⟩ := hS.ex
    obtain ⟨qs, eL, hq1, hq2⟩ := hL
    have hlen := rules_len (cs := cs) (nf := fs.length) (nk := ks.length)
    have hnd := rules_nodup hcs.nd fs.length ks.length
    have hokT := okT_rules (nf := fs.length) (nk := ks.length) hcs.nm
    generalize hts : ruleTs cs fs.length ks.length = ts at hq1 hq2 hlen hnd hokT
    refine ⟨_, (pss_cons (ps_if (pt_not (pt_val (pe_def (ok_is_sequence T) hr rfl (pa_cons (pv 1) pa_nil))))
  (pss_one ps_never)
  pss_nil)
  (pss_cons (ps_for PassesOwn.never rfl (pi_enumG (K := K) rfl (by rfl) T.h_enumerate (pa_cons (pv 1) pa_nil)) (pg_tupG (K := K) (n := 2) rfl rfl (pgs_cons (pg_name (i := 2) sc_bare.nd rfl (Or.inl rfl)) (pgs_cons (pg_name (i := 3) sc_bare.nd rfl (Or.inl rfl)) pgs_nil)))
  (pss_one (ps_if (PW.pt (pw_or (pt_not (pt_val (pe_def (ok_is_own_rule T) hr rfl (pa_cons (pv 0) (pa_cons (pv 3) pa_nil))))) (pw_or1 (pt_cmpR (op_inDG (K := K) rfl (hu65_of hr)) (pv 3) (pe_slice (sl_G (K := K) rfl) (pv 1) po_none (po_some (pv 2))) (by rfl)))))
  (pss_one ps_never)
  pss_nil)))
  (pss_cons (ps_setLc (i := 4) (own := [("name", 3), ("kind", 7), ("_", 8)]) rfl sc_bare.nd rfl rfl (sw_true rfl rfl rfl (by decide +kernel)) (pi_list (pe_me0 (pv 0) T.cl_Shape (ok_Shape_columns T) hr)) (blkOk_by (N := N_bare) (sc := defScope S_bare) (by decide +kernel)) (fun _ _ _ _ _ => (pg_tupG (K := K) (n := 3) rfl rfl (pgs_cons (pg_name (i := 3) sc_bare.nd rfl (Or.inl rfl)) (pgs_cons (pg_name (i := 7) sc_bare.nd rfl (Or.inl rfl)) (pgs_cons (pg_name (i := 8) sc_bare.nd rfl (Or.inl rfl)) pgs_nil))))) (fun _ _ _ _ _ => pts_nil) (fun _ _ _ _ _ => (pe_tup (pa_cons (pv 3) (pa_cons (pv 7) (pa_cons (pe_cmpR (op_inDG (K := K) rfl (hu65_of hr)) (pe_tup (pa_cons pe_str (pa_cons (pv 3) pa_nil))) (pv 1) (by rfl)) pa_nil))))))
  (pss_cons (ps_setLc (i := 5) (own := [("at", 2), ("test", 9)]) rfl sc_bare.nd rfl rfl (sw_true rfl rfl rfl (by decide +kernel)) (pi_enumG (K := K) rfl (by rfl) T.h_enumerate (pa_cons (pe_me0 (pv 0) T.cl_Shape (ok_Shape_checks T) hr) pa_nil)) (blkOk_by (N := N_bare) (sc := defScope S_bare) (by decide +kernel)) (fun _ _ _ _ _ => (pg_tupG (K := K) (n := 2) rfl rfl (pgs_cons (pg_name (i := 2) sc_bare.nd rfl (Or.inl rfl)) (pgs_cons (pg_name (i := 9) sc_bare.nd rfl (Or.inl rfl)) pgs_nil)))) (fun _ _ _ _ _ => pts_one (pt_cmpR (op_inDG (K := K) rfl (hu65_of hr)) (pe_tup (pa_cons pe_str (pa_cons (pv 2) pa_nil))) (pv 1) (by rfl))) (fun _ _ _ _ _ => (pv 9)))
  (pss_cons (ps_setLc (i := 6) (own := [("at", 2), ("key", 10)]) rfl sc_bare.nd rfl rfl (sw_true rfl rfl rfl (by decide +kernel)) (pi_enumG (K := K) rfl (by rfl) T.h_enumerate (pa_cons (pe_me0 (pv 0) T.cl_Shape (ok_Shape_unique_keys T) hr) pa_nil)) (blkOk_by (N := N_bare) (sc := defScope S_bare) (by decide +kernel)) (fun _ _ _ _ _ => (pg_tupG (K := K) (n := 2) rfl rfl (pgs_cons (pg_name (i := 2) sc_bare.nd rfl (Or.inl rfl)) (pgs_cons (pg_name (i := 10) sc_bare.nd rfl (Or.inl rfl)) pgs_nil)))) (fun _ _ _ _ _ => pts_one (pt_cmpR (op_inDG (K := K) rfl (hu65_of hr)) (pe_tup (pa_cons pe_str (pa_cons (pv 2) pa_nil))) (pv 1) (by rfl))) (fun _ _ _ _ _ => (pv 10)))
  (pss_one (ps_ret (pe_newKX takes0 (ok_Shape_init T).ck hr rfl T.e_Shape (pa_cons (pv 4) pa_nil) (pv 5) (pv 6))))))))), ?_⟩
    walk_at "g"
    refine ⟨.ref L, "list", rfl, by decide, fun H' x => .base (.lst (x _ _ eL)), fun H1 x1 => ?_⟩
    rw [show decide ("list" = "list" ∨ "list" = "tuple") = true by decide]
    have eL1 := x1 _ _ eL
    have hT1 : TupsAt H1 qs ts := ⟨hq1, fun i p u a b => x1 _ _ (hq2 i p u a b)⟩
    have hS1 := hS.keep x1
    walk_at "g"
    refine g_enumG ?_
    walk_at "g"
    refine ⟨L, qs.map V.ref, rfl, .inl (SqL.of eL1), fun J hJ => ?_⟩
    refine for_enumA (xs := qs.map V.ref) (fun i σ' H' => (∃ s2 s3, σ' = [some (.ref x), some (.ref L), s2, s3, none, none, none, none, none, none, none]) ∧ XT H1 H') ⟨⟨none, none, rfl⟩, XT.refl⟩ ?_ ?_ ?_
    · rintro i σ' H' hi ⟨_, x3⟩
      exact hJ H' (by rw [x3 _ _ eL1, eL1])
    · rintro i v t σ' H3 D' hv ⟨⟨s2, s3, rfl⟩, x3⟩ ht hnx hct hbk hrt
      rw [List.getElem?_map] at hv
      obtain ⟨p, hp, rfl⟩ := Option.map_eq_some_iff.mp hv
      have hil := (List.getElem?_eq_some_iff.mp hp).1
      obtain ⟨u, hu⟩ : ∃ u, ts[i]? = some u := ⟨_, List.getElem?_eq_getElem (by omega)⟩
      have hum := List.mem_of_getElem? hu
      have x4 := XT.new (o := .tup [.int (i : Nat), .ref p]) x3 ht
      refine g_gtup upd_same rfl ?_
      refine g_gcons ?_
      walk_at "g"
      refine g_gcons ?_
      walk_at "g"
      refine g_gnil ?_
      generalize upd H3 t (.tup [.int (i : Nat), .ref p]) = H4 at x4
      have ep := x4 _ _ (hT1.2 i p u hp hu)
      walk_at "g"
      refine ⟨x, p, cs, fs, ks, u, rfl, hS1.keep x4, hcs, hf9, hk9, ep, by rw [hts]; exact hum, fun H5 x5 => ?_⟩
      have x15 := XT.trans x4 x5
      have hT5 := hT1.mono fun q t e => x15 _ _ e
      walk_at "g"
      refine g_slL (SqL.of (x15 _ _ eL1)) fun A hA => ?_
      have e0 : cutV (qs.map V.ref) none (some ((i : Nat) : Int)) = (qs.take i).map V.ref := by
        rw [cut_take (by rw [List.length_map]; omega), List.map_take]
      rw [e0]
      have x6 : XT H5 (upd H5 A (.lst ((qs.take i).map V.ref))) := XT.new XT.refl hA
      have eA : (upd H5 A (.lst ((qs.take i).map V.ref))) A = some (.lst ((qs.take i).map V.ref)) := upd_same
      generalize upd H5 A (.lst ((qs.take i).map V.ref)) = H6 at x6 eA
      have hT6 : TupsAt H6 (qs.take i) (ts.take i) := ⟨by rw [List.length_take, List.length_take, hq1], fun j p u a b => by
        rw [List.getElem?_take] at a b
        by_cases hj : j < i
        · rw [if_pos hj] at a b
          exact x6 _ _ (hT5.2 j p u a b)
        · rw [if_neg hj] at a
          cases a⟩
      walk_at "g"
      refine g_inT (x6 _ _ (x5 _ _ ep)) eA hT6 (hokT u hum) (fun z hz => hokT z (List.mem_of_mem_take hz)) ?_
      rw [decide_eq_false (show ¬ u ∈ ts.take i from fun hm => by
        obtain ⟨j, hj, ej⟩ := List.mem_iff_getElem.mp hm
        rw [List.length_take] at hj
        rw [List.getElem_take] at ej
        have ha : ts[j]? = some u := by rw [List.getElem?_eq_getElem (by omega), ej]
        have : j = i := (List.getElem?_inj (List.getElem?_eq_some_iff.mp ha).1 hnd).mp (ha.trans hu.symm)
        omega)]
      walk_at "g"
      exact hnx _ _ ⟨⟨_, _, rfl⟩, XT.trans x15 x6⟩
    · rintro σ' H2 ⟨⟨s2, s3, rfl⟩, x2⟩
      have x02 := XT.trans x1 x2
      have eL2 := x2 _ _ eL1
      have hT2 := hT1.mono fun q t e => x2 _ _ e
      have hS2 := hS1.keep x2
      have ex2 := x02 _ _ ex
      clear hS hS1 eL eL1 hT1 hq2 ex x1 x2
      walk_at "g"
      refine ⟨x, dx, _, rfl, ex2, by rfl, ?_⟩
      walk_at "g"
      refine ⟨x, cs, fs, ks, rfl, hS2, fun l3 H3 x3 hl3 hC3 => ?_⟩
      obtain ⟨pc, e3, hp1, hp2⟩ := id hC3
      rw [List.length_map] at hp1
      have eL3 := x3 _ _ eL2
      have hT3 := hT2.mono fun q t e => x3 _ _ e
      have hS3 := hS2.keep x3
      have ex3 := x3 _ _ ex2
      clear hT2 hS2 ex2 eL2
      refine ⟨l3, rfl, ⟨_, SqL.of e3⟩, fun D hD => ?_⟩
      refine lc_new (pc.map V.ref) (fun i y H' => ∃ p c, y = .ref p ∧ cs[i]? = some c ∧ H' p = some (.tup (ct c))) hD (fun H2 k2 => fits_l (SqL.of (k2 _ _ e3))) (by rw [List.length_map]; omega) ?_ ?_ ?_
      · rintro i y Ha Hb ⟨zs, hz⟩ ⟨p, c, rfl, h1, h2⟩ hk
        exact ⟨p, c, rfl, h1, hk _ _ (fun z => by rw [z, hz] at h2; cases h2) h2⟩
      · intro i y Hh R S hy kh _ hR
        rw [List.getElem?_map] at hy
        obtain ⟨p, hp, rfl⟩ := Option.map_eq_some_iff.mp hy
        obtain ⟨c, hc⟩ : ∃ c, cs[i]? = some c := ⟨_, List.getElem?_eq_getElem (by have := (List.getElem?_eq_some_iff.mp hp).1; omega)⟩
        have hcm := List.mem_of_getElem? hc
        have et := kh _ _ (hp2 i p (ct c) hp (by rw [List.getElem?_map, hc]; rfl))
        refine g_gtup et rfl ?_
        refine g_gcons ?_
        walk_at "g"
        refine g_gcons ?_
        walk_at "g"
        refine g_gcons ?_
        walk_at "g"
        refine g_gnil ?_
        refine ⟨rfl, ?_⟩
        walk_at "g"
        refine ⟨by show 2 ≤ sizeLine; decide, fun a ha => ?_⟩
        have y1 : XT Hh (upd Hh a (.tup (rFil c))) := XT.new XT.refl ha
        have ea : (upd Hh a (.tup (rFil c))) a = some (.tup (rFil c)) := upd_same
        have e0 : upd Hh a (.tup [.str (Str.ofString "filled"), .str c.1]) = upd Hh a (.tup (rFil c)) := rfl
        rw [e0]
        generalize upd Hh a (.tup (rFil c)) = Hi at y1 ea
        walk_at "g"
        refine g_inT ea (y1 _ _ (kh _ _ eL3)) (hT3.mono fun q t e => y1 _ _ (kh _ _ e)) (okT_fil (hcs.nm c hcm)) hokT ?_
        rw [← hts, fil_mem hcs.nd hcm]
        walk_at "g"
        refine ⟨by show 3 ≤ sizeLine; decide, fun b hb => ?_⟩
        exact hR _ _ (XT.trans y1 (XT.new XT.refl hb)) ⟨b, c, rfl, hc, upd_same⟩
      intro H4 zs x4 eD hzl hzs
      obtain ⟨zq, rfl⟩ := refs_of (ys := zs) fun y hy => by
        obtain ⟨i, hi, e⟩ := List.mem_iff_getElem.mp hy
        obtain ⟨p, c, h1, _⟩ := hzs i y (by rw [List.getElem?_eq_getElem hi, e])
        exact ⟨p, h1⟩
      have hCL : LAt H4 D (cs.map ct) := ⟨zq, eD, by rw [List.length_map] at hzl; rw [hzl, List.length_map, List.length_map, hp1], fun i p t a b => by
        obtain ⟨p', c, h1, h2, h3⟩ := hzs i (.ref p) (by rw [List.getElem?_map, a]; rfl)
        injection h1 with h1
        rw [List.getElem?_map, h2] at b
        injection b with b
        rw [h1, ← b]
        exact h3⟩
      have eL4 := x4 _ _ eL3
      have hT4 := hT3.mono fun q t e => x4 _ _ e
      have hS4 := hS3.keep x4
      have ex4 := x4 _ _ ex3
      have x04 := XT.trans x02 (XT.trans x3 x4)
      clear hT3 hS3 ex3 eL3 hp2 e3 hC3 hzs eD x3 x4 x02
      walk_at "g"
      refine g_enumG ?_
      walk_at "g"
      refine ⟨x, dx, _, rfl, ex4, by rfl, ?_⟩
      walk_at "g"
      refine ⟨x, cs, fs, ks, rfl, hS4, fun l5 us H5 x5 hl5 el5 hR5 => ?_⟩
      have hul := hR5.len
      have hCL5 := hCL.keep x5
      have eL5 := x5 _ _ eL4
      have hT5 := hT4.mono fun q t e => x5 _ _ e
      have hS5 := hS4.keep x5
      have ex5 := x5 _ _ ex4
      have x05 := XT.trans x04 x5
      clear hT4 hS4 ex4 eL4 hCL x04 x5
      walk_at "g"
      refine ⟨l5, us.map V.ref, rfl, .inl (SqL.of el5), fun J hJ D6 hD6 => ?_⟩
      have n56 : l5 ≠ D6 := ne_of_none el5 hD6
      refine lc_enum (us.map V.ref) (fun i acc Hi => NXT D6 H5 Hi ∧ Hi D6 = some (.lst acc) ∧ acc = (us.take i).map V.ref) ⟨fun q o n h => by rw [upd_ne n]; exact h, upd_same, rfl⟩ (fun i acc Hi p => hJ Hi (by rw [p.1 _ _ n56 el5, el5])) (by rw [List.length_map]; omega) (fun i acc Hi p => ⟨p.2.1, by rw [p.2.2, List.length_map, List.length_take]; omega⟩) ?_ ?_
      · rintro i acc v t Hh R S hv ⟨kD, eD, rfl⟩ ht hR hS'
        rw [List.getElem?_map] at hv
        obtain ⟨p, hp, rfl⟩ := Option.map_eq_some_iff.mp hv
        have hil := (List.getElem?_eq_some_iff.mp hp).1
        have xh : XT H5 Hh := fun q o h => kD q o (ne_of_none h hD6) h
        refine g_gtup upd_same rfl ?_
        refine g_gcons ?_
        walk_at "g"
        refine g_gcons ?_
        walk_at "g"
        refine g_gnil ?_
        have y0 : XT Hh (upd Hh t (.tup [.int (i : Nat), .ref p])) := XT.new XT.refl ht
        generalize upd Hh t (.tup [.int (i : Nat), .ref p]) = Hi at y0
        refine ⟨rfl, ?_⟩
        walk_at "g"
        refine ⟨by show 2 ≤ sizeLine; decide, fun a ha => ?_⟩
        have y1 : XT Hi (upd Hi a (.tup (rChk i))) := XT.new XT.refl ha
        have ea : (upd Hi a (.tup (rChk i))) a = some (.tup (rChk i)) := upd_same
        have e0 : upd Hi a (.tup [.str (Str.ofString "check"), .int (i : Nat)]) = upd Hi a (.tup (rChk i)) := rfl
        rw [e0]
        generalize upd Hi a (.tup (rChk i)) = Hj at y1 ea
        have y5 := XT.trans xh (XT.trans y0 y1)
        walk_at "g"
        refine g_inT ea (y5 _ _ eL5) (hT5.mono fun q t e => y5 _ _ e) (okT_chk i) hokT ?_
        rw [← hts, chk_mem (by omega)]
        walk_at "g"
        refine hR _ _ (y1 _ _ (y0 _ _ eD)) ⟨fun q o n h => ?_, upd_same, ?_⟩
        · rw [upd_ne n]
          exact y1 _ _ (y0 _ _ (kD q o n h))
        · rw [List.take_succ, hp, List.map_append]
          rfl
      rintro acc H6 ⟨kD, eD6, rfl⟩
      rw [List.length_map, List.take_length] at eD6
      have x6 : XT H5 H6 := fun q o h => kD q o (ne_of_none h hD6) h
      have hR6 : RF (FitAt (cadr mg "Test") H6) fs us := hR5.mono fun f q h => h.keep x6
      have hCL6 := hCL5.keep x6
      have eL6 := x6 _ _ eL5
      have hT6 := hT5.mono fun q t e => x6 _ _ e
      have hS6 := hS5.keep x6
      have ex6 := x6 _ _ ex5
      have x06 := XT.trans x05 x6
      clear hT5 hS5 ex5 eL5 hCL5 hR5 x05 kD x6 el5
      walk_at "g"
      refine g_enumG ?_
      walk_at "g"
      refine ⟨x, dx, _, rfl, ex6, by rfl, ?_⟩
      walk_at "g"
      refine ⟨x, cs, fs, ks, rfl, hS6, fun l7 ys H7 x7 hl7 el7 hK7 => ?_⟩
      have hyl := hK7.1
      have hR7 : RF (FitAt (cadr mg "Test") H7) fs us := hR6.mono fun f q h => h.keep x7
      have eD7 := x7 _ _ eD6
      have hCL7 := hCL6.keep x7
      have eL7 := x7 _ _ eL6
      have hT7 := hT6.mono fun q t e => x7 _ _ e
      have x07 := XT.trans x06 x7
      clear hT6 hS6 ex6 eL6 hCL6 hR6 eD6 x06 x7
      walk_at "g"
      refine ⟨l7, ys, rfl, .inl (SqL.of el7), fun J2 hJ2 D8 hD8 => ?_⟩
      have n78 : l7 ≠ D8 := ne_of_none el7 hD8
      refine lc_enum ys (fun i acc Hi => NXT D8 H7 Hi ∧ Hi D8 = some (.lst acc) ∧ acc = ys.take i) ⟨fun q o n h => by rw [upd_ne n]; exact h, upd_same, rfl⟩ (fun i acc Hi p => hJ2 Hi (by rw [p.1 _ _ n78 el7, el7])) (by omega) (fun i acc Hi p => ⟨p.2.1, by rw [p.2.2, List.length_take]; omega⟩) ?_ ?_
      · rintro i acc v t Hh R S hv ⟨kD, eD, rfl⟩ ht hR hS'
        have hil := (List.getElem?_eq_some_iff.mp hv).1
        have xh : XT H7 Hh := fun q o h => kD q o (ne_of_none h hD8) h
        refine g_gtup upd_same rfl ?_
        refine g_gcons ?_
        walk_at "g"
        refine g_gcons ?_
        walk_at "g"
        refine g_gnil ?_
        have y0 : XT Hh (upd Hh t (.tup [.int (i : Nat), v])) := XT.new XT.refl ht
        generalize upd Hh t (.tup [.int (i : Nat), v]) = Hi at y0
        refine ⟨rfl, ?_⟩
        walk_at "g"
        refine ⟨by show 2 ≤ sizeLine; decide, fun a ha => ?_⟩
        have y1 : XT Hi (upd Hi a (.tup (rKey i))) := XT.new XT.refl ha
        have ea : (upd Hi a (.tup (rKey i))) a = some (.tup (rKey i)) := upd_same
        have e0 : upd Hi a (.tup [.str (Str.ofString "key"), .int (i : Nat)]) = upd Hi a (.tup (rKey i)) := rfl
        rw [e0]
        generalize upd Hi a (.tup (rKey i)) = Hj at y1 ea
        have y5 := XT.trans xh (XT.trans y0 y1)
        walk_at "g"
        refine g_inT ea (y5 _ _ eL7) (hT7.mono fun q t e => y5 _ _ e) (okT_key i) hokT ?_
        rw [← hts, key_mem (by omega)]
        walk_at "g"
        refine hR _ _ (y1 _ _ (y0 _ _ eD)) ⟨fun q o n h => ?_, upd_same, ?_⟩
        · rw [upd_ne n]
          exact y1 _ _ (y0 _ _ (kD q o n h))
        · rw [List.take_succ, hv]
          rfl
      rintro acc H8 ⟨kD, eD8, rfl⟩
      rw [List.take_length] at eD8
      have x8 : XT H7 H8 := fun q o h => kD q o (ne_of_none h hD8) h
      have x08 := XT.trans x07 x8
      walk_at "g"
      refine g_newKX ?_
      walk_at "g"
      refine ⟨rfl, rfl, fun y dy h1 h2 h3 => ?_⟩
      show spInit (cadr mg "Shape") (cadr mg "Test") (cadr mg "BadShape") [.ref y, .ref D, .ref D6, .ref D8] (upd (upd H8 dy (.own y)) y (.ins (cadr mg "Shape") dy [])) _ _
      have x9 : XT H8 (upd (upd H8 dy (.own y)) y (.ins (cadr mg "Shape") dy [])) := xt_new2 h1 h2 h3
      have ey : (upd (upd H8 dy (.own y)) y (.ins (cadr mg "Shape") dy [])) y = some (.ins (cadr mg "Shape") dy []) := upd_same
      generalize upd (upd H8 dy (.own y)) y (.ins (cadr mg "Shape") dy []) = H9 at x9 ey
      have x79 := XT.trans x8 x9
      refine init_good ok ey (hCL7.keep x79).ls (.inl (x79 _ _ eD7)) (hR7.mono fun f q h => h.keep x79) (.inl (x9 _ _ eD8)) (hK7.mono fun v k h => (h.keep x79).inp) fun H' n hS => ⟨rfl, ?_⟩
      walk_at "g"
      exact q y H' (XT.trans x08 (xt_made h1 x9 n)) hS
end
/-! copies of a shape, side by side -/
theorem lc2_rng {σ : L2.St} {g g1 : TG} {tt tt1 : TT} {te : TE} {wi1 : TI} {vs vs1 : List Nat} {H1 : Hp} {D : Addr} {Qd : Hp → Prop} (lo : Int) (n : Nat) (Pv : Nat → Hp → Prop) (h0 : Pv 0 (upd H1 D (.lst [])))
    (hs : ∀ i Hh (R : L2.St → It → Hp → Prop) (S : Hp → Prop), i < n → Pv i Hh →
      (∀ σ2 J1 H', (∃ (ys : List V) (PW : Nat → Hp → Prop), PW 0 H' ∧ (∀ j H, j ≤ ys.length → PW j H → Fits J1 ys H) ∧
        (∀ j y Hk (R1 : V → Hp → Prop) (S1 : Hp → Prop), ys[j]? = some y → PW j Hk → (∀ z H4 acc, H4 D = some (.lst acc) → acc.length < sizeLine → PW (j + 1) (upd H4 D (.lst (acc ++ [z]))) → R1 z H4) → g1 y (wipe σ2 vs1) Hk fun σ3 H5 => wipe σ3 vs1 = wipe σ2 vs1 ∧ tt1 σ3 H5 fun b H6 => if b = true then te σ3 H6 R1 else S1 H6) ∧
        ∀ H, PW ys.length H → Pv (i + 1) H) → R σ2 J1 H') →
      g (.int (lo + (i : Nat))) (wipe σ vs) Hh fun σ2 H2 => wipe σ2 vs = wipe σ vs ∧ tt σ2 H2 fun b H3 => if b = true then wi1 σ2 H3 (R σ2) else S H3)
    (hd : ∀ H, Pv n H → Qd H) :
    ∃ W : Nat → Nat → Hp → Prop, (∃ m, W 0 m (upd H1 D (.lst []))) ∧ ∀ i m H, W i m H →
      ((Itr lo n).stop i H ∧ Qd H) ∨ ((Itr lo n).go i H ∧ ∃ Nx : Hp → Prop, (∀ H', Nx H' → ∃ m', m' < m ∧ W (i + 1) m' H') ∧ ∀ x H', (Itr lo n).yld i H x H' → g x (wipe σ vs) H' fun σ2 H2 => wipe σ2 vs = wipe σ vs ∧ tt σ2 H2 fun b H3 =>
        if b = true then wi1 σ2 H3 fun J1 H4 => ∃ W1 : Nat → Nat → Hp → Prop, (∃ m, W1 0 m H4) ∧ ∀ j k H, W1 j k H →
          (J1.stop j H ∧ Nx H) ∨ (J1.go j H ∧ ∃ Nx1 : Hp → Prop, (∀ H', Nx1 H' → ∃ k', k' < k ∧ W1 (j + 1) k' H') ∧ ∀ x H', J1.yld j H x H' → g1 x (wipe σ2 vs1) H' fun σ3 H5 => wipe σ3 vs1 = wipe σ2 vs1 ∧ tt1 σ3 H5 fun b H6 =>
            if b = true then te σ3 H6 fun y H7 => ∃ acc, H7 D = some (.lst acc) ∧ acc.length < sizeLine ∧ Nx1 (upd H7 D (.lst (acc ++ [y]))) else Nx1 H6)
        else Nx H3) := by
  refine ⟨fun i m H => m = n - i ∧ i ≤ n ∧ Pv i H, ⟨n, by simp, Nat.zero_le _, h0⟩, ?_⟩
  rintro i m H ⟨rfl, hi, p⟩
  by_cases hlt : i < n
  · refine .inr ⟨hlt, Pv (i + 1), fun H' w => ⟨n - (i + 1), by omega, rfl, hlt, w⟩, ?_⟩
    rintro x H' ⟨rfl, rfl⟩
    refine hs i _ _ (Pv (i + 1)) hlt p ?_
    rintro σ2 J1 H4 ⟨ys, PW, w0, hf, hstep, hend⟩
    refine ⟨fun j k H => k = ys.length - j ∧ j ≤ ys.length ∧ PW j H, ⟨ys.length, by simp, Nat.zero_le _, w0⟩, ?_⟩
    rintro j k Hj ⟨rfl, hj, q⟩
    have fj := hf j Hj hj q
    by_cases hjl : j < ys.length
    · refine .inr ⟨fj.go j hjl, PW (j + 1), fun H' w => ⟨ys.length - (j + 1), by omega, rfl, hjl, w⟩, ?_⟩
      intro y Hy hyy
      obtain ⟨rfl, hyx⟩ := fj.yld j y Hy hyy
      exact hstep j y _ _ (PW (j + 1)) hyx q fun z H4 acc e l w => ⟨acc, e, l, w⟩
    · have e : j = ys.length := by omega
      subst e
      exact .inl ⟨fj.stop _ (Nat.le_refl _), hend Hj q⟩
  · have e : i = n := by omega
    subst e
    exact .inl ⟨Nat.le_refl _, hd H p⟩
def sufC (i : Nat) (c : Col) : Col := (suf i c.1, c.2)
def copyCs (cs : List Col) (n : Nat) : List Col := (List.range n).flatMap fun i => cs.map (sufC (i + 1))
def copyFs (fs : List Fm) (n : Nat) : List Fm := (List.range n).flatMap fun i => fs.map (Fm.move (suf (i + 1)))
theorem copyCs_succ (cs : List Col) (n : Nat) : copyCs cs (n + 1) = copyCs cs n ++ cs.map (sufC (n + 1)) := by
  unfold copyCs
  rw [List.range_succ, List.flatMap_append, List.flatMap_cons, List.flatMap_nil, List.append_nil]
theorem copyFs_succ (fs : List Fm) (n : Nat) : copyFs fs (n + 1) = copyFs fs n ++ fs.map (Fm.move (suf (n + 1))) := by
  unfold copyFs
  rw [List.range_succ, List.flatMap_append, List.flatMap_cons, List.flatMap_nil, List.append_nil]
theorem copyCs_len (cs : List Col) : ∀ n, (copyCs cs n).length = n * cs.length
  | 0 => by simp [copyCs]
  | n + 1 => by rw [copyCs_succ, List.length_append, copyCs_len cs n, List.length_map, Nat.succ_mul]
theorem copyFs_len (fs : List Fm) : ∀ n, (copyFs fs n).length = n * fs.length
  | 0 => by simp [copyFs]
  | n + 1 => by rw [copyFs_succ, List.length_append, copyFs_len fs n, List.length_map, Nat.succ_mul]
theorem mem_copyCs {cs : List Col} {n : Nat} {c : Col} : c ∈ copyCs cs n ↔ ∃ i, i < n ∧ ∃ d ∈ cs, sufC (i + 1) d = c := by
  unfold copyCs
  simp only [List.mem_flatMap, List.mem_range, List.mem_map]
theorem mem_copyFs {fs : List Fm} {n : Nat} {f : Fm} : f ∈ copyFs fs n ↔ ∃ i, i < n ∧ ∃ g ∈ fs, g.move (suf (i + 1)) = f := by
  unfold copyFs
  simp only [List.mem_flatMap, List.mem_range, List.mem_map]
theorem copy_nd {cs : List Col} (nd : (cs.map (·.1)).Nodup) : ∀ n, n ≤ 9 → ((copyCs cs n).map (·.1)).Nodup
  | 0, _ => List.nodup_nil
  | n + 1, h => by
    rw [copyCs_succ, List.map_append]
    refine List.nodup_append.mpr ⟨copy_nd nd n (by omega), ?_, fun a ha b hb e => ?_⟩
    · rw [List.map_map]
      rw [show ((fun x : Col => x.1) ∘ sufC (n + 1)) = (suf (n + 1)) ∘ (fun x : Col => x.1) from rfl, ← List.map_map]
      exact map_nodup (fun _ _ e => suf_inj _ _ _ e) nd
    · obtain ⟨c, hc, rfl⟩ := List.mem_map.mp ha
      obtain ⟨i, hi, d, hd, rfl⟩ := mem_copyCs.mp hc
      obtain ⟨c', hc', rfl⟩ := List.mem_map.mp hb
      obtain ⟨d', hd', rfl⟩ := List.mem_map.mp hc'
      have := (suf_inj2 (by omega) (by omega) (show suf (i + 1) d.1 = suf (n + 1) d'.1 from e)).1
      omega
theorem small_parts {cs : List Col} {fs : List Fm} {ks : List Ky} (h : smallB cs fs ks = true) : cs.length ≤ 4 ∧ (∀ c ∈ cs, c.1.length ≤ 7) ∧ fs.length ≤ 3 := by
  unfold smallB at h
  simp only [Bool.and_eq_true, decide_eq_true_eq, List.all_eq_true] at h
  exact ⟨h.1, h.2.1, h.2.2.1⟩
/-- the copies make a shape -/
theorem copy_ok {cs : List Col} {fs : List Fm} {n : Nat} (hc : ColsOk cs) (hG : ∀ f ∈ fs, GF (k2 cs) f) (h4 : cs.length ≤ 4) (h7 : ∀ c ∈ cs, c.1.length ≤ 7) (h3 : fs.length ≤ 3) (n1 : 1 ≤ n) (n3 : n ≤ 3) : ColsOk (copyCs cs n) ∧ (copyFs fs n).length ≤ 9 ∧ ∀ f ∈ copyFs fs n, GF (k2 (copyCs cs n)) f := by
  have nd := copy_nd hc.nd n (by omega)
  refine ⟨⟨?_, ?_, fun c h => ?_, nd⟩, ?_, fun f hf => ?_⟩
  · rw [copyCs_len]
    have := hc.ne
    exact Nat.le_trans (by omega) (Nat.mul_le_mul n1 this)
  · rw [copyCs_len]
    exact Nat.le_trans (Nat.mul_le_mul n3 h4) (by decide)
  · obtain ⟨i, hi, d, hd, rfl⟩ := mem_copyCs.mp h
    exact suf_name (by omega) (hc.nm d hd) (h7 d hd)
  · rw [copyFs_len]
    exact Nat.le_trans (Nat.mul_le_mul n3 h3) (by decide)
  · obtain ⟨i, hi, g, hg, rfl⟩ := mem_copyFs.mp hf
    have G := hG g hg
    refine ⟨?_, ?_, by rw [Fm.move_depth]; exact G.dp, by rw [Fm.move_size]; exact G.sz⟩
    · refine Fm.suf_wf (fun c k m => ?_) (suf_inj _) G.wf
      obtain ⟨d, hd, e⟩ := List.mem_map.mp m
      injection e with e1 e2
      refine ⟨?_, List.mem_map.mpr ⟨sufC (i + 1) d, mem_copyCs.mpr ⟨i, hi, d, hd, rfl⟩, ?_⟩⟩
      · rw [← e1]
        exact suf_name (by omega) (hc.nm d hd) (h7 d hd)
      · show (suf (i + 1) d.1, d.2.1) = _
        rw [e1, e2]
    · refine Fm.suf_kd (fun c k m => ?_) G.kd
      obtain ⟨y, hy, e⟩ := List.mem_map.mp m
      obtain ⟨j, hj, d, hd, rfl⟩ := mem_copyCs.mp hy
      injection e with e1 e2
      obtain ⟨_, e3⟩ := suf_inj2 (by omega) (by omega) (show suf (j + 1) d.1 = suf (i + 1) c from e1)
      exact List.mem_map.mpr ⟨d, hd, by rw [← e3, ← e2]; rfl⟩
theorem RF.of_at {R : Fm → Addr → Prop} : ∀ {fs : List Fm} {us : List Addr}, us.length = fs.length → (∀ (i : Nat) q f, us[i]? = some q → fs[i]? = some f → R f q) → RF R fs us
  | [], [], _, _ => .nil
  | [], _ :: _, h, _ => nomatch h
  | _ :: _, [], h, _ => nomatch h
  | f :: fs, q :: us, h, k => .cons (k 0 q f rfl rfl) (RF.of_at (by simpa using h) fun i q f a b => k (i + 1) q f (by simpa using a) (by simpa using b))
theorem FitAt.moved {C : Addr} {H : Hp} {cs : List Col} {f : Fm} {q : Addr} (h : TestAt C H f.ts q) (g : GF (k2 cs) f) : FitAt C H f q := ⟨h, ⟨_, g.wf⟩, g.dp, g.sz⟩
def spCopies (CS C CB : Addr) : Sp := fun vs H Q E => ∃ (x : Addr) (cs : List Col) (fs : List Fm) (ks : List Ky) (n : Nat), vs = [.ref x, .int n] ∧ 1 ≤ n ∧ n ≤ 3 ∧ ShpAt CS C H cs fs ks x ∧ ColsOk cs ∧ (∀ f ∈ fs, GF (k2 cs) f) ∧ fs.length ≤ 9 ∧ ks.length ≤ 9 ∧
  (smallB cs fs ks = true → ∀ y H', XT H H' → ShpAt CS C H' (copyCs cs n) (copyFs fs n) [] y → Q (.ref y) H') ∧ (smallB cs fs ks = false → ∀ d H', XT H H' → H' d = some (xwhy "shape") → E (.ref CB) (some d) H')
section
variable {P : Program} {w : World} {K : PySem.W.Frag} {mg : Str → Option Value} {base : Heap}
theorem ok_copies (T : Txt K mg) : DefX P w K mg base 22 "copies" ["shape", "n"] (spCopies (cadr mg "Shape") (cadr mg "Test") (cadr mg "BadClaim")) := by
  have ok_Shape_init : ∀ (_ : Txt K mg), DefC1X P w K mg base 17 (cadr mg "Shape") ["self", "columns", "checks", "keys"] 1 "checks" "keys" (spInitD K (cadr mg "Shape") (cadr mg "Test")) := fun _ => ok_Shape_init_D T
  obtain ⟨f, fd, h⟩ := T.d_copies
  refine h.defX (Fun.okMX h.fn sc_copies (fun vs H Q E h => ?_) (fun cdv A outer s H vs Q E hr h => ?_))
  · obtain ⟨x, cs, fs, ks, n, rfl, _⟩ := h
    rfl
  · obtain ⟨x, cs, fs, ks, n, rfl, n1, n3, hS, hcs, hG, hf9, hk9, kQ, kE⟩ := h
    obtain ⟨dx, t0, D0, tc0, tk0, kvs0, qs0, us0, ys0, ex, _⟩ := hS.ex
    refine ⟨_, (pss_cons (ps_expr (pe_defX (takes_of rfl rfl rfl rfl) (ok_need_small T) hr rfl (pa_cons (pv 0) pa_nil)))
  (pss_cons (ps_setLc2 (i := 2) (own := [("i", 4), ("name", 5), ("kind", 6), ("filled", 7)]) (vs1 := [5, 6, 7]) rfl sc_copies.nd rfl rfl (sw_true rfl rfl rfl (by decide +kernel)) (pi_range2 rfl T.h_range (pa_cons pe_int (pa_cons (pe_op op_addG (pv 1) pe_int) pa_nil))) (blkOk_by (N := N_copies) (sc := defScope S_copies) (by decide +kernel)) (by decide) (fun _ _ _ _ _ => pg_name (i := 4) sc_copies.nd rfl (Or.inl rfl)) (fun _ _ _ _ _ => pts_nil) (fun _ _ _ _ _ => (pi_listG (K := K) rfl (pe_me0 (pv 0) T.cl_Shape (ok_Shape_columns T) hr))) (fun _ _ _ _ _ => (pg_tupG (K := K) (n := 3) rfl rfl (pgs_cons (pg_name (i := 5) sc_copies.nd rfl (Or.inl rfl)) (pgs_cons (pg_name (i := 6) sc_copies.nd rfl (Or.inl rfl)) (pgs_cons (pg_name (i := 7) sc_copies.nd rfl (Or.inl rfl)) pgs_nil))))) (fun _ _ _ _ _ => pts_nil) (fun _ _ _ _ _ => (pe_tup (pa_cons (pe_def (ok_numbered T) hr rfl (pa_cons (pv 5) (pa_cons (pv 4) pa_nil))) (pa_cons (pv 6) (pa_cons (pv 7) pa_nil))))))
  (pss_cons (ps_setLc2 (i := 3) (own := [("i", 4), ("test", 8)]) (vs1 := [8]) rfl sc_copies.nd rfl rfl (sw_true rfl rfl rfl (by decide +kernel)) (pi_range2 rfl T.h_range (pa_cons pe_int (pa_cons (pe_op op_addG (pv 1) pe_int) pa_nil))) (blkOk_by (N := N_copies) (sc := defScope S_copies) (by decide +kernel)) (by decide) (fun _ _ _ _ _ => pg_name (i := 4) sc_copies.nd rfl (Or.inl rfl)) (fun _ _ _ _ _ => pts_nil) (fun _ _ _ _ _ => (pi_listG (K := K) rfl (pe_me0 (pv 0) T.cl_Shape (ok_Shape_checks T) hr))) (fun _ _ _ _ _ => pg_name (i := 8) sc_copies.nd rfl (Or.inl rfl)) (fun _ _ _ _ _ => pts_nil) (fun _ _ _ _ _ => (pe_def (ok_copy_test T) hr rfl (pa_cons (pv 8) (pa_cons (pv 4) pa_nil)))))
  (pss_one (ps_ret (pe_newC1 (K := K) (takes_of rfl rfl rfl rfl) rfl (ok_Shape_init T) hr rfl T.e_Shape (pa_cons (pv 2) pa_nil) (pv 3))))))), ?_⟩
    walk_at "g"
    refine ⟨x, cs, fs, ks, rfl, hS, hcs, hf9, hk9, fun hs H1 x1 => ?_, kE⟩
    obtain ⟨h4, h7, h3⟩ := small_parts hs
    obtain ⟨cok, cfl, cG⟩ := copy_ok hcs hG h4 h7 h3 n1 n3
    have hS1 := hS.keep x1
    have ex1 := x1 _ _ ex
    have hle := hcs.le
    walk_at "g"
    refine g_rng2 ?_
    walk_at "g"
    refine ⟨_, _, rfl, ⟨by decide, by decide, by omega, by omega⟩, fun D hD => ?_⟩
    rw [show ((n : Int) + 1 - 1).toNat = n by omega]
    refine lc2_rng 1 n (fun i Hi => NXT D H1 Hi ∧ ∃ qs, Hi D = some (.lst (qs.map V.ref)) ∧ TupsAt Hi qs ((copyCs cs i).map ct)) ⟨fun q o n h => by rw [upd_ne n]; exact h, [], upd_same, TupsAt.nil⟩ ?_ ?_
    · rintro i Hh R S hi ⟨kD, qs, eD, hT⟩ turn
      have xh : XT H1 Hh := fun q o h => kD q o (ne_of_none h hD) h
      walk_at "g"
      refine ⟨rfl, ?_⟩
      walk_at "g"
      refine ⟨x, dx, _, rfl, xh _ _ ex1, by rfl, ?_⟩
      walk_at "g"
      refine ⟨x, cs, fs, ks, rfl, hS1.keep xh, fun l2 H2 x2 hl2 hC2 => ?_⟩
      obtain ⟨pc, e2, hp1, hp2⟩ := id hC2
      rw [List.length_map] at hp1
      have nl2 : l2 ≠ D := fun z => by rw [z, eD] at hl2; cases hl2
      have hql := hT.1
      rw [List.length_map, copyCs_len] at hql
      have hmul : i * cs.length ≤ 12 := Nat.le_trans (Nat.mul_le_mul (show i ≤ 3 by omega) h4) (by decide)
      refine ⟨l2, rfl, ⟨_, SqL.of e2⟩, turn _ _ _ ⟨pc.map V.ref, fun j Hi => NXT D H2 Hi ∧ ∃ qs, Hi D = some (.lst (qs.map V.ref)) ∧ TupsAt Hi qs ((copyCs cs i ++ (cs.take j).map (sufC (i + 1))).map ct), ⟨fun q o _ h => h, qs, x2 _ _ eD, ?_⟩, fun j H hj p => fits_l (SqL.of (p.1 _ _ nl2 e2)), ?_, ?_⟩⟩
      · rw [List.take_zero, List.map_nil, List.append_nil]
        exact hT.mono fun q t e => x2 _ _ e
      · rintro j y Hk R1 S1 hy ⟨kD2, qs2, eD2, hT2⟩ r
        rw [List.getElem?_map] at hy
        obtain ⟨p, hp, rfl⟩ := Option.map_eq_some_iff.mp hy
        obtain ⟨c, hc⟩ : ∃ c, cs[j]? = some c := ⟨_, List.getElem?_eq_getElem (by have := (List.getElem?_eq_some_iff.mp hp).1; omega)⟩
        have hcm := List.mem_of_getElem? hc
        have hjl := (List.getElem?_eq_some_iff.mp hc).1
        have h7c := h7 c hcm
        have et0 := hp2 j p (ct c) hp (by rw [List.getElem?_map, hc]; rfl)
        have et := kD2 _ _ (fun z => by rw [z, x2 _ _ eD] at et0; cases et0) et0
        have hq2 := hT2.1
        rw [List.length_map, List.length_append, List.length_map, List.length_take, copyCs_len] at hq2
        refine g_gtup et rfl ?_
        refine g_gcons ?_
        walk_at "g"
        refine g_gcons ?_
        walk_at "g"
        refine g_gcons ?_
        walk_at "g"
        refine g_gnil ?_
        refine ⟨rfl, ?_⟩
        walk_at "g"
        refine ⟨c.1, i + 1, by rw [show (1 : Int) + ((i : Nat) : Int) = ((i + 1 : Nat) : Int) by omega], by omega, by omega, ?_⟩
        walk_at "g"
        refine ⟨by show 3 ≤ sizeLine; decide, fun a ha => ?_⟩
        have nDa : D ≠ a := ne_of_none eD2 ha
        have eD3 : (upd Hk a (.tup (ct (sufC (i + 1) c)))) D = some (.lst (qs2.map V.ref)) := by rw [upd_ne nDa]; exact eD2
        have e0 : upd Hk a (.tup [.str (suf (i + 1) c.1), .str (kS c.2.1), .bl c.2.2]) = upd Hk a (.tup (ct (sufC (i + 1) c))) := rfl
        rw [e0]
        refine r _ _ _ eD3 (by rw [List.length_map, sizeLine_eq]; omega) ⟨fun q o n h => ?_, qs2 ++ [a], by rw [upd_same, List.map_append]; rfl, ?_⟩
        · rw [upd_ne n, upd_ne (ne_of_none (kD2 q o n h) ha)]
          exact kD2 q o n h
        · rw [show (copyCs cs i ++ (cs.take (j + 1)).map (sufC (i + 1))).map ct = (copyCs cs i ++ (cs.take j).map (sufC (i + 1))).map ct ++ [ct (sufC (i + 1) c)] from by rw [List.take_succ, hc]; simp]
          refine (hT2.mono fun q t e => ?_).snoc ?_
          · rw [upd_ne (fun z => by rw [z, eD2] at e; cases e), upd_ne (ne_of_none e ha)]
            exact e
          · rw [upd_ne (Ne.symm nDa)]
            exact upd_same
      · rintro H3 ⟨kD2, qs2, eD2, hT2⟩
        rw [List.length_map, hp1, List.take_length, ← copyCs_succ] at hT2
        exact ⟨fun q o n h => kD2 q o n (x2 _ _ (kD q o n h)), qs2, eD2, hT2⟩
    rintro H2 ⟨kD, qs, eD, hT⟩
    have x2 : XT H1 H2 := fun q o h => kD q o (ne_of_none h hD) h
    have hS2 := hS1.keep x2
    have ex2 := x2 _ _ ex1
    have hCL : LAt H2 D ((copyCs cs n).map ct) := hT.lat eD
    have x02 := XT.trans x1 x2
    clear hS hS1 ex ex1 kD hT eD x1 x2
    walk_at "g"
    refine g_rng2 ?_
    walk_at "g"
    refine ⟨_, _, rfl, ⟨by decide, by decide, by omega, by omega⟩, fun D3 hD3 => ?_⟩
    rw [show ((n : Int) + 1 - 1).toNat = n by omega]
    refine lc2_rng 1 n (fun i Hi => NXT D3 H2 Hi ∧ ∃ qs, Hi D3 = some (.lst (qs.map V.ref)) ∧ RF (fun f q => TestAt (cadr mg "Test") Hi f.ts q) (copyFs fs i) qs) ⟨fun q o n h => by rw [upd_ne n]; exact h, [], upd_same, .nil⟩ ?_ ?_
    · rintro i Hh R S hi ⟨kD, qs, eD, hT⟩ turn
      have xh : XT H2 Hh := fun q o h => kD q o (ne_of_none h hD3) h
      walk_at "g"
      refine ⟨rfl, ?_⟩
      walk_at "g"
      refine ⟨x, dx, _, rfl, xh _ _ ex2, by rfl, ?_⟩
      walk_at "g"
      refine ⟨x, cs, fs, ks, rfl, hS2.keep xh, fun l4 us H4 x4 hl4 el4 hR4 => ?_⟩
      have hul := hR4.len
      have nl4 : l4 ≠ D3 := fun z => by rw [z, eD] at hl4; cases hl4
      have hmul : i * fs.length ≤ 9 := Nat.le_trans (Nat.mul_le_mul (show i ≤ 3 by omega) h3) (by decide)
      refine ⟨l4, rfl, ⟨_, SqL.of el4⟩, turn _ _ _ ⟨us.map V.ref, fun j Hi => NXT D3 H4 Hi ∧ ∃ qs, Hi D3 = some (.lst (qs.map V.ref)) ∧ RF (fun f q => TestAt (cadr mg "Test") Hi f.ts q) (copyFs fs i ++ (fs.take j).map (Fm.move (suf (i + 1)))) qs, ⟨fun q o _ h => h, qs, x4 _ _ eD, ?_⟩, fun j H hj p => fits_l (SqL.of (p.1 _ _ nl4 el4)), ?_, ?_⟩⟩
      · rw [List.take_zero, List.map_nil, List.append_nil]
        exact hT.mono fun f q e => TestAt.keep x4 e
      · rintro j y Hk R1 S1 hy ⟨kD2, qs2, eD2, hT2⟩ r
        rw [List.getElem?_map] at hy
        obtain ⟨p, hp, rfl⟩ := Option.map_eq_some_iff.mp hy
        obtain ⟨f, hf, hF⟩ := hR4.at hp
        have hfm := List.mem_of_getElem? hf
        have hjl := (List.getElem?_eq_some_iff.mp hf).1
        have hq2 := hT2.len
        rw [List.length_append, List.length_map, List.length_take, copyFs_len] at hq2
        have nl : ∀ o, H4 D3 = some o → (∀ dx l, o = .ins (cadr mg "Test") dx l → l = []) ∧ ∀ l, o ≠ .tup l := fun o h => by
          rw [x4 _ _ eD] at h
          cases h
          exact ⟨(fun _ _ e => nomatch e), fun _ e => nomatch e⟩
        have hTe := TestAt.keepN (p := D3) kD2 nl hF.te
        walk_at "g"
        refine ⟨rfl, ?_⟩
        walk_at "g"
        refine ⟨p, i + 1, f, k2 cs, by rw [show (1 : Int) + ((i : Nat) : Int) = ((i + 1 : Nat) : Int) by omega], hTe, (hG f hfm).wf, hF.dp, hF.sz, by omega, fun c hc => ?_, fun q H5 x5 hT5 => ?_⟩
        · obtain ⟨y, hy, e⟩ := List.mem_map.mp (Fm.cols_in (hG f hfm).wf c hc)
          obtain ⟨d, hd, e2⟩ := List.mem_map.mp hy
          have : c = d.1 := by rw [← e, ← e2]
          rw [this]
          exact ⟨hcs.nm d hd, h7 d hd⟩
        have eD5 := x5 _ _ eD2
        refine r _ _ _ eD5 (by rw [List.length_map, hq2, sizeLine_eq]; omega) ⟨fun q o n h => ?_, qs2 ++ [q], by rw [upd_same, List.map_append]; rfl, ?_⟩
        · rw [upd_ne n]
          exact x5 _ _ (kD2 q o n h)
        · rw [show copyFs fs i ++ (fs.take (j + 1)).map (Fm.move (suf (i + 1))) = (copyFs fs i ++ (fs.take j).map (Fm.move (suf (i + 1)))) ++ [f.move (suf (i + 1))] from by rw [List.take_succ, hf]; simp]
          have kk : ∀ b o, b ≠ D3 → H5 b = some o → (upd H5 D3 (.lst (qs2.map V.ref ++ [.ref q]))) b = some o := fun b o n h => by rw [upd_ne n]; exact h
          have nn : ∀ o, H5 D3 = some o → (∀ dx l, o = .ins (cadr mg "Test") dx l → l = []) ∧ ∀ l, o ≠ .tup l := fun o h => by
            rw [eD5] at h
            cases h
            exact ⟨(fun _ _ e => nomatch e), fun _ e => nomatch e⟩
          exact (hT2.mono fun f q e => (TestAt.keep x5 e).keepN kk nn).app (.cons (hT5.keepN kk nn) .nil)
      · rintro H5 ⟨kD2, qs2, eD2, hT2⟩
        rw [List.length_map, hul, List.take_length, ← copyFs_succ] at hT2
        exact ⟨fun q o n h => kD2 q o n (x4 _ _ (kD q o n h)), qs2, eD2, hT2⟩
    rintro H4 ⟨kD, qs, eD, hT⟩
    have x4 : XT H2 H4 := fun q o h => kD q o (ne_of_none h hD3) h
    have x04 := XT.trans x02 x4
    have hCL4 := hCL.keep x4
    have hRF : RF (FitAt (cadr mg "Test") H4) (copyFs fs n) qs := by
      refine RF.of_at hT.len fun i q f hq hf => ?_
      obtain ⟨f', hf', hT'⟩ := hT.at hq
      rw [hf] at hf'
      injection hf' with hf'
      subst hf'
      exact FitAt.moved hT' (cG f (List.mem_of_getElem? hf))
    walk_at "g"
    refine g_newC1 fun d2 hd2 => ?_
    walk_at "g"
    refine ⟨rfl, rfl, fun y dy h1 h2 h3 => ?_⟩
    show spInitD K (cadr mg "Shape") (cadr mg "Test") [.ref y, .ref D, .ref D3, .ref d2] (upd (upd H4 dy (.own y)) y (.ins (cadr mg "Shape") dy [])) _ _
    have x9 : XT H4 (upd (upd H4 dy (.own y)) y (.ins (cadr mg "Shape") dy [])) := xt_new2 h1 h2 h3
    have ey : (upd (upd H4 dy (.own y)) y (.ins (cadr mg "Shape") dy [])) y = some (.ins (cadr mg "Shape") dy []) := upd_same
    generalize upd (upd H4 dy (.own y)) y (.ins (cadr mg "Shape") dy []) = H9 at x9 ey
    refine ⟨y, D, D3, d2, dy, copyCs cs n, copyFs fs n, qs, rfl, ey, (hCL4.keep x9).ls, cok, .inl (x9 _ _ eD), hRF.mono fun f q h => h.keep x9, cfl, hd2, fun f hf => Fm.fits_of cok.nd (fun x h => h) (cG f hf).wf (cG f hf).kd, fun H' n' hS' => ⟨rfl, ?_⟩⟩
    walk_at "g"
    exact kQ hs y H' (XT.trans x04 (xt_made h1 x9 n')) hS'
end
section
variable {P : Program} {w : World} {K : PySem.W.Frag} {mg : Str → Option Value} {base : Heap}
theorem ok_always (T : Txt K mg) : Def P w K mg base 4 "always" [] (fun vs H Q _ => vs = [] ∧ ∀ t H', (∀ q o, H q = some o → H' q = some o) → TestAt (cadr mg "Test") H' At.always.ts t → Q (.ref t) H') := by
  obtain ⟨f, fd, h⟩ := T.d_always
  refine h.def (Fun.okM h.fn sc_always (fun vs H Q E h => ?_) (fun cdv A outer s H vs Q E hr h => ?_))
  · obtain ⟨rfl, _⟩ := h
    rfl
  · obtain ⟨rfl, k⟩ := h
    refine ⟨_, (pss_one (ps_ret (pe_new (ok_Test_init T) hr rfl T.e_Test (pa_cons pe_str (pa_cons (pe_tup pa_nil) (pa_cons (pe_tup pa_nil) (pa_cons (pe_tup pa_nil) pa_nil))))))), ?_⟩
    walk_at "g"
    refine ⟨Nat.zero_le _, fun i hi => ?_⟩
    walk_at "g"
    refine ⟨by show 0 ≤ sizeLine; decide, fun f hf => ?_⟩
    walk_at "g"
    refine ⟨by show 0 ≤ sizeLine; decide, fun u hu => ?_⟩
    walk_at "g"
    intro x dx hx hdx hne
    have hi2 : ∀ y0 : HO, (upd (upd (upd (upd (upd H i (.tup [])) f (.tup [])) u (.tup [])) dx (.own x)) x y0) i = some (.tup []) := fun y0 => by
      have h1 : (upd (upd (upd H i (.tup [])) f (.tup [])) u (.tup [])) i = some (.tup []) := by rw [upd_ne (ne_of_none (by rw [upd_ne (ne_of_none upd_same hf)]; exact upd_same) hu), upd_ne (ne_of_none upd_same hf)]; exact upd_same
      rw [upd_ne (ne_of_none h1 hx), upd_ne (ne_of_none h1 hdx)]; exact h1
    refine ⟨x, dx, i, f, u, _, [], [], rfl, upd_same, hi2 _, .nil, Nat.zero_le _, fun H9 k9 h9 => ⟨rfl, ?_⟩⟩
    obtain ⟨e1, e2⟩ := atom_made (At.always.flds) (At.always.trms) hi hf hu hx hdx k9 h9
    walk_at "g"
    exact k x H9 (fun q o h => e1 _ _ (h)) e2
theorem ok_empty (T : Txt K mg) : Def P w K mg base 4 "empty" ["column"] (fun vs H Q _ => ∃ c, vs = [.str c] ∧ nameP c ∧ ∀ t H', (∀ q o, H q = some o → H' q = some o) → TestAt (cadr mg "Test") H' (At.empty c).ts t → Q (.ref t) H') := by
  obtain ⟨f, fd, h⟩ := T.d_empty
  refine h.def (Fun.okM h.fn sc_empty (fun vs H Q E h => ?_) (fun cdv A outer s H vs Q E hr h => ?_))
  · obtain ⟨c, rfl, _⟩ := h
    rfl
  · obtain ⟨c, rfl, hc, k⟩ := h
    refine ⟨_, (pss_cons (ps_expr (pe_def (ok_need_column T) hr rfl (pa_cons (pv 0) pa_nil)))
  (pss_one (ps_ret (pe_new (ok_Test_init T) hr rfl T.e_Test (pa_cons pe_str (pa_cons (pe_tup pa_nil) (pa_cons (pe_tup (pa_cons (pv 0) pa_nil)) (pa_cons (pe_tup pa_nil) pa_nil)))))))), ?_⟩
    walk_at "g"
    refine ⟨_, rfl, ⟨c, rfl, hc⟩, fun H1 k1 => ?_⟩
    walk_at "g"
    refine ⟨Nat.zero_le _, fun i hi => ?_⟩
    walk_at "g"
    refine ⟨by show 1 ≤ sizeLine; decide, fun f hf => ?_⟩
    walk_at "g"
    refine ⟨by show 0 ≤ sizeLine; decide, fun u hu => ?_⟩
    walk_at "g"
    intro x dx hx hdx hne
    have hi2 : ∀ y0 : HO, (upd (upd (upd (upd (upd H1 i (.tup [])) f (.tup [V.str c])) u (.tup [])) dx (.own x)) x y0) i = some (.tup []) := fun y0 => by
      have h1 : (upd (upd (upd H1 i (.tup [])) f (.tup [V.str c])) u (.tup [])) i = some (.tup []) := by rw [upd_ne (ne_of_none (by rw [upd_ne (ne_of_none upd_same hf)]; exact upd_same) hu), upd_ne (ne_of_none upd_same hf)]; exact upd_same
      rw [upd_ne (ne_of_none h1 hx), upd_ne (ne_of_none h1 hdx)]; exact h1
    refine ⟨x, dx, i, f, u, _, [], [], rfl, upd_same, hi2 _, .nil, Nat.zero_le _, fun H9 k9 h9 => ⟨rfl, ?_⟩⟩
    obtain ⟨e1, e2⟩ := atom_made ((At.empty c).flds) ((At.empty c).trms) hi hf hu hx hdx k9 h9
    walk_at "g"
    exact k x H9 (fun q o h => e1 _ _ (k1 _ _ h)) e2
end
/-! the law's own defs -/
theorem log_small {m : Int} (h : m.natAbs < 2 ^ 64) : m.natAbs.log2 < 1920 := Nat.lt_of_lt_of_le (PySem.Flt.log2_lt_of (by decide) h) (by decide)
theorem pick_at {ws : List Nat} {m : Nat} (hw : ws.length = m) {r : Int} (r0 : 0 ≤ r) (r1 : r < (m : Int)) : ∃ c, c ∈ ws ∧ atI ws r = some c := by
  obtain ⟨k4, rfl⟩ := Int.eq_ofNat_of_zero_le r0
  have hk : k4 < ws.length := by omega
  exact ⟨_, List.getElem_mem hk, atI_nat (List.getElem?_eq_getElem hk)⟩
def manyL : List Nat := [2, 3, 7, 8]
def zn (m k : Nat) : Str := repS "z" ((m - 1 : Nat) : Int) ++ digN k
theorem zn_ok : ∀ m ∈ manyL, ∀ k ∈ List.range 9, (zn m k).length = m ∧ (∀ c ∈ (zn m k).cps.toList.take 1, c ∈ letters) ∧ (∀ c ∈ (zn m k).cps.toList, c ∈ nameSigns) ∧ zn m k ∉ keptWords := by decide +kernel
theorem zn_nd : ∀ m ∈ manyL, ((List.range 9).map (zn m)).Nodup := by decide +kernel
theorem rep_len : ∀ m ∈ manyL, (repS "z" ((m - 1 : Nat) : Int)).length = m - 1 := by decide +kernel
/-- a name but for the words that are kept -/
def preN (m : Nat) (z : Str) : Prop := z.length = m ∧ (∀ c r, z.cps.toList = c :: r → c ∈ letters) ∧ ∀ c ∈ z.cps.toList, c ∈ nameSigns
theorem preN.name {m : Nat} {z : Str} (h : preN m z) (m1 : 1 ≤ m) (m8 : m ≤ 8) (hk : z ∉ keptWords) : nameP z := ⟨by have := h.1; omega, by have := h.1; omega, h.2.1, hk, h.2.2⟩
theorem zn_pre {m k : Nat} (hm : m ∈ manyL) (hk : k < 9) : preN m (zn m k) := by
  obtain ⟨h1, h2, h3, _⟩ := zn_ok m hm k (List.mem_range.mpr hk)
  exact ⟨h1, fun c r e => h2 c (by rw [e]; exact List.mem_cons_self), h3⟩
theorem zn_end {m : Nat} (hm : m ∈ manyL) {xs : List Str} (h : ∀ j < 8, zn m j ∈ keptWords ++ xs) (hl : xs.length ≤ 7) : False := by
  have nd := zn_nd m hm
  have sub : ∀ y ∈ (List.range 8).map (zn m), y ∈ xs := fun y hy => by
    obtain ⟨j, hj, rfl⟩ := List.mem_map.mp hy
    have hj := List.mem_range.mp hj
    rcases List.mem_append.mp (h j hj) with e | e
    · exact absurd e (zn_ok m hm j (List.mem_range.mpr (by omega))).2.2.2
    · exact e
  have nd8 : ((List.range 8).map (zn m)).Nodup := by
    rw [show List.range 9 = List.range 8 ++ [8] from by decide, List.map_append] at nd
    exact (List.nodup_append.mp nd).1
  have := nodup_le nd8 sub
  rw [List.length_map, List.length_range] at this
  omega
def spLong : Sp := fun vs H Q _ => ∃ (p L : Addr) (xs : List Str) (n m : Nat), vs = [.ref p, .ref L, .int m] ∧ PD H p n ∧ n ≤ 900000 ∧ L ≠ p ∧ H L = some (.lst (xs.map V.str)) ∧ xs.length ≤ 7 ∧ m ∈ manyL ∧ ∀ z H', nameP z → z.length = m → z ∉ xs → PD H' p (n + 20) → Keep p H H' → Q (.str z) H'
def orN (f : Fm) : Nat → Fm
  | 0 => f
  | k + 1 => .bi "or" (orN f k) (.at .always)
def notN (f : Fm) : Nat → Fm
  | 0 => f
  | k + 1 => .un "not" (notN f k)
theorem orN_ts {f : Fm} (hd : f.ts.depth = 0) (hz : f.ts.size = 1) : ∀ k, (orN f k).ts.depth = k ∧ (orN f k).ts.size = k + 1
  | 0 => ⟨hd, hz⟩
  | k + 1 => by
    obtain ⟨h1, h2⟩ := orN_ts hd hz k
    refine ⟨?_, ?_⟩
    · show max (orN f k).ts.depth (Fm.at .always).ts.depth + 1 = k + 1
      rw [h1]
      show max k 0 + 1 = k + 1
      rw [Nat.max_eq_left (Nat.zero_le _)]
    · show (orN f k).ts.size + (Fm.at .always).ts.size = k + 1 + 1
      rw [h2]
      rfl
theorem notN_ts {f : Fm} (hd : f.ts.depth = 0) (hz : f.ts.size = 1) : ∀ k, (notN f k).ts.depth = k ∧ (notN f k).ts.size = 1
  | 0 => ⟨hd, hz⟩
  | k + 1 => by
    obtain ⟨h1, h2⟩ := notN_ts hd hz k
    exact ⟨by show (notN f k).ts.depth + 1 = k + 1; rw [h1], h2⟩
theorem orN_wf {κ : List (Str × Bool)} {f : Fm} (h : f.Wf κ) (d : f.Kd κ) : ∀ k, (orN f k).Wf κ ∧ (orN f k).Kd κ
  | 0 => ⟨h, d⟩
  | k + 1 => ⟨⟨.inr rfl, (orN_wf h d k).1, trivial⟩, (orN_wf h d k).2, trivial⟩
theorem notN_wf {κ : List (Str × Bool)} {f : Fm} (h : f.Wf κ) (d : f.Kd κ) : ∀ k, (notN f k).Wf κ ∧ (notN f k).Kd κ
  | 0 => ⟨h, d⟩
  | k + 1 => ⟨⟨.inl rfl, (notN_wf h d k).1⟩, (notN_wf h d k).2⟩
def grownF (b : Bool) (m : Nat) (f : Fm) : Fm := if b = true then orN f (m - 1) else notN f m
def spGrown (C : Addr) : Sp := fun vs H Q _ => ∃ (tp : Addr) (f : Fm) (b : Bool) (m : Nat), vs = [.ref tp, .bl b, .int m] ∧ TestAt C H f.ts tp ∧ f.ts.depth = 0 ∧ f.ts.size = 1 ∧ 1 ≤ m ∧ m ≤ 10 ∧ ∀ q H', XT H H' → TestAt C H' (grownF b m f).ts q → Q (.ref q) H'
def spDesk (CD CS C CB : Addr) : Sp := fun vs H Q E => ∃ (x dx sh : Addr) (cs : List Col) (fs : List Fm) (ks : List Ky), vs = [.ref x, .ref sh] ∧ H x = some (.ins CD dx []) ∧ ShpAt CS C H cs fs ks sh ∧ ColsOk cs ∧ fs.length ≤ 9 ∧ ks.length ≤ 9 ∧
  (smallB cs fs ks = true → ∀ H' gs, NXT x H H' → H' x = some (.ins CD dx gs) → gs.lookup ("now" : Str) = some (.ref sh) → Q .non H') ∧ (smallB cs fs ks = false → ∀ d H', (∀ q o, q ≠ x → H q = some o → H' q = some o) → H' d = some (xwhy "shape") → E (.ref CB) (some d) H')
def spRefused (CS C : Addr) : Sp := fun vs H Q _ => ∃ (i : Int) (x : Addr) (cs : List Col) (fs : List Fm) (ks : List Ky), vs = [.int i, .ref x] ∧ ShpAt CS C H cs fs ks x ∧ ColsOk cs ∧ (∀ f ∈ fs, GF (k2 cs) f) ∧ fs.length ≤ 9 ∧ ks.length ≤ 9 ∧ smallB cs fs ks = false ∧ ∀ H', XT H H' → Q (.bl true) H'
section
variable {P : Program} {w : World} {K : PySem.W.Frag} {mg : Str → Option Value} {base : Heap}
theorem ok__law_is (T : Txt K mg) : Def P w K mg base 1 "_law_is" ["_law_thing", "_law_due"] (fun vs H Q _ => ∃ b, vs = [.bl b, .bl b] ∧ Q (.bl true) H) := by
  obtain ⟨f, fd, h⟩ := T.d__law_is
  refine h.def (Fun.okM h.fn sc__law_is (fun vs H Q E h => ?_) (fun cdv A outer s H vs Q E hr h => ?_))
  · obtain ⟨b, rfl, _⟩ := h
    rfl
  · obtain ⟨b, rfl, k⟩ := h
    refine ⟨_, (pss_cons (ps_if (pt_cmpR op_isNG (pv 1) pe_non (nomark _))
  (pss_one (ps_ret (pe_cmpR op_isNG (pv 0) pe_non (nomark _))))
  pss_nil)
  (pss_one (ps_ret (pe_and (pe_callB (call_isiG (K := K) rfl) (by rfl) T.h_isinstance (by decide +kernel) (pa_cons (pv 0) (pa_cons (pe_bltn (v := .ty "bool") (by rfl) T.h_bool (by decide +kernel) rfl) pa_nil))) (pe_one (pe_cmpR op_eq (pv 0) (pv 1) (nomark _))))))), ?_⟩
    walk_at "g"
    rw [decide_eq_true (rfl : b = b)]
    exact k
theorem ok__law_long_name (T : Txt K mg) : Def P w K mg base 2 "_law_long_name" ["_law_pool_here", "_law_taken", "_law_many"] spLong := by
  obtain ⟨f, fd, h⟩ := T.d__law_long_name
  refine h.def (Fun.okM h.fn sc__law_long_name (fun vs H Q E h => ?_) (fun cdv A outer s H vs Q E hr h => ?_))
  · obtain ⟨p, L, xs, n, m, rfl, _⟩ := h
    rfl
  · obtain ⟨p, L, xs, n, m, rfl, hD, hn, hLp, hL, hx7, hm, k⟩ := h
    have hm8 : 2 ≤ m ∧ m ≤ 8 := by
      unfold manyL at hm
      simp only [List.mem_cons, List.not_mem_nil, or_false] at hm
      omega
    refine ⟨_, (pss_cons (ps_set (i := 3) sc__law_long_name.nd rfl (Or.inl rfl) pe_str)
  (pss_cons (ps_set (i := 4) sc__law_long_name.nd rfl (Or.inl rfl) (pe_ix (ix_seqG (K := K) rfl) (pv 3) (pe_def (ok__law_draw T) hr rfl (pa_cons (pv 0) (pa_cons pe_int pa_nil))) (fun _ _ => rfl)))
  (pss_cons (ps_for PassesOwn.never rfl (pi_range1 rfl T.h_range (pa_cons (pe_op op_subG (pv 2) pe_int) pa_nil)) (pg_name (i := 5) sc__law_long_name.nd rfl (Or.inl rfl))
  (pss_one (ps_set (i := 4) sc__law_long_name.nd rfl (Or.inl rfl) (pe_op op_addG (pv 4) (pe_ix (ix_seqG (K := K) rfl) (pv 3) (pe_def (ok__law_draw T) hr rfl (pa_cons (pv 0) (pa_cons pe_int pa_nil))) (fun _ _ => rfl))))))
  (pss_cons (ps_set (i := 6) sc__law_long_name.nd rfl (Or.inl rfl) (pe_op op_addG (pe_lst (pa_cons pe_str (pa_cons pe_str (pa_cons pe_str (pa_cons pe_str (pa_cons pe_str (pa_cons pe_str (pa_cons pe_str (pa_cons pe_str (pa_cons pe_str (pa_cons pe_str pa_nil))))))))))) (pv 1)))
  (pss_cons (ps_for PassesOwn.never rfl (pi_range1 rfl T.h_range (pa_cons pe_int pa_nil)) (pg_name (i := 5) sc__law_long_name.nd rfl (Or.inl rfl))
  (pss_one (ps_if (pt_cmpR (op_inG (K := K) rfl) (pv 4) (pv 6) (by rfl))
  (pss_one (ps_set (i := 4) sc__law_long_name.nd rfl (Or.inl rfl) (pe_op op_addG (pe_op op_mulS pe_str (pe_op op_subG (pv 2) pe_int)) (pe_callTy call_str_int (by rfl) T.h_str (by decide +kernel) (pa_cons (pv 5) pa_nil)))))
  pss_nil)))
  (pss_one (ps_ret (pv 4)))))))), ?_⟩
    walk_at "g"
    have hz1 : (Str.ofString "abcdefghijklmnopqrstuvwxyz0123456789").cps.toList = nameSigns := rfl
    generalize hz0 : Str.ofString "abcdefghijklmnopqrstuvwxyz0123456789" = zc at hz1 ⊢
    have hzc : zc.length = 36 := by rw [← hz0]; decide +kernel
    have hfst : ∀ k : Nat, k < 26 → ∃ c, nameSigns[k]? = some c ∧ c ∈ letters := by decide +kernel
    have hlt : ∀ c ∈ letters, c ∈ nameSigns := by decide +kernel
    have hnl : nameSigns.length = 36 := by decide +kernel
    clear hz0
    refine ⟨_, _, _, rfl, hD, by omega, by decide, by decide +kernel, fun r H1 r0 r1 D1 K1 => ?_⟩
    obtain ⟨r, rfl⟩ := Int.eq_ofNat_of_zero_le r0
    obtain ⟨c, hc, hcl⟩ := hfst r (by omega)
    refine g_ixS (n := c) (by rw [hzc]; decide) (by rw [hz1]; exact atI_nat hc) ?_
    walk_at "g"
    refine ⟨_, rfl, by omega, by omega, ?_⟩
    rw [show ((m : Int) - 1).toNat = m - 1 by omega]
    refine for_rangeA (fun i σ' H' => ∃ (z : Str) (s5 : Option V), σ' = [some (.ref p), some (.ref L), some (.int m), some (.str zc), some (.str z), s5, none] ∧ preN (i + 1) z ∧ PD H' p (n + 1 + i) ∧ Keep p H H') ⟨_, none, rfl, ⟨rfl, fun a r h => ?_, fun a h => ?_⟩, D1, K1⟩ ?_ ?_
    · have h' : [c] = a :: r := h
      injection h' with h1 _
      rw [← h1]; exact hcl
    · have : a = c := by simpa using h
      rw [this]; exact hlt c hcl
    · rintro i σ' H4 D' hi ⟨z, s5, rfl, hp, D4, K4⟩ hnx hct hbk hrt
      walk_at "g"
      refine ⟨_, _, _, rfl, D4, by omega, by decide, by decide +kernel, fun r5 H5 r50 r51 D5 K5 => ?_⟩
      obtain ⟨c, hc, hat⟩ := pick_at (ws := nameSigns) hnl r50 r51
      refine g_ixS (n := c) (by rw [hzc]; decide) (by rw [hz1]; exact hat) ?_
      have hz := hp.1
      have hl1 : (z ++ (⟨#[c]⟩ : Str)).length = i + 1 + 1 := by rw [PySem.Str.length_append, hz]; rfl
      refine g_addS (by rw [sizeLine_eq]; show z.length + 1 ≤ _; omega) ?_
      walk_at "g"
      refine hnx _ _ ⟨_, _, rfl, ⟨hl1, fun a r h => ?_, fun a h => ?_⟩, D5, K4.trans K5⟩
      · rw [PySem.W.KT.app_list] at h
        cases e : z.cps.toList with
        | nil =>
          have : z.cps.toList.length = z.length := Array.length_toList
          rw [e, hz] at this; simp at this
        | cons b s =>
          rw [e] at h
          injection h with h1 _
          rw [← h1]
          exact hp.2.1 b s e
      · rw [PySem.W.KT.app_list] at h
        rcases List.mem_append.mp h with h | h
        · exact hp.2.2 a h
        · have : a = c := by simpa using h
          rw [this]; exact hc
    · rintro σ' H4 ⟨z, s5, rfl, hp, D4, K4⟩
      rw [show m - 1 + 1 = m by omega] at hp
      have hL4 := K4 _ _ hLp hL
      walk_at "g"
      refine ⟨by show 10 ≤ sizeLine; decide, fun q hq => ?_⟩
      have hfl : (keptWords.map V.str) = [V.str (Str.ofString "and"), V.str (Str.ofString "or"), V.str (Str.ofString "not"), V.str (Str.ofString "sure"), V.str (Str.ofString "in"), V.str (Str.ofString "is"), V.str (Str.ofString "empty"), V.str (Str.ofString "begins"), V.str (Str.ofString "always"), V.str (Str.ofString "never")] := rfl
      rw [← hfl]
      have nq := D4.ne hq
      have D5 := (D4.mono (m := n + 20) (by omega)).new (o := .lst (keptWords.map V.str)) hq
      have K5 := K4.new (o := .lst (keptWords.map V.str)) (K4.back nq hq)
      have eq5 : (upd H4 q (.lst (keptWords.map V.str))) q = some (.lst (keptWords.map V.str)) := upd_same
      have hL5 : (upd H4 q (.lst (keptWords.map V.str))) L = some (.lst (xs.map V.str)) := by rw [upd_ne (ne_of_none hL4 hq)]; exact hL4
      generalize upd H4 q (.lst (keptWords.map V.str)) = H5 at D5 K5 eq5 hL5
      walk_at "g"
      have hkl : keptWords.length = 10 := by decide +kernel
      refine .inr (.inr ⟨q, L, _, _, rfl, rfl, eq5, hL5, by rw [List.length_map, List.length_map, hkl, sizeLine_eq]; omega, fun M hM => ?_⟩)
      have em : keptWords.map V.str ++ xs.map V.str = (keptWords ++ xs).map V.str := by rw [List.map_append]
      rw [em]
      have nM := D5.ne hM
      have D6 := D5.new (o := .lst ((keptWords ++ xs).map V.str)) hM
      have K6 := K5.new (o := .lst ((keptWords ++ xs).map V.str)) (K5.back nM hM)
      have eM : (upd H5 M (.lst ((keptWords ++ xs).map V.str))) M = some (.lst ((keptWords ++ xs).map V.str)) := upd_same
      generalize upd H5 M (.lst ((keptWords ++ xs).map V.str)) = H6 at D6 K6 eM
      clear hL4 hL5 eq5 D5 K5 D4 K4
      walk_at "g"
      refine ⟨_, rfl, by decide, by decide, ?_⟩
      refine for_rangeA (fun i σ' H' => ∃ (z : Str) (s5 : Option V), σ' = [some (.ref p), some (.ref L), some (.int m), some (.str zc), some (.str z), s5, some (.ref M)] ∧ preN m z ∧ (z ∉ keptWords ++ xs ∨ i = 0 ∨ (1 ≤ i ∧ i ≤ 9 ∧ z = zn m (i - 1) ∧ ∀ j < i - 1, zn m j ∈ keptWords ++ xs)) ∧ H' = H6) ⟨_, _, rfl, hp, .inr (.inl rfl), rfl⟩ ?_ ?_
      · rintro i σ' H7 D' hi ⟨z, s5, rfl, hp, hch, rfl⟩ hnx hct hbk hrt
        have hi9 : i < 9 := by simpa using hi
        walk_at "g"
        refine .inr ⟨_, (keptWords ++ xs).map V.str, rfl, .inl (SqL.of eM), rfl, Tw.flat_strs _, ?_⟩
        rw [if_neg Bool.false_ne_true, inV_strs]
        walk_at "g"
        refine g_dec (fun hmm => ?_) (fun hmm => ?_)
        · walk_at "g"
          have e1 : ((m : Int) - 1) = ((m - 1 : Nat) : Int) := by omega
          have hrl := rep_len m hm
          refine ⟨_, _, rfl, rfl, by omega, by omega, by decide +kernel, by rw [e1]; show (repS "z" ((m - 1 : Nat) : Int)).length ≤ _; rw [hrl, sizeLine_eq]; omega, ?_⟩
          rw [e1]
          walk_at "g"
          refine ⟨_, rfl, log_small (by omega), ?_⟩
          have hds : Str.ofString (toString (0 + (i : Int))) = digN i := by unfold digN; rw [Int.zero_add]
          rw [hds]
          have hd1 := (digN_ok i (List.mem_range.mpr (by omega))).1
          refine g_addS (by show (repS "z" ((m - 1 : Nat) : Int)).length + (digN i).length ≤ _; rw [hrl, hd1, sizeLine_eq]; omega) ?_
          walk_at "g"
          refine hnx _ _ ⟨zn m i, _, rfl, zn_pre hm hi9, .inr (.inr ⟨by omega, by omega, rfl, fun j hj => ?_⟩), rfl⟩
          rcases hch with h | rfl | ⟨h1, h2, h3, h4⟩
          · exact absurd hmm h
          · omega
          · by_cases hji : j < i - 1
            · exact h4 j hji
            · have : j = i - 1 := by omega
              rw [this, ← h3]
              exact hmm
        · walk_at "g"
          exact hnx _ _ ⟨_, _, rfl, hp, .inl hmm, rfl⟩
      · rintro σ' H7 ⟨z, s5, rfl, hp, hch, rfl⟩
        have hno : z ∉ keptWords ++ xs := by
          rcases hch with h | h | ⟨h1, h2, h3, h4⟩
          · exact h
          · exact absurd h (by decide)
          · exact (zn_end hm (fun j hj => h4 j hj) hx7).elim
        walk_at "g"
        exact k _ _ (hp.name (by omega) (by omega) fun h => hno (List.mem_append.mpr (.inl h))) hp.1 (fun h => hno (List.mem_append.mpr (.inr h))) D6 K6
theorem ok__law_grown (T : Txt K mg) : Def P w K mg base 6 "_law_grown" ["_law_test", "_law_by_atoms", "_law_many"] (spGrown (cadr mg "Test")) := by
  obtain ⟨f, fd, h⟩ := T.d__law_grown
  refine h.def (Fun.okM h.fn sc__law_grown (fun vs H Q E h => ?_) (fun cdv A outer s H vs Q E hr h => ?_))
  · obtain ⟨tp, f0, b, m, rfl, _⟩ := h
    rfl
  · obtain ⟨tp, f0, b, m, rfl, hA, hd, hz, m1, m10, q⟩ := h
    refine ⟨_, (pss_cons (ps_if (pt_val (pv 1))
  (pss_cons (ps_for PassesOwn.never rfl (pi_range1 rfl T.h_range (pa_cons (pe_op op_subG (pv 2) pe_int) pa_nil)) (pg_name (i := 3) sc__law_grown.nd rfl (Or.inl rfl))
  (pss_one (ps_set (i := 0) sc__law_grown.nd rfl (Or.inl rfl) (pe_opW (op_orW (K := K) rfl takes0 (ok_Test_or T) hr T.sf_Test T.nr_Test_or) (pv 0) (pe_def0 (ok_always T) hr rfl)))))
  (pss_one (ps_ret (pv 0))))
  pss_nil)
  (pss_cons (ps_for PassesOwn.never rfl (pi_range1 rfl T.h_range (pa_cons (pv 2) pa_nil)) (pg_name (i := 3) sc__law_grown.nd rfl (Or.inl rfl))
  (pss_one (ps_set (i := 0) sc__law_grown.nd rfl (Or.inl rfl) (pe_invW takes0 (ok_Test_invert T) hr (pv 0)))))
  (pss_one (ps_ret (pv 0))))), ?_⟩
    cases b with
    | true =>
      walk_at "g"
      refine ⟨_, rfl, by omega, by omega, ?_⟩
      rw [show ((m : Int) - 1).toNat = m - 1 by omega]
      refine for_rangeA (fun i σ' H' => ∃ (p : Addr) (s3 : Option V), σ' = [some (.ref p), some (.bl true), some (.int m), s3] ∧ TestAt (cadr mg "Test") H' (orN f0 i).ts p ∧ XT H H') ⟨_, none, rfl, hA, XT.refl⟩ ?_ ?_
      · rintro i σ' H4 D' hi ⟨p, s3, rfl, hp, x4⟩ hnx hct hbk hrt
        obtain ⟨t1, t2⟩ := orN_ts hd hz i
        walk_at "g"
        refine ⟨rfl, fun t H5 x5 hT => ?_⟩
        have hp5 := TestAt.keep x5 hp
        obtain ⟨dx1, i1, f1, u1, qs1, hp1, _⟩ := hp5.node
        obtain ⟨dx2, i2, f2, u2, qs2, hp2, _⟩ := hT.node
        refine .inl ⟨p, t, dx1, dx2, _, _, rfl, rfl, hp1, hp2, p, (orN f0 i).ts, _, rfl, hp5, .inl ⟨t, At.always.ts, rfl, hT, fun h => absurd h (by show ¬ 24 < (orN f0 i).ts.size + 1; omega), fun _ h => absurd h (by show ¬ 12 < max (orN f0 i).ts.depth 0 + 1; omega), fun _ _ r H6 x6 A => ?_⟩⟩
        walk_at "g"
        exact hnx _ _ ⟨_, _, rfl, A, XT.trans x4 (XT.trans x5 x6)⟩
      · rintro σ' H4 ⟨p, s3, rfl, hp, x4⟩
        walk_at "g"
        exact q p _ x4 hp
    | false =>
      walk_at "g"
      refine ⟨_, rfl, by omega, by omega, ?_⟩
      rw [show ((m : Int)).toNat = m by omega]
      refine for_rangeA (fun i σ' H' => ∃ (p : Addr) (s3 : Option V), σ' = [some (.ref p), some (.bl false), some (.int m), s3] ∧ TestAt (cadr mg "Test") H' (notN f0 i).ts p ∧ XT H H') ⟨_, none, rfl, hA, XT.refl⟩ ?_ ?_
      · rintro i σ' H4 D' hi ⟨p, s3, rfl, hp, x4⟩ hnx hct hbk hrt
        obtain ⟨t1, t2⟩ := notN_ts hd hz i
        obtain ⟨dx1, i1, f1, u1, qs1, hp1, _⟩ := hp.node
        walk_at "g"
        refine ⟨p, dx1, _, rfl, hp1, p, (notN f0 i).ts, rfl, hp, fun h => absurd h (by show ¬ 24 < (notN f0 i).ts.size; omega), fun _ h => absurd h (by show ¬ 12 < (notN f0 i).ts.depth + 1; omega), fun _ _ r H6 x6 A => ?_⟩
        walk_at "g"
        exact hnx _ _ ⟨_, _, rfl, A, XT.trans x4 x6⟩
      · rintro σ' H4 ⟨p, s3, rfl, hp, x4⟩
        walk_at "g"
        exact q p _ x4 hp
end
/-! a desk -/
def spDeskOk (CD CS C CB : Addr) : Sp := fun vs H Q E => ∃ (x dx sh : Addr) (cs : List Col) (fs : List Fm) (ks : List Ky), vs = [.ref x, .ref sh] ∧ H x = some (.ins CD dx []) ∧ ShpAt CS C H cs fs ks sh ∧ ColsOk cs ∧ fs.length ≤ 9 ∧ ks.length ≤ 9 ∧
  (smallB cs fs ks = true → ∀ H' gs, NXT x H H' → H' x = some (.ins CD dx gs) → gs.lookup ("now" : Str) = some (.ref sh) → gs.lookup ("shape" : Str) = none → Q .non H') ∧ (smallB cs fs ks = false → ∀ d H', XT H H' → H' d = some (xwhy "shape") → E (.ref CB) (some d) H')
section
variable {P : Program} {w : World} {K : PySem.W.Frag} {mg : Str → Option Value} {base : Heap}
theorem ok_Desk_init (T : Txt K mg) : DefCX P w K mg base 17 (cadr mg "Desk") ["self", "shape"] (spDeskOk (cadr mg "Desk") (cadr mg "Shape") (cadr mg "Test") (cadr mg "BadClaim")) := by
  obtain ⟨f, fd, h⟩ := T.d_Desk_init
  refine h.defX (Fun.okMX h.fn sc_Desk_init (fun vs H Q E h => ?_) (fun cdv A outer s H vs Q E hr h => ?_))
  · obtain ⟨x, dx, sh, cs, fs, ks, rfl, _⟩ := h
    rfl
  · obtain ⟨x, dx, sh, cs, fs, ks, rfl, hx, hS, hcs, hf9, hk9, kQ, kE⟩ := h
    refine ⟨_, (pss_cons (ps_expr (pe_defX (takes_of rfl rfl rfl rfl) (ok_need_small T) hr rfl (pa_cons (pv 1) pa_nil)))
  (pss_cons (ps_fld (pv 0) (pv 1) rfl)
  (pss_cons (ps_fld (pv 0) (pe_tup pa_nil) rfl)
  (pss_cons (ps_fld (pv 0) (pe_tup pa_nil) rfl)
  (pss_one (ps_fld (pv 0) (pe_tup pa_nil) rfl)))))), ?_⟩
    walk_at "g"
    refine ⟨sh, cs, fs, ks, rfl, hS, hcs, hf9, hk9, fun hs H1 x1 => ?_, kE⟩
    have hx1 := x1 _ _ hx
    walk_at "g"
    refine ⟨x, _, dx, _, rfl, hx1, T.cl_Desk, T.n_Desk_now, by decide, ?_⟩
    have e2 : (upd H1 x (.ins (cadr mg "Desk") dx (putF "now" (.ref sh) []))) x = some (.ins (cadr mg "Desk") dx (putF "now" (.ref sh) [])) := upd_same
    have n2 : NXT x H1 (upd H1 x (.ins (cadr mg "Desk") dx (putF "now" (.ref sh) []))) := NXT.upd
    generalize upd H1 x (.ins (cadr mg "Desk") dx (putF "now" (.ref sh) [])) = H2 at e2 n2
    walk_at "g"
    refine ⟨Nat.zero_le _, fun t3 ht3 => ?_⟩
    have x3 : XT H2 (upd H2 t3 (.tup [])) := XT.new XT.refl ht3
    generalize upd H2 t3 (.tup []) = H3 at x3
    walk_at "g"
    refine ⟨x, _, dx, _, rfl, x3 _ _ e2, T.cl_Desk, T.n_Desk_past, by show 1 < 1000; decide, ?_⟩
    have l4 : (putF ("past" : Str) (V.ref t3) (putF "now" (.ref sh) [])).lookup ("now" : Str) = some (.ref sh) := by rfl
    have s4 : (putF ("past" : Str) (V.ref t3) (putF "now" (.ref sh) [])).length < 1000 := by show 2 < 1000; decide
    have e4 : (upd H3 x (.ins (cadr mg "Desk") dx (putF "past" (.ref t3) (putF "now" (.ref sh) [])))) x = some (.ins (cadr mg "Desk") dx (putF "past" (.ref t3) (putF "now" (.ref sh) []))) := upd_same
    have n4 : NXT x H3 (upd H3 x (.ins (cadr mg "Desk") dx (putF "past" (.ref t3) (putF "now" (.ref sh) [])))) := NXT.upd
    generalize upd H3 x (.ins (cadr mg "Desk") dx (putF "past" (.ref t3) (putF "now" (.ref sh) []))) = H4 at e4 n4
    walk_at "g"
    refine ⟨Nat.zero_le _, fun t5 ht5 => ?_⟩
    have x5 : XT H4 (upd H4 t5 (.tup [])) := XT.new XT.refl ht5
    generalize upd H4 t5 (.tup []) = H5 at x5
    walk_at "g"
    refine ⟨x, _, dx, _, rfl, x5 _ _ e4, T.cl_Desk, T.n_Desk_future, s4, ?_⟩
    have l6 : (putF ("future" : Str) (V.ref t5) (putF ("past" : Str) (V.ref t3) (putF "now" (.ref sh) []))).lookup ("now" : Str) = some (.ref sh) := by rfl
    have s6 : (putF ("future" : Str) (V.ref t5) (putF ("past" : Str) (V.ref t3) (putF "now" (.ref sh) []))).length < 1000 := by show 3 < 1000; decide
    have e6 : (upd H5 x (.ins (cadr mg "Desk") dx (putF "future" (.ref t5) (putF "past" (.ref t3) (putF "now" (.ref sh) []))))) x = some (.ins (cadr mg "Desk") dx (putF "future" (.ref t5) (putF "past" (.ref t3) (putF "now" (.ref sh) [])))) := upd_same
    have n6 : NXT x H5 (upd H5 x (.ins (cadr mg "Desk") dx (putF "future" (.ref t5) (putF "past" (.ref t3) (putF "now" (.ref sh) []))))) := NXT.upd
    generalize upd H5 x (.ins (cadr mg "Desk") dx (putF "future" (.ref t5) (putF "past" (.ref t3) (putF "now" (.ref sh) [])))) = H6 at e6 n6
    walk_at "g"
    refine ⟨Nat.zero_le _, fun t7 ht7 => ?_⟩
    have x7 : XT H6 (upd H6 t7 (.tup [])) := XT.new XT.refl ht7
    generalize upd H6 t7 (.tup []) = H7 at x7
    walk_at "g"
    refine ⟨x, _, dx, _, rfl, x7 _ _ e6, T.cl_Desk, T.n_Desk_claims, s6, ?_⟩
    walk_at "g"
    exact kQ hs _ _ ((NXT.of x1).trans (n2.trans ((NXT.of x3).trans (n4.trans ((NXT.of x5).trans (n6.trans ((NXT.of x7).trans NXT.upd))))))) upd_same (by rfl) (by rfl)
theorem ok_Desk_shape (T : Txt K mg) : DefM P w K mg base 1 (cadr mg "Desk") "shape" ["self"] (fun vs H Q _ => ∃ (x dx sh : Addr) (gs : List (Str × V)), vs = [.ref x] ∧ H x = some (.ins (cadr mg "Desk") dx gs) ∧ gs.lookup ("now" : Str) = some (.ref sh) ∧ Q (.ref sh) H) := by
  obtain ⟨f, fd, h⟩ := T.d_Desk_shape
  refine h.def (Fun.okM h.fn sc_Desk_shape (fun vs H Q E h => ?_) (fun cdv A outer s H vs Q E hr h => ?_))
  · obtain ⟨x, dx, sh, gs, rfl, _⟩ := h
    rfl
  · obtain ⟨x, dx, sh, gs, rfl, hx, hl, q⟩ := h
    refine ⟨_, (pss_one (ps_ret (pe_fldG (K := K) rfl (pv 0) rfl))), ?_⟩
    walk_at "g"
    refine ⟨x, _, dx, _, _, rfl, hx, T.cl_Desk, T.n_Desk_now, hl, ?_⟩
    walk_at "g"
    exact q
theorem ok__law_refused (T : Txt K mg) : Def P w K mg base 23 "_law_refused" ["_law_which", "_law_shape"] (spRefused (cadr mg "Shape") (cadr mg "Test")) := by
  obtain ⟨f, fd, h⟩ := T.d__law_refused
  obtain ⟨fE_BadClaim, EB_BadClaim⟩ := T.x_BadClaim
  refine h.def (Fun.okM h.fn sc__law_refused (fun vs H Q E h => ?_) (fun cdv A outer s H vs Q E hr h => ?_))
  · obtain ⟨i, x, cs, fs, ks, rfl, _⟩ := h
    rfl
  · obtain ⟨i, x, cs, fs, ks, rfl, hS, hcs, hG, hf9, hk9, hs, k⟩ := h
    refine ⟨_, (pss_cons (ps_try_as (i := 2) (Wout := fun _ _ _ _ => False) rfl rfl sc__law_refused.nd rfl rfl ⟨rfl, by decide, Or.inl EB_BadClaim.gC⟩ takes0 (fun W pn xe tk _ =>
  (pss_one (ps_if (pt_cmpR op_eq (pv 0) pe_int (nomark _))
  (pss_one (ps_expr (pe_defX tk (ok_copies T) hr rfl (pa_cons (pv 1) (pa_cons pe_int pa_nil)))))
  (pss_one (ps_expr (pe_newX tk (ok_Desk_init T) hr rfl T.e_Desk (pa_cons (pv 1) pa_nil)))))))
  (fun a oe cls d pn hz hf => (pss_one (ps_ret (pe_cmpR op_eq (pe_byBadClaim EB_BadClaim hz hf (pv 2)) pe_str (nomark _))))))
  (pss_one (ps_ret pe_bl))), ?_⟩
    walk_at "g"
    refine g_dec (fun h0 => ?_) (fun h0 => ?_)
    · walk_at "g"
      refine ⟨x, cs, fs, ks, 3, rfl, by decide, by decide, hS, hcs, hG, hf9, hk9, (fun h => by rw [hs] at h; cases h), fun _ d H1 x1 he => ?_⟩
      refine ⟨true, EB_BadClaim.te, fun _ a0 ha0 => ?_, fun q => Bool.noConfusion q⟩
      walk_at "g"
      refine ⟨_, rfl, rfl, rfl, d, _, rfl, he, ?_⟩
      walk_at "g"
      exact k _ x1
    · walk_at "g"
      refine g_newX ?_
      walk_at "g"
      intro y dy h1 h2 h3
      have x1 : XT H (upd (upd H dy (.own y)) y (.ins (cadr mg "Desk") dy [])) := xt_new2 h1 h2 h3
      refine ⟨y, dy, x, cs, fs, ks, rfl, upd_same, hS.keep x1, hcs, hf9, hk9, (fun h => by rw [hs] at h; cases h), fun _ d H2 x2 he => ?_⟩
      refine ⟨true, EB_BadClaim.te, fun _ a0 ha0 => ?_, fun q => Bool.noConfusion q⟩
      walk_at "g"
      refine ⟨_, rfl, rfl, rfl, d, _, rfl, he, ?_⟩
      walk_at "g"
      exact k _ (XT.trans x1 x2)
end
def spLaw (K : PySem.W.Frag) : Sp := fun vs H Q _ => ∃ (a : Addr) (ns : List Int), vs = [.ref a] ∧ SqL K H a (ns.map V.int) ∧ ns.length ≤ 63 ∧ ∀ H', Q (.bl true) H'
/-! the law of small shapes -/
theorem large_em (c : Str) : large (.at (.empty c)) = false := rfl
theorem large_grown {f : Fm} (hd : f.ts.depth = 0) (hz : f.ts.size = 1) {b : Bool} {m : Nat} (hm : 1 ≤ m) : large (grownF b m f) = decide (8 < m) := by
  unfold large grownF
  cases b with
  | true =>
    obtain ⟨h1, h2⟩ := orN_ts hd hz (m - 1)
    rw [if_pos rfl, h1, h2, ← Bool.decide_or]
    exact decide_eq_decide.mpr (by omega)
  | false =>
    obtain ⟨h1, h2⟩ := notN_ts hd hz m
    rw [if_neg Bool.false_ne_true, h1, h2, ← Bool.decide_or]
    exact decide_eq_decide.mpr (by omega)
theorem gf_em {κ : List (Str × Bool)} {c : Str} {k : Bool} (hn : nameP c) (h : (c, k) ∈ κ) : GF κ (.at (.empty c)) := ⟨⟨hn, k, h⟩, trivial, Nat.zero_le _, by show 1 ≤ 24; decide⟩
theorem gf_grown {κ : List (Str × Bool)} {f : Fm} (g : GF κ f) (hd : f.ts.depth = 0) (hz : f.ts.size = 1) {b : Bool} {m : Nat} (hm : 1 ≤ m) (h10 : m ≤ 10) : GF κ (grownF b m f) := by
  unfold grownF
  cases b with
  | true =>
    obtain ⟨h1, h2⟩ := orN_ts hd hz (m - 1)
    obtain ⟨w, d⟩ := orN_wf g.wf g.kd (m - 1)
    exact ⟨w, d, by rw [if_pos rfl, h1]; omega, by rw [if_pos rfl, h2]; omega⟩
  | false =>
    obtain ⟨h1, h2⟩ := notN_ts hd hz m
    obtain ⟨w, d⟩ := notN_wf g.wf g.kd m
    exact ⟨w, d, by rw [if_neg Bool.false_ne_true, h1]; omega, by rw [if_neg Bool.false_ne_true, h2]; omega⟩
theorem colsOk_snoc {cs : List Col} {c : Col} (h : cs = [] ∨ ColsOk cs) (hl : cs.length ≤ 10) (hn : nameP c.1) (hm : c.1 ∉ cs.map (·.1)) : ColsOk (cs ++ [c]) := by
  have nm : ∀ d ∈ cs, nameP d.1 := by
    rcases h with rfl | h
    · intro d hd; cases hd
    · exact h.nm
  have nd : (cs.map (·.1)).Nodup := by
    rcases h with rfl | h
    · exact List.nodup_nil
    · exact h.nd
  refine ⟨by rw [List.length_append]; show 1 ≤ _ + 1; omega, by rw [List.length_append]; show _ + 1 ≤ 12; omega, fun d hd => ?_, ?_⟩
  · rcases List.mem_append.mp hd with hd | hd
    · exact nm d hd
    · rw [List.mem_singleton.mp hd]; exact hn
  · rw [List.map_append]
    refine List.nodup_append.mpr ⟨nd, by simp, fun x hx y hy e => ?_⟩
    have hy : y = c.1 := List.mem_singleton.mp hy
    rw [e, hy] at hx
    exact hm hx
theorem all7_snoc {cs : List Col} {c : Col} {m : Nat} (h : c.1.length = m) : ((cs ++ [c]).all fun c => decide (c.1.length ≤ 7)) = ((cs.all fun c => decide (c.1.length ≤ 7)) && decide ((m : Int) < 8)) := by
  rw [List.all_append]
  congr 1
  show (decide (c.1.length ≤ 7) && true) = _
  rw [Bool.and_true, h]
  exact decide_eq_decide.mpr (by omega)
theorem XT.late {H H1 : Hp} {t : Addr} {o : HO} (k : XT H H1) (h : H t = none) : XT H (upd H1 t o) := fun q u e => by rw [upd_ne (ne_of_none e h)]; exact k q u e
/-- where the law stands while it draws its columns -/
structure Ls (H0 H : Hp) (p L : Addr) (n : Nat) (cs : List Col) : Prop where
  D : PD H p n
  C : LAt H L (cs.map ct)
  X : XT H0 H
  ne : L ≠ p
  f : H0 p = none
theorem Ls.new {H0 H : Hp} {p L q : Addr} {n : Nat} {cs : List Col} {o : HO} (h : Ls H0 H p L n cs) (hq : H q = none) : Ls H0 (upd H q o) p L n cs := ⟨h.D.new hq, h.C.keep (XT.new XT.refl hq), XT.new h.X hq, h.ne, h.f⟩
theorem Ls.draw {H0 H H' : Hp} {p L : Addr} {n m : Nat} {cs : List Col} (h : Ls H0 H p L n cs) (D : PD H' p m) (K : Keep p H H') : Ls H0 H' p L m cs := ⟨D, h.C.keepP h.ne h.D.at K, XT.pool h.X h.f K, h.ne, h.f⟩
theorem Ls.keep {H0 H H' : Hp} {p L : Addr} {n : Nat} {cs : List Col} (h : Ls H0 H p L n cs) (k : XT H H') : Ls H0 H' p L n cs := by
  obtain ⟨a, b, c, e, r⟩ := h.D
  exact ⟨⟨a, b, c, k _ _ e, r⟩, h.C.keep k, XT.trans h.X k, h.ne, h.f⟩
theorem g_pick {K : PySem.W.Frag} {H : Hp} {Q : VK} {q : Addr} {r : Int} (ws : List Int) (h : H q = some (.lst (ws.map V.int))) (r0 : 0 ≤ r) (r1 : r < (ws.length : Int)) (k : ∀ v, v ∈ ws → Q (.int v) H) : rIx K (.ref q) (.int r) H Q := by
  obtain ⟨j, rfl⟩ := Int.eq_ofNat_of_zero_le r0
  have hj : j < ws.length := by omega
  exact g_ixL (SqL.of h) (v := .int ws[j]) (atI_nat (by rw [List.getElem?_map, List.getElem?_eq_getElem hj]; rfl)) (k _ (List.getElem_mem hj))
theorem g_pickS {K : PySem.W.Frag} {H : Hp} {Q : VK} {q : Addr} {r : Int} (ws : List Str) (h : H q = some (.lst (ws.map V.str))) (r0 : 0 ≤ r) (r1 : r < (ws.length : Int)) (k : ∀ v, v ∈ ws → Q (.str v) H) : rIx K (.ref q) (.int r) H Q := by
  obtain ⟨j, rfl⟩ := Int.eq_ofNat_of_zero_le r0
  have hj : j < ws.length := by omega
  exact g_ixL (SqL.of h) (v := .str ws[j]) (atI_nat (by rw [List.getElem?_map, List.getElem?_eq_getElem hj]; rfl)) (k _ (List.getElem_mem hj))
/-- a key as the law gives it, whose names stand in no list of ds -/
def KyN (C : Addr) (ds : List Addr) (H : Hp) (v : V) (k : Ky) : Prop := ∃ p n z, v = .ref p ∧ H p = some (.tup [.ref n, z]) ∧ n ∉ ds ∧ H n = some (.lst (k.1.map V.str)) ∧ TzAt C H z k.2
theorem KyN.keep {C : Addr} {ds : List Addr} {H H' : Hp} {v : V} {k : Ky} (h : KyN C ds H v k) (x : XT H H') : KyN C ds H' v k := by
  obtain ⟨p, n, z, h1, h2, h3, h4, h5⟩ := h
  exact ⟨p, n, z, h1, x _ _ h2, h3, x _ _ h4, h5.keep x⟩
theorem KyN.inp {C : Addr} {ds : List Addr} {H : Hp} {v : V} {k : Ky} (h : KyN C ds H v k) : KyIn C H v k := by
  obtain ⟨p, n, z, h1, h2, h3, h4, h5⟩ := h
  exact ⟨p, n, z, h1, h2, .inl h4, h5⟩
theorem lst_no {C x : Addr} {H : Hp} (hx : ∃ xs, H x = some (.lst xs)) : ∀ o, H x = some o → (∀ dx l, o = .ins C dx l → l = []) ∧ ∀ l, o ≠ .tup l := fun o h => by
  obtain ⟨xs, e⟩ := hx
  rw [e] at h
  cases h
  exact ⟨(fun _ _ z => nomatch z), fun _ z => nomatch z⟩
theorem KyN.keepN {C x : Addr} {ds : List Addr} {H H' : Hp} {v : V} {k : Ky} (h : KyN C ds H v k) (m : x ∈ ds) (hx : ∃ xs, H x = some (.lst xs)) (kk : NXT x H H') : KyN C ds H' v k := by
  obtain ⟨p, n, z, h1, h2, h3, h4, h5⟩ := h
  exact ⟨p, n, z, h1, kk _ _ (fun e => (lst_no (C := C) hx _ (by rw [← e]; exact h2)).2 _ rfl) h2, h3, kk _ _ (fun e => h3 (e ▸ m)) h4, h5.keepN kk (lst_no hx)⟩
theorem KyN.more {C p : Addr} {ds : List Addr} {H : Hp} {v : V} {k : Ky} (h : KyN C ds H v k) (hp : H p = none) : KyN C (p :: ds) H v k := by
  obtain ⟨q, n, z, h1, h2, h3, h4, h5⟩ := h
  exact ⟨q, n, z, h1, h2, fun m => by
    rcases List.mem_cons.mp m with e | m
    · rw [e, hp] at h4; cases h4
    · exact h3 m, h4, h5⟩
theorem KysAt.set {R : V → Ky → Prop} {xs : List V} {ks : List Ky} (h : KysAt R xs ks) {j : Nat} {v : V} {k : Ky} (r : R v k) : KysAt R (xs.set j v) (ks.set j k) := by
  refine ⟨by rw [List.length_set, List.length_set]; exact h.1, fun i w l a b => ?_⟩
  rw [List.getElem?_set] at a b
  by_cases e : j = i
  · rw [if_pos e] at a b
    split at a
    · split at b
      · injection a with a; injection b with b; rw [← a, ← b]; exact r
      · cases b
    · cases a
  · rw [if_neg e] at a b
    exact h.2 i w l a b
theorem RF.set {R : Fm → Addr → Prop} : ∀ {fs : List Fm} {us : List Addr} {j : Nat} {f : Fm} {q : Addr}, RF R fs us → R f q → RF R (fs.set j f) (us.set j q)
  | _, _, _, _, _, .nil, _ => .nil
  | _, _, 0, _, _, .cons a b, r => .cons r b
  | _, _, _ + 1, _, _, .cons a b, r => .cons a (RF.set b r)
theorem small_iff {cs : List Col} {fs : List Fm} {ks : List Ky} : smallB cs fs ks = true ↔ cs.length ≤ 4 ∧ (cs.all fun c => decide (c.1.length ≤ 7)) = true ∧ fs.length ≤ 3 ∧ ks.length ≤ 3 ∧ (∀ f ∈ fs, large f = false) ∧ ∀ k ∈ ks, ∀ f, k.2 = some f → large f = false := by
  unfold smallB keyTs
  simp only [Bool.and_eq_true, decide_eq_true_eq, Bool.not_eq_true', List.any_append, Bool.or_eq_false_iff, List.any_eq_false, List.mem_filterMap, Bool.not_eq_true]
  refine ⟨fun ⟨a, b, c, d, e, g⟩ => ⟨a, b, c, d, e, fun k hk f hf => g f ⟨k, hk, hf⟩⟩, fun ⟨a, b, c, d, e, g⟩ => ⟨a, b, c, d, e, fun f ⟨k, hk, hf⟩ => g k hk f hf⟩⟩
theorem small_fs {cs : List Col} {fs : List Fm} {ks : List Ky} {j : Nat} {g : Fm} {m : Nat} (hf : ∀ f ∈ fs, large f = false) (hj : j < fs.length) (hg : large g = decide (8 < m)) : smallB cs (fs.set j g) ks = (smallB cs fs ks && decide ((m : Int) < 9)) := by
  rw [Bool.eq_iff_iff, Bool.and_eq_true, small_iff, small_iff, List.length_set, decide_eq_true_eq]
  constructor
  · rintro ⟨a, b, c, d, e, f⟩
    have := e g (List.mem_set hj g)
    rw [hg, decide_eq_false_iff_not] at this
    exact ⟨⟨a, b, c, d, hf, f⟩, by omega⟩
  · rintro ⟨⟨a, b, c, d, e, f⟩, h⟩
    refine ⟨a, b, c, d, fun x hx => ?_, f⟩
    rcases List.mem_or_eq_of_mem_set hx with hx | rfl
    · exact e x hx
    · rw [hg, decide_eq_false_iff_not]; omega
theorem small_ks {cs : List Col} {fs : List Fm} {ks : List Ky} {j : Nat} {g : Fm} {n : List Str} {m : Nat} (hk : ∀ k ∈ ks, k.2 = none) (hj : j < ks.length) (hg : large g = decide (8 < m)) : smallB cs fs (ks.set j (n, some g)) = (smallB cs fs ks && decide ((m : Int) < 9)) := by
  rw [Bool.eq_iff_iff, Bool.and_eq_true, small_iff, small_iff, List.length_set, decide_eq_true_eq]
  constructor
  · rintro ⟨a, b, c, d, e, f⟩
    have := f (n, some g) (List.mem_set hj _) g rfl
    rw [hg, decide_eq_false_iff_not] at this
    exact ⟨⟨a, b, c, d, e, fun k h f h' => by rw [hk k h] at h'; cases h'⟩, by omega⟩
  · rintro ⟨⟨a, b, c, d, e, f⟩, h⟩
    refine ⟨a, b, c, d, e, fun x hx f0 h0 => ?_⟩
    rcases List.mem_or_eq_of_mem_set hx with hx | rfl
    · exact f x hx f0 h0
    · injection h0 with h0
      rw [← h0, hg, decide_eq_false_iff_not]; omega
theorem atI_last {α : Type} {xs : List α} {v : α} (h1 : 1 ≤ xs.length) (h : xs[xs.length - 1]? = some v) : atI xs (-1) = some v := by
  unfold atI ixN
  rw [if_neg (by decide), if_pos (by omega)]
  show xs[((-1 : Int) + (xs.length : Int)).toNat]? = some v
  rw [show ((-1 : Int) + (xs.length : Int)).toNat = xs.length - 1 by omega]
  exact h
theorem ixN_nat {n j : Nat} (h : j < n) : ixN n (j : Int) = some j := by
  unfold ixN
  rw [if_pos (by omega), if_pos (by omega), Int.toNat_natCast]
theorem KyN.made {C n t : Addr} {ds : List Addr} {H : Hp} {z : V} {c : Str} {o : Option Fm} (hn : H n = none) (hd : ∀ d ∈ ds, H d ≠ none) (ht : (upd H n (.lst [.str c])) t = none) (hz : TzAt C H z o) : KyN C ds (upd (upd H n (.lst [.str c])) t (.tup [.ref n, z])) (.ref t) ([c], o) := by
  have nt : n ≠ t := ne_of_none (o := .lst [.str c]) upd_same ht
  exact ⟨t, n, z, rfl, upd_same, fun m => hd n m hn, by rw [upd_ne nt]; exact upd_same, hz.keep (XT.new (XT.new XT.refl hn) ht)⟩
section
variable {CS C : Addr} {H H' : Hp} {x : Addr} {cs : List Col} {fs : List Fm} {ks : List Ky}
theorem g_eqSh {K : PySem.W.Frag} {Q : VK} {y : Addr} {cs' : List Col} {fs' : List Fm} {ks' : List Ky} (h : ShpAt CS C H cs fs ks x) (h' : ShpAt CS C H cs' fs' ks' y) (k : ∀ r H', XT H H' → (r = true ↔ cs = cs' ∧ fs = fs' ∧ ks = ks') → Q (.bl r) H') : rEqOwn K CS (spShEq CS C) (.ref x) (.ref y) H Q := by
  obtain ⟨dx, _, _, _, _, _, _, _, _, e, _⟩ := h.ex
  obtain ⟨dy, _, _, _, _, _, _, _, _, e', _⟩ := h'.ex
  exact ⟨x, dx, _, rfl, e, .inl ⟨y, dy, _, rfl, e'⟩, x, .ref y, cs, fs, ks, rfl, h, .inl ⟨y, cs', fs', ks', rfl, h', k⟩⟩
theorem g_eqShSame {K : PySem.W.Frag} {Q : VK} {y : Addr} (h : ShpAt CS C H cs fs ks x) (h' : ShpAt CS C H cs fs ks y) (k : ∀ H', XT H H' → Q (.bl true) H') : rEqOwn K CS (spShEq CS C) (.ref x) (.ref y) H Q := g_eqSh h h' fun r H' x' hr => by
  rw [hr.mpr ⟨rfl, rfl, rfl⟩]
  exact k H' x'
theorem g_neSh {K : PySem.W.Frag} {Q : VK} {y : Addr} {cs' : List Col} {fs' : List Fm} {ks' : List Ky} (h : ShpAt CS C H cs fs ks x) (h' : ShpAt CS C H cs' fs' ks' y) (k : ∀ r H', XT H H' → (r = true ↔ cs = cs' ∧ fs = fs' ∧ ks = ks') → Q (.bl (!r)) H') : rNeOwn K CS (spShEq CS C) (.ref x) (.ref y) H Q := by
  obtain ⟨dx, _, _, _, _, _, _, _, _, e, _⟩ := h.ex
  obtain ⟨dy, _, _, _, _, _, _, _, _, e', _⟩ := h'.ex
  exact ⟨x, dx, _, rfl, e, .inl ⟨y, dy, _, rfl, e'⟩, x, .ref y, cs, fs, ks, rfl, h, .inl ⟨y, cs', fs', ks', rfl, h', fun r H' x' hr => ⟨r, rfl, k r H' x' hr⟩⟩⟩
end
section
variable {P : Program} {w : World} {K : PySem.W.Frag} {mg : Str → Option Value} {base : Heap}
theorem ok_law (T : Txt K mg) {f : Addr} {fd : FuncData} (F : Fun K "law" "law" S_law f fd) : FnOk P w K mg base CX0 60 f fd ["_law_script"] (spLaw K) := by
  refine Fun.okM F sc_law (fun vs H Q E h => ?_) (fun cdv A outer s H vs Q E hr h => ?_)
  · obtain ⟨a, ns, rfl, _⟩ := h
    rfl
  · obtain ⟨a, ns, rfl, hS, hlen, k⟩ := h
    refine ⟨_, (pss_cons (ps_set (i := 1) sc_law.nd rfl (Or.inl rfl) (pe_def (ok__law_pool T) hr rfl (pa_cons (pv 0) (pa_cons pe_int pa_nil))))
  (pss_cons (ps_set (i := 2) sc_law.nd rfl (Or.inr rfl) (pe_lst pa_nil))
  (pss_cons (ps_set (i := 3) sc_law.nd rfl (Or.inl rfl) pe_bl)
  (pss_cons (ps_for PassesOwn.never rfl (pi_range1 rfl T.h_range (pa_cons (pe_ix (ix_seqG (K := K) rfl) (pe_lst (pa_cons pe_int (pa_cons pe_int (pa_cons pe_int (pa_cons pe_int (pa_cons pe_int (pa_cons pe_int pa_nil))))))) (pe_def (ok__law_draw T) hr rfl (pa_cons (pv 1) (pa_cons pe_int pa_nil))) (fun _ _ => rfl)) pa_nil)) (pg_name (i := 4) sc_law.nd rfl (Or.inl rfl))
  (pss_cons (ps_set (i := 5) sc_law.nd rfl (Or.inl rfl) (pe_ix (ix_seqG (K := K) rfl) (pe_lst (pa_cons pe_int (pa_cons pe_int (pa_cons pe_int (pa_cons pe_int (pa_cons pe_int (pa_cons pe_int (pa_cons pe_int (pa_cons pe_int pa_nil))))))))) (pe_def (ok__law_draw T) hr rfl (pa_cons (pv 1) (pa_cons pe_int pa_nil))) (fun _ _ => rfl)))
  (pss_cons (ps_set (i := 6) sc_law.nd rfl (Or.inl rfl) (pe_def (ok__law_long_name T) hr rfl (pa_cons (pv 1) (pa_cons (pe_lc (own := [("_law_column", 13)]) rfl sc_law.nd (pi_list (pv 2)) (blkOk_by (N := N_law) (sc := defScope S_law) (by decide +kernel)) (fun _ _ _ _ _ => pg_name (i := 13) sc_law.nd rfl (Or.inl rfl)) (fun _ _ _ _ _ => pts_nil) (fun _ _ _ _ _ => (pe_ix (ix_seqG (K := K) rfl) (pv 13) pe_int (fun _ _ => rfl)))) (pa_cons (pv 5) pa_nil)))))
  (Evl.pss_cut (ps_set (i := 3) sc_law.nd rfl (Or.inl rfl) (pe_and (pv 3) (pe_one (pe_cmpR op_ltG (pv 5) pe_int (nomark _)))))
  (pss_one (ps_expr (pe_bm PySem.F.plainAttrs_list PySem.F.slot_list_append PySem.F.type_list_append mt_append (pv 2) (pa_cons (pe_tup (pa_cons (pv 6) (pa_cons (pe_ix (ix_seqG (K := K) rfl) (pe_lst (pa_cons pe_str (pa_cons pe_str pa_nil))) (pe_def (ok__law_draw T) hr rfl (pa_cons (pv 1) (pa_cons pe_int pa_nil))) (fun _ _ => rfl)) (pa_cons (pe_cmpR op_eq (pe_def (ok__law_draw T) hr rfl (pa_cons (pv 1) (pa_cons pe_int pa_nil))) pe_int (nomark _)) pa_nil)))) pa_nil))))))))
  (pss_cons (ps_setLc (i := 7) (own := [("_law_k", 4)]) rfl sc_law.nd rfl rfl (sw_true rfl rfl rfl (by decide +kernel)) (pi_range1 rfl T.h_range (pa_cons (pe_ix (ix_seqG (K := K) rfl) (pe_lst (pa_cons pe_int (pa_cons pe_int (pa_cons pe_int (pa_cons pe_int (pa_cons pe_int (pa_cons pe_int pa_nil))))))) (pe_def (ok__law_draw T) hr rfl (pa_cons (pv 1) (pa_cons pe_int pa_nil))) (fun _ _ => rfl)) pa_nil)) (blkOk_by (N := N_law) (sc := defScope S_law) (by decide +kernel)) (fun _ _ _ _ _ => pg_name (i := 4) sc_law.nd rfl (Or.inl rfl)) (fun _ _ _ _ _ => pts_nil) (fun _ _ _ _ _ => (pe_def (ok_empty T) hr rfl (pa_cons (pe_ix (ix_seqG (K := K) rfl) (pe_ix (ix_seqG (K := K) rfl) (pv 2) pe_int (fun _ _ => rfl)) pe_int (fun _ _ => rfl)) pa_nil))))
  (pss_cons (ps_setLc (i := 8) (own := [("_law_k", 4)]) rfl sc_law.nd rfl rfl (sw_true rfl rfl rfl (by decide +kernel)) (pi_range1 rfl T.h_range (pa_cons (pe_ix (ix_seqG (K := K) rfl) (pe_lst (pa_cons pe_int (pa_cons pe_int (pa_cons pe_int (pa_cons pe_int (pa_cons pe_int (pa_cons pe_int pa_nil))))))) (pe_def (ok__law_draw T) hr rfl (pa_cons (pv 1) (pa_cons pe_int pa_nil))) (fun _ _ => rfl)) pa_nil)) (blkOk_by (N := N_law) (sc := defScope S_law) (by decide +kernel)) (fun _ _ _ _ _ => pg_name (i := 4) sc_law.nd rfl (Or.inl rfl)) (fun _ _ _ _ _ => pts_nil) (fun _ _ _ _ _ => (pe_tup (pa_cons (pe_lst (pa_cons (pe_ix (ix_seqG (K := K) rfl) (pe_ix (ix_seqG (K := K) rfl) (pv 2) (pe_un un_negG pe_int) (fun _ _ => rfl)) pe_int (fun _ _ => rfl)) pa_nil)) (pa_cons pe_non pa_nil)))))
  (Evl.pss_cut (ps_set (i := 3) sc_law.nd rfl (Or.inl rfl) (pe_and (pv 3) (pe_and (pe_cmpR op_ltG (pe_callB (call_lenG (K := K) rfl) (by rfl) T.h_len (by decide +kernel) (pa_cons (pv 2) pa_nil)) pe_int (nomark _)) (pe_and (pe_cmpR op_ltG (pe_callB (call_lenG (K := K) rfl) (by rfl) T.h_len (by decide +kernel) (pa_cons (pv 7) pa_nil)) pe_int (nomark _)) (pe_one (pe_cmpR op_ltG (pe_callB (call_lenG (K := K) rfl) (by rfl) T.h_len (by decide +kernel) (pa_cons (pv 8) pa_nil)) pe_int (nomark _)))))))
  (pss_cons (ps_set (i := 9) sc_law.nd rfl (Or.inl rfl) (pe_def (ok__law_pool T) hr rfl (pa_cons (pv 0) (pa_cons pe_int pa_nil))))
  (Evl.pss_cut (ps_if (pt_cmpR op_eq (pe_def (ok__law_draw T) hr rfl (pa_cons (pv 9) (pa_cons pe_int pa_nil))) pe_int (nomark _))
  (pss_cons (ps_set (i := 5) sc_law.nd rfl (Or.inl rfl) (pe_op op_addG pe_int (pe_def (ok__law_draw T) hr rfl (pa_cons (pv 9) (pa_cons pe_int pa_nil)))))
  (pss_cons (ps_set (i := 10) sc_law.nd rfl (Or.inl rfl) (pe_def (ok__law_grown T) hr rfl (pa_cons (pe_def (ok_empty T) hr rfl (pa_cons (pe_ix (ix_seqG (K := K) rfl) (pe_ix (ix_seqG (K := K) rfl) (pv 2) pe_int (fun _ _ => rfl)) pe_int (fun _ _ => rfl)) pa_nil)) (pa_cons (pe_cmpR op_eq (pe_def (ok__law_draw T) hr rfl (pa_cons (pv 9) (pa_cons pe_int pa_nil))) pe_int (nomark _)) (pa_cons (pv 5) pa_nil)))))
  (pss_cons (ps_set (i := 11) sc_law.nd rfl (Or.inl rfl) (pe_cmpR op_eq (pe_def (ok__law_draw T) hr rfl (pa_cons (pv 9) (pa_cons pe_int pa_nil))) pe_int (nomark _)))
  (pss_one (ps_if (PW.pt (pw_and (pt_val (pv 11)) (pw_and1 (pt_cmpR op_gtG (pe_callB (call_lenG (K := K) rfl) (by rfl) T.h_len (by decide +kernel) (pa_cons (pv 8) pa_nil)) pe_int (nomark _)))))
  (pss_cons (ps_asg (pe_tup (pa_cons (pe_lst (pa_cons (pe_ix (ix_seqG (K := K) rfl) (pe_ix (ix_seqG (K := K) rfl) (pv 2) pe_int (fun _ _ => rfl)) pe_int (fun _ _ => rfl)) pa_nil)) (pa_cons (pv 10) pa_nil))) (pg_sub (pv 8) (pe_def (ok__law_draw T) hr rfl (pa_cons (pv 9) (pa_cons (pe_callB (call_lenG (K := K) rfl) (by rfl) T.h_len (by decide +kernel) (pa_cons (pv 8) pa_nil)) pa_nil))) set_list))
  (pss_one (ps_set (i := 3) sc_law.nd rfl (Or.inl rfl) (pe_and (pv 3) (pe_one (pe_cmpR op_ltG (pv 5) pe_int (nomark _)))))))
  (pss_one (ps_if (pt_cmpR op_gtG (pe_callB (call_lenG (K := K) rfl) (by rfl) T.h_len (by decide +kernel) (pa_cons (pv 7) pa_nil)) pe_int (nomark _))
  (pss_cons (ps_asg (pv 10) (pg_sub (pv 7) (pe_def (ok__law_draw T) hr rfl (pa_cons (pv 9) (pa_cons (pe_callB (call_lenG (K := K) rfl) (by rfl) T.h_len (by decide +kernel) (pa_cons (pv 7) pa_nil)) pa_nil))) set_list))
  (pss_one (ps_set (i := 3) sc_law.nd rfl (Or.inl rfl) (pe_and (pv 3) (pe_one (pe_cmpR op_ltG (pv 5) pe_int (nomark _)))))))
  pss_nil)))))))
  pss_nil)
  (pss_cons (ps_set (i := 12) sc_law.nd rfl (Or.inl rfl) (pe_newKX takes0 (ok_Shape_init T).ck hr rfl T.e_Shape (pa_cons (pv 2) pa_nil) (pv 7) (pv 8)))
  (pss_cons (ps_if (PW.pt (pw_or (pt_not (pt_val (pe_def (ok__law_is T) hr rfl (pa_cons (pe_def (ok_is_small T) hr rfl (pa_cons (pv 12) pa_nil)) (pa_cons (pv 3) pa_nil))))) (pw_or1 (pt_cmpR (op_neOwn (K := K) rfl T.ne_Shape (ok_Shape_eq T) hr) (pe_def (ok_bare T) hr rfl (pa_cons (pv 12) (pa_cons (pe_def (ok_own_rules T) hr rfl (pa_cons (pv 12) pa_nil)) pa_nil))) (pv 12) (nomark _)))))
  (pss_one (ps_ret pe_bl))
  pss_nil)
  (pss_cons (ps_if (pt_not (pt_val (pv 3)))
  (pss_one (ps_ret (pe_and (pe_def (ok__law_refused T) hr rfl (pa_cons pe_int (pa_cons (pv 12) pa_nil))) (pe_one (pe_def (ok__law_refused T) hr rfl (pa_cons pe_int (pa_cons (pv 12) pa_nil)))))))
  pss_nil)
  (pss_one (ps_ret (pe_and (pe_cmpR op_eq (pe_callB (call_lenG (K := K) rfl) (by rfl) T.h_len (by decide +kernel) (pa_cons (pe_me0 (pe_defX takes0 (ok_copies T) hr rfl (pa_cons (pv 12) (pa_cons pe_int pa_nil))) T.cl_Shape (ok_Shape_columns T) hr) pa_nil)) (pe_op op_mulG pe_int (pe_callB (call_lenG (K := K) rfl) (by rfl) T.h_len (by decide +kernel) (pa_cons (pv 2) pa_nil))) (nomark _)) (pe_one (pe_cmpR (op_eqOwn (K := K) rfl (ok_Shape_eq T) hr) (pe_me0 (pe_newX takes0 (ok_Desk_init T) hr rfl T.e_Desk (pa_cons (pv 12) pa_nil)) T.cl_Desk (ok_Desk_shape T) hr) (pv 12) (nomark _)))))))))))))))))), ?_⟩
    walk_at "g"
    refine ⟨a, ns, 0, rfl, hS, hlen, by decide, fun p0 H1 hp0 S1 D1 => ?_⟩
    walk_at "g"
    refine ⟨Nat.zero_le _, fun L hL => ?_⟩
    have nLp := D1.ne hL
    have D2 := D1.new (o := .lst []) hL
    have x2 : XT H (upd H1 L (.lst [])) := XT.new S1 hL
    have eL : LAt (upd H1 L (.lst [])) L (([] : List Col).map ct) := ⟨[], upd_same, rfl, fun i q t h _ => by cases h⟩
    have fL : H L = none := by
      cases e : H L with
      | none => rfl
      | some o => rw [S1 _ _ e] at hL; cases hL
    generalize upd H1 L (.lst []) = H2 at D2 x2 eL
    walk_at "g"
    have hI2 : Ls H H2 p0 L 200000 [] := ⟨D2, eL, x2, nLp, hp0⟩
    clear D2 eL x2 S1 D1
    refine ⟨by show 6 ≤ sizeLine; decide, fun q hq => ?_⟩
    have hI3 := hI2.new (o := .lst [.int 1, .int 2, .int 3, .int 4, .int 4, .int 5]) hq
    have eq3 : (upd H2 q (.lst [.int 1, .int 2, .int 3, .int 4, .int 4, .int 5])) q = some (.lst (([1, 2, 3, 4, 4, 5] : List Int).map V.int)) := upd_same
    have nq3 := hI2.D.ne hq
    generalize upd H2 q (.lst [.int 1, .int 2, .int 3, .int 4, .int 4, .int 5]) = H3 at hI3 eq3
    walk_at "g"
    refine ⟨_, _, _, rfl, hI3.D, by omega, by decide, by decide +kernel, fun r H4 r0 r1 D4 K4 => ?_⟩
    have hI4 := hI3.draw D4 K4
    refine g_pick [1, 2, 3, 4, 4, 5] (K4 _ _ nq3 eq3) r0 r1 fun J hJ => ?_
    have hJ5 : 1 ≤ J ∧ J ≤ 5 := by
      simp only [List.mem_cons, List.not_mem_nil, or_false] at hJ
      omega
    clear hI2 hI3 eq3 nq3 D4 K4
    walk_at "g"
    refine ⟨_, rfl, by omega, by omega, ?_⟩
    refine for_rangeA (fun i σ' H' => ∃ (cs : List Col) (s4 s5 s6 : Option V), σ' = [some (.ref a), some (.ref p0), some (.ref L), some (.bl (cs.all fun c => decide (c.1.length ≤ 7))), s4, s5, s6, none, none, none, none, none, none, none] ∧ cs.length = i ∧ (cs = [] ∨ ColsOk cs) ∧ Ls H H' p0 L (200001 + 30 * i) cs) ⟨[], none, none, none, rfl, rfl, .inl rfl, hI4⟩ ?_ ?_
    · rintro i σ' H6 D' hi ⟨cs, s4, s5, s6, rfl, hcl, hcs, hI6⟩ hnx hct hbk hrt
      have hi5 : i < 5 := by omega
      clear hI4
      walk_at "g"
      refine ⟨by show 8 ≤ sizeLine; decide, fun q hq => ?_⟩
      have hI7 := hI6.new (o := .lst [.int 2, .int 3, .int 7, .int 7, .int 7, .int 7, .int 7, .int 8]) hq
      have eq7 : (upd H6 q (.lst [.int 2, .int 3, .int 7, .int 7, .int 7, .int 7, .int 7, .int 8])) q = some (.lst (([2, 3, 7, 7, 7, 7, 7, 8] : List Int).map V.int)) := upd_same
      have nq7 := hI6.D.ne hq
      generalize upd H6 q (.lst [.int 2, .int 3, .int 7, .int 7, .int 7, .int 7, .int 7, .int 8]) = H7 at hI7 eq7
      walk_at "g"
      refine ⟨_, _, _, rfl, hI7.D, by omega, by decide, by decide +kernel, fun r H8 r0 r1 D8 K8 => ?_⟩
      have hI8 := hI7.draw D8 K8
      refine g_pick [2, 3, 7, 7, 7, 7, 7, 8] (K8 _ _ nq7 eq7) r0 r1 fun M hM => ?_
      obtain ⟨m, rfl, hm⟩ : ∃ m : Nat, M = m ∧ m ∈ manyL := by
        simp only [List.mem_cons, List.not_mem_nil, or_false] at hM
        refine ⟨M.toNat, by omega, ?_⟩
        unfold manyL
        simp only [List.mem_cons, List.not_mem_nil, or_false]
        omega
      clear hI6 hI7 eq7 nq7 D8 K8 hM r0 r1
      walk_at "g"
      obtain ⟨qs, hL8, hql, hcol⟩ := id hI8.C
      rw [List.length_map] at hql
      refine ⟨L, rfl, ⟨_, SqL.of hL8⟩, fun l hl => ?_⟩
      refine lc_new (qs.map V.ref) (fun i y _ => ∃ c, cs[i]? = some c ∧ y = .str c.1) hl (fun H2 k2 => fits_l (SqL.of (k2 _ _ hL8))) (by rw [List.length_map]; omega) (fun i y Ha Hb _ h _ => h) ?_ ?_
      · intro j y Hh R S hy kh _ hR
        rw [List.getElem?_map] at hy
        obtain ⟨q, hqj, rfl⟩ := Option.map_eq_some_iff.mp hy
        have hjl : j < cs.length := by
          have := (List.getElem?_eq_some_iff.mp hqj).1
          omega
        obtain ⟨c, hc⟩ : ∃ c, cs[j]? = some c := ⟨_, List.getElem?_eq_getElem hjl⟩
        have et := kh _ _ (hcol j q (ct c) hqj (by rw [List.getElem?_map, hc]; rfl))
        walk_at "g"
        refine ⟨rfl, ?_⟩
        walk_at "g"
        refine g_ixT (SqT.of et) (v := .str c.1) (by rfl) ?_
        exact hR _ _ (fun q o h => h) ⟨c, hc, rfl⟩
      intro H9 ys x9 hW hyl hys
      obtain rfl : ys = (cs.map (·.1)).map V.str := by
        refine List.ext_getElem (by rw [hyl, List.length_map, List.length_map, List.length_map, hql]) fun i g1 g2 => ?_
        obtain ⟨c, hc, e⟩ := hys i ys[i] (List.getElem?_eq_getElem g1)
        rw [e, List.getElem_map, List.getElem_map]
        obtain ⟨h3, h4⟩ := List.getElem?_eq_some_iff.mp hc
        rw [h4]
      have hI9 := hI8.keep x9
      have nl := hI8.D.ne hl
      clear hI8 hL8 hcol hys x9 hyl
      walk_at "g"
      refine ⟨p0, l, cs.map (·.1), _, m, rfl, hI9.D, by omega, nl, hW, by rw [List.length_map]; omega, hm, fun z H10 hz hzl hzn D10 K10 => ?_⟩
      have hI10 := hI9.draw D10 K10
      clear hI9 hW D10 K10
      walk_at "g"
      have hsm := all7_snoc (cs := cs) (c := (z, false, false)) (m := m) hzl
      generalize hsb : (cs.all fun c => decide (c.1.length ≤ 7)) = sb at hsm ⊢
      refine g_cutA (M := fun σ' H' => σ' = [some (.ref a), some (.ref p0), some (.ref L), some (.bl (sb && decide ((m : Int) < 8))), some (.int (0 + (i : Int))), some (.int (m : Int)), some (.str z), none, none, none, none, none, none, none] ∧ H' = H10) (fun D2 hn _ _ _ => ?_) ?_
      · walk_at "g"
        cases sb with
        | true =>
          rw [if_pos rfl]
          walk_at "g"
          exact hn _ _ ⟨by rw [Bool.true_and]; rfl, rfl⟩
        | false =>
          rw [if_neg Bool.false_ne_true]
          walk_at "g"
          exact hn _ _ ⟨by rw [Bool.false_and]; rfl, rfl⟩
      rintro σ' H' ⟨rfl, rfl⟩
      walk_at "g"
      refine g_tyL ⟨let ⟨qs, e, _⟩ := hI10.C; ⟨_, e⟩, ?_⟩
      walk_at "g"
      refine ⟨by show 2 ≤ sizeLine; decide, fun q hq => ?_⟩
      have hI11 := hI10.new (o := .lst [.str "number", .str "text"]) hq
      have eq11 : (upd H' q (.lst [.str "number", .str "text"])) q = some (.lst (([false, true].map kS).map V.str)) := upd_same
      have nq := hI10.D.ne hq
      generalize upd H' q (.lst [.str "number", .str "text"]) = H11 at hI11 eq11
      walk_at "g"
      refine ⟨_, _, _, rfl, hI11.D, by omega, by decide, by decide +kernel, fun r H12 r0 r1 D12 K12 => ?_⟩
      have hI12 := hI11.draw D12 K12
      refine g_pickS ([false, true].map kS) (K12 _ _ nq eq11) r0 r1 fun kd hkd => ?_
      obtain ⟨b, _, rfl⟩ := List.mem_map.mp hkd
      clear hI10 hI11 eq11 nq D12 K12 hkd r0 r1
      walk_at "g"
      refine ⟨_, _, _, rfl, hI12.D, by omega, by decide, by decide +kernel, fun r H13 r0 r1 D13 K13 => ?_⟩
      have hI13 := hI12.draw D13 K13
      clear hI12 D13 K13
      walk_at "g"
      refine ⟨by show 3 ≤ sizeLine; decide, fun t ht => ?_⟩
      obtain ⟨qs, hL13, _⟩ := id hI13.C
      have hLt := hI13.C.app (x := ct (z, b, decide (r = 1))) hL13 ht
      have nLt : L ≠ t := ne_of_none hL13 ht
      have e14 : (upd H13 t (.tup [.str z, .str (kS b), .bl (decide (r = 1))])) = upd H13 t (.tup (ct (z, b, decide (r = 1)))) := rfl
      rw [e14]
      walk_at "g"
      refine g_app (by rw [upd_ne nLt]; exact hL13) (by have := hI13.C.get hL13; rw [List.length_map, this.1, List.length_map]; omega) ?_
      walk_at "g"
      refine hnx _ _ ⟨cs ++ [(z, b, decide (r = 1))], _, _, _, by rw [all7_snoc hzl, hsb], by rw [List.length_append, hcl]; rfl, .inr (colsOk_snoc hcs (by omega) hz hzn), ⟨(((hI13.D.new ht).other hI13.ne).mono (by omega)), by rw [List.map_append]; exact hLt, XT.late (XT.new hI13.X ht) fL, hI13.ne, hI13.f⟩⟩
    rintro σ' H6 ⟨cs, s4, s5, s6, rfl, hcl, hcs, hI6⟩
    have hco : ColsOk cs := by
      rcases hcs with rfl | h
      · rw [List.length_nil] at hcl; omega
      · exact h
    have hc5 : cs.length ≤ 5 := by omega
    clear hI4 hcs
    have h1c := hco.ne
    obtain ⟨c0, hc0⟩ : ∃ c, cs[0]? = some c := ⟨_, List.getElem?_eq_getElem (by omega)⟩
    obtain ⟨cl, hcl0⟩ : ∃ c, cs[cs.length - 1]? = some c := ⟨_, List.getElem?_eq_getElem (by omega)⟩
    have hn0 := hco.nm c0 (List.mem_of_getElem? hc0)
    have hnl := hco.nm cl (List.mem_of_getElem? hcl0)
    have hk0 : (c0.1, c0.2.1) ∈ k2 cs := List.mem_map.mpr ⟨c0, List.mem_of_getElem? hc0, rfl⟩
    walk_at "g"
    refine ⟨by show 6 ≤ sizeLine; decide, fun q hq => ?_⟩
    have hI7 := hI6.new (o := .lst [.int 0, .int 1, .int 2, .int 3, .int 3, .int 4]) hq
    have eq7 : (upd H6 q (.lst [.int 0, .int 1, .int 2, .int 3, .int 3, .int 4])) q = some (.lst (([0, 1, 2, 3, 3, 4] : List Int).map V.int)) := upd_same
    have nq7 := hI6.D.ne hq
    generalize upd H6 q (.lst [.int 0, .int 1, .int 2, .int 3, .int 3, .int 4]) = H7 at hI7 eq7
    walk_at "g"
    refine ⟨_, _, _, rfl, hI7.D, by omega, by decide, by decide +kernel, fun r H8 r0 r1 D8 K8 => ?_⟩
    have hI8 := hI7.draw D8 K8
    refine g_pick [0, 1, 2, 3, 3, 4] (K8 _ _ nq7 eq7) r0 r1 fun M hM => ?_
    obtain ⟨nt, rfl, hnt⟩ : ∃ m : Nat, M = m ∧ m ≤ 4 := by
      simp only [List.mem_cons, List.not_mem_nil, or_false] at hM
      exact ⟨M.toNat, by omega, by omega⟩
    clear hI6 hI7 eq7 nq7 D8 K8 hM r0 r1
    walk_at "g"
    refine ⟨_, rfl, by omega, by omega, fun TL hTL => ?_⟩
    refine lc_range (fun i Hi => NXT TL H8 Hi ∧ ∃ us, Hi TL = some (.lst (us.map V.ref)) ∧ RF (FitAt (cadr mg "Test") Hi) (List.replicate i (.at (.empty c0.1))) us) ⟨fun q o n h => by rw [upd_ne n]; exact h, [], upd_same, .nil⟩ ?_ ?_
    · rintro i Hi hi ⟨kD, us, eD, hR⟩
      have hul := hR.len
      rw [List.length_replicate] at hul
      have xh : XT H8 Hi := fun q o h => kD q o (ne_of_none h hTL) h
      obtain ⟨qs, hL8, hql, hcol⟩ := hI8.C.keep xh
      rw [List.length_map] at hql
      obtain ⟨q0, hq0⟩ : ∃ q, qs[0]? = some q := ⟨_, List.getElem?_eq_getElem (by omega)⟩
      have et := hcol 0 q0 (ct c0) hq0 (by rw [List.getElem?_map, hc0]; rfl)
      refine ⟨rfl, ?_⟩
      walk_at "g"
      refine g_ixL (SqL.of hL8) (v := .ref q0) (atI_nat (j := 0) (by rw [List.getElem?_map, hq0]; rfl)) ?_
      walk_at "g"
      refine g_ixT (SqT.of et) (v := .str c0.1) (by rfl) ?_
      walk_at "g"
      refine ⟨c0.1, rfl, hn0, fun t H9 x9 hT => ?_⟩
      have g0 := gf_em hn0 hk0
      refine ⟨_, x9 _ _ eD, by rw [List.length_map, sizeLine_eq]; omega, fun q o n h => ?_, us ++ [t], by rw [upd_same, List.map_append]; rfl, ?_⟩
      · rw [upd_ne n]; exact x9 _ _ (kD q o n h)
      · rw [List.replicate_succ']
        have kU : NXT TL H9 (upd H9 TL (.lst (us.map V.ref ++ [.ref t]))) := fun q o n h => by rw [upd_ne n]; exact h
        refine ((hR.mono fun f q h => (h.keep x9)).app (.cons ⟨hT, ⟨_, g0.wf⟩, g0.dp, g0.sz⟩ .nil)).mono fun f q h => h.keepN kU (lst_no ⟨_, x9 _ _ eD⟩)
    rintro H9 ⟨kD9, us, eT9, hR9⟩
    rw [Int.toNat_natCast] at hR9
    have x9 : XT H8 H9 := fun q o h => kD9 q o (ne_of_none h hTL) h
    have hI9 := hI8.keep x9
    have nLT : L ≠ TL := by obtain ⟨qs, h, _⟩ := hI8.C; exact ne_of_none h hTL
    have nTp := hI8.D.ne hTL
    have fT : H TL = none := by
      cases e : H TL with
      | none => rfl
      | some o => rw [hI8.X _ _ e] at hTL; cases hTL
    clear hI8 kD9 hTL x9
    walk_at "g"
    refine ⟨by show 6 ≤ sizeLine; decide, fun q hq => ?_⟩
    have hI10 := hI9.new (o := .lst [.int 0, .int 1, .int 2, .int 3, .int 3, .int 4]) hq
    have eq10 : (upd H9 q (.lst [.int 0, .int 1, .int 2, .int 3, .int 3, .int 4])) q = some (.lst (([0, 1, 2, 3, 3, 4] : List Int).map V.int)) := upd_same
    have nq10 := hI9.D.ne hq
    have x10 : XT H9 (upd H9 q (.lst [.int 0, .int 1, .int 2, .int 3, .int 3, .int 4])) := XT.new XT.refl hq
    have hR10 := hR9.mono fun f q h => h.keep x10
    have eT10 := x10 _ _ eT9
    generalize upd H9 q (.lst [.int 0, .int 1, .int 2, .int 3, .int 3, .int 4]) = H10 at hI10 eq10 hR10 eT10
    walk_at "g"
    refine ⟨_, _, _, rfl, hI10.D, by omega, by decide, by decide +kernel, fun r H11 r0 r1 D11 K11 => ?_⟩
    have hI11 := hI10.draw D11 K11
    have eT11 := K11 _ _ nTp eT10
    have hR11 := hR10.mono fun f q h => h.keepN K11 (lst_no hI10.D.at)
    refine g_pick [0, 1, 2, 3, 3, 4] (K11 _ _ nq10 eq10) r0 r1 fun M hM => ?_
    obtain ⟨nu, rfl, hnu⟩ : ∃ m : Nat, M = m ∧ m ≤ 4 := by
      simp only [List.mem_cons, List.not_mem_nil, or_false] at hM
      exact ⟨M.toNat, by omega, by omega⟩
    clear hI9 hI10 eq10 nq10 D11 K11 hM r0 r1 eT9 eT10 hR9 hR10 x10
    walk_at "g"
    refine ⟨_, rfl, by omega, by omega, fun UL hUL => ?_⟩
    have nLU : L ≠ UL := by obtain ⟨qs, h, _⟩ := hI11.C; exact ne_of_none h hUL
    have nTU : TL ≠ UL := ne_of_none eT11 hUL
    refine lc_range (fun i Hi => NXT UL H11 Hi ∧ ∃ ys, Hi UL = some (.lst ys) ∧ KysAt (KyN (cadr mg "Test") [UL, TL] Hi) ys (List.replicate i ([cl.1], none))) ⟨fun q o n h => by rw [upd_ne n]; exact h, [], upd_same, rfl, fun i v k h => by cases h⟩ ?_ ?_
    · rintro i Hi hi ⟨kD, ys, eD, hK⟩
      have hul := hK.1
      rw [List.length_replicate] at hul
      have xh : XT H11 Hi := fun q o h => kD q o (ne_of_none h hUL) h
      obtain ⟨qs, hL8, hql, hcol⟩ := hI11.C.keep xh
      rw [List.length_map] at hql
      have eTi := xh _ _ eT11
      obtain ⟨q0, hq0⟩ : ∃ q, qs[cs.length - 1]? = some q := ⟨_, List.getElem?_eq_getElem (by omega)⟩
      have et := hcol _ q0 (ct cl) hq0 (by rw [List.getElem?_map, hcl0]; rfl)
      refine ⟨rfl, ?_⟩
      walk_at "g"
      refine g_ixL (SqL.of hL8) (v := .ref q0) ?_ ?_
      · refine atI_last (by rw [List.length_map]; omega) ?_
        rw [List.length_map, hql, List.getElem?_map, hq0]
        rfl
      walk_at "g"
      refine g_ixT (SqT.of et) (v := .str cl.1) (by rfl) ?_
      walk_at "g"
      refine ⟨by show 1 ≤ sizeLine; decide, fun n hn => ?_⟩
      walk_at "g"
      refine ⟨by show 2 ≤ sizeLine; decide, fun t ht => ?_⟩
      have x2 : XT Hi (upd (upd Hi n (.lst [.str cl.1])) t (.tup [.ref n, .non])) := XT.new (XT.new XT.refl hn) ht
      have hky := KyN.made (C := cadr mg "Test") (ds := [UL, TL]) (c := cl.1) (z := .non) (o := none) hn (fun d hd => by
        rcases List.mem_cons.mp hd with rfl | hd
        · rw [eD]; exact nofun
        · rw [List.mem_singleton.mp hd, eTi]; exact nofun) ht (.inl ⟨rfl, rfl⟩)
      generalize upd (upd Hi n (.lst [.str cl.1])) t (.tup [.ref n, .non]) = Hj at x2 hky
      refine ⟨_, x2 _ _ eD, by rw [sizeLine_eq]; omega, fun q o m h => ?_, ys ++ [.ref t], by rw [upd_same], ?_⟩
      · rw [upd_ne m]; exact x2 _ _ (kD q o m h)
      · rw [List.replicate_succ']
        have kU : NXT UL Hj (upd Hj UL (.lst (ys ++ [.ref t]))) := fun q o n h => by rw [upd_ne n]; exact h
        exact ((hK.mono fun v k h => h.keep x2).app (.one hky)).mono fun v k h => h.keepN List.mem_cons_self ⟨_, x2 _ _ eD⟩ kU
    rintro H12 ⟨kD12, ys, eU12, hK12⟩
    rw [Int.toNat_natCast] at hK12
    have x12 : XT H11 H12 := fun q o h => kD12 q o (ne_of_none h hUL) h
    have eT12 := x12 _ _ eT11
    have hR12 := hR11.mono fun f q h => h.keep x12
    have hL12 := hI11.C.keep x12
    have x012 := XT.trans hI11.X x12
    have hul := hR12.len
    have hyl := hK12.1
    rw [List.length_replicate] at hul hyl
    clear hI11 kD12 hUL x12 eT11 hR11
    walk_at "g"
    generalize hfs : List.replicate nt (Fm.at (.empty c0.1)) = fs at hR12
    generalize hks : List.replicate nu ([cl.1], (none : Option Fm)) = ks at hK12
    have hfl : fs.length = nt := by rw [← hfs, List.length_replicate]
    have hkl : ks.length = nu := by rw [← hks, List.length_replicate]
    have hfa : ∀ f ∈ fs, f = .at (.empty c0.1) := fun f hf => by rw [← hfs] at hf; exact List.eq_of_mem_replicate hf
    have hka : ∀ k ∈ ks, k = ([cl.1], none) := fun k hk => by rw [← hks] at hk; exact List.eq_of_mem_replicate hk
    have hsm : smallB cs fs ks = ((cs.all fun c => decide (c.1.length ≤ 7)) && (decide ((cs.length : Int) < 5) && (decide (((us.map V.ref).length : Int) < 4) && decide ((ys.length : Int) < 4)))) := by
      rw [Bool.eq_iff_iff, small_iff]
      simp only [Bool.and_eq_true, decide_eq_true_eq]
      rw [List.length_map, hul, hyl, hfl, hkl]
      refine ⟨fun ⟨a, b, c, d, _⟩ => ⟨b, by omega, by omega, by omega⟩, fun ⟨a, b, c, d⟩ => ⟨by omega, a, by omega, by omega, fun f hf => by rw [hfa f hf]; rfl, fun k hk f hf => by rw [hka k hk] at hf; cases hf⟩⟩
    refine g_cutA (M := fun σ' H' => ∃ s4 s5 s6, σ' = [some (.ref a), some (.ref p0), some (.ref L), some (.bl (smallB cs fs ks)), s4, s5, s6, some (.ref TL), some (.ref UL), none, none, none, none, none] ∧ H' = H12) (fun D2 hn _ _ _ => ?_) ?_
    · rw [hsm] at hn
      clear hsm
      generalize (cs.all fun c => decide (c.1.length ≤ 7)) = sb at hn ⊢
      obtain ⟨qs, hL0, hql, _⟩ := hL12
      rw [List.length_map] at hql
      walk_at "g"
      cases sb with
      | false =>
        rw [if_neg Bool.false_ne_true]
        walk_at "g"
        exact hn _ _ ⟨_, _, _, by rw [Bool.false_and]; rfl, rfl⟩
      | true =>
        rw [if_pos rfl]
        walk_at "g"
        rw [List.length_map, hql]
        cases hb1 : decide ((cs.length : Int) < 5) with
        | false =>
          rw [hb1] at hn
          rw [if_neg Bool.false_ne_true]
          exact hn _ _ ⟨_, _, _, by rw [Bool.false_and, Bool.and_false]; rfl, rfl⟩
        | true =>
          rw [hb1] at hn
          rw [if_pos rfl]
          walk_at "g"
          cases hb2 : decide (((us.map V.ref).length : Int) < 4) with
          | false =>
            rw [hb2] at hn
            rw [if_neg Bool.false_ne_true]
            exact hn _ _ ⟨_, _, _, by rw [Bool.false_and, Bool.and_false, Bool.and_false]; rfl, rfl⟩
          | true =>
            rw [hb2] at hn
            rw [if_pos rfl]
            walk_at "g"
            exact hn _ _ ⟨_, _, _, by rw [Bool.true_and, Bool.true_and, Bool.true_and]; rfl, rfl⟩
    clear hsm hfs hks
    rintro σ' H' ⟨s4', s5', s6', rfl, rfl⟩
    walk_at "g"
    refine ⟨a, ns, 1, rfl, xtL hS x012, hlen, by decide, fun p1 H13 hp1 S13 D13 => ?_⟩
    have nL1 : L ≠ p1 := by obtain ⟨qs, h, _⟩ := hL12; exact ne_of_none h hp1
    have nT1 := ne_of_none eT12 hp1
    have nU1 := ne_of_none eU12 hp1
    have hL13 := hL12.keep S13
    have eT13 := S13 _ _ eT12
    have eU13 := S13 _ _ eU12
    have hR13 := hR12.mono fun f q h => h.keep S13
    have hK13 := (hK12.mono fun v k h => h.more hp1).mono fun v k h => h.keep S13
    clear hL12 eT12 eU12 hR12 hK12 S13 hp1 x012 hS
    walk_at "g"
    refine g_cutA (M := fun σ' H' => ∃ (s4 s5 s6 s9 s10 s11 : Option V) (us : List Addr) (ys : List V) (fs : List Fm) (ks : List Ky), σ' = [some (.ref a), some (.ref p0), some (.ref L), some (.bl (smallB cs fs ks)), s4, s5, s6, some (.ref TL), some (.ref UL), s9, s10, s11, none, none] ∧ LAt H' L (cs.map ct) ∧ H' TL = some (.lst (us.map V.ref)) ∧ RF (FitAt (cadr mg "Test") H') fs us ∧ H' UL = some (.lst ys) ∧ KysAt (KyIn (cadr mg "Test") H') ys ks ∧ fs.length ≤ 4 ∧ ks.length ≤ 4 ∧ (∀ f ∈ fs, GF (k2 cs) f) ∧ ∀ k ∈ ks, (∃ c ∈ cs, k.1 = [c.1]) ∧ ∀ f, k.2 = some f → GF (k2 cs) f) (fun D2 hn _ _ _ => ?_) ?_
    · walk_at "g"
      refine ⟨_, _, _, rfl, D13, by omega, by decide, by decide +kernel, fun r H14 r0 r1 D14 K14 => ?_⟩
      have g0 := gf_em hn0 hk0
      have hfg : ∀ f ∈ fs, GF (k2 cs) f := fun f hf => by rw [hfa f hf]; exact g0
      have hkg : ∀ k ∈ ks, (∃ c ∈ cs, k.1 = [c.1]) ∧ ∀ f, k.2 = some f → GF (k2 cs) f := fun k hk => by
        rw [hka k hk]
        exact ⟨⟨cl, List.mem_of_getElem? hcl0, rfl⟩, nofun⟩
      have hL14 := hL13.keepP nL1 D13.at K14
      have eT14 := K14 _ _ nT1 eT13
      have eU14 := K14 _ _ nU1 eU13
      have hR14 := hR13.mono fun f q h => h.keepN K14 (lst_no D13.at)
      have hK14 := hK13.mono fun v k h => h.keepN List.mem_cons_self D13.at K14
      clear hL13 eT13 eU13 hR13 hK13 K14 D13
      walk_at "g"
      refine g_dec (fun h0 => ?_) (fun h0 => ?_)
      · walk_at "g"
        refine ⟨_, _, _, rfl, D14, by omega, by decide, by decide +kernel, fun r2 H15 r20 r21 D15 K15 => ?_⟩
        have hL15 := hL14.keepP nL1 D14.at K15
        have eT15 := K15 _ _ nT1 eT14
        have eU15 := K15 _ _ nU1 eU14
        have hR15 := hR14.mono fun f q h => h.keepN K15 (lst_no D14.at)
        have hK15 := hK14.mono fun v k h => h.keepN List.mem_cons_self D14.at K15
        clear hL14 eT14 eU14 hR14 hK14 K15 D14
        obtain ⟨m, hm, m7, m10⟩ : ∃ m : Nat, (7 : Int) + r2 = m ∧ 7 ≤ m ∧ m ≤ 10 := ⟨((7 : Int) + r2).toNat, by omega, by omega, by omega⟩
        walk_at "g"
        rw [hm]
        obtain ⟨qs, hLq, hql, hcol⟩ := id hL15
        rw [List.length_map] at hql
        obtain ⟨q0, hq0⟩ : ∃ q, qs[0]? = some q := ⟨_, List.getElem?_eq_getElem (by omega)⟩
        have et := hcol 0 q0 (ct c0) hq0 (by rw [List.getElem?_map, hc0]; rfl)
        refine g_ixL (SqL.of hLq) (v := .ref q0) (atI_nat (j := 0) (by rw [List.getElem?_map, hq0]; rfl)) ?_
        walk_at "g"
        refine g_ixT (SqT.of et) (v := .str c0.1) (by rfl) ?_
        walk_at "g"
        refine ⟨c0.1, rfl, hn0, fun t H16 x16 hT => ?_⟩
        clear hLq hcol et hql
        have hL16 := hL15.keep x16
        have eT16 := x16 _ _ eT15
        have eU16 := x16 _ _ eU15
        have hR16 := hR15.mono fun f q h => h.keep x16
        have hK16 := hK15.mono fun v k h => h.keep x16
        obtain ⟨w1, w2, w3, we, w4⟩ := D15
        have D16 : PD H16 p1 _ := ⟨w1, w2, w3, x16 _ _ we, w4⟩
        clear hL15 eT15 eU15 hR15 hK15 x16 we w4
        walk_at "g"
        refine ⟨_, _, _, rfl, D16, by omega, by decide, by decide +kernel, fun r3 H17 r30 r31 D17 K17 => ?_⟩
        have hL17 := hL16.keepP nL1 D16.at K17
        have eT17 := K17 _ _ nT1 eT16
        have eU17 := K17 _ _ nU1 eU16
        have hR17 := hR16.mono fun f q h => h.keepN K17 (lst_no D16.at)
        have hK17 := hK16.mono fun v k h => h.keepN List.mem_cons_self D16.at K17
        have hT17 := hT.keepN (p := p1) K17 (lst_no D16.at)
        clear hL16 eT16 eU16 hR16 hK16 K17 D16 hT
        walk_at "g"
        refine ⟨t, .at (.empty c0.1), _, m, rfl, hT17, rfl, rfl, by omega, by omega, fun g H18 x18 hG => ?_⟩
        have gg := gf_grown (b := decide (r3 = 1)) (m := m) g0 rfl rfl (by omega) (by omega)
        have hlg := large_grown (f := .at (.empty c0.1)) rfl rfl (b := decide (r3 = 1)) (m := m) (by omega)
        generalize grownF (decide (r3 = 1)) m (.at (.empty c0.1)) = gf at hG gg hlg
        have hL18 := hL17.keep x18
        have eT18 := x18 _ _ eT17
        have eU18 := x18 _ _ eU17
        have hR18 := hR17.mono fun f q h => h.keep x18
        have hK18 := hK17.mono fun v k h => h.keep x18
        have hG18 : FitAt (cadr mg "Test") H18 gf g := ⟨hG, ⟨_, gg.wf⟩, gg.dp, gg.sz⟩
        obtain ⟨w1, w2, w3, we, w4⟩ := D17
        have D18 : PD H18 p1 _ := ⟨w1, w2, w3, x18 _ _ we, w4⟩
        clear hL17 eT17 eU17 hR17 hK17 x18 we w4 hT17 hG
        walk_at "g"
        refine ⟨_, _, _, rfl, D18, by omega, by decide, by decide +kernel, fun r4 H19 r40 r41 D19 K19 => ?_⟩
        have hL19 := hL18.keepP nL1 D18.at K19
        have eT19 := K19 _ _ nT1 eT18
        have eU19 := K19 _ _ nU1 eU18
        have hR19 := hR18.mono fun f q h => h.keepN K19 (lst_no D18.at)
        have hK19 := hK18.mono fun v k h => h.keepN List.mem_cons_self D18.at K19
        have hG19 := hG18.keepN K19 (lst_no D18.at)
        clear hL18 eT18 eU18 hR18 hK18 K19 D18 hG18
        have hus : (us.map V.ref).length = fs.length := by rw [List.length_map, hul, hfl]
        have hys : ys.length = ks.length := by rw [hyl, hkl]
        walk_at "g"
        by_cases h4 : r4 = 1
        · rw [decide_eq_true h4, if_pos rfl]
          walk_at "g"
          by_cases h5 : (0 : Int) < (ys.length : Int)
          · rw [decide_eq_true h5, if_pos rfl]
            walk_at "g"
            obtain ⟨qs, hLq, hql, hcol⟩ := id hL19
            rw [List.length_map] at hql
            obtain ⟨q0, hq0⟩ : ∃ q, qs[0]? = some q := ⟨_, List.getElem?_eq_getElem (by omega)⟩
            have et := hcol 0 q0 (ct c0) hq0 (by rw [List.getElem?_map, hc0]; rfl)
            refine g_ixL (SqL.of hLq) (v := .ref q0) (atI_nat (j := 0) (by rw [List.getElem?_map, hq0]; rfl)) ?_
            walk_at "g"
            refine g_ixT (SqT.of et) (v := .str c0.1) (by rfl) ?_
            walk_at "g"
            clear hLq hcol et hql
            refine ⟨by show 1 ≤ sizeLine; decide, fun n hn' => ?_⟩
            walk_at "g"
            refine ⟨by show 2 ≤ sizeLine; decide, fun u hu => ?_⟩
            have x20 : XT H19 (upd (upd H19 n (.lst [.str c0.1])) u (.tup [.ref n, .ref g])) := XT.new (XT.new XT.refl hn') hu
            have hky := KyN.made (C := cadr mg "Test") (ds := [p1, UL, TL]) (c := c0.1) (z := .ref g) (o := some gf) hn' (fun d hd => by
              rcases List.mem_cons.mp hd with rfl | hd
              · obtain ⟨xs, e⟩ := D19.at
                rw [e]; exact nofun
              · rcases List.mem_cons.mp hd with rfl | hd
                · rw [eU19]; exact nofun
                · rw [List.mem_singleton.mp hd, eT19]; exact nofun) hu (.inr ⟨g, gf, rfl, rfl, hG19⟩)
            generalize upd (upd H19 n (.lst [.str c0.1])) u (.tup [.ref n, .ref g]) = H20 at x20 hky
            have hL20 := hL19.keep x20
            have eT20 := x20 _ _ eT19
            have eU20 := x20 _ _ eU19
            have hR20 := hR19.mono fun f q h => h.keep x20
            have hK20 := hK19.mono fun v k h => h.keep x20
            obtain ⟨w1, w2, w3, we, w4⟩ := D19
            have D20 : PD H20 p1 _ := ⟨w1, w2, w3, x20 _ _ we, w4⟩
            clear hL19 eT19 eU19 hR19 hK19 x20 we w4 hG19
            walk_at "g"
            refine ⟨_, _, _, rfl, D20, by omega, by omega, Nat.lt_trans (log_small (m := ((ys.length : Nat) : Int)) (by omega)) (by decide), fun r5 H21 r50 r51 D21 K21 => ?_⟩
            have hL21 := hL20.keepP nL1 D20.at K21
            have eT21 := K21 _ _ nT1 eT20
            have eU21 := K21 _ _ nU1 eU20
            have hR21 := hR20.mono fun f q h => h.keepN K21 (lst_no D20.at)
            have hK21 := hK20.mono fun v k h => h.keepN List.mem_cons_self D20.at K21
            have hky21 := hky.keepN List.mem_cons_self D20.at K21
            clear hL20 eT20 eU20 hR20 hK20 K21 D20 hky
            obtain ⟨j, rfl⟩ := Int.eq_ofNat_of_zero_le r50
            have hj : j < ys.length := by omega
            refine g_setL eU21 (ixN_nat hj) ?_
            have kU : NXT UL H21 (upd H21 UL (.lst (ys.set j (.ref u)))) := fun q o n h => by rw [upd_ne n]; exact h
            have hK22 := (hK21.set (j := j) hky21).mono fun v k h => h.keepN (x := UL) (List.mem_cons_of_mem _ List.mem_cons_self) ⟨_, eU21⟩ kU
            have hR22 := hR21.mono fun f q h => h.keepN kU (lst_no ⟨_, eU21⟩)
            have hL22 := hL21.keepP nLU ⟨_, eU21⟩ kU
            have eT22 := kU _ _ nTU eT21
            have eU22 : (upd H21 UL (.lst (ys.set j (.ref u)))) UL = some (.lst (ys.set j (.ref u))) := upd_same
            generalize upd H21 UL (.lst (ys.set j (.ref u))) = H22 at hK22 hR22 hL22 eT22 eU22
            clear hL21 eT21 eU21 hR21 hK21 hky21 kU
            have hsk := small_ks (cs := cs) (fs := fs) (ks := ks) (j := j) (g := gf) (n := [c0.1]) (m := m) (fun k hk => by rw [hka k hk]) (by omega) hlg
            have fin : ∃ (s4 s5 s6 s9 s10 s11 : Option V) (us' : List Addr) (ys' : List V) (fs' : List Fm) (ks' : List Ky), [some (V.ref a), some (.ref p0), some (.ref L), some (.bl (smallB cs fs ks && decide ((m : Int) < 9))), s4', some (.int m), s6', some (.ref TL), some (.ref UL), some (.ref p1), some (.ref g), some (.bl true), none, none] = [some (V.ref a), some (.ref p0), some (.ref L), some (.bl (smallB cs fs' ks')), s4, s5, s6, some (.ref TL), some (.ref UL), s9, s10, s11, none, none] ∧ LAt H22 L (cs.map ct) ∧ H22 TL = some (.lst (us'.map V.ref)) ∧ RF (FitAt (cadr mg "Test") H22) fs' us' ∧ H22 UL = some (.lst ys') ∧ KysAt (KyIn (cadr mg "Test") H22) ys' ks' ∧ fs'.length ≤ 4 ∧ ks'.length ≤ 4 ∧ (∀ f ∈ fs', GF (k2 cs) f) ∧ ∀ k ∈ ks', (∃ c ∈ cs, k.1 = [c.1]) ∧ ∀ f, k.2 = some f → GF (k2 cs) f := by
              refine ⟨_, _, _, _, _, _, us, ys.set j (.ref u), fs, ks.set j ([c0.1], some gf), by rw [hsk], hL22, eT22, hR22, eU22, hK22.mono fun v k h => h.inp, by omega, by rw [List.length_set]; omega, hfg, fun k hk => ?_⟩
              rcases List.mem_or_eq_of_mem_set hk with hk | rfl
              · exact hkg k hk
              · exact ⟨⟨c0, List.mem_of_getElem? hc0, rfl⟩, fun f hf => by injection hf with hf; rw [← hf]; exact gg⟩
            walk_at "g"
            cases hb : smallB cs fs ks with
            | false =>
              rw [hb, Bool.false_and] at fin
              rw [if_neg Bool.false_ne_true]
              exact hn _ _ fin
            | true =>
              rw [hb, Bool.true_and] at fin
              rw [if_pos rfl]
              walk_at "g"
              exact hn _ _ fin
          · rw [decide_eq_false h5, if_neg Bool.false_ne_true]
            walk_at "g"
            by_cases h6 : (0 : Int) < ((us.map V.ref).length : Int)
            · rw [decide_eq_true h6, if_pos rfl]
              walk_at "g"
              refine ⟨_, _, _, rfl, D19, by omega, by omega, Nat.lt_trans (log_small (m := (((us.map V.ref).length : Nat) : Int)) (by omega)) (by decide), fun r5 H21 r50 r51 D21 K21 => ?_⟩
              have hL21 := hL19.keepP nL1 D19.at K21
              have eT21 := K21 _ _ nT1 eT19
              have eU21 := K21 _ _ nU1 eU19
              have hR21 := hR19.mono fun f q h => h.keepN K21 (lst_no D19.at)
              have hK21 := hK19.mono fun v k h => h.keepN List.mem_cons_self D19.at K21
              have hG21 := hG19.keepN K21 (lst_no D19.at)
              clear hL19 eT19 eU19 hR19 hK19 K21 D19 hG19
              obtain ⟨j, rfl⟩ := Int.eq_ofNat_of_zero_le r50
              have hj : j < (us.map V.ref).length := by omega
              refine g_setL eT21 (ixN_nat hj) ?_
              have kU : NXT TL H21 (upd H21 TL (.lst ((us.map V.ref).set j (.ref g)))) := fun q o n h => by rw [upd_ne n]; exact h
              have hK22 := hK21.mono fun v k h => h.keepN (x := TL) (List.mem_cons_of_mem _ (List.mem_cons_of_mem _ List.mem_cons_self)) ⟨_, eT21⟩ kU
              have hR22 := (hR21.set (j := j) hG21).mono fun f q h => h.keepN kU (lst_no ⟨_, eT21⟩)
              have hL22 := hL21.keepP nLT ⟨_, eT21⟩ kU
              have eU22 := kU _ _ (Ne.symm nTU) eU21
              have eT22 : (upd H21 TL (.lst ((us.map V.ref).set j (.ref g)))) TL = some (.lst ((us.set j g).map V.ref)) := by rw [upd_same, List.map_set]
              generalize upd H21 TL (.lst ((us.map V.ref).set j (.ref g))) = H22 at hK22 hR22 hL22 eT22 eU22
              clear hL21 eT21 eU21 hR21 hK21 kU hG21
              have hsk := small_fs (cs := cs) (fs := fs) (ks := ks) (j := j) (g := gf) (m := m) (fun f hf => by rw [hfa f hf]; rfl) (by omega) hlg
              have fin : ∃ (s4 s5 s6 s9 s10 s11 : Option V) (us' : List Addr) (ys' : List V) (fs' : List Fm) (ks' : List Ky), [some (V.ref a), some (.ref p0), some (.ref L), some (.bl (smallB cs fs ks && decide ((m : Int) < 9))), s4', some (.int m), s6', some (.ref TL), some (.ref UL), some (.ref p1), some (.ref g), some (.bl true), none, none] = [some (V.ref a), some (.ref p0), some (.ref L), some (.bl (smallB cs fs' ks')), s4, s5, s6, some (.ref TL), some (.ref UL), s9, s10, s11, none, none] ∧ LAt H22 L (cs.map ct) ∧ H22 TL = some (.lst (us'.map V.ref)) ∧ RF (FitAt (cadr mg "Test") H22) fs' us' ∧ H22 UL = some (.lst ys') ∧ KysAt (KyIn (cadr mg "Test") H22) ys' ks' ∧ fs'.length ≤ 4 ∧ ks'.length ≤ 4 ∧ (∀ f ∈ fs', GF (k2 cs) f) ∧ ∀ k ∈ ks', (∃ c ∈ cs, k.1 = [c.1]) ∧ ∀ f, k.2 = some f → GF (k2 cs) f := by
                refine ⟨_, _, _, _, _, _, us.set j g, ys, fs.set j gf, ks, by rw [hsk], hL22, eT22, hR22, eU22, hK22.mono fun v k h => h.inp, by rw [List.length_set]; omega, by omega, fun f hf => ?_, hkg⟩
                rcases List.mem_or_eq_of_mem_set hf with hf | rfl
                · exact hfg f hf
                · exact gg
              walk_at "g"
              cases hb : smallB cs fs ks with
              | false =>
                rw [hb, Bool.false_and] at fin
                rw [if_neg Bool.false_ne_true]
                exact hn _ _ fin
              | true =>
                rw [hb, Bool.true_and] at fin
                rw [if_pos rfl]
                walk_at "g"
                exact hn _ _ fin
            · rw [decide_eq_false h6, if_neg Bool.false_ne_true]
              walk_at "g"
              exact hn _ _ ⟨_, _, _, _, _, _, us, ys, fs, ks, rfl, hL19, eT19, hR19, eU19, hK19.mono fun v k h => h.inp, by omega, by omega, hfg, hkg⟩
        · rw [decide_eq_false h4, if_neg Bool.false_ne_true]
          walk_at "g"
          by_cases h6 : (0 : Int) < ((us.map V.ref).length : Int)
          · rw [decide_eq_true h6, if_pos rfl]
            walk_at "g"
            refine ⟨_, _, _, rfl, D19, by omega, by omega, Nat.lt_trans (log_small (m := (((us.map V.ref).length : Nat) : Int)) (by omega)) (by decide), fun r5 H21 r50 r51 D21 K21 => ?_⟩
            have hL21 := hL19.keepP nL1 D19.at K21
            have eT21 := K21 _ _ nT1 eT19
            have eU21 := K21 _ _ nU1 eU19
            have hR21 := hR19.mono fun f q h => h.keepN K21 (lst_no D19.at)
            have hK21 := hK19.mono fun v k h => h.keepN List.mem_cons_self D19.at K21
            have hG21 := hG19.keepN K21 (lst_no D19.at)
            clear hL19 eT19 eU19 hR19 hK19 K21 D19 hG19
            obtain ⟨j, rfl⟩ := Int.eq_ofNat_of_zero_le r50
            have hj : j < (us.map V.ref).length := by omega
            refine g_setL eT21 (ixN_nat hj) ?_
            have kU : NXT TL H21 (upd H21 TL (.lst ((us.map V.ref).set j (.ref g)))) := fun q o n h => by rw [upd_ne n]; exact h
            have hK22 := hK21.mono fun v k h => h.keepN (x := TL) (List.mem_cons_of_mem _ (List.mem_cons_of_mem _ List.mem_cons_self)) ⟨_, eT21⟩ kU
            have hR22 := (hR21.set (j := j) hG21).mono fun f q h => h.keepN kU (lst_no ⟨_, eT21⟩)
            have hL22 := hL21.keepP nLT ⟨_, eT21⟩ kU
            have eU22 := kU _ _ (Ne.symm nTU) eU21
            have eT22 : (upd H21 TL (.lst ((us.map V.ref).set j (.ref g)))) TL = some (.lst ((us.set j g).map V.ref)) := by rw [upd_same, List.map_set]
            generalize upd H21 TL (.lst ((us.map V.ref).set j (.ref g))) = H22 at hK22 hR22 hL22 eT22 eU22
            clear hL21 eT21 eU21 hR21 hK21 kU hG21
            have hsk := small_fs (cs := cs) (fs := fs) (ks := ks) (j := j) (g := gf) (m := m) (fun f hf => by rw [hfa f hf]; rfl) (by omega) hlg
            have fin : ∃ (s4 s5 s6 s9 s10 s11 : Option V) (us' : List Addr) (ys' : List V) (fs' : List Fm) (ks' : List Ky), [some (V.ref a), some (.ref p0), some (.ref L), some (.bl (smallB cs fs ks && decide ((m : Int) < 9))), s4', some (.int m), s6', some (.ref TL), some (.ref UL), some (.ref p1), some (.ref g), some (.bl false), none, none] = [some (V.ref a), some (.ref p0), some (.ref L), some (.bl (smallB cs fs' ks')), s4, s5, s6, some (.ref TL), some (.ref UL), s9, s10, s11, none, none] ∧ LAt H22 L (cs.map ct) ∧ H22 TL = some (.lst (us'.map V.ref)) ∧ RF (FitAt (cadr mg "Test") H22) fs' us' ∧ H22 UL = some (.lst ys') ∧ KysAt (KyIn (cadr mg "Test") H22) ys' ks' ∧ fs'.length ≤ 4 ∧ ks'.length ≤ 4 ∧ (∀ f ∈ fs', GF (k2 cs) f) ∧ ∀ k ∈ ks', (∃ c ∈ cs, k.1 = [c.1]) ∧ ∀ f, k.2 = some f → GF (k2 cs) f := by
              refine ⟨_, _, _, _, _, _, us.set j g, ys, fs.set j gf, ks, by rw [hsk], hL22, eT22, hR22, eU22, hK22.mono fun v k h => h.inp, by rw [List.length_set]; omega, by omega, fun f hf => ?_, hkg⟩
              rcases List.mem_or_eq_of_mem_set hf with hf | rfl
              · exact hfg f hf
              · exact gg
            walk_at "g"
            cases hb : smallB cs fs ks with
            | false =>
              rw [hb, Bool.false_and] at fin
              rw [if_neg Bool.false_ne_true]
              exact hn _ _ fin
            | true =>
              rw [hb, Bool.true_and] at fin
              rw [if_pos rfl]
              walk_at "g"
              exact hn _ _ fin
          · rw [decide_eq_false h6, if_neg Bool.false_ne_true]
            walk_at "g"
            exact hn _ _ ⟨_, _, _, _, _, _, us, ys, fs, ks, rfl, hL19, eT19, hR19, eU19, hK19.mono fun v k h => h.inp, by omega, by omega, hfg, hkg⟩
      · walk_at "g"
        exact hn _ _ ⟨_, _, _, _, _, _, us, ys, fs, ks, rfl, hL14, eT14, hR14, eU14, hK14.mono fun v k h => h.inp, by omega, by omega, hfg, hkg⟩
    rintro σ' H' ⟨s4, s5, s6, s9, s10, s11, us, ys, fs, ks, rfl, hL, eT, hR, eU, hK, hf4, hk4, hfg, hkg⟩
    have ok : ShOk cs fs ks := ⟨hco, fun f hf => Fm.fits_of hco.nd (fun x h => h) (hfg f hf).wf (hfg f hf).kd, by omega, by omega, fun k hk => by
      obtain ⟨⟨c, hc, e⟩, h2⟩ := hkg k hk
      exact ⟨by rw [e]; show 1 ≤ 1; decide, by rw [e]; show 1 ≤ 3; decide, by rw [e]; simp, fun n hn => by rw [e] at hn; rw [List.mem_singleton.mp hn]; exact List.mem_map.mpr ⟨c, hc, rfl⟩, fun f hf => Fm.fits_of hco.nd (fun x h => h) (h2 f hf).wf (h2 f hf).kd⟩⟩
    walk_at "g"
    refine g_newKX ?_
    walk_at "g"
    refine ⟨rfl, rfl, fun y dy h1 h2 h3 => ?_⟩
    show spInit (cadr mg "Shape") (cadr mg "Test") (cadr mg "BadShape") [.ref y, .ref L, .ref TL, .ref UL] (upd (upd H' dy (.own y)) y (.ins (cadr mg "Shape") dy [])) _ _
    have x9 : XT H' (upd (upd H' dy (.own y)) y (.ins (cadr mg "Shape") dy [])) := xt_new2 h1 h2 h3
    have ey : (upd (upd H' dy (.own y)) y (.ins (cadr mg "Shape") dy [])) y = some (.ins (cadr mg "Shape") dy []) := upd_same
    generalize upd (upd H' dy (.own y)) y (.ins (cadr mg "Shape") dy []) = H20 at x9 ey
    refine init_good ok ey (hL.keep x9).ls (.inl (x9 _ _ eT)) (hR.mono fun f q h => h.keep x9) (.inl (x9 _ _ eU)) (hK.mono fun v k h => h.keep x9) fun H21 n21 hSh => ⟨rfl, ?_⟩
    have x21 := xt_made h1 x9 n21
    have hL21 := hL.keep x21
    clear hL eT hR eU hK x9 ey x21 n21 h1 h2 h3
    walk_at "g"
    refine ⟨y, cs, fs, ks, rfl, hSh, hco, by omega, by omega, fun H22 x22 => ?_⟩
    have hS22 := hSh.keep x22
    have hL22 := hL21.keep x22
    clear hSh hL21 x22
    walk_at "g"
    refine ⟨smallB cs fs ks, rfl, ?_⟩
    walk_at "g"
    refine ⟨y, cs, fs, ks, rfl, hS22, hco, by omega, by omega, fun l23 H23 x23 hl23 hl => ?_⟩
    have hS23 := hS22.keep x23
    have hL23 := hL22.keep x23
    clear hS22 hL22 x23 hl23
    walk_at "g"
    refine ⟨y, l23, cs, fs, ks, rfl, hS23, ok, hl, fun y2 H24 x24 hS2 => ?_⟩
    have hS24 := hS23.keep x24
    have hL24 := hL23.keep x24
    clear hS23 hL23 x24 hl
    walk_at "g"
    refine g_neSh hS2 hS24 fun rr H25 x25 hrr => ?_
    rw [hrr.mpr ⟨rfl, rfl, rfl⟩]
    have hS25 := hS24.keep x25
    have hL25 := hL24.keep x25
    clear hS24 hL24 x25 hS2
    walk_at "g"
    cases hsb : smallB cs fs ks with
    | false =>
      rw [show (!false) = true from rfl, if_pos rfl]
      walk_at "g"
      refine ⟨0, y, cs, fs, ks, rfl, hS25, hco, hfg, by omega, by omega, hsb, fun H26 x26 => ?_⟩
      walk_at "g"
      refine ⟨1, y, cs, fs, ks, rfl, hS25.keep x26, hco, hfg, by omega, by omega, hsb, fun H27 x27 => ?_⟩
      walk_at "g"
      exact k _
    | true =>
      rw [if_neg (by decide)]
      walk_at "g"
      refine ⟨y, cs, fs, ks, 3, rfl, by decide, by decide, hS25, hco, hfg, by omega, by omega, fun _ y3 H26 x26 hC => ?_, fun h => by rw [hsb] at h; cases h⟩
      have hS26 := hS25.keep x26
      have hL26 := hL25.keep x26
      clear hS25 hL25 x26
      walk_at "g"
      obtain ⟨dx3, _, _, _, _, _, _, _, _, e3, _⟩ := hC.ex
      refine ⟨y3, dx3, _, rfl, e3, by rfl, ?_⟩
      walk_at "g"
      refine ⟨y3, _, _, _, rfl, hC, fun l27 H27 x27 hl27 hC27 => ?_⟩
      have hS27 := hS26.keep x27
      obtain ⟨qs27, hL27, hql27, _⟩ := hL26.keep x27
      obtain ⟨qs28, hL28, hql28, _⟩ := hC27
      rw [List.length_map] at hql27
      rw [List.length_map, copyCs_len] at hql28
      clear hS26 hL26 x27 e3 hl27 hC
      walk_at "g"
      rw [List.length_map, List.length_map, hql27, hql28]
      rw [decide_eq_true (by omega), if_pos rfl]
      walk_at "g"
      refine g_newX ?_
      walk_at "g"
      intro y4 dy h1 h2 h3
      have x28 : XT H27 (upd (upd H27 dy (.own y4)) y4 (.ins (cadr mg "Desk") dy [])) := xt_new2 h1 h2 h3
      refine ⟨y4, dy, y, cs, fs, ks, rfl, upd_same, hS27.keep x28, hco, by omega, by omega, fun _ H28 gs n28 e28 l28 m28 => ?_, fun h => by rw [hsb] at h; cases h⟩
      have hS28 := hS27.keep (xt_made h1 x28 n28)
      refine ⟨rfl, ?_⟩
      walk_at "g"
      refine ⟨y4, dy, _, rfl, e28, m28, ?_⟩
      walk_at "g"
      refine ⟨y4, dy, y, gs, rfl, e28, l28, ?_⟩
      walk_at "g"
      refine g_eqShSame hS28 hS28 fun H29 x29 => ?_
      walk_at "g"
      exact k _
end
theorem kitSelf {K : PySem.W.Frag} {C : Addr} : PySem.W.kitOne K (.ref C) (.ref C) = some true := by
  unfold PySem.W.kitOne
  rw [if_pos (beq_self_eq_true _)]
theorem kitNo {K : PySem.W.Frag} {C : Addr} {T : String} (h2 : PySem.W.isClsIn K C = true) (h3 : PySem.W.typeIn K (.ref C) = some (.type "type")) (h4 : PySem.W.subIn K (.type T) (.ref C) = some false) : PySem.W.kitOne K (.type T) (.ref C) = some false := by
  have e1 : ¬ (Value.type T == Value.ref C) = true := fun z => nomatch (beq_iff_eq.mp z)
  have e2 : ((PySem.W.clsIn K C).isSome && PySem.W.typeIn K (.ref C) == some (.type "type")) = true := by
    have h2' : (PySem.W.clsIn K C).isSome = true := h2
    rw [h2', h3] <;> rfl
  show (if (Value.type T == Value.ref C) = true then some true else (if ((PySem.W.clsIn K C).isSome && PySem.W.typeIn K (.ref C) == some (.type "type")) = true then PySem.W.subIn K (.type T) (.ref C) else none)) = some false
  rw [if_neg e1, if_pos e2]
  exact h4
theorem kitOwnT {K : PySem.W.Frag} {C R : Addr} (h2 : PySem.W.isClsIn K R = true) (h3 : PySem.W.typeIn K (.ref R) = some (.type "type")) (h4 : PySem.W.subIn K (.ref C) (.ref R) = some true) : PySem.W.kitOne K (.ref C) (.ref R) = some true := by
  have e2 : ((PySem.W.clsIn K R).isSome && PySem.W.typeIn K (.ref R) == some (.type "type")) = true := by
    have h2' : (PySem.W.clsIn K R).isSome = true := h2
    rw [h2', h3] <;> rfl
  show (if (Value.ref C == Value.ref R) = true then some true else (if ((PySem.W.clsIn K R).isSome && PySem.W.typeIn K (.ref R) == some (.type "type")) = true then PySem.W.subIn K (.ref C) (.ref R) else none)) = some true
  by_cases e1 : (Value.ref C == Value.ref R) = true
  · rw [if_pos e1]
  · rw [if_neg e1, if_pos e2]
    exact h4
theorem kitOwn {K : PySem.W.Frag} {C R : Addr} (h1 : PySem.W.subIn K (.ref C) (.ref C) = some true) (h2 : PySem.W.isClsIn K R = true) (h3 : PySem.W.typeIn K (.ref R) = some (.type "type")) (h4 : PySem.W.subIn K (.ref C) (.ref R) = some false) : PySem.W.kitOne K (.ref C) (.ref R) = some false := by
  have e2 : ((PySem.W.clsIn K R).isSome && PySem.W.typeIn K (.ref R) == some (.type "type")) = true := by
    have h2' : (PySem.W.clsIn K R).isSome = true := h2
    rw [h2', h3] <;> rfl
  show (if (Value.ref C == Value.ref R) = true then some true else (if ((PySem.W.clsIn K R).isSome && PySem.W.typeIn K (.ref R) == some (.type "type")) = true then PySem.W.subIn K (.ref C) (.ref R) else none)) = some false
  rw [if_neg (fun e => by
    have e' : C = R := Value.ref.inj (beq_iff_eq.mp e)
    rw [e'] at h1 h4
    rw [h1] at h4
    cases h4), if_pos e2]
  exact h4
theorem exmSelf {K : PySem.W.Frag} {S : Addr} (h1 : PySem.W.subIn K (.ref S) (.type "BaseException") = some true) (h2 : PySem.W.isClsIn K S = true) (h3 : PySem.W.typeIn K (.ref S) = some (.type "type")) (h4 : PySem.W.subIn K (.ref S) (.ref S) = some true) : PySem.W.exmOne K (.ref S) (.ref S) = some true := by
  have e1 : (PySem.W.subIn K (.ref S) (.type "BaseException") == some true) = true := by rw [h1] <;> rfl
  have e2 : ((PySem.W.clsIn K S).isSome && PySem.W.typeIn K (.ref S) == some (.type "type")) = true := by
    have h2' : (PySem.W.clsIn K S).isSome = true := h2
    rw [h2', h3] <;> rfl
  show (if (PySem.W.subIn K (.ref S) (.type "BaseException") == some true) = true then (if ((PySem.W.clsIn K S).isSome && PySem.W.typeIn K (.ref S) == some (.type "type")) = true then PySem.W.subIn K (.ref S) (.ref S) else none) else none) = some true
  rw [if_pos e1, if_pos e2]
  exact h4
theorem all_mk {l : PySem.W.OpenLaw} {w : World} {K : PySem.W.Frag} {h : Heap} {mg : Str → Option Value} {fa f_is_integer f_is_sequence f_is_worded f_is_text f_is_name f_kind_of f_is_value f_Test_init f_Test_atoms f_Test_names f_Test_levels f_Test_renamed f_Test_or f_Test_invert f_Test_eq f_size_of f_depth_of f_combined f_need_column f_empty f_always f_renamed_by f_Shape_init f_Shape_columns f_Shape_names f_Shape_checks f_Shape_unique_keys f_Shape_filled f_Shape_eq f_is_short f_is_column f_need_columns f_need_checks f_need_keys f_are_names f_is_key f_is_fitting f_atom_fits f_column_of f_is_large f_is_small f_need_small f_numbered f_copies f_copy_test f_own_rules f_is_own_rule f_bare f_Desk_init f_Desk_shape f__law_pool f__law_draw f__law_is f__law_long_name f__law_grown f__law_refused f_law : Addr} {c_Test c_Shape c_Desk : Addr} {c_BadShape feBadShape : Addr} {c_BadRow feBadRow : Addr} {c_BadTest feBadTest : Addr} {c_BadClaim feBadClaim : Addr} (X : K.In h) (G : h.Ns mainGlobals mg) (hfa : mg "law" = some (.ref fa))
    {od_is_integer an_is_integer : Option Addr} {sl_is_integer : Array (Option Value)} {oc_is_integer kV_is_integer dc_is_integer pm_is_integer cd_is_integer ct_is_integer : Value}
    {od_is_sequence an_is_sequence : Option Addr} {sl_is_sequence : Array (Option Value)} {oc_is_sequence kV_is_sequence dc_is_sequence pm_is_sequence cd_is_sequence ct_is_sequence : Value}
    {od_is_worded an_is_worded : Option Addr} {sl_is_worded : Array (Option Value)} {oc_is_worded kV_is_worded dc_is_worded pm_is_worded cd_is_worded ct_is_worded : Value}
    {od_is_text an_is_text : Option Addr} {sl_is_text : Array (Option Value)} {oc_is_text kV_is_text dc_is_text pm_is_text cd_is_text ct_is_text : Value}
    {od_is_name an_is_name : Option Addr} {sl_is_name : Array (Option Value)} {oc_is_name kV_is_name dc_is_name pm_is_name cd_is_name ct_is_name : Value}
    {od_kind_of an_kind_of : Option Addr} {sl_kind_of : Array (Option Value)} {oc_kind_of kV_kind_of dc_kind_of pm_kind_of cd_kind_of ct_kind_of : Value}
    {od_is_value an_is_value : Option Addr} {sl_is_value : Array (Option Value)} {oc_is_value kV_is_value dc_is_value pm_is_value cd_is_value ct_is_value : Value}
    {od_Test_init an_Test_init : Option Addr} {sl_Test_init : Array (Option Value)} {oc_Test_init kV_Test_init dc_Test_init pm_Test_init cd_Test_init ct_Test_init : Value}
    {od_Test_atoms an_Test_atoms : Option Addr} {sl_Test_atoms : Array (Option Value)} {oc_Test_atoms kV_Test_atoms dc_Test_atoms pm_Test_atoms cd_Test_atoms ct_Test_atoms : Value}
    {od_Test_names an_Test_names : Option Addr} {sl_Test_names : Array (Option Value)} {oc_Test_names kV_Test_names dc_Test_names pm_Test_names cd_Test_names ct_Test_names : Value}
    {od_Test_levels an_Test_levels : Option Addr} {sl_Test_levels : Array (Option Value)} {oc_Test_levels kV_Test_levels dc_Test_levels pm_Test_levels cd_Test_levels ct_Test_levels : Value}
    {od_Test_renamed an_Test_renamed : Option Addr} {sl_Test_renamed : Array (Option Value)} {oc_Test_renamed kV_Test_renamed dc_Test_renamed pm_Test_renamed cd_Test_renamed ct_Test_renamed : Value}
    {od_Test_or an_Test_or : Option Addr} {sl_Test_or : Array (Option Value)} {oc_Test_or kV_Test_or dc_Test_or pm_Test_or cd_Test_or ct_Test_or : Value}
    {od_Test_invert an_Test_invert : Option Addr} {sl_Test_invert : Array (Option Value)} {oc_Test_invert kV_Test_invert dc_Test_invert pm_Test_invert cd_Test_invert ct_Test_invert : Value}
    {od_Test_eq an_Test_eq : Option Addr} {sl_Test_eq : Array (Option Value)} {oc_Test_eq kV_Test_eq dc_Test_eq pm_Test_eq cd_Test_eq ct_Test_eq : Value}
    {od_size_of an_size_of : Option Addr} {sl_size_of : Array (Option Value)} {oc_size_of kV_size_of dc_size_of pm_size_of cd_size_of ct_size_of : Value}
    {od_depth_of an_depth_of : Option Addr} {sl_depth_of : Array (Option Value)} {oc_depth_of kV_depth_of dc_depth_of pm_depth_of cd_depth_of ct_depth_of : Value}
    {od_combined an_combined : Option Addr} {sl_combined : Array (Option Value)} {oc_combined kV_combined dc_combined pm_combined cd_combined ct_combined : Value}
    {od_need_column an_need_column : Option Addr} {sl_need_column : Array (Option Value)} {oc_need_column kV_need_column dc_need_column pm_need_column cd_need_column ct_need_column : Value}
    {od_empty an_empty : Option Addr} {sl_empty : Array (Option Value)} {oc_empty kV_empty dc_empty pm_empty cd_empty ct_empty : Value}
    {od_always an_always : Option Addr} {sl_always : Array (Option Value)} {oc_always kV_always dc_always pm_always cd_always ct_always : Value}
    {od_renamed_by an_renamed_by : Option Addr} {sl_renamed_by : Array (Option Value)} {oc_renamed_by kV_renamed_by dc_renamed_by pm_renamed_by cd_renamed_by ct_renamed_by : Value}
    {od_Shape_init an_Shape_init : Option Addr} {sl_Shape_init : Array (Option Value)} {oc_Shape_init dc_Shape_init pm_Shape_init cd_Shape_init ct_Shape_init : Value}
    {od_Shape_columns an_Shape_columns : Option Addr} {sl_Shape_columns : Array (Option Value)} {oc_Shape_columns kV_Shape_columns dc_Shape_columns pm_Shape_columns cd_Shape_columns ct_Shape_columns : Value}
    {od_Shape_names an_Shape_names : Option Addr} {sl_Shape_names : Array (Option Value)} {oc_Shape_names kV_Shape_names dc_Shape_names pm_Shape_names cd_Shape_names ct_Shape_names : Value}
    {od_Shape_checks an_Shape_checks : Option Addr} {sl_Shape_checks : Array (Option Value)} {oc_Shape_checks kV_Shape_checks dc_Shape_checks pm_Shape_checks cd_Shape_checks ct_Shape_checks : Value}
    {od_Shape_unique_keys an_Shape_unique_keys : Option Addr} {sl_Shape_unique_keys : Array (Option Value)} {oc_Shape_unique_keys kV_Shape_unique_keys dc_Shape_unique_keys pm_Shape_unique_keys cd_Shape_unique_keys ct_Shape_unique_keys : Value}
    {od_Shape_filled an_Shape_filled : Option Addr} {sl_Shape_filled : Array (Option Value)} {oc_Shape_filled kV_Shape_filled dc_Shape_filled pm_Shape_filled cd_Shape_filled ct_Shape_filled : Value}
    {od_Shape_eq an_Shape_eq : Option Addr} {sl_Shape_eq : Array (Option Value)} {oc_Shape_eq kV_Shape_eq dc_Shape_eq pm_Shape_eq cd_Shape_eq ct_Shape_eq : Value}
    {od_is_short an_is_short : Option Addr} {sl_is_short : Array (Option Value)} {oc_is_short kV_is_short dc_is_short pm_is_short cd_is_short ct_is_short : Value}
    {od_is_column an_is_column : Option Addr} {sl_is_column : Array (Option Value)} {oc_is_column kV_is_column dc_is_column pm_is_column cd_is_column ct_is_column : Value}
    {od_need_columns an_need_columns : Option Addr} {sl_need_columns : Array (Option Value)} {oc_need_columns kV_need_columns dc_need_columns pm_need_columns cd_need_columns ct_need_columns : Value}
    {od_need_checks an_need_checks : Option Addr} {sl_need_checks : Array (Option Value)} {oc_need_checks kV_need_checks dc_need_checks pm_need_checks cd_need_checks ct_need_checks : Value}
    {od_need_keys an_need_keys : Option Addr} {sl_need_keys : Array (Option Value)} {oc_need_keys kV_need_keys dc_need_keys pm_need_keys cd_need_keys ct_need_keys : Value}
    {od_are_names an_are_names : Option Addr} {sl_are_names : Array (Option Value)} {oc_are_names kV_are_names dc_are_names pm_are_names cd_are_names ct_are_names : Value}
    {od_is_key an_is_key : Option Addr} {sl_is_key : Array (Option Value)} {oc_is_key kV_is_key dc_is_key pm_is_key cd_is_key ct_is_key : Value}
    {od_is_fitting an_is_fitting : Option Addr} {sl_is_fitting : Array (Option Value)} {oc_is_fitting kV_is_fitting dc_is_fitting pm_is_fitting cd_is_fitting ct_is_fitting : Value}
    {od_atom_fits an_atom_fits : Option Addr} {sl_atom_fits : Array (Option Value)} {oc_atom_fits kV_atom_fits dc_atom_fits pm_atom_fits cd_atom_fits ct_atom_fits : Value}
    {od_column_of an_column_of : Option Addr} {sl_column_of : Array (Option Value)} {oc_column_of kV_column_of dc_column_of pm_column_of cd_column_of ct_column_of : Value}
    {od_is_large an_is_large : Option Addr} {sl_is_large : Array (Option Value)} {oc_is_large kV_is_large dc_is_large pm_is_large cd_is_large ct_is_large : Value}
    {od_is_small an_is_small : Option Addr} {sl_is_small : Array (Option Value)} {oc_is_small kV_is_small dc_is_small pm_is_small cd_is_small ct_is_small : Value}
    {od_need_small an_need_small : Option Addr} {sl_need_small : Array (Option Value)} {oc_need_small kV_need_small dc_need_small pm_need_small cd_need_small ct_need_small : Value}
    {od_numbered an_numbered : Option Addr} {sl_numbered : Array (Option Value)} {oc_numbered kV_numbered dc_numbered pm_numbered cd_numbered ct_numbered : Value}
    {od_copies an_copies : Option Addr} {sl_copies : Array (Option Value)} {oc_copies kV_copies dc_copies pm_copies cd_copies ct_copies : Value}
    {od_copy_test an_copy_test : Option Addr} {sl_copy_test : Array (Option Value)} {oc_copy_test kV_copy_test dc_copy_test pm_copy_test cd_copy_test ct_copy_test : Value}
    {od_own_rules an_own_rules : Option Addr} {sl_own_rules : Array (Option Value)} {oc_own_rules kV_own_rules dc_own_rules pm_own_rules cd_own_rules ct_own_rules : Value}
    {od_is_own_rule an_is_own_rule : Option Addr} {sl_is_own_rule : Array (Option Value)} {oc_is_own_rule kV_is_own_rule dc_is_own_rule pm_is_own_rule cd_is_own_rule ct_is_own_rule : Value}
    {od_bare an_bare : Option Addr} {sl_bare : Array (Option Value)} {oc_bare kV_bare dc_bare pm_bare cd_bare ct_bare : Value}
    {od_Desk_init an_Desk_init : Option Addr} {sl_Desk_init : Array (Option Value)} {oc_Desk_init kV_Desk_init dc_Desk_init pm_Desk_init cd_Desk_init ct_Desk_init : Value}
    {od_Desk_shape an_Desk_shape : Option Addr} {sl_Desk_shape : Array (Option Value)} {oc_Desk_shape kV_Desk_shape dc_Desk_shape pm_Desk_shape cd_Desk_shape ct_Desk_shape : Value}
    {od__law_pool an__law_pool : Option Addr} {sl__law_pool : Array (Option Value)} {oc__law_pool kV__law_pool dc__law_pool pm__law_pool cd__law_pool ct__law_pool : Value}
    {od__law_draw an__law_draw : Option Addr} {sl__law_draw : Array (Option Value)} {oc__law_draw kV__law_draw dc__law_draw pm__law_draw cd__law_draw ct__law_draw : Value}
    {od__law_is an__law_is : Option Addr} {sl__law_is : Array (Option Value)} {oc__law_is kV__law_is dc__law_is pm__law_is cd__law_is ct__law_is : Value}
    {od__law_long_name an__law_long_name : Option Addr} {sl__law_long_name : Array (Option Value)} {oc__law_long_name kV__law_long_name dc__law_long_name pm__law_long_name cd__law_long_name ct__law_long_name : Value}
    {od__law_grown an__law_grown : Option Addr} {sl__law_grown : Array (Option Value)} {oc__law_grown kV__law_grown dc__law_grown pm__law_grown cd__law_grown ct__law_grown : Value}
    {od__law_refused an__law_refused : Option Addr} {sl__law_refused : Array (Option Value)} {oc__law_refused kV__law_refused dc__law_refused pm__law_refused cd__law_refused ct__law_refused : Value}
    {od_law an_law : Option Addr} {sl_law : Array (Option Value)} {oc_law kV_law dc_law pm_law cd_law ct_law : Value}
    (a_Test : PySem.W.nsIn K mainGlobals "Test" = some (some (.ref c_Test))) (pg_Test : PySem.W.plainGet K c_Test Str.empty = true) (hd_Test : PySem.W.hasDictIn K c_Test = true) (po_Test : PySem.W.plainOver K c_Test = true) (sa_Test : PySem.W.findIn K (.ref c_Test) "__setattr__" = some (some (.builtin "object.__setattr__"))) (mk_Test : PySem.W.makesIn K c_Test = true) (kc_Test : PySem.W.keepIn K (.ref c_Test) = true)
    (sf_Test : PySem.W.selfFirst K c_Test = true)
    (nq_Test : PySem.W.subIn K (.ref c_Test) (.type "NoneType") = some false)
    (nn_Test : PySem.W.findIn K (.ref c_Test) "__ne__" = some (some (.builtin "object.__ne__"))) (nz_Test : PySem.W.subIn K (.ref c_Test) (.type "object") = some true)
    (nr_Test_and : PySem.W.findIn K (.ref c_Test) (dunderR "and") = some none)
    (nr_Test_or : PySem.W.findIn K (.ref c_Test) (dunderR "or") = some none)
    (ia_Test : PySem.W.findIn K (.ref c_Test) "__class__" = some (some (.builtin "object.__class__"))) (in_Test : PySem.W.specialIn K (.builtin "object.__class__") "__get__" = some (some (.builtin "getset_descriptor.__get__"))) (it_Test : PySem.W.takesIn K (.builtin "object.__class__") = some true) (im_Test : PySem.W.mroIn K c_Test (.type "object") = some true) (io_Test : PySem.W.isClsIn K c_Test = true) (iy_Test : PySem.W.typeIn K (.ref c_Test) = some (.type "type"))
    (iz_Test_NoneType : PySem.W.subIn K (.type "NoneType") (.ref c_Test) = some false)
    (iz_Test_bool : PySem.W.subIn K (.type "bool") (.ref c_Test) = some false)
    (iz_Test_int : PySem.W.subIn K (.type "int") (.ref c_Test) = some false)
    (iz_Test_str : PySem.W.subIn K (.type "str") (.ref c_Test) = some false)
    (iz_Test_list : PySem.W.subIn K (.type "list") (.ref c_Test) = some false)
    (iz_Test_tuple : PySem.W.subIn K (.type "tuple") (.ref c_Test) = some false)
    (iz_Test_dict : PySem.W.subIn K (.type "dict") (.ref c_Test) = some false)
    (n_Test_word : PySem.W.findIn K (.ref c_Test) "word" = some none)
    (n_Test_inner : PySem.W.findIn K (.ref c_Test) "inner" = some none)
    (n_Test_fields : PySem.W.findIn K (.ref c_Test) "fields" = some none)
    (n_Test_terms : PySem.W.findIn K (.ref c_Test) "terms" = some none)
    (n_Test_size : PySem.W.findIn K (.ref c_Test) "size" = some none)
    (n_Test_depth : PySem.W.findIn K (.ref c_Test) "depth" = some none)
    (a_Shape : PySem.W.nsIn K mainGlobals "Shape" = some (some (.ref c_Shape))) (pg_Shape : PySem.W.plainGet K c_Shape Str.empty = true) (hd_Shape : PySem.W.hasDictIn K c_Shape = true) (po_Shape : PySem.W.plainOver K c_Shape = true) (sa_Shape : PySem.W.findIn K (.ref c_Shape) "__setattr__" = some (some (.builtin "object.__setattr__"))) (mk_Shape : PySem.W.makesIn K c_Shape = true) (kc_Shape : PySem.W.keepIn K (.ref c_Shape) = true)
    (sf_Shape : PySem.W.selfFirst K c_Shape = true)
    (nq_Shape : PySem.W.subIn K (.ref c_Shape) (.type "NoneType") = some false)
    (nn_Shape : PySem.W.findIn K (.ref c_Shape) "__ne__" = some (some (.builtin "object.__ne__"))) (nz_Shape : PySem.W.subIn K (.ref c_Shape) (.type "object") = some true)
    (nr_Shape_and : PySem.W.findIn K (.ref c_Shape) (dunderR "and") = some none)
    (nr_Shape_or : PySem.W.findIn K (.ref c_Shape) (dunderR "or") = some none)
    (ia_Shape : PySem.W.findIn K (.ref c_Shape) "__class__" = some (some (.builtin "object.__class__"))) (in_Shape : PySem.W.specialIn K (.builtin "object.__class__") "__get__" = some (some (.builtin "getset_descriptor.__get__"))) (it_Shape : PySem.W.takesIn K (.builtin "object.__class__") = some true) (im_Shape : PySem.W.mroIn K c_Shape (.type "object") = some true) (io_Shape : PySem.W.isClsIn K c_Shape = true) (iy_Shape : PySem.W.typeIn K (.ref c_Shape) = some (.type "type"))
    (iz_Shape_NoneType : PySem.W.subIn K (.type "NoneType") (.ref c_Shape) = some false)
    (iz_Shape_bool : PySem.W.subIn K (.type "bool") (.ref c_Shape) = some false)
    (iz_Shape_int : PySem.W.subIn K (.type "int") (.ref c_Shape) = some false)
    (iz_Shape_str : PySem.W.subIn K (.type "str") (.ref c_Shape) = some false)
    (iz_Shape_list : PySem.W.subIn K (.type "list") (.ref c_Shape) = some false)
    (iz_Shape_tuple : PySem.W.subIn K (.type "tuple") (.ref c_Shape) = some false)
    (iz_Shape_dict : PySem.W.subIn K (.type "dict") (.ref c_Shape) = some false)
    (n_Shape_layout : PySem.W.findIn K (.ref c_Shape) "layout" = some none)
    (n_Shape_spots : PySem.W.findIn K (.ref c_Shape) "spots" = some none)
    (n_Shape_check_tests : PySem.W.findIn K (.ref c_Shape) "check_tests" = some none)
    (n_Shape_key_rules : PySem.W.findIn K (.ref c_Shape) "key_rules" = some none)
    (a_Desk : PySem.W.nsIn K mainGlobals "Desk" = some (some (.ref c_Desk))) (pg_Desk : PySem.W.plainGet K c_Desk Str.empty = true) (hd_Desk : PySem.W.hasDictIn K c_Desk = true) (po_Desk : PySem.W.plainOver K c_Desk = true) (sa_Desk : PySem.W.findIn K (.ref c_Desk) "__setattr__" = some (some (.builtin "object.__setattr__"))) (mk_Desk : PySem.W.makesIn K c_Desk = true) (kc_Desk : PySem.W.keepIn K (.ref c_Desk) = true)
    (sf_Desk : PySem.W.selfFirst K c_Desk = true)
    (nr_Desk_and : PySem.W.findIn K (.ref c_Desk) (dunderR "and") = some none)
    (nr_Desk_or : PySem.W.findIn K (.ref c_Desk) (dunderR "or") = some none)
    (ia_Desk : PySem.W.findIn K (.ref c_Desk) "__class__" = some (some (.builtin "object.__class__"))) (in_Desk : PySem.W.specialIn K (.builtin "object.__class__") "__get__" = some (some (.builtin "getset_descriptor.__get__"))) (it_Desk : PySem.W.takesIn K (.builtin "object.__class__") = some true) (im_Desk : PySem.W.mroIn K c_Desk (.type "object") = some true) (io_Desk : PySem.W.isClsIn K c_Desk = true) (iy_Desk : PySem.W.typeIn K (.ref c_Desk) = some (.type "type"))
    (iz_Desk_NoneType : PySem.W.subIn K (.type "NoneType") (.ref c_Desk) = some false)
    (iz_Desk_bool : PySem.W.subIn K (.type "bool") (.ref c_Desk) = some false)
    (iz_Desk_int : PySem.W.subIn K (.type "int") (.ref c_Desk) = some false)
    (iz_Desk_str : PySem.W.subIn K (.type "str") (.ref c_Desk) = some false)
    (iz_Desk_list : PySem.W.subIn K (.type "list") (.ref c_Desk) = some false)
    (iz_Desk_tuple : PySem.W.subIn K (.type "tuple") (.ref c_Desk) = some false)
    (iz_Desk_dict : PySem.W.subIn K (.type "dict") (.ref c_Desk) = some false)
    (n_Desk_now : PySem.W.findIn K (.ref c_Desk) "now" = some none)
    (n_Desk_past : PySem.W.findIn K (.ref c_Desk) "past" = some none)
    (n_Desk_future : PySem.W.findIn K (.ref c_Desk) "future" = some none)
    (n_Desk_claims : PySem.W.findIn K (.ref c_Desk) "claims" = some none)
    {nm_eBadShape q_eBadShape : Str} {N_eBadShape : Addr} {bs_eBadShape bm_eBadShape : List Value} {sn_eBadShape : List Str} {su_eBadShape : List Value} {ab_eBadShape : Bool} {co_eBadShape : Option Bool} {dd_eBadShape : Option Addr} {m0_eBadShape m1_eBadShape m2_eBadShape m3_eBadShape m5_eBadShape : Option Value} {oc_eBadShape doc_eBadShape pm_eBadShape cd_eBadShape ct_eBadShape : Value} {od_eBadShape an_eBadShape : Option Addr} {sl_eBadShape : Array (Option Value)} {p1_eBadShape p2_eBadShape p3_eBadShape q1_eBadShape q2_eBadShape q3_eBadShape q4_eBadShape q5_eBadShape q6_eBadShape q7_eBadShape q8_eBadShape : Pos} {sc_eBadShape : Scope}
    (a_eBadShape : PySem.W.nsIn K mainGlobals "BadShape" = some (some (.ref c_BadShape))) (x_eBadShape : K.lookup c_BadShape = some (excClassObj nm_eBadShape q_eBadShape c_BadShape N_eBadShape bs_eBadShape bm_eBadShape true sn_eBadShape su_eBadShape ab_eBadShape co_eBadShape dd_eBadShape m0_eBadShape m1_eBadShape m2_eBadShape m3_eBadShape m5_eBadShape "Exception.__new__")) (o_eBadShape : PySem.TwX.OwnEx bm_eBadShape) (sa_eBadShape : PySem.W.findIn K (.ref c_BadShape) "__setattr__" = some (some (.builtin "object.__setattr__"))) (ga_eBadShape : PySem.W.findIn K (.ref c_BadShape) "__getattribute__" = some (some (.builtin "BaseException.__getattribute__"))) (gg_eBadShape : PySem.W.findIn K (.ref c_BadShape) "__getattr__" = some none) (nb_eBadShape : PySem.W.findIn K (.ref c_BadShape) "why" = some none) (i_eBadShape : PySem.W.findIn K (.ref c_BadShape) "__init__" = some (some (.ref feBadShape))) (t_eBadShape : PySem.W.typeIn K (.ref feBadShape) = some (.type "function")) (nc_eBadShape : PySem.W.findIn K (.ref c_BadShape) "at" = some none)
    (l_eBadShape : K.lookup feBadShape = some ⟨oc_eBadShape, od_eBadShape, .func (PySem.W.fnOf "__init__" "BadShape.__init__" (PySem.ErBadShape.inA p1_eBadShape p2_eBadShape p3_eBadShape) (PySem.ErBadShape.inB q1_eBadShape q2_eBadShape q3_eBadShape q4_eBadShape q5_eBadShape q6_eBadShape q7_eBadShape q8_eBadShape) sc_eBadShape .none .none doc_eBadShape pm_eBadShape an_eBadShape cd_eBadShape ct_eBadShape), sl_eBadShape⟩) (cc_eBadShape : PySem.W.codeIn K cd_eBadShape "BadShape.__init__" = true) (s1_eBadShape : sc_eBadShape.kind = .function) (s2_eBadShape : sc_eBadShape.names = [(PySem.Str.ofString "self", .local), (PySem.Str.ofString "why", .local), (PySem.Str.ofString "at", .local)]) (s3_eBadShape : sc_eBadShape.isGenerator = false) (s4_eBadShape : sc_eBadShape.isCoroutine = false)
    (k_eBadShape : PySem.W.keepIn K (.ref c_BadShape) = true) (eC_eBadShape : PySem.W.subIn K (.ref c_BadShape) (.type "BaseException") = some true) (tC_eBadShape : PySem.W.typeIn K (.ref c_BadShape) = some (.type "type")) (hC_eBadShape : PySem.W.hasDictIn K c_BadShape = true) (te_eBadShape : PySem.W.isClsIn K c_BadShape = true) (tf_eBadShape : PySem.W.subIn K (.ref c_BadShape) (.ref c_BadShape) = some true)
    {nm_eBadRow q_eBadRow : Str} {N_eBadRow : Addr} {bs_eBadRow bm_eBadRow : List Value} {sn_eBadRow : List Str} {su_eBadRow : List Value} {ab_eBadRow : Bool} {co_eBadRow : Option Bool} {dd_eBadRow : Option Addr} {m0_eBadRow m1_eBadRow m2_eBadRow m3_eBadRow m5_eBadRow : Option Value} {oc_eBadRow doc_eBadRow pm_eBadRow cd_eBadRow ct_eBadRow : Value} {od_eBadRow an_eBadRow : Option Addr} {sl_eBadRow : Array (Option Value)} {p1_eBadRow p2_eBadRow q1_eBadRow q2_eBadRow q3_eBadRow q4_eBadRow : Pos} {sc_eBadRow : Scope}
    (a_eBadRow : PySem.W.nsIn K mainGlobals "BadRow" = some (some (.ref c_BadRow))) (x_eBadRow : K.lookup c_BadRow = some (excClassObj nm_eBadRow q_eBadRow c_BadRow N_eBadRow bs_eBadRow bm_eBadRow true sn_eBadRow su_eBadRow ab_eBadRow co_eBadRow dd_eBadRow m0_eBadRow m1_eBadRow m2_eBadRow m3_eBadRow m5_eBadRow "Exception.__new__")) (o_eBadRow : PySem.TwX.OwnEx bm_eBadRow) (sa_eBadRow : PySem.W.findIn K (.ref c_BadRow) "__setattr__" = some (some (.builtin "object.__setattr__"))) (ga_eBadRow : PySem.W.findIn K (.ref c_BadRow) "__getattribute__" = some (some (.builtin "BaseException.__getattribute__"))) (gg_eBadRow : PySem.W.findIn K (.ref c_BadRow) "__getattr__" = some none) (nb_eBadRow : PySem.W.findIn K (.ref c_BadRow) "column" = some none) (i_eBadRow : PySem.W.findIn K (.ref c_BadRow) "__init__" = some (some (.ref feBadRow))) (t_eBadRow : PySem.W.typeIn K (.ref feBadRow) = some (.type "function"))
    (l_eBadRow : K.lookup feBadRow = some ⟨oc_eBadRow, od_eBadRow, .func (PySem.W.fnOf "__init__" "BadRow.__init__" (PySem.ErBadRow.inA p1_eBadRow p2_eBadRow) (PySem.ErBadRow.inB q1_eBadRow q2_eBadRow q3_eBadRow q4_eBadRow) sc_eBadRow .none .none doc_eBadRow pm_eBadRow an_eBadRow cd_eBadRow ct_eBadRow), sl_eBadRow⟩) (cc_eBadRow : PySem.W.codeIn K cd_eBadRow "BadRow.__init__" = true) (s1_eBadRow : sc_eBadRow.kind = .function) (s2_eBadRow : sc_eBadRow.names = [(PySem.Str.ofString "self", .local), (PySem.Str.ofString "column", .local)]) (s3_eBadRow : sc_eBadRow.isGenerator = false) (s4_eBadRow : sc_eBadRow.isCoroutine = false)
    (k_eBadRow : PySem.W.keepIn K (.ref c_BadRow) = true) (eC_eBadRow : PySem.W.subIn K (.ref c_BadRow) (.type "BaseException") = some true) (tC_eBadRow : PySem.W.typeIn K (.ref c_BadRow) = some (.type "type")) (hC_eBadRow : PySem.W.hasDictIn K c_BadRow = true) (te_eBadRow : PySem.W.isClsIn K c_BadRow = true) (tf_eBadRow : PySem.W.subIn K (.ref c_BadRow) (.ref c_BadRow) = some true)
    {nm_eBadTest q_eBadTest : Str} {N_eBadTest : Addr} {bs_eBadTest bm_eBadTest : List Value} {sn_eBadTest : List Str} {su_eBadTest : List Value} {ab_eBadTest : Bool} {co_eBadTest : Option Bool} {dd_eBadTest : Option Addr} {m0_eBadTest m1_eBadTest m2_eBadTest m3_eBadTest m5_eBadTest : Option Value} {oc_eBadTest doc_eBadTest pm_eBadTest cd_eBadTest ct_eBadTest : Value} {od_eBadTest an_eBadTest : Option Addr} {sl_eBadTest : Array (Option Value)} {p1_eBadTest p2_eBadTest q1_eBadTest q2_eBadTest q3_eBadTest q4_eBadTest : Pos} {sc_eBadTest : Scope}
    (a_eBadTest : PySem.W.nsIn K mainGlobals "BadTest" = some (some (.ref c_BadTest))) (x_eBadTest : K.lookup c_BadTest = some (excClassObj nm_eBadTest q_eBadTest c_BadTest N_eBadTest bs_eBadTest bm_eBadTest true sn_eBadTest su_eBadTest ab_eBadTest co_eBadTest dd_eBadTest m0_eBadTest m1_eBadTest m2_eBadTest m3_eBadTest m5_eBadTest "Exception.__new__")) (o_eBadTest : PySem.TwX.OwnEx bm_eBadTest) (sa_eBadTest : PySem.W.findIn K (.ref c_BadTest) "__setattr__" = some (some (.builtin "object.__setattr__"))) (ga_eBadTest : PySem.W.findIn K (.ref c_BadTest) "__getattribute__" = some (some (.builtin "BaseException.__getattribute__"))) (gg_eBadTest : PySem.W.findIn K (.ref c_BadTest) "__getattr__" = some none) (nb_eBadTest : PySem.W.findIn K (.ref c_BadTest) "why" = some none) (i_eBadTest : PySem.W.findIn K (.ref c_BadTest) "__init__" = some (some (.ref feBadTest))) (t_eBadTest : PySem.W.typeIn K (.ref feBadTest) = some (.type "function"))
    (l_eBadTest : K.lookup feBadTest = some ⟨oc_eBadTest, od_eBadTest, .func (PySem.W.fnOf "__init__" "BadTest.__init__" (PySem.ErBadTest.inA p1_eBadTest p2_eBadTest) (PySem.ErBadTest.inB q1_eBadTest q2_eBadTest q3_eBadTest q4_eBadTest) sc_eBadTest .none .none doc_eBadTest pm_eBadTest an_eBadTest cd_eBadTest ct_eBadTest), sl_eBadTest⟩) (cc_eBadTest : PySem.W.codeIn K cd_eBadTest "BadTest.__init__" = true) (s1_eBadTest : sc_eBadTest.kind = .function) (s2_eBadTest : sc_eBadTest.names = [(PySem.Str.ofString "self", .local), (PySem.Str.ofString "why", .local)]) (s3_eBadTest : sc_eBadTest.isGenerator = false) (s4_eBadTest : sc_eBadTest.isCoroutine = false)
    (k_eBadTest : PySem.W.keepIn K (.ref c_BadTest) = true) (eC_eBadTest : PySem.W.subIn K (.ref c_BadTest) (.type "BaseException") = some true) (tC_eBadTest : PySem.W.typeIn K (.ref c_BadTest) = some (.type "type")) (hC_eBadTest : PySem.W.hasDictIn K c_BadTest = true) (te_eBadTest : PySem.W.isClsIn K c_BadTest = true) (tf_eBadTest : PySem.W.subIn K (.ref c_BadTest) (.ref c_BadTest) = some true)
    {nm_eBadClaim q_eBadClaim : Str} {N_eBadClaim : Addr} {bs_eBadClaim bm_eBadClaim : List Value} {sn_eBadClaim : List Str} {su_eBadClaim : List Value} {ab_eBadClaim : Bool} {co_eBadClaim : Option Bool} {dd_eBadClaim : Option Addr} {m0_eBadClaim m1_eBadClaim m2_eBadClaim m3_eBadClaim m5_eBadClaim : Option Value} {oc_eBadClaim doc_eBadClaim pm_eBadClaim cd_eBadClaim ct_eBadClaim : Value} {od_eBadClaim an_eBadClaim : Option Addr} {sl_eBadClaim : Array (Option Value)} {p1_eBadClaim p2_eBadClaim q1_eBadClaim q2_eBadClaim q3_eBadClaim q4_eBadClaim : Pos} {sc_eBadClaim : Scope}
    (a_eBadClaim : PySem.W.nsIn K mainGlobals "BadClaim" = some (some (.ref c_BadClaim))) (x_eBadClaim : K.lookup c_BadClaim = some (excClassObj nm_eBadClaim q_eBadClaim c_BadClaim N_eBadClaim bs_eBadClaim bm_eBadClaim true sn_eBadClaim su_eBadClaim ab_eBadClaim co_eBadClaim dd_eBadClaim m0_eBadClaim m1_eBadClaim m2_eBadClaim m3_eBadClaim m5_eBadClaim "Exception.__new__")) (o_eBadClaim : PySem.TwX.OwnEx bm_eBadClaim) (sa_eBadClaim : PySem.W.findIn K (.ref c_BadClaim) "__setattr__" = some (some (.builtin "object.__setattr__"))) (ga_eBadClaim : PySem.W.findIn K (.ref c_BadClaim) "__getattribute__" = some (some (.builtin "BaseException.__getattribute__"))) (gg_eBadClaim : PySem.W.findIn K (.ref c_BadClaim) "__getattr__" = some none) (nb_eBadClaim : PySem.W.findIn K (.ref c_BadClaim) "why" = some none) (i_eBadClaim : PySem.W.findIn K (.ref c_BadClaim) "__init__" = some (some (.ref feBadClaim))) (t_eBadClaim : PySem.W.typeIn K (.ref feBadClaim) = some (.type "function"))
    (l_eBadClaim : K.lookup feBadClaim = some ⟨oc_eBadClaim, od_eBadClaim, .func (PySem.W.fnOf "__init__" "BadClaim.__init__" (PySem.ErBadClaim.inA p1_eBadClaim p2_eBadClaim) (PySem.ErBadClaim.inB q1_eBadClaim q2_eBadClaim q3_eBadClaim q4_eBadClaim) sc_eBadClaim .none .none doc_eBadClaim pm_eBadClaim an_eBadClaim cd_eBadClaim ct_eBadClaim), sl_eBadClaim⟩) (cc_eBadClaim : PySem.W.codeIn K cd_eBadClaim "BadClaim.__init__" = true) (s1_eBadClaim : sc_eBadClaim.kind = .function) (s2_eBadClaim : sc_eBadClaim.names = [(PySem.Str.ofString "self", .local), (PySem.Str.ofString "why", .local)]) (s3_eBadClaim : sc_eBadClaim.isGenerator = false) (s4_eBadClaim : sc_eBadClaim.isCoroutine = false)
    (k_eBadClaim : PySem.W.keepIn K (.ref c_BadClaim) = true) (eC_eBadClaim : PySem.W.subIn K (.ref c_BadClaim) (.type "BaseException") = some true) (tC_eBadClaim : PySem.W.typeIn K (.ref c_BadClaim) = some (.type "type")) (hC_eBadClaim : PySem.W.hasDictIn K c_BadClaim = true) (te_eBadClaim : PySem.W.isClsIn K c_BadClaim = true) (tf_eBadClaim : PySem.W.subIn K (.ref c_BadClaim) (.ref c_BadClaim) = some true)
    (a_is_integer : PySem.W.nsIn K mainGlobals "is_integer" = some (some (.ref f_is_integer))) (l_is_integer : K.lookup f_is_integer = some ⟨oc_is_integer, od_is_integer, .func (PySem.W.fnOf "is_integer" "is_integer" (defArgs S_is_integer) (defBody S_is_integer) (defScope S_is_integer) .none kV_is_integer dc_is_integer pm_is_integer an_is_integer cd_is_integer ct_is_integer), sl_is_integer⟩) (c_is_integer : PySem.W.codeIn K cd_is_integer "is_integer" = true) (k_is_integer : PySem.W.keepIn K (.ref f_is_integer) = true)
    (a_is_sequence : PySem.W.nsIn K mainGlobals "is_sequence" = some (some (.ref f_is_sequence))) (l_is_sequence : K.lookup f_is_sequence = some ⟨oc_is_sequence, od_is_sequence, .func (PySem.W.fnOf "is_sequence" "is_sequence" (defArgs S_is_sequence) (defBody S_is_sequence) (defScope S_is_sequence) .none kV_is_sequence dc_is_sequence pm_is_sequence an_is_sequence cd_is_sequence ct_is_sequence), sl_is_sequence⟩) (c_is_sequence : PySem.W.codeIn K cd_is_sequence "is_sequence" = true) (k_is_sequence : PySem.W.keepIn K (.ref f_is_sequence) = true)
    (a_is_worded : PySem.W.nsIn K mainGlobals "is_worded" = some (some (.ref f_is_worded))) (l_is_worded : K.lookup f_is_worded = some ⟨oc_is_worded, od_is_worded, .func (PySem.W.fnOf "is_worded" "is_worded" (defArgs S_is_worded) (defBody S_is_worded) (defScope S_is_worded) .none kV_is_worded dc_is_worded pm_is_worded an_is_worded cd_is_worded ct_is_worded), sl_is_worded⟩) (c_is_worded : PySem.W.codeIn K cd_is_worded "is_worded" = true) (k_is_worded : PySem.W.keepIn K (.ref f_is_worded) = true)
    (a_is_text : PySem.W.nsIn K mainGlobals "is_text" = some (some (.ref f_is_text))) (l_is_text : K.lookup f_is_text = some ⟨oc_is_text, od_is_text, .func (PySem.W.fnOf "is_text" "is_text" (defArgs S_is_text) (defBody S_is_text) (defScope S_is_text) .none kV_is_text dc_is_text pm_is_text an_is_text cd_is_text ct_is_text), sl_is_text⟩) (c_is_text : PySem.W.codeIn K cd_is_text "is_text" = true) (k_is_text : PySem.W.keepIn K (.ref f_is_text) = true)
    (a_is_name : PySem.W.nsIn K mainGlobals "is_name" = some (some (.ref f_is_name))) (l_is_name : K.lookup f_is_name = some ⟨oc_is_name, od_is_name, .func (PySem.W.fnOf "is_name" "is_name" (defArgs S_is_name) (defBody S_is_name) (defScope S_is_name) .none kV_is_name dc_is_name pm_is_name an_is_name cd_is_name ct_is_name), sl_is_name⟩) (c_is_name : PySem.W.codeIn K cd_is_name "is_name" = true) (k_is_name : PySem.W.keepIn K (.ref f_is_name) = true)
    (a_kind_of : PySem.W.nsIn K mainGlobals "kind_of" = some (some (.ref f_kind_of))) (l_kind_of : K.lookup f_kind_of = some ⟨oc_kind_of, od_kind_of, .func (PySem.W.fnOf "kind_of" "kind_of" (defArgs S_kind_of) (defBody S_kind_of) (defScope S_kind_of) .none kV_kind_of dc_kind_of pm_kind_of an_kind_of cd_kind_of ct_kind_of), sl_kind_of⟩) (c_kind_of : PySem.W.codeIn K cd_kind_of "kind_of" = true) (k_kind_of : PySem.W.keepIn K (.ref f_kind_of) = true)
    (a_is_value : PySem.W.nsIn K mainGlobals "is_value" = some (some (.ref f_is_value))) (l_is_value : K.lookup f_is_value = some ⟨oc_is_value, od_is_value, .func (PySem.W.fnOf "is_value" "is_value" (defArgs S_is_value) (defBody S_is_value) (defScope S_is_value) .none kV_is_value dc_is_value pm_is_value an_is_value cd_is_value ct_is_value), sl_is_value⟩) (c_is_value : PySem.W.codeIn K cd_is_value "is_value" = true) (k_is_value : PySem.W.keepIn K (.ref f_is_value) = true)
    (a_Test_init : PySem.W.findIn K (.ref c_Test) "__init__" = some (some (.ref f_Test_init))) (i_Test_init : PySem.W.isFn K (.ref f_Test_init) = true) (l_Test_init : K.lookup f_Test_init = some ⟨oc_Test_init, od_Test_init, .func (PySem.W.fnOf "__init__" "Test.__init__" (defArgs S_Test_init) (defBody S_Test_init) (defScope S_Test_init) .none kV_Test_init dc_Test_init pm_Test_init an_Test_init cd_Test_init ct_Test_init), sl_Test_init⟩) (c_Test_init : PySem.W.codeIn K cd_Test_init "Test.__init__" = true) (k_Test_init : PySem.W.keepIn K (.ref f_Test_init) = true)
    (a_Test_atoms : PySem.W.findIn K (.ref c_Test) "atoms" = some (some (.ref f_Test_atoms))) (i_Test_atoms : PySem.W.isFn K (.ref f_Test_atoms) = true) (l_Test_atoms : K.lookup f_Test_atoms = some ⟨oc_Test_atoms, od_Test_atoms, .func (PySem.W.fnOf "atoms" "Test.atoms" (defArgs S_Test_atoms) (defBody S_Test_atoms) (defScope S_Test_atoms) .none kV_Test_atoms dc_Test_atoms pm_Test_atoms an_Test_atoms cd_Test_atoms ct_Test_atoms), sl_Test_atoms⟩) (c_Test_atoms : PySem.W.codeIn K cd_Test_atoms "Test.atoms" = true) (k_Test_atoms : PySem.W.keepIn K (.ref f_Test_atoms) = true)
    (a_Test_names : PySem.W.findIn K (.ref c_Test) "names" = some (some (.ref f_Test_names))) (i_Test_names : PySem.W.isFn K (.ref f_Test_names) = true) (l_Test_names : K.lookup f_Test_names = some ⟨oc_Test_names, od_Test_names, .func (PySem.W.fnOf "names" "Test.names" (defArgs S_Test_names) (defBody S_Test_names) (defScope S_Test_names) .none kV_Test_names dc_Test_names pm_Test_names an_Test_names cd_Test_names ct_Test_names), sl_Test_names⟩) (c_Test_names : PySem.W.codeIn K cd_Test_names "Test.names" = true) (k_Test_names : PySem.W.keepIn K (.ref f_Test_names) = true)
    (a_Test_levels : PySem.W.findIn K (.ref c_Test) "levels" = some (some (.ref f_Test_levels))) (i_Test_levels : PySem.W.isFn K (.ref f_Test_levels) = true) (l_Test_levels : K.lookup f_Test_levels = some ⟨oc_Test_levels, od_Test_levels, .func (PySem.W.fnOf "levels" "Test.levels" (defArgs S_Test_levels) (defBody S_Test_levels) (defScope S_Test_levels) .none kV_Test_levels dc_Test_levels pm_Test_levels an_Test_levels cd_Test_levels ct_Test_levels), sl_Test_levels⟩) (c_Test_levels : PySem.W.codeIn K cd_Test_levels "Test.levels" = true) (k_Test_levels : PySem.W.keepIn K (.ref f_Test_levels) = true)
    (a_Test_renamed : PySem.W.findIn K (.ref c_Test) "renamed" = some (some (.ref f_Test_renamed))) (i_Test_renamed : PySem.W.isFn K (.ref f_Test_renamed) = true) (l_Test_renamed : K.lookup f_Test_renamed = some ⟨oc_Test_renamed, od_Test_renamed, .func (PySem.W.fnOf "renamed" "Test.renamed" (defArgs S_Test_renamed) (defBody S_Test_renamed) (defScope S_Test_renamed) .none kV_Test_renamed dc_Test_renamed pm_Test_renamed an_Test_renamed cd_Test_renamed ct_Test_renamed), sl_Test_renamed⟩) (c_Test_renamed : PySem.W.codeIn K cd_Test_renamed "Test.renamed" = true) (k_Test_renamed : PySem.W.keepIn K (.ref f_Test_renamed) = true)
    (a_Test_or : PySem.W.findIn K (.ref c_Test) "__or__" = some (some (.ref f_Test_or))) (i_Test_or : PySem.W.isFn K (.ref f_Test_or) = true) (l_Test_or : K.lookup f_Test_or = some ⟨oc_Test_or, od_Test_or, .func (PySem.W.fnOf "__or__" "Test.__or__" (defArgs S_Test_or) (defBody S_Test_or) (defScope S_Test_or) .none kV_Test_or dc_Test_or pm_Test_or an_Test_or cd_Test_or ct_Test_or), sl_Test_or⟩) (c_Test_or : PySem.W.codeIn K cd_Test_or "Test.__or__" = true) (k_Test_or : PySem.W.keepIn K (.ref f_Test_or) = true)
    (a_Test_invert : PySem.W.findIn K (.ref c_Test) "__invert__" = some (some (.ref f_Test_invert))) (i_Test_invert : PySem.W.isFn K (.ref f_Test_invert) = true) (l_Test_invert : K.lookup f_Test_invert = some ⟨oc_Test_invert, od_Test_invert, .func (PySem.W.fnOf "__invert__" "Test.__invert__" (defArgs S_Test_invert) (defBody S_Test_invert) (defScope S_Test_invert) .none kV_Test_invert dc_Test_invert pm_Test_invert an_Test_invert cd_Test_invert ct_Test_invert), sl_Test_invert⟩) (c_Test_invert : PySem.W.codeIn K cd_Test_invert "Test.__invert__" = true) (k_Test_invert : PySem.W.keepIn K (.ref f_Test_invert) = true)
    (a_Test_eq : PySem.W.findIn K (.ref c_Test) "__eq__" = some (some (.ref f_Test_eq))) (i_Test_eq : PySem.W.isFn K (.ref f_Test_eq) = true) (l_Test_eq : K.lookup f_Test_eq = some ⟨oc_Test_eq, od_Test_eq, .func (PySem.W.fnOf "__eq__" "Test.__eq__" (defArgs S_Test_eq) (defBody S_Test_eq) (defScope S_Test_eq) .none kV_Test_eq dc_Test_eq pm_Test_eq an_Test_eq cd_Test_eq ct_Test_eq), sl_Test_eq⟩) (c_Test_eq : PySem.W.codeIn K cd_Test_eq "Test.__eq__" = true) (k_Test_eq : PySem.W.keepIn K (.ref f_Test_eq) = true)
    (a_size_of : PySem.W.nsIn K mainGlobals "size_of" = some (some (.ref f_size_of))) (l_size_of : K.lookup f_size_of = some ⟨oc_size_of, od_size_of, .func (PySem.W.fnOf "size_of" "size_of" (defArgs S_size_of) (defBody S_size_of) (defScope S_size_of) .none kV_size_of dc_size_of pm_size_of an_size_of cd_size_of ct_size_of), sl_size_of⟩) (c_size_of : PySem.W.codeIn K cd_size_of "size_of" = true) (k_size_of : PySem.W.keepIn K (.ref f_size_of) = true)
    (a_depth_of : PySem.W.nsIn K mainGlobals "depth_of" = some (some (.ref f_depth_of))) (l_depth_of : K.lookup f_depth_of = some ⟨oc_depth_of, od_depth_of, .func (PySem.W.fnOf "depth_of" "depth_of" (defArgs S_depth_of) (defBody S_depth_of) (defScope S_depth_of) .none kV_depth_of dc_depth_of pm_depth_of an_depth_of cd_depth_of ct_depth_of), sl_depth_of⟩) (c_depth_of : PySem.W.codeIn K cd_depth_of "depth_of" = true) (k_depth_of : PySem.W.keepIn K (.ref f_depth_of) = true)
    (a_combined : PySem.W.nsIn K mainGlobals "combined" = some (some (.ref f_combined))) (l_combined : K.lookup f_combined = some ⟨oc_combined, od_combined, .func (PySem.W.fnOf "combined" "combined" (defArgs S_combined) (defBody S_combined) (defScope S_combined) .none kV_combined dc_combined pm_combined an_combined cd_combined ct_combined), sl_combined⟩) (c_combined : PySem.W.codeIn K cd_combined "combined" = true) (k_combined : PySem.W.keepIn K (.ref f_combined) = true)
    (a_need_column : PySem.W.nsIn K mainGlobals "need_column" = some (some (.ref f_need_column))) (l_need_column : K.lookup f_need_column = some ⟨oc_need_column, od_need_column, .func (PySem.W.fnOf "need_column" "need_column" (defArgs S_need_column) (defBody S_need_column) (defScope S_need_column) .none kV_need_column dc_need_column pm_need_column an_need_column cd_need_column ct_need_column), sl_need_column⟩) (c_need_column : PySem.W.codeIn K cd_need_column "need_column" = true) (k_need_column : PySem.W.keepIn K (.ref f_need_column) = true)
    (a_empty : PySem.W.nsIn K mainGlobals "empty" = some (some (.ref f_empty))) (l_empty : K.lookup f_empty = some ⟨oc_empty, od_empty, .func (PySem.W.fnOf "empty" "empty" (defArgs S_empty) (defBody S_empty) (defScope S_empty) .none kV_empty dc_empty pm_empty an_empty cd_empty ct_empty), sl_empty⟩) (c_empty : PySem.W.codeIn K cd_empty "empty" = true) (k_empty : PySem.W.keepIn K (.ref f_empty) = true)
    (a_always : PySem.W.nsIn K mainGlobals "always" = some (some (.ref f_always))) (l_always : K.lookup f_always = some ⟨oc_always, od_always, .func (PySem.W.fnOf "always" "always" (defArgs S_always) (defBody S_always) (defScope S_always) .none kV_always dc_always pm_always an_always cd_always ct_always), sl_always⟩) (c_always : PySem.W.codeIn K cd_always "always" = true) (k_always : PySem.W.keepIn K (.ref f_always) = true)
    (a_renamed_by : PySem.W.nsIn K mainGlobals "renamed_by" = some (some (.ref f_renamed_by))) (l_renamed_by : K.lookup f_renamed_by = some ⟨oc_renamed_by, od_renamed_by, .func (PySem.W.fnOf "renamed_by" "renamed_by" (defArgs S_renamed_by) (defBody S_renamed_by) (defScope S_renamed_by) .none kV_renamed_by dc_renamed_by pm_renamed_by an_renamed_by cd_renamed_by ct_renamed_by), sl_renamed_by⟩) (c_renamed_by : PySem.W.codeIn K cd_renamed_by "renamed_by" = true) (k_renamed_by : PySem.W.keepIn K (.ref f_renamed_by) = true)
    {kD_Shape_init da1_Shape_init da2_Shape_init : Addr} {do1_Shape_init do2_Shape_init : Obj} {di1_Shape_init di2_Shape_init : Array Value} {dn1_Shape_init dn2_Shape_init : Nat}
    (a_Shape_init : PySem.W.findIn K (.ref c_Shape) "__init__" = some (some (.ref f_Shape_init))) (i_Shape_init : PySem.W.isFn K (.ref f_Shape_init) = true) (l_Shape_init : K.lookup f_Shape_init = some ⟨oc_Shape_init, od_Shape_init, .func (PySem.W.fnOf "__init__" "Shape.__init__" (defArgs S_Shape_init) (defBody S_Shape_init) (defScope S_Shape_init) .none (.ref kD_Shape_init) dc_Shape_init pm_Shape_init an_Shape_init cd_Shape_init ct_Shape_init), sl_Shape_init⟩) (c_Shape_init : PySem.W.codeIn K cd_Shape_init "Shape.__init__" = true) (k_Shape_init : PySem.W.keepIn K (.ref f_Shape_init) = true)
    (kn1_Shape_init : PySem.W.nsIn K kD_Shape_init "checks" = some (some (.ref da1_Shape_init))) (kl1_Shape_init : K.lookup da1_Shape_init = some do1_Shape_init) (gc_1_Shape_init : do1_Shape_init.cls = .type "tuple") (gd_1_Shape_init : do1_Shape_init.data = .seq di1_Shape_init dn1_Shape_init) (kz1_Shape_init : di1_Shape_init.size = 0)
    (kn2_Shape_init : PySem.W.nsIn K kD_Shape_init "keys" = some (some (.ref da2_Shape_init))) (kl2_Shape_init : K.lookup da2_Shape_init = some do2_Shape_init) (gc_2_Shape_init : do2_Shape_init.cls = .type "tuple") (gd_2_Shape_init : do2_Shape_init.data = .seq di2_Shape_init dn2_Shape_init) (kz2_Shape_init : di2_Shape_init.size = 0)
    (a_Shape_columns : PySem.W.findIn K (.ref c_Shape) "columns" = some (some (.ref f_Shape_columns))) (i_Shape_columns : PySem.W.isFn K (.ref f_Shape_columns) = true) (l_Shape_columns : K.lookup f_Shape_columns = some ⟨oc_Shape_columns, od_Shape_columns, .func (PySem.W.fnOf "columns" "Shape.columns" (defArgs S_Shape_columns) (defBody S_Shape_columns) (defScope S_Shape_columns) .none kV_Shape_columns dc_Shape_columns pm_Shape_columns an_Shape_columns cd_Shape_columns ct_Shape_columns), sl_Shape_columns⟩) (c_Shape_columns : PySem.W.codeIn K cd_Shape_columns "Shape.columns" = true) (k_Shape_columns : PySem.W.keepIn K (.ref f_Shape_columns) = true)
    (a_Shape_names : PySem.W.findIn K (.ref c_Shape) "names" = some (some (.ref f_Shape_names))) (i_Shape_names : PySem.W.isFn K (.ref f_Shape_names) = true) (l_Shape_names : K.lookup f_Shape_names = some ⟨oc_Shape_names, od_Shape_names, .func (PySem.W.fnOf "names" "Shape.names" (defArgs S_Shape_names) (defBody S_Shape_names) (defScope S_Shape_names) .none kV_Shape_names dc_Shape_names pm_Shape_names an_Shape_names cd_Shape_names ct_Shape_names), sl_Shape_names⟩) (c_Shape_names : PySem.W.codeIn K cd_Shape_names "Shape.names" = true) (k_Shape_names : PySem.W.keepIn K (.ref f_Shape_names) = true)
    (a_Shape_checks : PySem.W.findIn K (.ref c_Shape) "checks" = some (some (.ref f_Shape_checks))) (i_Shape_checks : PySem.W.isFn K (.ref f_Shape_checks) = true) (l_Shape_checks : K.lookup f_Shape_checks = some ⟨oc_Shape_checks, od_Shape_checks, .func (PySem.W.fnOf "checks" "Shape.checks" (defArgs S_Shape_checks) (defBody S_Shape_checks) (defScope S_Shape_checks) .none kV_Shape_checks dc_Shape_checks pm_Shape_checks an_Shape_checks cd_Shape_checks ct_Shape_checks), sl_Shape_checks⟩) (c_Shape_checks : PySem.W.codeIn K cd_Shape_checks "Shape.checks" = true) (k_Shape_checks : PySem.W.keepIn K (.ref f_Shape_checks) = true)
    (a_Shape_unique_keys : PySem.W.findIn K (.ref c_Shape) "unique_keys" = some (some (.ref f_Shape_unique_keys))) (i_Shape_unique_keys : PySem.W.isFn K (.ref f_Shape_unique_keys) = true) (l_Shape_unique_keys : K.lookup f_Shape_unique_keys = some ⟨oc_Shape_unique_keys, od_Shape_unique_keys, .func (PySem.W.fnOf "unique_keys" "Shape.unique_keys" (defArgs S_Shape_unique_keys) (defBody S_Shape_unique_keys) (defScope S_Shape_unique_keys) .none kV_Shape_unique_keys dc_Shape_unique_keys pm_Shape_unique_keys an_Shape_unique_keys cd_Shape_unique_keys ct_Shape_unique_keys), sl_Shape_unique_keys⟩) (c_Shape_unique_keys : PySem.W.codeIn K cd_Shape_unique_keys "Shape.unique_keys" = true) (k_Shape_unique_keys : PySem.W.keepIn K (.ref f_Shape_unique_keys) = true)
    (a_Shape_filled : PySem.W.findIn K (.ref c_Shape) "filled" = some (some (.ref f_Shape_filled))) (i_Shape_filled : PySem.W.isFn K (.ref f_Shape_filled) = true) (l_Shape_filled : K.lookup f_Shape_filled = some ⟨oc_Shape_filled, od_Shape_filled, .func (PySem.W.fnOf "filled" "Shape.filled" (defArgs S_Shape_filled) (defBody S_Shape_filled) (defScope S_Shape_filled) .none kV_Shape_filled dc_Shape_filled pm_Shape_filled an_Shape_filled cd_Shape_filled ct_Shape_filled), sl_Shape_filled⟩) (c_Shape_filled : PySem.W.codeIn K cd_Shape_filled "Shape.filled" = true) (k_Shape_filled : PySem.W.keepIn K (.ref f_Shape_filled) = true)
    (a_Shape_eq : PySem.W.findIn K (.ref c_Shape) "__eq__" = some (some (.ref f_Shape_eq))) (i_Shape_eq : PySem.W.isFn K (.ref f_Shape_eq) = true) (l_Shape_eq : K.lookup f_Shape_eq = some ⟨oc_Shape_eq, od_Shape_eq, .func (PySem.W.fnOf "__eq__" "Shape.__eq__" (defArgs S_Shape_eq) (defBody S_Shape_eq) (defScope S_Shape_eq) .none kV_Shape_eq dc_Shape_eq pm_Shape_eq an_Shape_eq cd_Shape_eq ct_Shape_eq), sl_Shape_eq⟩) (c_Shape_eq : PySem.W.codeIn K cd_Shape_eq "Shape.__eq__" = true) (k_Shape_eq : PySem.W.keepIn K (.ref f_Shape_eq) = true)
    (a_is_short : PySem.W.nsIn K mainGlobals "is_short" = some (some (.ref f_is_short))) (l_is_short : K.lookup f_is_short = some ⟨oc_is_short, od_is_short, .func (PySem.W.fnOf "is_short" "is_short" (defArgs S_is_short) (defBody S_is_short) (defScope S_is_short) .none kV_is_short dc_is_short pm_is_short an_is_short cd_is_short ct_is_short), sl_is_short⟩) (c_is_short : PySem.W.codeIn K cd_is_short "is_short" = true) (k_is_short : PySem.W.keepIn K (.ref f_is_short) = true)
    (a_is_column : PySem.W.nsIn K mainGlobals "is_column" = some (some (.ref f_is_column))) (l_is_column : K.lookup f_is_column = some ⟨oc_is_column, od_is_column, .func (PySem.W.fnOf "is_column" "is_column" (defArgs S_is_column) (defBody S_is_column) (defScope S_is_column) .none kV_is_column dc_is_column pm_is_column an_is_column cd_is_column ct_is_column), sl_is_column⟩) (c_is_column : PySem.W.codeIn K cd_is_column "is_column" = true) (k_is_column : PySem.W.keepIn K (.ref f_is_column) = true)
    (a_need_columns : PySem.W.nsIn K mainGlobals "need_columns" = some (some (.ref f_need_columns))) (l_need_columns : K.lookup f_need_columns = some ⟨oc_need_columns, od_need_columns, .func (PySem.W.fnOf "need_columns" "need_columns" (defArgs S_need_columns) (defBody S_need_columns) (defScope S_need_columns) .none kV_need_columns dc_need_columns pm_need_columns an_need_columns cd_need_columns ct_need_columns), sl_need_columns⟩) (c_need_columns : PySem.W.codeIn K cd_need_columns "need_columns" = true) (k_need_columns : PySem.W.keepIn K (.ref f_need_columns) = true)
    (a_need_checks : PySem.W.nsIn K mainGlobals "need_checks" = some (some (.ref f_need_checks))) (l_need_checks : K.lookup f_need_checks = some ⟨oc_need_checks, od_need_checks, .func (PySem.W.fnOf "need_checks" "need_checks" (defArgs S_need_checks) (defBody S_need_checks) (defScope S_need_checks) .none kV_need_checks dc_need_checks pm_need_checks an_need_checks cd_need_checks ct_need_checks), sl_need_checks⟩) (c_need_checks : PySem.W.codeIn K cd_need_checks "need_checks" = true) (k_need_checks : PySem.W.keepIn K (.ref f_need_checks) = true)
    (a_need_keys : PySem.W.nsIn K mainGlobals "need_keys" = some (some (.ref f_need_keys))) (l_need_keys : K.lookup f_need_keys = some ⟨oc_need_keys, od_need_keys, .func (PySem.W.fnOf "need_keys" "need_keys" (defArgs S_need_keys) (defBody S_need_keys) (defScope S_need_keys) .none kV_need_keys dc_need_keys pm_need_keys an_need_keys cd_need_keys ct_need_keys), sl_need_keys⟩) (c_need_keys : PySem.W.codeIn K cd_need_keys "need_keys" = true) (k_need_keys : PySem.W.keepIn K (.ref f_need_keys) = true)
    (a_are_names : PySem.W.nsIn K mainGlobals "are_names" = some (some (.ref f_are_names))) (l_are_names : K.lookup f_are_names = some ⟨oc_are_names, od_are_names, .func (PySem.W.fnOf "are_names" "are_names" (defArgs S_are_names) (defBody S_are_names) (defScope S_are_names) .none kV_are_names dc_are_names pm_are_names an_are_names cd_are_names ct_are_names), sl_are_names⟩) (c_are_names : PySem.W.codeIn K cd_are_names "are_names" = true) (k_are_names : PySem.W.keepIn K (.ref f_are_names) = true)
    (a_is_key : PySem.W.nsIn K mainGlobals "is_key" = some (some (.ref f_is_key))) (l_is_key : K.lookup f_is_key = some ⟨oc_is_key, od_is_key, .func (PySem.W.fnOf "is_key" "is_key" (defArgs S_is_key) (defBody S_is_key) (defScope S_is_key) .none kV_is_key dc_is_key pm_is_key an_is_key cd_is_key ct_is_key), sl_is_key⟩) (c_is_key : PySem.W.codeIn K cd_is_key "is_key" = true) (k_is_key : PySem.W.keepIn K (.ref f_is_key) = true)
    (a_is_fitting : PySem.W.nsIn K mainGlobals "is_fitting" = some (some (.ref f_is_fitting))) (l_is_fitting : K.lookup f_is_fitting = some ⟨oc_is_fitting, od_is_fitting, .func (PySem.W.fnOf "is_fitting" "is_fitting" (defArgs S_is_fitting) (defBody S_is_fitting) (defScope S_is_fitting) .none kV_is_fitting dc_is_fitting pm_is_fitting an_is_fitting cd_is_fitting ct_is_fitting), sl_is_fitting⟩) (c_is_fitting : PySem.W.codeIn K cd_is_fitting "is_fitting" = true) (k_is_fitting : PySem.W.keepIn K (.ref f_is_fitting) = true)
    (a_atom_fits : PySem.W.nsIn K mainGlobals "atom_fits" = some (some (.ref f_atom_fits))) (l_atom_fits : K.lookup f_atom_fits = some ⟨oc_atom_fits, od_atom_fits, .func (PySem.W.fnOf "atom_fits" "atom_fits" (defArgs S_atom_fits) (defBody S_atom_fits) (defScope S_atom_fits) .none kV_atom_fits dc_atom_fits pm_atom_fits an_atom_fits cd_atom_fits ct_atom_fits), sl_atom_fits⟩) (c_atom_fits : PySem.W.codeIn K cd_atom_fits "atom_fits" = true) (k_atom_fits : PySem.W.keepIn K (.ref f_atom_fits) = true)
    (a_column_of : PySem.W.nsIn K mainGlobals "column_of" = some (some (.ref f_column_of))) (l_column_of : K.lookup f_column_of = some ⟨oc_column_of, od_column_of, .func (PySem.W.fnOf "column_of" "column_of" (defArgs S_column_of) (defBody S_column_of) (defScope S_column_of) .none kV_column_of dc_column_of pm_column_of an_column_of cd_column_of ct_column_of), sl_column_of⟩) (c_column_of : PySem.W.codeIn K cd_column_of "column_of" = true) (k_column_of : PySem.W.keepIn K (.ref f_column_of) = true)
    (a_is_large : PySem.W.nsIn K mainGlobals "is_large" = some (some (.ref f_is_large))) (l_is_large : K.lookup f_is_large = some ⟨oc_is_large, od_is_large, .func (PySem.W.fnOf "is_large" "is_large" (defArgs S_is_large) (defBody S_is_large) (defScope S_is_large) .none kV_is_large dc_is_large pm_is_large an_is_large cd_is_large ct_is_large), sl_is_large⟩) (c_is_large : PySem.W.codeIn K cd_is_large "is_large" = true) (k_is_large : PySem.W.keepIn K (.ref f_is_large) = true)
    (a_is_small : PySem.W.nsIn K mainGlobals "is_small" = some (some (.ref f_is_small))) (l_is_small : K.lookup f_is_small = some ⟨oc_is_small, od_is_small, .func (PySem.W.fnOf "is_small" "is_small" (defArgs S_is_small) (defBody S_is_small) (defScope S_is_small) .none kV_is_small dc_is_small pm_is_small an_is_small cd_is_small ct_is_small), sl_is_small⟩) (c_is_small : PySem.W.codeIn K cd_is_small "is_small" = true) (k_is_small : PySem.W.keepIn K (.ref f_is_small) = true)
    (a_need_small : PySem.W.nsIn K mainGlobals "need_small" = some (some (.ref f_need_small))) (l_need_small : K.lookup f_need_small = some ⟨oc_need_small, od_need_small, .func (PySem.W.fnOf "need_small" "need_small" (defArgs S_need_small) (defBody S_need_small) (defScope S_need_small) .none kV_need_small dc_need_small pm_need_small an_need_small cd_need_small ct_need_small), sl_need_small⟩) (c_need_small : PySem.W.codeIn K cd_need_small "need_small" = true) (k_need_small : PySem.W.keepIn K (.ref f_need_small) = true)
    (a_numbered : PySem.W.nsIn K mainGlobals "numbered" = some (some (.ref f_numbered))) (l_numbered : K.lookup f_numbered = some ⟨oc_numbered, od_numbered, .func (PySem.W.fnOf "numbered" "numbered" (defArgs S_numbered) (defBody S_numbered) (defScope S_numbered) .none kV_numbered dc_numbered pm_numbered an_numbered cd_numbered ct_numbered), sl_numbered⟩) (c_numbered : PySem.W.codeIn K cd_numbered "numbered" = true) (k_numbered : PySem.W.keepIn K (.ref f_numbered) = true)
    (a_copies : PySem.W.nsIn K mainGlobals "copies" = some (some (.ref f_copies))) (l_copies : K.lookup f_copies = some ⟨oc_copies, od_copies, .func (PySem.W.fnOf "copies" "copies" (defArgs S_copies) (defBody S_copies) (defScope S_copies) .none kV_copies dc_copies pm_copies an_copies cd_copies ct_copies), sl_copies⟩) (c_copies : PySem.W.codeIn K cd_copies "copies" = true) (k_copies : PySem.W.keepIn K (.ref f_copies) = true)
    (a_copy_test : PySem.W.nsIn K mainGlobals "copy_test" = some (some (.ref f_copy_test))) (l_copy_test : K.lookup f_copy_test = some ⟨oc_copy_test, od_copy_test, .func (PySem.W.fnOf "copy_test" "copy_test" (defArgs S_copy_test) (defBody S_copy_test) (defScope S_copy_test) .none kV_copy_test dc_copy_test pm_copy_test an_copy_test cd_copy_test ct_copy_test), sl_copy_test⟩) (c_copy_test : PySem.W.codeIn K cd_copy_test "copy_test" = true) (k_copy_test : PySem.W.keepIn K (.ref f_copy_test) = true)
    (a_own_rules : PySem.W.nsIn K mainGlobals "own_rules" = some (some (.ref f_own_rules))) (l_own_rules : K.lookup f_own_rules = some ⟨oc_own_rules, od_own_rules, .func (PySem.W.fnOf "own_rules" "own_rules" (defArgs S_own_rules) (defBody S_own_rules) (defScope S_own_rules) .none kV_own_rules dc_own_rules pm_own_rules an_own_rules cd_own_rules ct_own_rules), sl_own_rules⟩) (c_own_rules : PySem.W.codeIn K cd_own_rules "own_rules" = true) (k_own_rules : PySem.W.keepIn K (.ref f_own_rules) = true)
    (a_is_own_rule : PySem.W.nsIn K mainGlobals "is_own_rule" = some (some (.ref f_is_own_rule))) (l_is_own_rule : K.lookup f_is_own_rule = some ⟨oc_is_own_rule, od_is_own_rule, .func (PySem.W.fnOf "is_own_rule" "is_own_rule" (defArgs S_is_own_rule) (defBody S_is_own_rule) (defScope S_is_own_rule) .none kV_is_own_rule dc_is_own_rule pm_is_own_rule an_is_own_rule cd_is_own_rule ct_is_own_rule), sl_is_own_rule⟩) (c_is_own_rule : PySem.W.codeIn K cd_is_own_rule "is_own_rule" = true) (k_is_own_rule : PySem.W.keepIn K (.ref f_is_own_rule) = true)
    (a_bare : PySem.W.nsIn K mainGlobals "bare" = some (some (.ref f_bare))) (l_bare : K.lookup f_bare = some ⟨oc_bare, od_bare, .func (PySem.W.fnOf "bare" "bare" (defArgs S_bare) (defBody S_bare) (defScope S_bare) .none kV_bare dc_bare pm_bare an_bare cd_bare ct_bare), sl_bare⟩) (c_bare : PySem.W.codeIn K cd_bare "bare" = true) (k_bare : PySem.W.keepIn K (.ref f_bare) = true)
    (a_Desk_init : PySem.W.findIn K (.ref c_Desk) "__init__" = some (some (.ref f_Desk_init))) (i_Desk_init : PySem.W.isFn K (.ref f_Desk_init) = true) (l_Desk_init : K.lookup f_Desk_init = some ⟨oc_Desk_init, od_Desk_init, .func (PySem.W.fnOf "__init__" "Desk.__init__" (defArgs S_Desk_init) (defBody S_Desk_init) (defScope S_Desk_init) .none kV_Desk_init dc_Desk_init pm_Desk_init an_Desk_init cd_Desk_init ct_Desk_init), sl_Desk_init⟩) (c_Desk_init : PySem.W.codeIn K cd_Desk_init "Desk.__init__" = true) (k_Desk_init : PySem.W.keepIn K (.ref f_Desk_init) = true)
    (a_Desk_shape : PySem.W.findIn K (.ref c_Desk) "shape" = some (some (.ref f_Desk_shape))) (i_Desk_shape : PySem.W.isFn K (.ref f_Desk_shape) = true) (l_Desk_shape : K.lookup f_Desk_shape = some ⟨oc_Desk_shape, od_Desk_shape, .func (PySem.W.fnOf "shape" "Desk.shape" (defArgs S_Desk_shape) (defBody S_Desk_shape) (defScope S_Desk_shape) .none kV_Desk_shape dc_Desk_shape pm_Desk_shape an_Desk_shape cd_Desk_shape ct_Desk_shape), sl_Desk_shape⟩) (c_Desk_shape : PySem.W.codeIn K cd_Desk_shape "Desk.shape" = true) (k_Desk_shape : PySem.W.keepIn K (.ref f_Desk_shape) = true)
    (a__law_pool : PySem.W.nsIn K mainGlobals "_law_pool" = some (some (.ref f__law_pool))) (l__law_pool : K.lookup f__law_pool = some ⟨oc__law_pool, od__law_pool, .func (PySem.W.fnOf "_law_pool" "_law_pool" (defArgs S__law_pool) (defBody S__law_pool) (defScope S__law_pool) .none kV__law_pool dc__law_pool pm__law_pool an__law_pool cd__law_pool ct__law_pool), sl__law_pool⟩) (c__law_pool : PySem.W.codeIn K cd__law_pool "_law_pool" = true) (k__law_pool : PySem.W.keepIn K (.ref f__law_pool) = true)
    (a__law_draw : PySem.W.nsIn K mainGlobals "_law_draw" = some (some (.ref f__law_draw))) (l__law_draw : K.lookup f__law_draw = some ⟨oc__law_draw, od__law_draw, .func (PySem.W.fnOf "_law_draw" "_law_draw" (defArgs S__law_draw) (defBody S__law_draw) (defScope S__law_draw) .none kV__law_draw dc__law_draw pm__law_draw an__law_draw cd__law_draw ct__law_draw), sl__law_draw⟩) (c__law_draw : PySem.W.codeIn K cd__law_draw "_law_draw" = true) (k__law_draw : PySem.W.keepIn K (.ref f__law_draw) = true)
    (a__law_is : PySem.W.nsIn K mainGlobals "_law_is" = some (some (.ref f__law_is))) (l__law_is : K.lookup f__law_is = some ⟨oc__law_is, od__law_is, .func (PySem.W.fnOf "_law_is" "_law_is" (defArgs S__law_is) (defBody S__law_is) (defScope S__law_is) .none kV__law_is dc__law_is pm__law_is an__law_is cd__law_is ct__law_is), sl__law_is⟩) (c__law_is : PySem.W.codeIn K cd__law_is "_law_is" = true) (k__law_is : PySem.W.keepIn K (.ref f__law_is) = true)
    (a__law_long_name : PySem.W.nsIn K mainGlobals "_law_long_name" = some (some (.ref f__law_long_name))) (l__law_long_name : K.lookup f__law_long_name = some ⟨oc__law_long_name, od__law_long_name, .func (PySem.W.fnOf "_law_long_name" "_law_long_name" (defArgs S__law_long_name) (defBody S__law_long_name) (defScope S__law_long_name) .none kV__law_long_name dc__law_long_name pm__law_long_name an__law_long_name cd__law_long_name ct__law_long_name), sl__law_long_name⟩) (c__law_long_name : PySem.W.codeIn K cd__law_long_name "_law_long_name" = true) (k__law_long_name : PySem.W.keepIn K (.ref f__law_long_name) = true)
    (a__law_grown : PySem.W.nsIn K mainGlobals "_law_grown" = some (some (.ref f__law_grown))) (l__law_grown : K.lookup f__law_grown = some ⟨oc__law_grown, od__law_grown, .func (PySem.W.fnOf "_law_grown" "_law_grown" (defArgs S__law_grown) (defBody S__law_grown) (defScope S__law_grown) .none kV__law_grown dc__law_grown pm__law_grown an__law_grown cd__law_grown ct__law_grown), sl__law_grown⟩) (c__law_grown : PySem.W.codeIn K cd__law_grown "_law_grown" = true) (k__law_grown : PySem.W.keepIn K (.ref f__law_grown) = true)
    (a__law_refused : PySem.W.nsIn K mainGlobals "_law_refused" = some (some (.ref f__law_refused))) (l__law_refused : K.lookup f__law_refused = some ⟨oc__law_refused, od__law_refused, .func (PySem.W.fnOf "_law_refused" "_law_refused" (defArgs S__law_refused) (defBody S__law_refused) (defScope S__law_refused) .none kV__law_refused dc__law_refused pm__law_refused an__law_refused cd__law_refused ct__law_refused), sl__law_refused⟩) (c__law_refused : PySem.W.codeIn K cd__law_refused "_law_refused" = true) (k__law_refused : PySem.W.keepIn K (.ref f__law_refused) = true)
    (a_law : PySem.W.nsIn K mainGlobals "law" = some (some (.ref f_law))) (l_law : K.lookup f_law = some ⟨oc_law, od_law, .func (PySem.W.fnOf "law" "law" (defArgs S_law) (defBody S_law) (defScope S_law) .none kV_law dc_law pm_law an_law cd_law ct_law), sl_law⟩) (c_law : PySem.W.codeIn K cd_law "law" = true) (k_law : PySem.W.keepIn K (.ref f_law) = true)
    (z_isinstance : PySem.W.nsIn K mainGlobals "isinstance" = some none)
    (z_int : PySem.W.nsIn K mainGlobals "int" = some none)
    (z_bool : PySem.W.nsIn K mainGlobals "bool" = some none)
    (z_list : PySem.W.nsIn K mainGlobals "list" = some none)
    (z_tuple : PySem.W.nsIn K mainGlobals "tuple" = some none)
    (z_str : PySem.W.nsIn K mainGlobals "str" = some none)
    (z_len : PySem.W.nsIn K mainGlobals "len" = some none)
    (z_all : PySem.W.nsIn K mainGlobals "all" = some none)
    (z_sorted : PySem.W.nsIn K mainGlobals "sorted" = some none)
    (z_set : PySem.W.nsIn K mainGlobals "set" = some none)
    (z_dict : PySem.W.nsIn K mainGlobals "dict" = some none)
    (z_sum : PySem.W.nsIn K mainGlobals "sum" = some none)
    (z_enumerate : PySem.W.nsIn K mainGlobals "enumerate" = some none)
    (z_any : PySem.W.nsIn K mainGlobals "any" = some none)
    (z_range : PySem.W.nsIn K mainGlobals "range" = some none)
    {t_SIGNS : Tok} (g_SIGNS : PySem.W.nsIn K mainGlobals "SIGNS" = some (some (.str C_SIGNS t_SIGNS)))
    {t_LONGEST_NAME : Tok} (g_LONGEST_NAME : PySem.W.nsIn K mainGlobals "LONGEST_NAME" = some (some (.int 8 t_LONGEST_NAME)))
    {t_LETTERS : Tok} (g_LETTERS : PySem.W.nsIn K mainGlobals "LETTERS" = some (some (.str C_LETTERS t_LETTERS)))
    {ca_WORDS : Addr} {co_WORDS : Obj} {ci_WORDS : Array Value} {cn_WORDS : Nat} (g_WORDS : PySem.W.nsIn K mainGlobals "WORDS" = some (some (.ref ca_WORDS))) (gl_WORDS : K.lookup ca_WORDS = some co_WORDS) (gc_WORDS : co_WORDS.cls = .type "tuple") (gd_WORDS : co_WORDS.data = .seq ci_WORDS cn_WORDS) (gs_WORDS : ci_WORDS.size ≤ sizeLine) (gv_WORDS : Vals C_WORDS ci_WORDS.toList)
    {t_NAME_SIGNS : Tok} (g_NAME_SIGNS : PySem.W.nsIn K mainGlobals "NAME_SIGNS" = some (some (.str C_NAME_SIGNS t_NAME_SIGNS)))
    {t_MOST_ATOMS : Tok} (g_MOST_ATOMS : PySem.W.nsIn K mainGlobals "MOST_ATOMS" = some (some (.int 24 t_MOST_ATOMS)))
    {t_MOST_LEVELS : Tok} (g_MOST_LEVELS : PySem.W.nsIn K mainGlobals "MOST_LEVELS" = some (some (.int 12 t_MOST_LEVELS)))
    {ca_KINDS : Addr} {co_KINDS : Obj} {ci_KINDS : Array Value} {cn_KINDS : Nat} (g_KINDS : PySem.W.nsIn K mainGlobals "KINDS" = some (some (.ref ca_KINDS))) (gl_KINDS : K.lookup ca_KINDS = some co_KINDS) (gc_KINDS : co_KINDS.cls = .type "tuple") (gd_KINDS : co_KINDS.data = .seq ci_KINDS cn_KINDS) (gs_KINDS : ci_KINDS.size ≤ sizeLine) (gv_KINDS : Vals C_KINDS ci_KINDS.toList)
    {t_MOST_COLUMNS : Tok} (g_MOST_COLUMNS : PySem.W.nsIn K mainGlobals "MOST_COLUMNS" = some (some (.int 12 t_MOST_COLUMNS)))
    {t_MOST_RULES : Tok} (g_MOST_RULES : PySem.W.nsIn K mainGlobals "MOST_RULES" = some (some (.int 9 t_MOST_RULES)))
    {t_MOST_KEY_NAMES : Tok} (g_MOST_KEY_NAMES : PySem.W.nsIn K mainGlobals "MOST_KEY_NAMES" = some (some (.int 3 t_MOST_KEY_NAMES)))
    {t_MOST_SMALL_ATOMS : Tok} (g_MOST_SMALL_ATOMS : PySem.W.nsIn K mainGlobals "MOST_SMALL_ATOMS" = some (some (.int 8 t_MOST_SMALL_ATOMS)))
    {t_MOST_SMALL_LEVELS : Tok} (g_MOST_SMALL_LEVELS : PySem.W.nsIn K mainGlobals "MOST_SMALL_LEVELS" = some (some (.int 8 t_MOST_SMALL_LEVELS)))
    {t_MOST_SMALL_COLUMNS : Tok} (g_MOST_SMALL_COLUMNS : PySem.W.nsIn K mainGlobals "MOST_SMALL_COLUMNS" = some (some (.int 4 t_MOST_SMALL_COLUMNS)))
    {t_MOST_SMALL_RULES : Tok} (g_MOST_SMALL_RULES : PySem.W.nsIn K mainGlobals "MOST_SMALL_RULES" = some (some (.int 3 t_MOST_SMALL_RULES)))
    {t_LONGEST_SMALL_NAME : Tok} (g_LONGEST_SMALL_NAME : PySem.W.nsIn K mainGlobals "LONGEST_SMALL_NAME" = some (some (.int 7 t_LONGEST_SMALL_NAME)))
    : ∃ fd : FuncData, (∀ (s : Shared) (v : Value), BindsTo s fd ⟨[v], []⟩ [("_law_script", v)]) ∧ ∀ base : Heap, K.In base → base.Ns mainGlobals mg → FnOk l.prog w K mg base CX0 60 fa fd ["_law_script"] (spLaw K) := by
  have e := hfa.symm.trans (PySem.W.mg_of X G a_law)
  cases e
  have hc_Test : cadr mg "Test" = c_Test := cadr_of (PySem.W.mg_of X G a_Test)
  have hc_Shape : cadr mg "Shape" = c_Shape := cadr_of (PySem.W.mg_of X G a_Shape)
  have hc_Desk : cadr mg "Desk" = c_Desk := cadr_of (PySem.W.mg_of X G a_Desk)
  have T : Txt K mg := {
    ne_Test := by rw [hc_Test]; exact ⟨nn_Test, nz_Test⟩
    ne_Shape := by rw [hc_Shape]; exact ⟨nn_Shape, nz_Shape⟩
    h_isinstance := PySem.W.mg_none_of X G z_isinstance
    h_int := PySem.W.mg_none_of X G z_int
    h_bool := PySem.W.mg_none_of X G z_bool
    h_list := PySem.W.mg_none_of X G z_list
    h_tuple := PySem.W.mg_none_of X G z_tuple
    h_str := PySem.W.mg_none_of X G z_str
    h_len := PySem.W.mg_none_of X G z_len
    h_all := PySem.W.mg_none_of X G z_all
    h_sorted := PySem.W.mg_none_of X G z_sorted
    h_set := PySem.W.mg_none_of X G z_set
    h_dict := PySem.W.mg_none_of X G z_dict
    h_sum := PySem.W.mg_none_of X G z_sum
    h_enumerate := PySem.W.mg_none_of X G z_enumerate
    h_any := PySem.W.mg_none_of X G z_any
    h_range := PySem.W.mg_none_of X G z_range
    d_is_integer := ⟨f_is_integer, _, fun_mk (st := S_is_integer) l_is_integer c_is_integer k_is_integer, PySem.W.mg_of X G a_is_integer, (fun_mk (st := S_is_integer) l_is_integer c_is_integer k_is_integer).binds (ps := ["thing"]) fun _ _ _ _ _ _ us hl => match us, hl with | [_], _ => rfl⟩
    d_is_sequence := ⟨f_is_sequence, _, fun_mk (st := S_is_sequence) l_is_sequence c_is_sequence k_is_sequence, PySem.W.mg_of X G a_is_sequence, (fun_mk (st := S_is_sequence) l_is_sequence c_is_sequence k_is_sequence).binds (ps := ["thing"]) fun _ _ _ _ _ _ us hl => match us, hl with | [_], _ => rfl⟩
    d_is_worded := ⟨f_is_worded, _, fun_mk (st := S_is_worded) l_is_worded c_is_worded k_is_worded, PySem.W.mg_of X G a_is_worded, (fun_mk (st := S_is_worded) l_is_worded c_is_worded k_is_worded).binds (ps := ["thing"]) fun _ _ _ _ _ _ us hl => match us, hl with | [_], _ => rfl⟩
    d_is_text := ⟨f_is_text, _, fun_mk (st := S_is_text) l_is_text c_is_text k_is_text, PySem.W.mg_of X G a_is_text, (fun_mk (st := S_is_text) l_is_text c_is_text k_is_text).binds (ps := ["thing"]) fun _ _ _ _ _ _ us hl => match us, hl with | [_], _ => rfl⟩
    d_is_name := ⟨f_is_name, _, fun_mk (st := S_is_name) l_is_name c_is_name k_is_name, PySem.W.mg_of X G a_is_name, (fun_mk (st := S_is_name) l_is_name c_is_name k_is_name).binds (ps := ["thing"]) fun _ _ _ _ _ _ us hl => match us, hl with | [_], _ => rfl⟩
    d_kind_of := ⟨f_kind_of, _, fun_mk (st := S_kind_of) l_kind_of c_kind_of k_kind_of, PySem.W.mg_of X G a_kind_of, (fun_mk (st := S_kind_of) l_kind_of c_kind_of k_kind_of).binds (ps := ["value"]) fun _ _ _ _ _ _ us hl => match us, hl with | [_], _ => rfl⟩
    d_is_value := ⟨f_is_value, _, fun_mk (st := S_is_value) l_is_value c_is_value k_is_value, PySem.W.mg_of X G a_is_value, (fun_mk (st := S_is_value) l_is_value c_is_value k_is_value).binds (ps := ["kind", "thing"]) fun _ _ _ _ _ _ us hl => match us, hl with | [_, _], _ => rfl⟩
    d_Test_init := by rw [hc_Test]; exact ⟨f_Test_init, _, fun_mk (st := S_Test_init) l_Test_init c_Test_init k_Test_init, ⟨mk_Test, a_Test_init, i_Test_init, kc_Test⟩, (fun_mk (st := S_Test_init) l_Test_init c_Test_init k_Test_init).binds (ps := ["self", "word", "inner", "fields", "terms"]) fun _ _ _ _ _ _ us hl => match us, hl with | [_, _, _, _, _], _ => rfl⟩
    d_Test_atoms := by rw [hc_Test]; exact ⟨f_Test_atoms, _, fun_mk (st := S_Test_atoms) l_Test_atoms c_Test_atoms k_Test_atoms, ⟨a_Test_atoms, i_Test_atoms, k_Test_atoms⟩, (fun_mk (st := S_Test_atoms) l_Test_atoms c_Test_atoms k_Test_atoms).binds (ps := ["self"]) fun _ _ _ _ _ _ us hl => match us, hl with | [_], _ => rfl⟩
    d_Test_names := by rw [hc_Test]; exact ⟨f_Test_names, _, fun_mk (st := S_Test_names) l_Test_names c_Test_names k_Test_names, ⟨a_Test_names, i_Test_names, k_Test_names⟩, (fun_mk (st := S_Test_names) l_Test_names c_Test_names k_Test_names).binds (ps := ["self"]) fun _ _ _ _ _ _ us hl => match us, hl with | [_], _ => rfl⟩
    d_Test_levels := by rw [hc_Test]; exact ⟨f_Test_levels, _, fun_mk (st := S_Test_levels) l_Test_levels c_Test_levels k_Test_levels, ⟨a_Test_levels, i_Test_levels, k_Test_levels⟩, (fun_mk (st := S_Test_levels) l_Test_levels c_Test_levels k_Test_levels).binds (ps := ["self"]) fun _ _ _ _ _ _ us hl => match us, hl with | [_], _ => rfl⟩
    d_Test_renamed := by rw [hc_Test]; exact ⟨f_Test_renamed, _, fun_mk (st := S_Test_renamed) l_Test_renamed c_Test_renamed k_Test_renamed, ⟨a_Test_renamed, i_Test_renamed, k_Test_renamed⟩, (fun_mk (st := S_Test_renamed) l_Test_renamed c_Test_renamed k_Test_renamed).binds (ps := ["self", "mapping"]) fun _ _ _ _ _ _ us hl => match us, hl with | [_, _], _ => rfl⟩
    d_Test_or := by rw [hc_Test]; exact ⟨f_Test_or, _, fun_mk (st := S_Test_or) l_Test_or c_Test_or k_Test_or, ⟨a_Test_or, i_Test_or, k_Test_or⟩, (fun_mk (st := S_Test_or) l_Test_or c_Test_or k_Test_or).binds (ps := ["self", "other"]) fun _ _ _ _ _ _ us hl => match us, hl with | [_, _], _ => rfl⟩
    d_Test_invert := by rw [hc_Test]; exact ⟨f_Test_invert, _, fun_mk (st := S_Test_invert) l_Test_invert c_Test_invert k_Test_invert, ⟨a_Test_invert, i_Test_invert, k_Test_invert⟩, (fun_mk (st := S_Test_invert) l_Test_invert c_Test_invert k_Test_invert).binds (ps := ["self"]) fun _ _ _ _ _ _ us hl => match us, hl with | [_], _ => rfl⟩
    d_Test_eq := by rw [hc_Test]; exact ⟨f_Test_eq, _, fun_mk (st := S_Test_eq) l_Test_eq c_Test_eq k_Test_eq, ⟨a_Test_eq, i_Test_eq, k_Test_eq⟩, (fun_mk (st := S_Test_eq) l_Test_eq c_Test_eq k_Test_eq).binds (ps := ["self", "other"]) fun _ _ _ _ _ _ us hl => match us, hl with | [_, _], _ => rfl⟩
    d_size_of := ⟨f_size_of, _, fun_mk (st := S_size_of) l_size_of c_size_of k_size_of, PySem.W.mg_of X G a_size_of, (fun_mk (st := S_size_of) l_size_of c_size_of k_size_of).binds (ps := ["inner"]) fun _ _ _ _ _ _ us hl => match us, hl with | [_], _ => rfl⟩
    d_depth_of := ⟨f_depth_of, _, fun_mk (st := S_depth_of) l_depth_of c_depth_of k_depth_of, PySem.W.mg_of X G a_depth_of, (fun_mk (st := S_depth_of) l_depth_of c_depth_of k_depth_of).binds (ps := ["inner"]) fun _ _ _ _ _ _ us hl => match us, hl with | [_], _ => rfl⟩
    d_combined := ⟨f_combined, _, fun_mk (st := S_combined) l_combined c_combined k_combined, PySem.W.mg_of X G a_combined, (fun_mk (st := S_combined) l_combined c_combined k_combined).binds (ps := ["word", "inner"]) fun _ _ _ _ _ _ us hl => match us, hl with | [_, _], _ => rfl⟩
    d_need_column := ⟨f_need_column, _, fun_mk (st := S_need_column) l_need_column c_need_column k_need_column, PySem.W.mg_of X G a_need_column, (fun_mk (st := S_need_column) l_need_column c_need_column k_need_column).binds (ps := ["thing"]) fun _ _ _ _ _ _ us hl => match us, hl with | [_], _ => rfl⟩
    d_empty := ⟨f_empty, _, fun_mk (st := S_empty) l_empty c_empty k_empty, PySem.W.mg_of X G a_empty, (fun_mk (st := S_empty) l_empty c_empty k_empty).binds (ps := ["column"]) fun _ _ _ _ _ _ us hl => match us, hl with | [_], _ => rfl⟩
    d_always := ⟨f_always, _, fun_mk (st := S_always) l_always c_always k_always, PySem.W.mg_of X G a_always, (fun_mk (st := S_always) l_always c_always k_always).binds (ps := []) fun _ _ _ _ _ _ us hl => match us, hl with | [], _ => rfl⟩
    d_renamed_by := ⟨f_renamed_by, _, fun_mk (st := S_renamed_by) l_renamed_by c_renamed_by k_renamed_by, PySem.W.mg_of X G a_renamed_by, (fun_mk (st := S_renamed_by) l_renamed_by c_renamed_by k_renamed_by).binds (ps := ["test", "mapping"]) fun _ _ _ _ _ _ us hl => match us, hl with | [_, _], _ => rfl⟩
    d_Shape_init := by rw [hc_Shape]; exact ⟨f_Shape_init, _, ⟨⟨fun_mk (st := S_Shape_init) l_Shape_init c_Shape_init k_Shape_init, ⟨mk_Shape, a_Shape_init, i_Shape_init, kc_Shape⟩, kw_bd2 rfl kn1_Shape_init kn2_Shape_init kl1_Shape_init gc_1_Shape_init gd_1_Shape_init kz1_Shape_init kl2_Shape_init gc_2_Shape_init gd_2_Shape_init kz2_Shape_init (fun us hl u v => match us, hl with | [_, _], _ => ⟨_, _, _, _, _, _, rfl, rfl, ⟨_, _, _, _, _, _, rfl, rfl, rfl⟩⟩)⟩, kw_kb2 (fun us hl u v => match us, hl with | [_, _], _ => rfl)⟩, kw_k1 kn2_Shape_init kl2_Shape_init gc_2_Shape_init gd_2_Shape_init kz2_Shape_init (fun us hl u v => match us, hl with | [_, _], _ => ⟨_, _, _, _, _, _, rfl, rfl, rfl⟩)⟩
    d_Shape_columns := by rw [hc_Shape]; exact ⟨f_Shape_columns, _, fun_mk (st := S_Shape_columns) l_Shape_columns c_Shape_columns k_Shape_columns, ⟨a_Shape_columns, i_Shape_columns, k_Shape_columns⟩, (fun_mk (st := S_Shape_columns) l_Shape_columns c_Shape_columns k_Shape_columns).binds (ps := ["self"]) fun _ _ _ _ _ _ us hl => match us, hl with | [_], _ => rfl⟩
    d_Shape_names := by rw [hc_Shape]; exact ⟨f_Shape_names, _, fun_mk (st := S_Shape_names) l_Shape_names c_Shape_names k_Shape_names, ⟨a_Shape_names, i_Shape_names, k_Shape_names⟩, (fun_mk (st := S_Shape_names) l_Shape_names c_Shape_names k_Shape_names).binds (ps := ["self"]) fun _ _ _ _ _ _ us hl => match us, hl with | [_], _ => rfl⟩
    d_Shape_checks := by rw [hc_Shape]; exact ⟨f_Shape_checks, _, fun_mk (st := S_Shape_checks) l_Shape_checks c_Shape_checks k_Shape_checks, ⟨a_Shape_checks, i_Shape_checks, k_Shape_checks⟩, (fun_mk (st := S_Shape_checks) l_Shape_checks c_Shape_checks k_Shape_checks).binds (ps := ["self"]) fun _ _ _ _ _ _ us hl => match us, hl with | [_], _ => rfl⟩
    d_Shape_unique_keys := by rw [hc_Shape]; exact ⟨f_Shape_unique_keys, _, fun_mk (st := S_Shape_unique_keys) l_Shape_unique_keys c_Shape_unique_keys k_Shape_unique_keys, ⟨a_Shape_unique_keys, i_Shape_unique_keys, k_Shape_unique_keys⟩, (fun_mk (st := S_Shape_unique_keys) l_Shape_unique_keys c_Shape_unique_keys k_Shape_unique_keys).binds (ps := ["self"]) fun _ _ _ _ _ _ us hl => match us, hl with | [_], _ => rfl⟩
    d_Shape_filled := by rw [hc_Shape]; exact ⟨f_Shape_filled, _, fun_mk (st := S_Shape_filled) l_Shape_filled c_Shape_filled k_Shape_filled, ⟨a_Shape_filled, i_Shape_filled, k_Shape_filled⟩, (fun_mk (st := S_Shape_filled) l_Shape_filled c_Shape_filled k_Shape_filled).binds (ps := ["self", "name"]) fun _ _ _ _ _ _ us hl => match us, hl with | [_, _], _ => rfl⟩
    d_Shape_eq := by rw [hc_Shape]; exact ⟨f_Shape_eq, _, fun_mk (st := S_Shape_eq) l_Shape_eq c_Shape_eq k_Shape_eq, ⟨a_Shape_eq, i_Shape_eq, k_Shape_eq⟩, (fun_mk (st := S_Shape_eq) l_Shape_eq c_Shape_eq k_Shape_eq).binds (ps := ["self", "other"]) fun _ _ _ _ _ _ us hl => match us, hl with | [_, _], _ => rfl⟩
    d_is_short := ⟨f_is_short, _, fun_mk (st := S_is_short) l_is_short c_is_short k_is_short, PySem.W.mg_of X G a_is_short, (fun_mk (st := S_is_short) l_is_short c_is_short k_is_short).binds (ps := ["thing", "least", "most"]) fun _ _ _ _ _ _ us hl => match us, hl with | [_, _, _], _ => rfl⟩
    d_is_column := ⟨f_is_column, _, fun_mk (st := S_is_column) l_is_column c_is_column k_is_column, PySem.W.mg_of X G a_is_column, (fun_mk (st := S_is_column) l_is_column c_is_column k_is_column).binds (ps := ["thing"]) fun _ _ _ _ _ _ us hl => match us, hl with | [_], _ => rfl⟩
    d_need_columns := ⟨f_need_columns, _, fun_mk (st := S_need_columns) l_need_columns c_need_columns k_need_columns, PySem.W.mg_of X G a_need_columns, (fun_mk (st := S_need_columns) l_need_columns c_need_columns k_need_columns).binds (ps := ["columns"]) fun _ _ _ _ _ _ us hl => match us, hl with | [_], _ => rfl⟩
    d_need_checks := ⟨f_need_checks, _, fun_mk (st := S_need_checks) l_need_checks c_need_checks k_need_checks, PySem.W.mg_of X G a_need_checks, (fun_mk (st := S_need_checks) l_need_checks c_need_checks k_need_checks).binds (ps := ["spots", "checks"]) fun _ _ _ _ _ _ us hl => match us, hl with | [_, _], _ => rfl⟩
    d_need_keys := ⟨f_need_keys, _, fun_mk (st := S_need_keys) l_need_keys c_need_keys k_need_keys, PySem.W.mg_of X G a_need_keys, (fun_mk (st := S_need_keys) l_need_keys c_need_keys k_need_keys).binds (ps := ["spots", "keys"]) fun _ _ _ _ _ _ us hl => match us, hl with | [_, _], _ => rfl⟩
    d_are_names := ⟨f_are_names, _, fun_mk (st := S_are_names) l_are_names c_are_names k_are_names, PySem.W.mg_of X G a_are_names, (fun_mk (st := S_are_names) l_are_names c_are_names k_are_names).binds (ps := ["thing", "least", "most"]) fun _ _ _ _ _ _ us hl => match us, hl with | [_, _, _], _ => rfl⟩
    d_is_key := ⟨f_is_key, _, fun_mk (st := S_is_key) l_is_key c_is_key k_is_key, PySem.W.mg_of X G a_is_key, (fun_mk (st := S_is_key) l_is_key c_is_key k_is_key).binds (ps := ["spots", "thing"]) fun _ _ _ _ _ _ us hl => match us, hl with | [_, _], _ => rfl⟩
    d_is_fitting := ⟨f_is_fitting, _, fun_mk (st := S_is_fitting) l_is_fitting c_is_fitting k_is_fitting, PySem.W.mg_of X G a_is_fitting, (fun_mk (st := S_is_fitting) l_is_fitting c_is_fitting k_is_fitting).binds (ps := ["spots", "thing"]) fun _ _ _ _ _ _ us hl => match us, hl with | [_, _], _ => rfl⟩
    d_atom_fits := ⟨f_atom_fits, _, fun_mk (st := S_atom_fits) l_atom_fits c_atom_fits k_atom_fits, PySem.W.mg_of X G a_atom_fits, (fun_mk (st := S_atom_fits) l_atom_fits c_atom_fits k_atom_fits).binds (ps := ["spots", "atom"]) fun _ _ _ _ _ _ us hl => match us, hl with | [_, _], _ => rfl⟩
    d_column_of := ⟨f_column_of, _, fun_mk (st := S_column_of) l_column_of c_column_of k_column_of, PySem.W.mg_of X G a_column_of, (fun_mk (st := S_column_of) l_column_of c_column_of k_column_of).binds (ps := ["shape", "name"]) fun _ _ _ _ _ _ us hl => match us, hl with | [_, _], _ => rfl⟩
    d_is_large := ⟨f_is_large, _, fun_mk (st := S_is_large) l_is_large c_is_large k_is_large, PySem.W.mg_of X G a_is_large, (fun_mk (st := S_is_large) l_is_large c_is_large k_is_large).binds (ps := ["test"]) fun _ _ _ _ _ _ us hl => match us, hl with | [_], _ => rfl⟩
    d_is_small := ⟨f_is_small, _, fun_mk (st := S_is_small) l_is_small c_is_small k_is_small, PySem.W.mg_of X G a_is_small, (fun_mk (st := S_is_small) l_is_small c_is_small k_is_small).binds (ps := ["shape"]) fun _ _ _ _ _ _ us hl => match us, hl with | [_], _ => rfl⟩
    d_need_small := ⟨f_need_small, _, fun_mk (st := S_need_small) l_need_small c_need_small k_need_small, PySem.W.mg_of X G a_need_small, (fun_mk (st := S_need_small) l_need_small c_need_small k_need_small).binds (ps := ["shape"]) fun _ _ _ _ _ _ us hl => match us, hl with | [_], _ => rfl⟩
    d_numbered := ⟨f_numbered, _, fun_mk (st := S_numbered) l_numbered c_numbered k_numbered, PySem.W.mg_of X G a_numbered, (fun_mk (st := S_numbered) l_numbered c_numbered k_numbered).binds (ps := ["name", "i"]) fun _ _ _ _ _ _ us hl => match us, hl with | [_, _], _ => rfl⟩
    d_copies := ⟨f_copies, _, fun_mk (st := S_copies) l_copies c_copies k_copies, PySem.W.mg_of X G a_copies, (fun_mk (st := S_copies) l_copies c_copies k_copies).binds (ps := ["shape", "n"]) fun _ _ _ _ _ _ us hl => match us, hl with | [_, _], _ => rfl⟩
    d_copy_test := ⟨f_copy_test, _, fun_mk (st := S_copy_test) l_copy_test c_copy_test k_copy_test, PySem.W.mg_of X G a_copy_test, (fun_mk (st := S_copy_test) l_copy_test c_copy_test k_copy_test).binds (ps := ["test", "i"]) fun _ _ _ _ _ _ us hl => match us, hl with | [_, _], _ => rfl⟩
    d_own_rules := ⟨f_own_rules, _, fun_mk (st := S_own_rules) l_own_rules c_own_rules k_own_rules, PySem.W.mg_of X G a_own_rules, (fun_mk (st := S_own_rules) l_own_rules c_own_rules k_own_rules).binds (ps := ["shape"]) fun _ _ _ _ _ _ us hl => match us, hl with | [_], _ => rfl⟩
    d_is_own_rule := ⟨f_is_own_rule, _, fun_mk (st := S_is_own_rule) l_is_own_rule c_is_own_rule k_is_own_rule, PySem.W.mg_of X G a_is_own_rule, (fun_mk (st := S_is_own_rule) l_is_own_rule c_is_own_rule k_is_own_rule).binds (ps := ["shape", "thing"]) fun _ _ _ _ _ _ us hl => match us, hl with | [_, _], _ => rfl⟩
    d_bare := ⟨f_bare, _, fun_mk (st := S_bare) l_bare c_bare k_bare, PySem.W.mg_of X G a_bare, (fun_mk (st := S_bare) l_bare c_bare k_bare).binds (ps := ["shape", "kept"]) fun _ _ _ _ _ _ us hl => match us, hl with | [_, _], _ => rfl⟩
    d_Desk_init := by rw [hc_Desk]; exact ⟨f_Desk_init, _, fun_mk (st := S_Desk_init) l_Desk_init c_Desk_init k_Desk_init, ⟨mk_Desk, a_Desk_init, i_Desk_init, kc_Desk⟩, (fun_mk (st := S_Desk_init) l_Desk_init c_Desk_init k_Desk_init).binds (ps := ["self", "shape"]) fun _ _ _ _ _ _ us hl => match us, hl with | [_, _], _ => rfl⟩
    d_Desk_shape := by rw [hc_Desk]; exact ⟨f_Desk_shape, _, fun_mk (st := S_Desk_shape) l_Desk_shape c_Desk_shape k_Desk_shape, ⟨a_Desk_shape, i_Desk_shape, k_Desk_shape⟩, (fun_mk (st := S_Desk_shape) l_Desk_shape c_Desk_shape k_Desk_shape).binds (ps := ["self"]) fun _ _ _ _ _ _ us hl => match us, hl with | [_], _ => rfl⟩
    d__law_pool := ⟨f__law_pool, _, fun_mk (st := S__law_pool) l__law_pool c__law_pool k__law_pool, PySem.W.mg_of X G a__law_pool, (fun_mk (st := S__law_pool) l__law_pool c__law_pool k__law_pool).binds (ps := ["_law_script", "_law_place"]) fun _ _ _ _ _ _ us hl => match us, hl with | [_, _], _ => rfl⟩
    d__law_draw := ⟨f__law_draw, _, fun_mk (st := S__law_draw) l__law_draw c__law_draw k__law_draw, PySem.W.mg_of X G a__law_draw, (fun_mk (st := S__law_draw) l__law_draw c__law_draw k__law_draw).binds (ps := ["_law_pool_here", "_law_many"]) fun _ _ _ _ _ _ us hl => match us, hl with | [_, _], _ => rfl⟩
    d__law_is := ⟨f__law_is, _, fun_mk (st := S__law_is) l__law_is c__law_is k__law_is, PySem.W.mg_of X G a__law_is, (fun_mk (st := S__law_is) l__law_is c__law_is k__law_is).binds (ps := ["_law_thing", "_law_due"]) fun _ _ _ _ _ _ us hl => match us, hl with | [_, _], _ => rfl⟩
    d__law_long_name := ⟨f__law_long_name, _, fun_mk (st := S__law_long_name) l__law_long_name c__law_long_name k__law_long_name, PySem.W.mg_of X G a__law_long_name, (fun_mk (st := S__law_long_name) l__law_long_name c__law_long_name k__law_long_name).binds (ps := ["_law_pool_here", "_law_taken", "_law_many"]) fun _ _ _ _ _ _ us hl => match us, hl with | [_, _, _], _ => rfl⟩
    d__law_grown := ⟨f__law_grown, _, fun_mk (st := S__law_grown) l__law_grown c__law_grown k__law_grown, PySem.W.mg_of X G a__law_grown, (fun_mk (st := S__law_grown) l__law_grown c__law_grown k__law_grown).binds (ps := ["_law_test", "_law_by_atoms", "_law_many"]) fun _ _ _ _ _ _ us hl => match us, hl with | [_, _, _], _ => rfl⟩
    d__law_refused := ⟨f__law_refused, _, fun_mk (st := S__law_refused) l__law_refused c__law_refused k__law_refused, PySem.W.mg_of X G a__law_refused, (fun_mk (st := S__law_refused) l__law_refused c__law_refused k__law_refused).binds (ps := ["_law_which", "_law_shape"]) fun _ _ _ _ _ _ us hl => match us, hl with | [_, _], _ => rfl⟩
    x_BadShape := by rw [show cadr mg "BadShape" = c_BadShape from cadr_of (PySem.W.mg_of X G a_eBadShape)]; exact ⟨feBadShape, { gC := PySem.W.mg_of X G a_eBadShape, cls := ⟨_, _, _, _, _, _, _, _, _, _, _, _, _, _, _, x_eBadShape, o_eBadShape⟩, sa := sa_eBadShape, ga := ga_eBadShape, gg := gg_eBadShape, noF := nb_eBadShape, noG := nc_eBadShape, ini := i_eBadShape, tyI := t_eBadShape, kC := k_eBadShape, exC := eC_eBadShape, tyC := tC_eBadShape, hdC := hC_eBadShape, te := exmSelf eC_eBadShape te_eBadShape tC_eBadShape tf_eBadShape, fn := ⟨_, _, _, _, _, _, _, _, _, _, _, _, _, _, _, _, _, _, _, _, l_eBadShape, cc_eBadShape, s1_eBadShape, s2_eBadShape, s3_eBadShape, s4_eBadShape⟩ }⟩
    x_BadRow := by rw [show cadr mg "BadRow" = c_BadRow from cadr_of (PySem.W.mg_of X G a_eBadRow)]; exact ⟨feBadRow, { gC := PySem.W.mg_of X G a_eBadRow, cls := ⟨_, _, _, _, _, _, _, _, _, _, _, _, _, _, _, x_eBadRow, o_eBadRow⟩, sa := sa_eBadRow, ga := ga_eBadRow, gg := gg_eBadRow, noF := nb_eBadRow, ini := i_eBadRow, tyI := t_eBadRow, kC := k_eBadRow, exC := eC_eBadRow, tyC := tC_eBadRow, hdC := hC_eBadRow, te := exmSelf eC_eBadRow te_eBadRow tC_eBadRow tf_eBadRow, fn := ⟨_, _, _, _, _, _, _, _, _, _, _, _, _, _, _, l_eBadRow, cc_eBadRow, s1_eBadRow, s2_eBadRow, s3_eBadRow, s4_eBadRow⟩ }⟩
    x_BadTest := by rw [show cadr mg "BadTest" = c_BadTest from cadr_of (PySem.W.mg_of X G a_eBadTest)]; exact ⟨feBadTest, { gC := PySem.W.mg_of X G a_eBadTest, cls := ⟨_, _, _, _, _, _, _, _, _, _, _, _, _, _, _, x_eBadTest, o_eBadTest⟩, sa := sa_eBadTest, ga := ga_eBadTest, gg := gg_eBadTest, noF := nb_eBadTest, ini := i_eBadTest, tyI := t_eBadTest, kC := k_eBadTest, exC := eC_eBadTest, tyC := tC_eBadTest, hdC := hC_eBadTest, te := exmSelf eC_eBadTest te_eBadTest tC_eBadTest tf_eBadTest, fn := ⟨_, _, _, _, _, _, _, _, _, _, _, _, _, _, _, l_eBadTest, cc_eBadTest, s1_eBadTest, s2_eBadTest, s3_eBadTest, s4_eBadTest⟩ }⟩
    x_BadClaim := by rw [show cadr mg "BadClaim" = c_BadClaim from cadr_of (PySem.W.mg_of X G a_eBadClaim)]; exact ⟨feBadClaim, { gC := PySem.W.mg_of X G a_eBadClaim, cls := ⟨_, _, _, _, _, _, _, _, _, _, _, _, _, _, _, x_eBadClaim, o_eBadClaim⟩, sa := sa_eBadClaim, ga := ga_eBadClaim, gg := gg_eBadClaim, noF := nb_eBadClaim, ini := i_eBadClaim, tyI := t_eBadClaim, kC := k_eBadClaim, exC := eC_eBadClaim, tyC := tC_eBadClaim, hdC := hC_eBadClaim, te := exmSelf eC_eBadClaim te_eBadClaim tC_eBadClaim tf_eBadClaim, fn := ⟨_, _, _, _, _, _, _, _, _, _, _, _, _, _, _, l_eBadClaim, cc_eBadClaim, s1_eBadClaim, s2_eBadClaim, s3_eBadClaim, s4_eBadClaim⟩ }⟩
    e_Test := by rw [hc_Test]; exact PySem.W.mg_of X G a_Test
    sf_Test := by rw [hc_Test]; exact sf_Test
    nq_Test := by rw [hc_Test]; exact nq_Test
    nr_Test_and := by rw [hc_Test]; exact nr_Test_and
    nr_Test_or := by rw [hc_Test]; exact nr_Test_or
    is_Test := by rw [hc_Test]; exact ⟨ia_Test, in_Test, it_Test, im_Test, kitSelf, fun T h => kitNo io_Test iy_Test (by unfold kinds7 at h; simp only [List.mem_cons, List.not_mem_nil, or_false] at h; rcases h with rfl | rfl | rfl | rfl | rfl | rfl | rfl <;> assumption)⟩
    cl_Test := by rw [hc_Test]; exact ⟨pg_Test, hd_Test, po_Test, sa_Test⟩
    n_Test_word := by rw [hc_Test]; exact n_Test_word
    n_Test_inner := by rw [hc_Test]; exact n_Test_inner
    n_Test_fields := by rw [hc_Test]; exact n_Test_fields
    n_Test_terms := by rw [hc_Test]; exact n_Test_terms
    n_Test_size := by rw [hc_Test]; exact n_Test_size
    n_Test_depth := by rw [hc_Test]; exact n_Test_depth
    e_Shape := by rw [hc_Shape]; exact PySem.W.mg_of X G a_Shape
    sf_Shape := by rw [hc_Shape]; exact sf_Shape
    nq_Shape := by rw [hc_Shape]; exact nq_Shape
    nr_Shape_and := by rw [hc_Shape]; exact nr_Shape_and
    nr_Shape_or := by rw [hc_Shape]; exact nr_Shape_or
    is_Shape := by rw [hc_Shape]; exact ⟨ia_Shape, in_Shape, it_Shape, im_Shape, kitSelf, fun T h => kitNo io_Shape iy_Shape (by unfold kinds7 at h; simp only [List.mem_cons, List.not_mem_nil, or_false] at h; rcases h with rfl | rfl | rfl | rfl | rfl | rfl | rfl <;> assumption)⟩
    cl_Shape := by rw [hc_Shape]; exact ⟨pg_Shape, hd_Shape, po_Shape, sa_Shape⟩
    n_Shape_layout := by rw [hc_Shape]; exact n_Shape_layout
    n_Shape_spots := by rw [hc_Shape]; exact n_Shape_spots
    n_Shape_check_tests := by rw [hc_Shape]; exact n_Shape_check_tests
    n_Shape_key_rules := by rw [hc_Shape]; exact n_Shape_key_rules
    e_Desk := by rw [hc_Desk]; exact PySem.W.mg_of X G a_Desk
    sf_Desk := by rw [hc_Desk]; exact sf_Desk
    nr_Desk_and := by rw [hc_Desk]; exact nr_Desk_and
    nr_Desk_or := by rw [hc_Desk]; exact nr_Desk_or
    is_Desk := by rw [hc_Desk]; exact ⟨ia_Desk, in_Desk, it_Desk, im_Desk, kitSelf, fun T h => kitNo io_Desk iy_Desk (by unfold kinds7 at h; simp only [List.mem_cons, List.not_mem_nil, or_false] at h; rcases h with rfl | rfl | rfl | rfl | rfl | rfl | rfl <;> assumption)⟩
    cl_Desk := by rw [hc_Desk]; exact ⟨pg_Desk, hd_Desk, po_Desk, sa_Desk⟩
    n_Desk_now := by rw [hc_Desk]; exact n_Desk_now
    n_Desk_past := by rw [hc_Desk]; exact n_Desk_past
    n_Desk_future := by rw [hc_Desk]; exact n_Desk_future
    n_Desk_claims := by rw [hc_Desk]; exact n_Desk_claims
    k_SIGNS := ⟨t_SIGNS, PySem.W.mg_of X G g_SIGNS⟩
    k_LONGEST_NAME := ⟨t_LONGEST_NAME, PySem.W.mg_of X G g_LONGEST_NAME⟩
    k_LETTERS := ⟨t_LETTERS, PySem.W.mg_of X G g_LETTERS⟩
    k_WORDS := ⟨ca_WORDS, PySem.W.mg_of X G g_WORDS, fun _ => Or.inr ⟨co_WORDS, ci_WORDS, cn_WORDS, gl_WORDS, gc_WORDS, gd_WORDS, gs_WORDS, gv_WORDS⟩⟩
    k_NAME_SIGNS := ⟨t_NAME_SIGNS, PySem.W.mg_of X G g_NAME_SIGNS⟩
    k_MOST_ATOMS := ⟨t_MOST_ATOMS, PySem.W.mg_of X G g_MOST_ATOMS⟩
    k_MOST_LEVELS := ⟨t_MOST_LEVELS, PySem.W.mg_of X G g_MOST_LEVELS⟩
    k_KINDS := ⟨ca_KINDS, PySem.W.mg_of X G g_KINDS, fun _ => Or.inr ⟨co_KINDS, ci_KINDS, cn_KINDS, gl_KINDS, gc_KINDS, gd_KINDS, gs_KINDS, gv_KINDS⟩⟩
    k_MOST_COLUMNS := ⟨t_MOST_COLUMNS, PySem.W.mg_of X G g_MOST_COLUMNS⟩
    k_MOST_RULES := ⟨t_MOST_RULES, PySem.W.mg_of X G g_MOST_RULES⟩
    k_MOST_KEY_NAMES := ⟨t_MOST_KEY_NAMES, PySem.W.mg_of X G g_MOST_KEY_NAMES⟩
    k_MOST_SMALL_ATOMS := ⟨t_MOST_SMALL_ATOMS, PySem.W.mg_of X G g_MOST_SMALL_ATOMS⟩
    k_MOST_SMALL_LEVELS := ⟨t_MOST_SMALL_LEVELS, PySem.W.mg_of X G g_MOST_SMALL_LEVELS⟩
    k_MOST_SMALL_COLUMNS := ⟨t_MOST_SMALL_COLUMNS, PySem.W.mg_of X G g_MOST_SMALL_COLUMNS⟩
    k_MOST_SMALL_RULES := ⟨t_MOST_SMALL_RULES, PySem.W.mg_of X G g_MOST_SMALL_RULES⟩
    k_LONGEST_SMALL_NAME := ⟨t_LONGEST_SMALL_NAME, PySem.W.mg_of X G g_LONGEST_SMALL_NAME⟩ }
  exact ⟨PySem.W.fnOf "law" "law" (defArgs S_law) (defBody S_law) (defScope S_law) .none kV_law dc_law pm_law an_law cd_law ct_law, fun s v => .of_eq rfl, fun base _ _ => ok_law T (fun_mk (st := S_law) l_law c_law k_law)⟩
theorem walk {l : PySem.W.OpenLaw} {q : Program} {loose : List Str} {XP : (Str → Option Value) → Heap → Prop} {YP : World → Heap → Prop} {d : DefRec} {K : Params → PySem.W.Frag} (hn : l.most = some 63) (hdf : d.params.defaults = [])
    (hY : ∀ (w : World) (h : Heap), YP w h → (K w.params).In h)
    (F : ∀ (w : World) (mg : Str → Option Value) (fa : Addr) (h : Heap), (K w.params).In h → h.Ns mainGlobals mg → mg d.name = some (.ref fa) →
      ∃ fd : FuncData, (∀ (s : Shared) (u : Value), BindsTo s fd ⟨[u], []⟩ [("_law_script", u)]) ∧ ∀ base : Heap, (K w.params).In base → base.Ns mainGlobals mg → FnOk l.prog w (K w.params) mg base CX0 60 fa fd ["_law_script"] (spLaw (K w.params))) :
    PySem.W.WalkO q loose XP YP l.row.toRowW d [] (fun f vs => PySem.call f vs) :=
  L2.walk_of (n := 63) (k := 60) (x := "_law_script") (CX := fun _ => CX0) (sp := fun w => spLaw (K w.params)) hn (by decide) hdf ⟨rfl, by decide, by decide⟩ hY F (fun _ _ a ns hl _ hS => ⟨a, ns, rfl, hS, hl, fun _ => rfl⟩) fun _ _ _ _ _ z => z
end L
open PySem PySem.W PyProof.Rows
set_option maxRecDepth 100000 in
set_option maxHeartbeats 0 in
theorem PySem.Challenge.cw_tworows_k87_small_shapes_and_tests_holds : PySem.Challenge.rw_tworows_k87_small_shapes_and_tests.Holds := by
  w_on; o_law; k_head; (case hw => w_witness2)
  k_fill
  refine L.walk (l := PySem.Challenge.rw_tworows_k87_small_shapes_and_tests) rfl rfl (fun w h Y => PySem.W.kIn_of Y) ?F
  case F =>
    intro w mg fa h KX G hmg
    refine' L.all_mk KX G hmg ?a_Test ?pg_Test ?hd_Test ?po_Test ?sa_Test ?mk_Test ?kc_Test ?sf_Test ?nq_Test ?nn_Test ?nz_Test ?nr_Test_and ?nr_Test_or ?ia_Test ?in_Test ?it_Test ?im_Test ?io_Test ?iy_Test ?iz_Test_NoneType ?iz_Test_bool ?iz_Test_int ?iz_Test_str ?iz_Test_list ?iz_Test_tuple ?iz_Test_dict ?n_Test_word ?n_Test_inner ?n_Test_fields ?n_Test_terms ?n_Test_size ?n_Test_depth ?a_Shape ?pg_Shape ?hd_Shape ?po_Shape ?sa_Shape ?mk_Shape ?kc_Shape ?sf_Shape ?nq_Shape ?nn_Shape ?nz_Shape ?nr_Shape_and ?nr_Shape_or ?ia_Shape ?in_Shape ?it_Shape ?im_Shape ?io_Shape ?iy_Shape ?iz_Shape_NoneType ?iz_Shape_bool ?iz_Shape_int ?iz_Shape_str ?iz_Shape_list ?iz_Shape_tuple ?iz_Shape_dict ?n_Shape_layout ?n_Shape_spots ?n_Shape_check_tests ?n_Shape_key_rules ?a_Desk ?pg_Desk ?hd_Desk ?po_Desk ?sa_Desk ?mk_Desk ?kc_Desk ?sf_Desk ?nr_Desk_and ?nr_Desk_or ?ia_Desk ?in_Desk ?it_Desk ?im_Desk ?io_Desk ?iy_Desk ?iz_Desk_NoneType ?iz_Desk_bool ?iz_Desk_int ?iz_Desk_str ?iz_Desk_list ?iz_Desk_tuple ?iz_Desk_dict ?n_Desk_now ?n_Desk_past ?n_Desk_future ?n_Desk_claims ?a_eBadShape ?x_eBadShape ?o_eBadShape ?sa_eBadShape ?ga_eBadShape ?gg_eBadShape ?nb_eBadShape ?i_eBadShape ?t_eBadShape ?nc_eBadShape ?l_eBadShape ?cc_eBadShape ?s1_eBadShape ?s2_eBadShape ?s3_eBadShape ?s4_eBadShape ?k_eBadShape ?eC_eBadShape ?tC_eBadShape ?hC_eBadShape ?te_eBadShape ?tf_eBadShape ?a_eBadRow ?x_eBadRow ?o_eBadRow ?sa_eBadRow ?ga_eBadRow ?gg_eBadRow ?nb_eBadRow ?i_eBadRow ?t_eBadRow ?l_eBadRow ?cc_eBadRow ?s1_eBadRow ?s2_eBadRow ?s3_eBadRow ?s4_eBadRow ?k_eBadRow ?eC_eBadRow ?tC_eBadRow ?hC_eBadRow ?te_eBadRow ?tf_eBadRow ?a_eBadTest ?x_eBadTest ?o_eBadTest ?sa_eBadTest ?ga_eBadTest ?gg_eBadTest ?nb_eBadTest ?i_eBadTest ?t_eBadTest ?l_eBadTest ?cc_eBadTest ?s1_eBadTest ?s2_eBadTest ?s3_eBadTest ?s4_eBadTest ?k_eBadTest ?eC_eBadTest ?tC_eBadTest ?hC_eBadTest ?te_eBadTest ?tf_eBadTest ?a_eBadClaim ?x_eBadClaim ?o_eBadClaim ?sa_eBadClaim ?ga_eBadClaim ?gg_eBadClaim ?nb_eBadClaim ?i_eBadClaim ?t_eBadClaim ?l_eBadClaim ?cc_eBadClaim ?s1_eBadClaim ?s2_eBadClaim ?s3_eBadClaim ?s4_eBadClaim ?k_eBadClaim ?eC_eBadClaim ?tC_eBadClaim ?hC_eBadClaim ?te_eBadClaim ?tf_eBadClaim ?a_is_integer ?l_is_integer ?c_is_integer ?k_is_integer ?a_is_sequence ?l_is_sequence ?c_is_sequence ?k_is_sequence ?a_is_worded ?l_is_worded ?c_is_worded ?k_is_worded ?a_is_text ?l_is_text ?c_is_text ?k_is_text ?a_is_name ?l_is_name ?c_is_name ?k_is_name ?a_kind_of ?l_kind_of ?c_kind_of ?k_kind_of ?a_is_value ?l_is_value ?c_is_value ?k_is_value ?a_Test_init ?i_Test_init ?l_Test_init ?c_Test_init ?k_Test_init ?a_Test_atoms ?i_Test_atoms ?l_Test_atoms ?c_Test_atoms ?k_Test_atoms ?a_Test_names ?i_Test_names ?l_Test_names ?c_Test_names ?k_Test_names ?a_Test_levels ?i_Test_levels ?l_Test_levels ?c_Test_levels ?k_Test_levels ?a_Test_renamed ?i_Test_renamed ?l_Test_renamed ?c_Test_renamed ?k_Test_renamed ?a_Test_or ?i_Test_or ?l_Test_or ?c_Test_or ?k_Test_or ?a_Test_invert ?i_Test_invert ?l_Test_invert ?c_Test_invert ?k_Test_invert ?a_Test_eq ?i_Test_eq ?l_Test_eq ?c_Test_eq ?k_Test_eq ?a_size_of ?l_size_of ?c_size_of ?k_size_of ?a_depth_of ?l_depth_of ?c_depth_of ?k_depth_of ?a_combined ?l_combined ?c_combined ?k_combined ?a_need_column ?l_need_column ?c_need_column ?k_need_column ?a_empty ?l_empty ?c_empty ?k_empty ?a_always ?l_always ?c_always ?k_always ?a_renamed_by ?l_renamed_by ?c_renamed_by ?k_renamed_by ?a_Shape_init ?i_Shape_init ?l_Shape_init ?c_Shape_init ?k_Shape_init ?kn1_Shape_init ?kl1_Shape_init ?gc_1_Shape_init ?gd_1_Shape_init ?kz1_Shape_init ?kn2_Shape_init ?kl2_Shape_init ?gc_2_Shape_init ?gd_2_Shape_init ?kz2_Shape_init ?a_Shape_columns ?i_Shape_columns ?l_Shape_columns ?c_Shape_columns ?k_Shape_columns ?a_Shape_names ?i_Shape_names ?l_Shape_names ?c_Shape_names ?k_Shape_names ?a_Shape_checks ?i_Shape_checks ?l_Shape_checks ?c_Shape_checks ?k_Shape_checks ?a_Shape_unique_keys ?i_Shape_unique_keys ?l_Shape_unique_keys ?c_Shape_unique_keys ?k_Shape_unique_keys ?a_Shape_filled ?i_Shape_filled ?l_Shape_filled ?c_Shape_filled ?k_Shape_filled ?a_Shape_eq ?i_Shape_eq ?l_Shape_eq ?c_Shape_eq ?k_Shape_eq ?a_is_short ?l_is_short ?c_is_short ?k_is_short ?a_is_column ?l_is_column ?c_is_column ?k_is_column ?a_need_columns ?l_need_columns ?c_need_columns ?k_need_columns ?a_need_checks ?l_need_checks ?c_need_checks ?k_need_checks ?a_need_keys ?l_need_keys ?c_need_keys ?k_need_keys ?a_are_names ?l_are_names ?c_are_names ?k_are_names ?a_is_key ?l_is_key ?c_is_key ?k_is_key ?a_is_fitting ?l_is_fitting ?c_is_fitting ?k_is_fitting ?a_atom_fits ?l_atom_fits ?c_atom_fits ?k_atom_fits ?a_column_of ?l_column_of ?c_column_of ?k_column_of ?a_is_large ?l_is_large ?c_is_large ?k_is_large ?a_is_small ?l_is_small ?c_is_small ?k_is_small ?a_need_small ?l_need_small ?c_need_small ?k_need_small ?a_numbered ?l_numbered ?c_numbered ?k_numbered ?a_copies ?l_copies ?c_copies ?k_copies ?a_copy_test ?l_copy_test ?c_copy_test ?k_copy_test ?a_own_rules ?l_own_rules ?c_own_rules ?k_own_rules ?a_is_own_rule ?l_is_own_rule ?c_is_own_rule ?k_is_own_rule ?a_bare ?l_bare ?c_bare ?k_bare ?a_Desk_init ?i_Desk_init ?l_Desk_init ?c_Desk_init ?k_Desk_init ?a_Desk_shape ?i_Desk_shape ?l_Desk_shape ?c_Desk_shape ?k_Desk_shape ?a__law_pool ?l__law_pool ?c__law_pool ?k__law_pool ?a__law_draw ?l__law_draw ?c__law_draw ?k__law_draw ?a__law_is ?l__law_is ?c__law_is ?k__law_is ?a__law_long_name ?l__law_long_name ?c__law_long_name ?k__law_long_name ?a__law_grown ?l__law_grown ?c__law_grown ?k__law_grown ?a__law_refused ?l__law_refused ?c__law_refused ?k__law_refused ?a_law ?l_law ?c_law ?k_law ?z_isinstance ?z_int ?z_bool ?z_list ?z_tuple ?z_str ?z_len ?z_all ?z_sorted ?z_set ?z_dict ?z_sum ?z_enumerate ?z_any ?z_range ?g_SIGNS ?g_LONGEST_NAME ?g_LETTERS ?g_WORDS ?gl_WORDS ?gc_WORDS ?gd_WORDS ?gs_WORDS ?gv_WORDS ?g_NAME_SIGNS ?g_MOST_ATOMS ?g_MOST_LEVELS ?g_KINDS ?gl_KINDS ?gc_KINDS ?gd_KINDS ?gs_KINDS ?gv_KINDS ?g_MOST_COLUMNS ?g_MOST_RULES ?g_MOST_KEY_NAMES ?g_MOST_SMALL_ATOMS ?g_MOST_SMALL_LEVELS ?g_MOST_SMALL_COLUMNS ?g_MOST_SMALL_RULES ?g_LONGEST_SMALL_NAME
    (case a_Test => k_is)
    (case pg_Test => k_is)
    (case hd_Test => k_is)
    (case po_Test => k_is)
    (case sa_Test => k_is)
    (case mk_Test => k_is)
    (case kc_Test => k_is)
    (case sf_Test => k_is)
    (case nq_Test => k_is)
    (case nn_Test => k_is)
    (case nz_Test => k_is)
    (case nr_Test_and => k_is)
    (case nr_Test_or => k_is)
    (case ia_Test => k_is)
    (case in_Test => k_is)
    (case it_Test => k_is)
    (case im_Test => k_is)
    (case io_Test => k_is)
    (case iy_Test => k_is)
    (case iz_Test_NoneType => k_is)
    (case iz_Test_bool => k_is)
    (case iz_Test_int => k_is)
    (case iz_Test_str => k_is)
    (case iz_Test_list => k_is)
    (case iz_Test_tuple => k_is)
    (case iz_Test_dict => k_is)
    (case n_Test_word => k_is)
    (case n_Test_inner => k_is)
    (case n_Test_fields => k_is)
    (case n_Test_terms => k_is)
    (case n_Test_size => k_is)
    (case n_Test_depth => k_is)
    (case a_Shape => k_is)
    (case pg_Shape => k_is)
    (case hd_Shape => k_is)
    (case po_Shape => k_is)
    (case sa_Shape => k_is)
    (case mk_Shape => k_is)
    (case kc_Shape => k_is)
    (case sf_Shape => k_is)
    (case nq_Shape => k_is)
    (case nn_Shape => k_is)
    (case nz_Shape => k_is)
    (case nr_Shape_and => k_is)
    (case nr_Shape_or => k_is)
    (case ia_Shape => k_is)
    (case in_Shape => k_is)
    (case it_Shape => k_is)
    (case im_Shape => k_is)
    (case io_Shape => k_is)
    (case iy_Shape => k_is)
    (case iz_Shape_NoneType => k_is)
    (case iz_Shape_bool => k_is)
    (case iz_Shape_int => k_is)
    (case iz_Shape_str => k_is)
    (case iz_Shape_list => k_is)
    (case iz_Shape_tuple => k_is)
    (case iz_Shape_dict => k_is)
    (case n_Shape_layout => k_is)
    (case n_Shape_spots => k_is)
    (case n_Shape_check_tests => k_is)
    (case n_Shape_key_rules => k_is)
    (case a_Desk => k_is)
    (case pg_Desk => k_is)
    (case hd_Desk => k_is)
    (case po_Desk => k_is)
    (case sa_Desk => k_is)
    (case mk_Desk => k_is)
    (case kc_Desk => k_is)
    (case sf_Desk => k_is)
    (case nr_Desk_and => k_is)
    (case nr_Desk_or => k_is)
    (case ia_Desk => k_is)
    (case in_Desk => k_is)
    (case it_Desk => k_is)
    (case im_Desk => k_is)
    (case io_Desk => k_is)
    (case iy_Desk => k_is)
    (case iz_Desk_NoneType => k_is)
    (case iz_Desk_bool => k_is)
    (case iz_Desk_int => k_is)
    (case iz_Desk_str => k_is)
    (case iz_Desk_list => k_is)
    (case iz_Desk_tuple => k_is)
    (case iz_Desk_dict => k_is)
    (case n_Desk_now => k_is)
    (case n_Desk_past => k_is)
    (case n_Desk_future => k_is)
    (case n_Desk_claims => k_is)
    (case a_eBadShape => k_is)
    (case x_eBadShape => k_is)
    (case o_eBadShape => (repeat (first | exact PySem.TwX.OwnEx.tail | refine PySem.TwX.OwnEx.own _ ?_)))
    (case sa_eBadShape => k_is)
    (case ga_eBadShape => k_is)
    (case gg_eBadShape => k_is)
    (case nb_eBadShape => k_is)
    (case i_eBadShape => k_is)
    (case t_eBadShape => k_is)
    (case nc_eBadShape => k_is)
    (case l_eBadShape => k_is)
    (case cc_eBadShape => k_is)
    (case s1_eBadShape => rfl)
    (case s2_eBadShape => rfl)
    (case s3_eBadShape => rfl)
    (case s4_eBadShape => rfl)
    (case k_eBadShape => k_is)
    (case eC_eBadShape => k_is)
    (case tC_eBadShape => k_is)
    (case hC_eBadShape => k_is)
    (case te_eBadShape => k_is)
    (case tf_eBadShape => k_is)
    (case a_eBadRow => k_is)
    (case x_eBadRow => k_is)
    (case o_eBadRow => (repeat (first | exact PySem.TwX.OwnEx.tail | refine PySem.TwX.OwnEx.own _ ?_)))
    (case sa_eBadRow => k_is)
    (case ga_eBadRow => k_is)
    (case gg_eBadRow => k_is)
    (case nb_eBadRow => k_is)
    (case i_eBadRow => k_is)
    (case t_eBadRow => k_is)
    (case l_eBadRow => k_is)
    (case cc_eBadRow => k_is)
    (case s1_eBadRow => rfl)
    (case s2_eBadRow => rfl)
    (case s3_eBadRow => rfl)
    (case s4_eBadRow => rfl)
    (case k_eBadRow => k_is)
    (case eC_eBadRow => k_is)
    (case tC_eBadRow => k_is)
    (case hC_eBadRow => k_is)
    (case te_eBadRow => k_is)
    (case tf_eBadRow => k_is)
    (case a_eBadTest => k_is)
    (case x_eBadTest => k_is)
    (case o_eBadTest => (repeat (first | exact PySem.TwX.OwnEx.tail | refine PySem.TwX.OwnEx.own _ ?_)))
    (case sa_eBadTest => k_is)
    (case ga_eBadTest => k_is)
    (case gg_eBadTest => k_is)
    (case nb_eBadTest => k_is)
    (case i_eBadTest => k_is)
    (case t_eBadTest => k_is)
    (case l_eBadTest => k_is)
    (case cc_eBadTest => k_is)
    (case s1_eBadTest => rfl)
    (case s2_eBadTest => rfl)
    (case s3_eBadTest => rfl)
    (case s4_eBadTest => rfl)
    (case k_eBadTest => k_is)
    (case eC_eBadTest => k_is)
    (case tC_eBadTest => k_is)
    (case hC_eBadTest => k_is)
    (case te_eBadTest => k_is)
    (case tf_eBadTest => k_is)
    (case a_eBadClaim => k_is)
    (case x_eBadClaim => k_is)
    (case o_eBadClaim => (repeat (first | exact PySem.TwX.OwnEx.tail | refine PySem.TwX.OwnEx.own _ ?_)))
    (case sa_eBadClaim => k_is)
    (case ga_eBadClaim => k_is)
    (case gg_eBadClaim => k_is)
    (case nb_eBadClaim => k_is)
    (case i_eBadClaim => k_is)
    (case t_eBadClaim => k_is)
    (case l_eBadClaim => k_is)
    (case cc_eBadClaim => k_is)
    (case s1_eBadClaim => rfl)
    (case s2_eBadClaim => rfl)
    (case s3_eBadClaim => rfl)
    (case s4_eBadClaim => rfl)
    (case k_eBadClaim => k_is)
    (case eC_eBadClaim => k_is)
    (case tC_eBadClaim => k_is)
    (case hC_eBadClaim => k_is)
    (case te_eBadClaim => k_is)
    (case tf_eBadClaim => k_is)
    (case a_is_integer => k_is)
    (case l_is_integer => k_is)
    (case c_is_integer => k_is)
    (case k_is_integer => k_is)
    (case a_is_sequence => k_is)
    (case l_is_sequence => k_is)
    (case c_is_sequence => k_is)
    (case k_is_sequence => k_is)
    (case a_is_worded => k_is)
    (case l_is_worded => k_is)
    (case c_is_worded => k_is)
    (case k_is_worded => k_is)
    (case a_is_text => k_is)
    (case l_is_text => k_is)
    (case c_is_text => k_is)
    (case k_is_text => k_is)
    (case a_is_name => k_is)
    (case l_is_name => k_is)
    (case c_is_name => k_is)
    (case k_is_name => k_is)
    (case a_kind_of => k_is)
    (case l_kind_of => k_is)
    (case c_kind_of => k_is)
    (case k_kind_of => k_is)
    (case a_is_value => k_is)
    (case l_is_value => k_is)
    (case c_is_value => k_is)
    (case k_is_value => k_is)
    (case a_Test_init => k_is)
    (case i_Test_init => k_is)
    (case l_Test_init => k_is)
    (case c_Test_init => k_is)
    (case k_Test_init => k_is)
    (case a_Test_atoms => k_is)
    (case i_Test_atoms => k_is)
    (case l_Test_atoms => k_is)
    (case c_Test_atoms => k_is)
    (case k_Test_atoms => k_is)
    (case a_Test_names => k_is)
    (case i_Test_names => k_is)
    (case l_Test_names => k_is)
    (case c_Test_names => k_is)
    (case k_Test_names => k_is)
    (case a_Test_levels => k_is)
    (case i_Test_levels => k_is)
    (case l_Test_levels => k_is)
    (case c_Test_levels => k_is)
    (case k_Test_levels => k_is)
    (case a_Test_renamed => k_is)
    (case i_Test_renamed => k_is)
    (case l_Test_renamed => k_is)
    (case c_Test_renamed => k_is)
    (case k_Test_renamed => k_is)
    (case a_Test_or => k_is)
    (case i_Test_or => k_is)
    (case l_Test_or => k_is)
    (case c_Test_or => k_is)
    (case k_Test_or => k_is)
    (case a_Test_invert => k_is)
    (case i_Test_invert => k_is)
    (case l_Test_invert => k_is)
    (case c_Test_invert => k_is)
    (case k_Test_invert => k_is)
    (case a_Test_eq => k_is)
    (case i_Test_eq => k_is)
    (case l_Test_eq => k_is)
    (case c_Test_eq => k_is)
    (case k_Test_eq => k_is)
    (case a_size_of => k_is)
    (case l_size_of => k_is)
    (case c_size_of => k_is)
    (case k_size_of => k_is)
    (case a_depth_of => k_is)
    (case l_depth_of => k_is)
    (case c_depth_of => k_is)
    (case k_depth_of => k_is)
    (case a_combined => k_is)
    (case l_combined => k_is)
    (case c_combined => k_is)
    (case k_combined => k_is)
    (case a_need_column => k_is)
    (case l_need_column => k_is)
    (case c_need_column => k_is)
    (case k_need_column => k_is)
    (case a_empty => k_is)
    (case l_empty => k_is)
    (case c_empty => k_is)
    (case k_empty => k_is)
    (case a_always => k_is)
    (case l_always => k_is)
    (case c_always => k_is)
    (case k_always => k_is)
    (case a_renamed_by => k_is)
    (case l_renamed_by => k_is)
    (case c_renamed_by => k_is)
    (case k_renamed_by => k_is)
    (case a_Shape_init => k_is)
    (case i_Shape_init => k_is)
    (case l_Shape_init => k_is)
    (case c_Shape_init => k_is)
    (case k_Shape_init => k_is)
    (case kn1_Shape_init => k_is)
    (case kl1_Shape_init => k_is)
    (case gc_1_Shape_init => rfl)
    (case gd_1_Shape_init => rfl)
    (case kz1_Shape_init => rfl)
    (case kn2_Shape_init => k_is)
    (case kl2_Shape_init => k_is)
    (case gc_2_Shape_init => rfl)
    (case gd_2_Shape_init => rfl)
    (case kz2_Shape_init => rfl)
    (case a_Shape_columns => k_is)
    (case i_Shape_columns => k_is)
    (case l_Shape_columns => k_is)
    (case c_Shape_columns => k_is)
    (case k_Shape_columns => k_is)
    (case a_Shape_names => k_is)
    (case i_Shape_names => k_is)
    (case l_Shape_names => k_is)
    (case c_Shape_names => k_is)
    (case k_Shape_names => k_is)
    (case a_Shape_checks => k_is)
    (case i_Shape_checks => k_is)
    (case l_Shape_checks => k_is)
    (case c_Shape_checks => k_is)
    (case k_Shape_checks => k_is)
    (case a_Shape_unique_keys => k_is)
    (case i_Shape_unique_keys => k_is)
    (case l_Shape_unique_keys => k_is)
    (case c_Shape_unique_keys => k_is)
    (case k_Shape_unique_keys => k_is)
    (case a_Shape_filled => k_is)
    (case i_Shape_filled => k_is)
    (case l_Shape_filled => k_is)
    (case c_Shape_filled => k_is)
    (case k_Shape_filled => k_is)
    (case a_Shape_eq => k_is)
    (case i_Shape_eq => k_is)
    (case l_Shape_eq => k_is)
    (case c_Shape_eq => k_is)
    (case k_Shape_eq => k_is)
    (case a_is_short => k_is)
    (case l_is_short => k_is)
    (case c_is_short => k_is)
    (case k_is_short => k_is)
    (case a_is_column => k_is)
    (case l_is_column => k_is)
    (case c_is_column => k_is)
    (case k_is_column => k_is)
    (case a_need_columns => k_is)
    (case l_need_columns => k_is)
    (case c_need_columns => k_is)
    (case k_need_columns => k_is)
    (case a_need_checks => k_is)
    (case l_need_checks => k_is)
    (case c_need_checks => k_is)
    (case k_need_checks => k_is)
    (case a_need_keys => k_is)
    (case l_need_keys => k_is)
    (case c_need_keys => k_is)
    (case k_need_keys => k_is)
    (case a_are_names => k_is)
    (case l_are_names => k_is)
    (case c_are_names => k_is)
    (case k_are_names => k_is)
    (case a_is_key => k_is)
    (case l_is_key => k_is)
    (case c_is_key => k_is)
    (case k_is_key => k_is)
    (case a_is_fitting => k_is)
    (case l_is_fitting => k_is)
    (case c_is_fitting => k_is)
    (case k_is_fitting => k_is)
    (case a_atom_fits => k_is)
    (case l_atom_fits => k_is)
    (case c_atom_fits => k_is)
    (case k_atom_fits => k_is)
    (case a_column_of => k_is)
    (case l_column_of => k_is)
    (case c_column_of => k_is)
    (case k_column_of => k_is)
    (case a_is_large => k_is)
    (case l_is_large => k_is)
    (case c_is_large => k_is)
    (case k_is_large => k_is)
    (case a_is_small => k_is)
    (case l_is_small => k_is)
    (case c_is_small => k_is)
    (case k_is_small => k_is)
    (case a_need_small => k_is)
    (case l_need_small => k_is)
    (case c_need_small => k_is)
    (case k_need_small => k_is)
    (case a_numbered => k_is)
    (case l_numbered => k_is)
    (case c_numbered => k_is)
    (case k_numbered => k_is)
    (case a_copies => k_is)
    (case l_copies => k_is)
    (case c_copies => k_is)
    (case k_copies => k_is)
    (case a_copy_test => k_is)
    (case l_copy_test => k_is)
    (case c_copy_test => k_is)
    (case k_copy_test => k_is)
    (case a_own_rules => k_is)
    (case l_own_rules => k_is)
    (case c_own_rules => k_is)
    (case k_own_rules => k_is)
    (case a_is_own_rule => k_is)
    (case l_is_own_rule => k_is)
    (case c_is_own_rule => k_is)
    (case k_is_own_rule => k_is)
    (case a_bare => k_is)
    (case l_bare => k_is)
    (case c_bare => k_is)
    (case k_bare => k_is)
    (case a_Desk_init => k_is)
    (case i_Desk_init => k_is)
    (case l_Desk_init => k_is)
    (case c_Desk_init => k_is)
    (case k_Desk_init => k_is)
    (case a_Desk_shape => k_is)
    (case i_Desk_shape => k_is)
    (case l_Desk_shape => k_is)
    (case c_Desk_shape => k_is)
    (case k_Desk_shape => k_is)
    (case a__law_pool => k_is)
    (case l__law_pool => k_is)
    (case c__law_pool => k_is)
    (case k__law_pool => k_is)
    (case a__law_draw => k_is)
    (case l__law_draw => k_is)
    (case c__law_draw => k_is)
    (case k__law_draw => k_is)
    (case a__law_is => k_is)
    (case l__law_is => k_is)
    (case c__law_is => k_is)
    (case k__law_is => k_is)
    (case a__law_long_name => k_is)
    (case l__law_long_name => k_is)
    (case c__law_long_name => k_is)
    (case k__law_long_name => k_is)
    (case a__law_grown => k_is)
    (case l__law_grown => k_is)
    (case c__law_grown => k_is)
    (case k__law_grown => k_is)
    (case a__law_refused => k_is)
    (case l__law_refused => k_is)
    (case c__law_refused => k_is)
    (case k__law_refused => k_is)
    (case a_law => k_is)
    (case l_law => k_is)
    (case c_law => k_is)
    (case k_law => k_is)
    (case z_isinstance => k_is)
    (case z_int => k_is)
    (case z_bool => k_is)
    (case z_list => k_is)
    (case z_tuple => k_is)
    (case z_str => k_is)
    (case z_len => k_is)
    (case z_all => k_is)
    (case z_sorted => k_is)
    (case z_set => k_is)
    (case z_dict => k_is)
    (case z_sum => k_is)
    (case z_enumerate => k_is)
    (case z_any => k_is)
    (case z_range => k_is)
    (case g_SIGNS => k_is)
    (case g_LONGEST_NAME => k_is)
    (case g_LETTERS => k_is)
    (case g_WORDS => k_is)
    (case gl_WORDS => k_is)
    (case gc_WORDS => rfl)
    (case gd_WORDS => rfl)
    (case gs_WORDS => decide)
    (case gv_WORDS => (repeat (first | exact .nil | refine .cons ⟨_, rfl⟩ ?_)))
    (case g_NAME_SIGNS => k_is)
    (case g_MOST_ATOMS => k_is)
    (case g_MOST_LEVELS => k_is)
    (case g_KINDS => k_is)
    (case gl_KINDS => k_is)
    (case gc_KINDS => rfl)
    (case gd_KINDS => rfl)
    (case gs_KINDS => decide)
    (case gv_KINDS => (repeat (first | exact .nil | refine .cons ⟨_, rfl⟩ ?_)))
    (case g_MOST_COLUMNS => k_is)
    (case g_MOST_RULES => k_is)
    (case g_MOST_KEY_NAMES => k_is)
    (case g_MOST_SMALL_ATOMS => k_is)
    (case g_MOST_SMALL_LEVELS => k_is)
    (case g_MOST_SMALL_COLUMNS => k_is)
    (case g_MOST_SMALL_RULES => k_is)
    (case g_LONGEST_SMALL_NAME => k_is)
#print axioms PySem.Challenge.cw_tworows_k87_small_shapes_and_tests_holds
