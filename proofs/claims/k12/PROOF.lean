import PyProof.Rows.All
import Wide.All
import OpenK.AllK
import Wide.FinOn
import HandS.ForMost
import HandS.Wide
import HandS.IsInst
import HandS.Flow
import HandS.TupLe
import HandS.StrMore
import HandS.Evl
import HandS.Walk
import KE.KxText
import HandS.Set
import HandS.Strs
import HandS.SetFor
import PyProof.Rows.SortShellAny
import HandS.Replace
import KE.KOpsOwn
import HandS.ForExc
import HandS.TryMany
import HandS.TryOnly
import HandS.ExcSuper
import HandS.ExcOwn
import HandS.ListEq
import HandS.DeepEq
import HandS.DictComp
import HandS.Iter
import HandS.Defaults
import KE.GoesMore
import HandS.ExcIs
import HandS.RaiseMore
import PySem.Challenge.RW_tworows_k12_columns_refused
set_option Elab.async false
set_option linter.all false
set_option maxRecDepth 100000
set_option maxHeartbeats 4000000
namespace Tw
open PySem L2

/-! ### a def of the text with its promise -/
structure Def (P : Program) (w : World) (K : PySem.W.Frag) (mg : Str → Option Value) (base : Heap) (k : Nat) (x : Str) (ps : List Str) (sp : Sp) : Prop where
  ex : ∃ (f : Addr) (fd : FuncData), FnOk P w K mg base CX0 k f fd ps sp ∧ mg x = some (.ref f) ∧ PySem.W.keepIn K (.ref f) = true ∧ Binds K fd ps []
/-- where a def of the text stands -/
structure Here (K : PySem.W.Frag) (mg : Str → Option Value) (x : Str) (st : Stmt) (ps : List Str) (f : Addr) (fd : FuncData) : Prop where
  fn : Fun K x x st f fd
  mg : mg x = some (.ref f)
  bd : Binds K fd ps []
section
variable {X : Cx} {k j : Nat} {x : Str} {p pos : Pos} {e : Expr} {es : List Expr} {ps : List Str} {sp : Sp} {t : TA}
theorem Here.def {P : Program} {w : World} {K : PySem.W.Frag} {mg : Str → Option Value} {base : Heap} {st : Stmt} {f : Addr} {fd : FuncData} (h : Here K mg x st ps f fd) (F : FnOk P w K mg base CX0 k f fd ps sp) : Def P w K mg base k x ps sp :=
  ⟨f, fd, F, h.mg, h.fn.kp, h.bd⟩
def tDef (sp : Sp) (t : TA) : TE := fun σ H Q => t σ H fun vs H1 => sp vs H1 Q E0
theorem tDef_eq {sp : Sp} {t : TA} : tCall sp [] E0 t = tDef sp t := by
  funext σ H Q
  unfold tCall tDef
  simp only [List.append_nil]
theorem pe_def (D : Def X.prog X.w X.K X.mg X.base k x ps sp) (hr : Room j X.A) (hg : Gl X x) (ha : PA X (e :: es) t) (hk : k ≤ j := by decide) (hdb : (x == ("__debug__" : Str)) = false := by decide)
    (he : starEach (e :: es) X.env = (false, eval e X.env) :: starEach es X.env := by rfl) (hpl : (backTo pos (starEach es X.env)).any (·.1) = false := by rfl) : PE X (.Call (.Name x p) (e :: es) [] pos) (tDef sp t) := by
  obtain ⟨f, fd, F, hm, hkp, hb⟩ := D.ex
  rw [← tDef_eq]
  exact pe_call F (hr.mono hk) hg hm hkp hb .nil pass0 ha hdb he hpl
theorem pe_def0 (D : Def X.prog X.w X.K X.mg X.base k x ps sp) (hr : Room j X.A) (hg : Gl X x) (hk : k ≤ j := by decide) (hdb : (x == ("__debug__" : Str)) = false := by decide) : PE X (.Call (.Name x p) [] [] pos) (tDef sp tNil) := by
  obtain ⟨f, fd, F, hm, hkp, hb⟩ := D.ex
  rw [← tDef_eq]
  exact pe_call0 F (hr.mono hk) hg hm hkp hb .nil pass0 hdb
end

/-! ### operators for values of any kind -/
def rStr2 (C : Str → Str → Prop) (g : Str → Str → V) : R2 := fun x y H Q => ∃ i j, x = .str i ∧ y = .str j ∧ C i j ∧ Q (g i j) H
def rAddG : R2 := fun x y H Q => (∃ i j, x = .int i ∧ y = .int j ∧ Q (.int (i + j)) H) ∨ (∃ i j, x = .str i ∧ y = .str j ∧ i.length + j.length ≤ sizeLine ∧ Q (.str (i ++ j)) H) ∨ rCat x y H Q
def rLtG : R2 := fun x y H Q => (∃ i j, x = .int i ∧ y = .int j ∧ Q (.bl (decide (i < j))) H) ∨ ∃ i j, x = .str i ∧ y = .str j ∧ Q (.bl (decide (i.cps.toList < j.cps.toList))) H
def CPowG (i j : Int) : Prop := 0 ≤ j ∧ (Builtin.Int.intBits i : Int) * j ≤ 2 ^ 27
section
variable {X : Cx} {H : Hp} {Q : VK}
theorem op_addG : OpR X (binaryOp .Add) rAddG := op_add.or (op_add_str.or op_cat)
theorem op_ltG : OpR X (compareOp .Lt) rLtG := op_lt.or op_lt_str
theorem op_powG : OpR X (binaryOp .Pow) (rI CPowG fun i j => .int (i ^ j.toNat)) := opI fun _ _ _ _ _ _ _ hc q => PyProof.Rows.pow_int hc.1 hc.2 q
def rFdG : R2 := rI CDivW fun i j => .int (i / j)
theorem op_fdG : OpR X (binaryOp .FloorDiv) rFdG := op_fdivW
def rModG : R2 := rI (fun _ j => 0 < j) fun i j => .int (i % j)
theorem op_modG : OpR X (binaryOp .Mod) rModG := op_mod
def rSubG : R2 := rI0 fun i j => .int (i - j)
theorem op_subG : OpR X (binaryOp .Sub) rSubG := op_sub
def rMulG : R2 := rI CMul fun i j => .int (i * j)
theorem op_mulG : OpR X (binaryOp .Mult) rMulG := op_mul
def rPowG : R2 := rI CPowG fun i j => .int (i ^ j.toNat)
theorem op_powG' : OpR X (binaryOp .Pow) rPowG := op_powG
def rLeG : R2 := rI0 fun i j => .bl (decide (i ≤ j))
theorem op_leG : OpR X (compareOp .LtE) rLeG := op_le
def rGtG : R2 := rI0 fun i j => .bl (decide (j < i))
theorem op_gtG : OpR X (compareOp .Gt) rGtG := op_gt
def rGeG : R2 := fun x y H Q => (rI0 fun i j => .bl (decide (j ≤ i))) x y H Q ∨ ∃ i j, x = .str i ∧ y = .str j ∧ Q (.bl (!decide (i.cps.toList < j.cps.toList))) H
theorem op_geG : OpR X (compareOp .GtE) rGeG := op_ge.or op_ge_str
def rIsNG : R2 := fun x y H Q => y = .non ∧ Q (.bl (decide (x = .non))) H
theorem op_isNG : OpR X (compareOp .Is) rIsNG := op_isN
def rNotNG : R2 := fun x y H Q => y = .non ∧ Q (.bl (!decide (x = .non))) H
theorem op_notNG : OpR X (compareOp .IsNot) rNotNG := op_notN
def rNegG : V → Hp → VK → Prop := rU fun i => .int (-i)
theorem un_negG : UnR X (unaryOp .USub) rNegG := un_neg
/-! rules that hang on the written part, the part told by a letter (so that they stand in a comprehension's block, too) -/
def rLenG (K : PySem.W.Frag) : List V → Hp → VK → Prop := fun xs H Q => ∃ x n, xs = [x] ∧ LenV K x H n ∧ Q (.int n) H
theorem call_lenG {K : PySem.W.Frag} (h : X.K = K) : CallR X (.builtin "len") (rLenG K) := by subst h; exact call_len
theorem ix_seqG {K : PySem.W.Frag} (h : X.K = K) : IxR X (rIx K) := by subst h; exact ix_seq
theorem call_isiG {K : PySem.W.Frag} (h : X.K = K) : CallR X (.builtin "isinstance") (rIsi K) := by subst h; exact call_isi
theorem sl_listG {K : PySem.W.Frag} (h : X.K = K) : SlR X (rSlL K) := by subst h; exact sl_list
def rSlG (K : PySem.W.Frag) : V → Option Int → Option Int → Hp → VK → Prop := fun x lo hi H Q => rSlL K x lo hi H Q ∨ (L2.rSlS x lo hi H Q ∨ rSlT K x lo hi H Q)
theorem sl_G {K : PySem.W.Frag} (h : X.K = K) : SlR X (rSlG K) := by subst h; exact sl_list.or (sl_str.or sl_tup)
def rInSign : R2 := fun x y H Q => ∃ (c : Nat) (z : Str), x = .str ⟨#[c]⟩ ∧ y = .str z ∧ Q (.bl (decide (c ∈ z.cps.toList))) H
def rNotInSign : R2 := fun x y H Q => ∃ (c : Nat) (z : Str), x = .str ⟨#[c]⟩ ∧ y = .str z ∧ Q (.bl (!decide (c ∈ z.cps.toList))) H
def rInG (K : PySem.W.Frag) : R2 := fun x y H Q => rInSign x y H Q ∨ rIn K false x y H Q
def rNotInG (K : PySem.W.Frag) : R2 := fun x y H Q => rNotInSign x y H Q ∨ rIn K true x y H Q
theorem op_inG {K : PySem.W.Frag} (h : X.K = K) : OpR X (compareOp .In) (rInG K) := by subst h; exact (show OpR X (compareOp .In) rInSign from op_in_sign).or op_in_seq
theorem op_notInG {K : PySem.W.Frag} (h : X.K = K) : OpR X (compareOp .NotIn) (rNotInG K) := by subst h; exact (show OpR X (compareOp .NotIn) rNotInSign from op_notIn_sign).or op_notIn_seq
def rMax2 : List V → Hp → VK → Prop := fun xs H Q => ∃ i j, xs = [.int i, .int j] ∧ Q (.int (if j > i then j else i)) H
theorem call_max2G (h : X.calm = true) : CallR X (.builtin "max") rMax2 := call_max2 h
def rGeS : R2 := fun x y H Q => ∃ i j, x = .str i ∧ y = .str j ∧ Q (.bl (!decide (i.cps.toList < j.cps.toList))) H
def rIsBl : R2 := fun x y H Q => ∃ a b, x = .bl a ∧ y = .bl b ∧ Q (.bl (decide (a = b))) H
def rNotBl : R2 := fun x y H Q => ∃ a b, x = .bl a ∧ y = .bl b ∧ Q (.bl (!decide (a = b))) H
theorem op_isBl : OpR X (compareOp .Is) rIsBl := op_is_bl
theorem op_notBl : OpR X (compareOp .IsNot) rNotBl := op_isnot_bl
def rListG (K : PySem.W.Frag) : List V → Hp → VK → Prop := fun xs H Q => ∃ p ys, xs = [.ref p] ∧ (SqL K H p ys ∨ SqT K H p ys) ∧ ∀ l, H l = none → Q (.ref l) (upd H l (.lst ys))
theorem call_listG {K : PySem.W.Frag} (h : X.K = K) : CallR X (.type "list") (rListG K) := by subst h; exact call_list_of
def rIntG : List V → Hp → VK → Prop := fun xs H Q => (∃ i, xs = [.int i] ∧ Q (.int i) H) ∨ ∃ k, xs = [.bl k] ∧ Q (.int (if k then 1 else 0)) H
theorem call_intG : CallR X (.type "int") rIntG := call_int1
def rBoolG : List V → Hp → VK → Prop := fun xs H Q => (∃ i, xs = [.int i] ∧ Q (.bl (i != 0)) H) ∨ ∃ k, xs = [.bl k] ∧ Q (.bl k) H
theorem call_boolG : CallR X (.type "bool") rBoolG := call_bool1
def rJoinG (K : PySem.W.Frag) : V → List V → Hp → VK → Prop := fun x xs H Q => ∃ a p, ∃ ys : List Str, x = .str a ∧ xs = [.ref p] ∧ (SqL K H p (ys.map V.str) ∨ SqT K H p (ys.map V.str)) ∧
    (ys.map (·.length)).sum + ys.length * a.length ≤ 16777216 ∧ Q (.str (PySem.Txt.join a ys)) H
theorem mt_joinG {K : PySem.W.Frag} (h : X.K = K) : MtR X "str.join" (rJoinG K) := by subst h; exact mt_join
/-- is True, is False: of bools -/
def rIsB : R2 := fun x y H Q => ∃ i j, x = .bl i ∧ y = .bl j ∧ Q (.bl (decide (i = j))) H
end

/-- what is wanted behind a statement, in a word that is no constructor -/
def mkE (nx : L2.St → Hp → Prop) (rt : VK) (bk ct : L2.St → Hp → Prop) : Ends := ⟨nx, rt, bk, ct⟩
theorem Fun.okM {P : Program} {w : World} {K : PySem.W.Frag} {mg : Str → Option Value} {base : Heap} {x qual : Str} {st : Stmt} {f : Addr} {fd : FuncData} {N ps : List Str} {k : Nat} {sp : Sp} (F : Fun K x qual st f fd) (S : FnScope N ps (defScope st)) (len : ∀ vs H Q E, sp vs H Q E → vs.length = ps.length)
    (hbody : ∀ (cdv : Value) (A : Around) (outer : List Env) (s : Shared) (H : Hp) (vs : List V) (Q : VK) (E : XK), Room k (A.deeper (PyProof.Rows.envOfC qual (defScope st) s.heap.objs.size f cdv)) → sp vs H Q E →
      ∃ t, PSs (cxOf CX0 P w K mg base N qual (defScope st) f cdv A outer s H E).nox (defBody st) t ∧ t (mkE (fun _ H' => Q .non H') Q (fun _ _ => False) (fun _ _ => False)) (L2.start N vs) H) : FnOk P w K mg base CX0 (k + 1) f fd ps sp := F.ok S len hbody
/-! ### readings, step by step -/
section
variable {K : PySem.W.Frag} {σ : L2.St} {H : Hp} {Q : VK} {QT : Bool → Hp → Prop} {QA : List V → Hp → Prop} {D : Ends} {ta tb te : TE} {tr t : TA} {u c : TT} {ts tz : TS} {x y v : V} {a b : Bool} {i j : Int}
theorem g_var {n : Nat} (h : σ[n]? = some (some v)) (q : Q v H) : tVar n σ H Q := ⟨v, h, q⟩
theorem g_var0 {n : Nat} (q : ∃ v, σ[n]? = some (some v) ∧ Q v H) : tVar n σ H Q := q
theorem g_c (q : Q v H) : tC v σ H Q := q
theorem g_op {r : R2} (q : ta σ H fun x H1 => tb σ H1 fun y H2 => r x y H2 Q) : tOp r ta tb σ H Q := q
theorem g_un {r : V → Hp → VK → Prop} (q : ta σ H fun x H1 => r x H1 Q) : tUn r ta σ H Q := q
theorem g_nil (q : QA [] H) : tNil σ H QA := q
theorem g_cons (q : ta σ H fun x H1 => tr σ H1 fun xs H2 => QA (x :: xs) H2) : tCons ta tr σ H QA := q
theorem g_def {sp : Sp} (q : t σ H fun vs H1 => sp vs H1 Q E0) : tDef sp t σ H Q := q
theorem g_cb {r : List V → Hp → VK → Prop} (q : t σ H fun vs H1 => r vs H1 Q) : tCB r t σ H Q := q
theorem g_tup (q : t σ H fun xs H1 => xs.length ≤ sizeLine ∧ ∀ p, H1 p = none → Q (.ref p) (upd H1 p (.tup xs))) : tTup t σ H Q := q
theorem g_lst (q : t σ H fun xs H1 => xs.length ≤ sizeLine ∧ ∀ p, H1 p = none → Q (.ref p) (upd H1 p (.lst xs))) : tLst t σ H Q := q
theorem g_addI (q : Q (.int (i + j)) H) : rAddG (.int i) (.int j) H Q := .inl ⟨i, j, rfl, rfl, q⟩
theorem g_addS {z w : Str} (h : z.length + w.length ≤ sizeLine) (q : Q (.str (z ++ w)) H) : rAddG (.str z) (.str w) H Q := .inr (.inl ⟨z, w, rfl, rfl, h, q⟩)
theorem g_subI (q : Q (.int (i - j)) H) : rSubG (.int i) (.int j) H Q := ⟨i, j, rfl, rfl, q⟩
theorem g_mulI (h : CMul i j) (q : Q (.int (i * j)) H) : rMulG (.int i) (.int j) H Q := ⟨i, j, rfl, rfl, h, q⟩
theorem g_powI (h : CPowG i j) (q : Q (.int (i ^ j.toNat)) H) : rPowG (.int i) (.int j) H Q := ⟨i, j, rfl, rfl, h, q⟩
theorem g_modI (h : 0 < j) (q : Q (.int (i % j)) H) : rModG (.int i) (.int j) H Q := ⟨i, j, rfl, rfl, h, q⟩
theorem g_fdI (h : CDivW i j) (q : Q (.int (i / j)) H) : rFdG (.int i) (.int j) H Q := ⟨i, j, rfl, rfl, h, q⟩
theorem g_negI (q : Q (.int (-i)) H) : rNegG (.int i) H Q := ⟨i, rfl, q⟩
theorem g_ltI (q : Q (.bl (decide (i < j))) H) : rLtG (.int i) (.int j) H Q := .inl ⟨i, j, rfl, rfl, q⟩
theorem g_ltS {z w : Str} (q : Q (.bl (decide (z.cps.toList < w.cps.toList))) H) : rLtG (.str z) (.str w) H Q := .inr ⟨z, w, rfl, rfl, q⟩
theorem g_leI (q : Q (.bl (decide (i ≤ j))) H) : rLeG (.int i) (.int j) H Q := ⟨i, j, rfl, rfl, q⟩
theorem g_gtI (q : Q (.bl (decide (j < i))) H) : rGtG (.int i) (.int j) H Q := ⟨i, j, rfl, rfl, q⟩
theorem g_geI (q : Q (.bl (decide (j ≤ i))) H) : rGeG (.int i) (.int j) H Q := .inl ⟨i, j, rfl, rfl, q⟩
theorem g_geS {z w : Str} (q : Q (.bl (!decide (z.cps.toList < w.cps.toList))) H) : rGeG (.str z) (.str w) H Q := .inr ⟨z, w, rfl, rfl, q⟩
theorem g_slL {p : Addr} {xs : List V} {lo hi : Option Int} (h : SqL K H p xs) (q : ∀ l, H l = none → Q (.ref l) (upd H l (.lst (cutV xs lo hi)))) : rSlG K (.ref p) lo hi H Q := .inl ⟨p, xs, rfl, h, q⟩
theorem g_slS {z : Str} {lo hi : Option Int} (h : z.length ≤ sizeLine) (q : Q (.str (cutS z lo hi)) H) : rSlG K (.str z) lo hi H Q := .inr (.inl ⟨z, rfl, h, q⟩)
theorem g_inS {n : Nat} {z : Str} (q : Q (.bl (decide (n ∈ z.cps.toList))) H) : rInG K (.str ⟨#[n]⟩) (.str z) H Q := .inl ⟨n, z, rfl, rfl, q⟩
theorem g_notInS {n : Nat} {z : Str} (q : Q (.bl (!decide (n ∈ z.cps.toList))) H) : rNotInG K (.str ⟨#[n]⟩) (.str z) H Q := .inl ⟨n, z, rfl, rfl, q⟩
theorem g_max2 (q : Q (.int (if j > i then j else i)) H) : rMax2 [.int i, .int j] H Q := ⟨i, j, rfl, q⟩
theorem g_isBl_tt (q : Q (.bl true) H) : rIsBl (.bl true) (.bl true) H Q := ⟨true, true, rfl, rfl, q⟩
theorem g_notBl_tt (q : Q (.bl false) H) : rNotBl (.bl true) (.bl true) H Q := ⟨true, true, rfl, rfl, q⟩
theorem g_isBl_tf (q : Q (.bl false) H) : rIsBl (.bl true) (.bl false) H Q := ⟨true, false, rfl, rfl, q⟩
theorem g_notBl_tf (q : Q (.bl true) H) : rNotBl (.bl true) (.bl false) H Q := ⟨true, false, rfl, rfl, q⟩
theorem g_isBl_ft (q : Q (.bl false) H) : rIsBl (.bl false) (.bl true) H Q := ⟨false, true, rfl, rfl, q⟩
theorem g_notBl_ft (q : Q (.bl true) H) : rNotBl (.bl false) (.bl true) H Q := ⟨false, true, rfl, rfl, q⟩
theorem g_isBl_ff (q : Q (.bl true) H) : rIsBl (.bl false) (.bl false) H Q := ⟨false, false, rfl, rfl, q⟩
theorem g_notBl_ff (q : Q (.bl false) H) : rNotBl (.bl false) (.bl false) H Q := ⟨false, false, rfl, rfl, q⟩
theorem g_isBl (q : Q (.bl (decide (a = b))) H) : rIsBl (.bl a) (.bl b) H Q := ⟨a, b, rfl, rfl, q⟩
theorem g_notBl (q : Q (.bl (!decide (a = b))) H) : rNotBl (.bl a) (.bl b) H Q := ⟨a, b, rfl, rfl, q⟩
theorem g_istr {R : It → Hp → Prop} (q : ta σ H fun v H1 => ∃ x, v = .str x ∧ R (Its x) H1) : iStr ta σ H R := q
theorem g_str1 {p : Str → Prop} {z : Str} (q : p z) : ∃ x, V.str z = .str x ∧ p x := ⟨z, rfl, q⟩
theorem g_strE {z : Str} {R : Prop} (q : R) : (∃ a, V.str z = .str a) ∧ R := ⟨⟨z, rfl⟩, q⟩
theorem g_isN (q : Q (.bl (decide (x = .non))) H) : rIsNG x .non H Q := ⟨rfl, q⟩
theorem g_notN (q : Q (.bl (!decide (x = .non))) H) : rNotNG x .non H Q := ⟨rfl, q⟩
theorem g_isN_non (q : Q (.bl true) H) : rIsNG .non .non H Q := ⟨rfl, by rw [decide_eq_true rfl]; exact q⟩
theorem g_isN_int (q : Q (.bl false) H) : rIsNG (.int i) .non H Q := ⟨rfl, by rw [decide_eq_false (fun z => nomatch z)]; exact q⟩
theorem g_isN_str {z : Str} (q : Q (.bl false) H) : rIsNG (.str z) .non H Q := ⟨rfl, by rw [decide_eq_false (fun z => nomatch z)]; exact q⟩
theorem g_isN_bl (q : Q (.bl false) H) : rIsNG (.bl a) .non H Q := ⟨rfl, by rw [decide_eq_false (fun z => nomatch z)]; exact q⟩
theorem g_isN_ref {p : Addr} (q : Q (.bl false) H) : rIsNG (.ref p) .non H Q := ⟨rfl, by rw [decide_eq_false (fun z => nomatch z)]; exact q⟩
theorem g_notN_non (q : Q (.bl false) H) : rNotNG .non .non H Q := ⟨rfl, by rw [decide_eq_true rfl]; exact q⟩
theorem g_notN_int (q : Q (.bl true) H) : rNotNG (.int i) .non H Q := ⟨rfl, by rw [decide_eq_false (fun z => nomatch z)]; exact q⟩
theorem g_notN_str {z : Str} (q : Q (.bl true) H) : rNotNG (.str z) .non H Q := ⟨rfl, by rw [decide_eq_false (fun z => nomatch z)]; exact q⟩
theorem g_notN_bl (q : Q (.bl true) H) : rNotNG (.bl a) .non H Q := ⟨rfl, by rw [decide_eq_false (fun z => nomatch z)]; exact q⟩
theorem g_notN_ref {p : Addr} (q : Q (.bl true) H) : rNotNG (.ref p) .non H Q := ⟨rfl, by rw [decide_eq_false (fun z => nomatch z)]; exact q⟩
theorem g_Tn {A B : Prop} (h : B) : if (!true) = true then A else B := by rw [if_neg (by decide)]; exact h
theorem g_Fn {A B : Prop} (h : A) : if (!false) = true then A else B := by rw [if_pos (by decide)]; exact h
theorem dI (i j : Int) : decide (V.int i = V.int j) = decide (i = j) := by
  by_cases h : i = j
  · subst h; simp
  · rw [decide_eq_false h]; exact decide_eq_false fun z => h (V.int.inj z)
theorem dS (i j : Str) : decide (V.str i = V.str j) = decide (i = j) := by
  by_cases h : i = j
  · subst h; simp
  · rw [decide_eq_false h]; exact decide_eq_false fun z => h (V.str.inj z)
theorem dB (i j : Bool) : decide (V.bl i = V.bl j) = decide (i = j) := by
  by_cases h : i = j
  · subst h; simp
  · rw [decide_eq_false h]; exact decide_eq_false fun z => h (V.bl.inj z)
theorem g_eqI (q : Q (.bl (decide (i = j))) H) : rEq (.int i) (.int j) H Q := ⟨rfl, by rw [dI]; exact q⟩
theorem g_eqS {z w : Str} (q : Q (.bl (decide (z = w))) H) : rEq (.str z) (.str w) H Q := ⟨rfl, by rw [dS]; exact q⟩
theorem g_eqB (q : Q (.bl (decide (a = b))) H) : rEq (.bl a) (.bl b) H Q := ⟨rfl, by rw [dB]; exact q⟩
theorem g_neI (q : Q (.bl (!decide (i = j))) H) : rNe (.int i) (.int j) H Q := ⟨rfl, by rw [dI]; exact q⟩
theorem g_neS {z w : Str} (q : Q (.bl (!decide (z = w))) H) : rNe (.str z) (.str w) H Q := ⟨rfl, by rw [dS]; exact q⟩
theorem g_int1 (q : Q (.int i) H) : rIntG [V.int i] H Q := .inl ⟨i, rfl, q⟩
theorem g_int1B (q : Q (.int (if a then 1 else 0)) H) : rIntG [V.bl a] H Q := .inr ⟨a, rfl, q⟩
theorem g_bool1B (q : Q (.bl a) H) : rBoolG [V.bl a] H Q := .inr ⟨a, rfl, q⟩
theorem g_bool1I (q : Q (.bl (i != 0)) H) : rBoolG [V.int i] H Q := .inl ⟨i, rfl, q⟩
theorem g_ixL {p : Addr} {xs : List V} (h : SqL K H p xs) (e : atI xs i = some v) (q : Q v H) : rIx K (.ref p) (.int i) H Q := .inl ⟨p, xs, i, v, rfl, rfl, h, e, q⟩
theorem g_ixL0 {p : Addr} (q : ∃ xs v, H p = some (.lst xs) ∧ atI xs i = some v ∧ Q v H) : rIx K (.ref p) (.int i) H Q := by
  obtain ⟨xs, v, h, e, q⟩ := q
  exact g_ixL (SqL.of h) e q
theorem g_lenL0 {p : Addr} (q : ∃ xs, H p = some (.lst xs) ∧ Q (.int (xs.length : Int)) H) : rLenG K [.ref p] H Q := by
  obtain ⟨xs, h, q⟩ := q
  exact ⟨_, _, rfl, .inl ⟨xs, SqL.of h, rfl⟩, q⟩
theorem g_setL0 {p : Addr} {QH : Hp → Prop} (q : ∃ xs n, H p = some (.lst xs) ∧ ixN xs.length i = some n ∧ QH (upd H p (.lst (xs.set n v)))) : rSetL (.ref p) (.int i) v H QH := by
  obtain ⟨xs, n, h, e, q⟩ := q
  exact ⟨p, xs, i, n, rfl, rfl, h, e, q⟩
theorem g_ixT {p : Addr} {xs : List V} (h : SqT K H p xs) (e : atI xs i = some v) (q : Q v H) : rIx K (.ref p) (.int i) H Q := .inr (.inl ⟨p, xs, i, v, rfl, rfl, h, e, q⟩)
theorem g_ixS {z : Str} {n : Nat} (h : z.length ≤ sizeLine) (e : atI z.cps.toList i = some n) (q : Q (.str ⟨#[n]⟩) H) : rIx K (.str z) (.int i) H Q := .inr (.inr ⟨z, i, n, rfl, rfl, h, e, q⟩)
theorem g_lenL {p : Addr} {xs : List V} (h : SqL K H p xs) (q : Q (.int (xs.length : Int)) H) : rLenG K [.ref p] H Q := ⟨_, _, rfl, .inl ⟨xs, h, rfl⟩, q⟩
theorem g_lenT {p : Addr} {xs : List V} (h : SqT K H p xs) (q : Q (.int (xs.length : Int)) H) : rLenG K [.ref p] H Q := ⟨_, _, rfl, .inr ⟨xs, h, rfl⟩, q⟩
theorem g_lenS {z : Str} (h : z.length ≤ sizeLine) (q : Q (.int (z.length : Int)) H) : rLenG K [.str z] H Q := ⟨_, _, rfl, ⟨h, rfl⟩, q⟩
theorem g_list {p : Addr} {xs : List V} (h : SqL K H p xs) (q : ∀ l, H l = none → Q (.ref l) (upd H l (.lst xs))) : rListG K [.ref p] H Q := ⟨p, xs, rfl, .inl h, q⟩
theorem g_join {z : Str} {p : Addr} {ys : List Str} (h : SqL K H p (ys.map V.str)) (hz : (ys.map (·.length)).sum + ys.length * z.length ≤ 16777216) (q : Q (.str (PySem.Txt.join z ys)) H) : rJoinG K (.str z) [.ref p] H Q :=
  ⟨z, p, ys, rfl, rfl, .inl h, hz, q⟩
/-- the kind of a value, by its form -/
def kindS : V → String
  | .non => "NoneType" | .bl _ => "bool" | .int _ => "int" | .str _ => "str" | .flt _ => "float" | _ => ""
theorem g_isi {c : String} (ty : TyX K H x (.type n)) (h : kitB n c = some b) (q : Q (.bl b) H) : rIsi K [x, .ty c] H Q := ⟨x, .ty c, .type n, .type c, b, rfl, .ty c, ty, kit_ty h, q⟩
theorem g_isiI {c : String} (h : kitB "int" c = some b) (q : Q (.bl b) H) : rIsi K [.int i, .ty c] H Q := g_isi (.base (.int i)) h q
theorem g_isiS {c : String} {z : Str} (h : kitB "str" c = some b) (q : Q (.bl b) H) : rIsi K [.str z, .ty c] H Q := g_isi (.base (.str z)) h q
theorem g_isiB {c : String} (h : kitB "bool" c = some b) (q : Q (.bl b) H) : rIsi K [.bl a, .ty c] H Q := g_isi (.base (.bl a)) h q
theorem g_isiN {c : String} (h : kitB "NoneType" c = some b) (q : Q (.bl b) H) : rIsi K [.non, .ty c] H Q := g_isi (.base .non) h q
theorem kb_ii : kitB "int" "int" = some true := by decide +kernel
theorem kb_is : kitB "int" "str" = some false := by decide +kernel
theorem kb_ib : kitB "int" "bool" = some false := by decide +kernel
theorem kb_si : kitB "str" "int" = some false := by decide +kernel
theorem kb_ss : kitB "str" "str" = some true := by decide +kernel
theorem kb_sb : kitB "str" "bool" = some false := by decide +kernel
theorem kb_bi : kitB "bool" "int" = some true := by decide +kernel
theorem kb_bs : kitB "bool" "str" = some false := by decide +kernel
theorem kb_bb : kitB "bool" "bool" = some true := by decide +kernel
theorem kb_ni : kitB "NoneType" "int" = some false := by decide +kernel
theorem kb_ns : kitB "NoneType" "str" = some false := by decide +kernel
theorem kb_nb : kitB "NoneType" "bool" = some false := by decide +kernel
theorem g_sl {r : V → Option Int → Option Int → Hp → VK → Prop} {tl th : TO} (q : te σ H fun x H1 => tl σ H1 fun l H2 => th σ H2 fun u H3 => r x l u H3 Q) : tSl r te tl th σ H Q := q
theorem g_noPart {QO : Option Int → Hp → Prop} (q : QO none H) : tNoPart σ H QO := q
theorem g_part {QO : Option Int → Hp → Prop} (q : te σ H fun x H1 => ∃ i, x = .int i ∧ QO (some i) H1) : tPart te σ H QO := q
theorem g_int {p : Int → Prop} (q : p i) : ∃ k, V.int i = .int k ∧ p k := ⟨i, rfl, q⟩
theorem g_m1 {r : V → List V → Hp → VK → Prop} (q : ta σ H fun x H1 => (∃ a, x = .str a) ∧ tb σ H1 fun y H2 => r x [y] H2 Q) : tM1 r ta tb σ H Q := q
theorem g_m0 {r : V → List V → Hp → VK → Prop} (q : ta σ H fun x H1 => (∃ a, x = .str a) ∧ r x [] H1 Q) : tM0 r ta σ H Q := q
theorem g_lc {wi : TI} {g : TG} {tt : TT} {vs : List Nat} (q : wi σ H fun J H1 => ∀ D, H1 D = none → ∃ W : Nat → Nat → Hp → Prop, (∃ m, W 0 m (upd H1 D (.lst []))) ∧ ∀ i m H, W i m H →
  (J.stop i H ∧ Q (.ref D) H) ∨ (J.go i H ∧ ∃ Nx : Hp → Prop, (∀ H', Nx H' → ∃ m', m' < m ∧ W (i + 1) m' H') ∧ ∀ x H', J.yld i H x H' → g x (wipe σ vs) H' fun σ2 H2 => wipe σ2 vs = wipe σ vs ∧ tt σ2 H2 fun b H3 =>
    if b = true then te σ2 H3 fun y H4 => ∃ acc, H4 D = some (.lst acc) ∧ acc.length < sizeLine ∧ Nx (upd H4 D (.lst (acc ++ [y]))) else Nx H3)) : tLc wi g tt te vs σ H Q := q
theorem g_rng1 {R : It → Hp → Prop} (q : t σ H fun vs H1 => ∃ j : Int, vs = [.int j] ∧ -(2 ^ 62) ≤ j ∧ j < 2 ^ 62 ∧ R (Itr 0 j.toNat) H1) : iRng1 t σ H R := q
theorem g_ilist {R : It → Hp → Prop} (q : ta σ H fun x H1 => ∃ a, x = .ref a ∧ (∃ xs, SqL K H1 a xs) ∧ R (Itl K a) H1) : iList K ta σ H R := q
theorem g_for {wi : TI} {g : TG} (q : wi σ H fun J H1 => ∃ W : Nat → Nat → L2.St → Hp → Prop, (∃ m, W 0 m σ H1) ∧ ∀ i m σ H, W i m σ H →
  (J.stop i H ∧ D.nx σ H) ∨ (J.go i H ∧ ∃ N : L2.St → Hp → Prop, (∀ σ' H', N σ' H' → ∃ m', m' < m ∧ W (i + 1) m' σ' H') ∧ ∀ x H', J.yld i H x H' → g x σ H' fun σ2 H2 => ts { D with nx := N, ct := N, bk := D.nx } σ2 H2)) : tFor wi g ts D σ H := q
theorem g_cut {M : L2.St → Hp → Prop} (h : ts (mkE M D.rt D.bk D.ct) σ H) (k : ∀ σ' H', M σ' H' → tz D σ' H') : Evl.tCut ts tz D σ H := ⟨M, h, k⟩
theorem g_yes (q : QT true H) : tYes σ H QT := q
/-- a comprehension over a text whose turns leave the heap -/
theorem lc_text {z : Str} {g : TG} {tt : TT} {vs : List Nat} {H1 : Hp} {Dl : Addr} {Qd : Hp → Prop} (f : Nat → Bool) (v : Nat → V) (hz : z.length ≤ 1000000)
    (hs : ∀ (n : Nat) (Hh : Hp) (R : V → Hp → Prop) (S : Hp → Prop), n ∈ z.cps.toList → (∀ p o, p ≠ Dl → H1 p = some o → Hh p = some o) → (f n = true → R (v n) Hh) → (f n = false → S Hh) →
      g (.str ⟨#[n]⟩) (wipe σ vs) Hh fun σ2 H2 => wipe σ2 vs = wipe σ vs ∧ tt σ2 H2 fun b H3 => if b = true then te σ2 H3 R else S H3)
    (hd : ∀ H, (∀ p o, p ≠ Dl → H1 p = some o → H p = some o) → H Dl = some (.lst ((z.cps.toList.filter f).map v)) → Qd H) :
    ∃ W : Nat → Nat → Hp → Prop, (∃ m, W 0 m (upd H1 Dl (.lst []))) ∧ ∀ i m H, W i m H →
      ((Its z).stop i H ∧ Qd H) ∨ ((Its z).go i H ∧ ∃ Nx : Hp → Prop, (∀ H', Nx H' → ∃ m', m' < m ∧ W (i + 1) m' H') ∧ ∀ x H', (Its z).yld i H x H' → g x (wipe σ vs) H' fun σ2 H2 => wipe σ2 vs = wipe σ vs ∧ tt σ2 H2 fun b H3 =>
        if b = true then te σ2 H3 fun y H4 => ∃ acc, H4 Dl = some (.lst acc) ∧ acc.length < sizeLine ∧ Nx (upd H4 Dl (.lst (acc ++ [y]))) else Nx H3) := by
  have hsz : z.cps.size = z.cps.toList.length := Array.length_toList.symm
  refine ⟨fun i m H => m = z.cps.size - i ∧ i ≤ z.cps.size ∧ H Dl = some (.lst (((z.cps.toList.take i).filter f).map v)) ∧ ∀ p o, p ≠ Dl → H1 p = some o → H p = some o, ⟨z.cps.size, by simp, Nat.zero_le _, upd_same, fun p o n h => by rw [upd_ne n]; exact h⟩, ?_⟩
  rintro i m H ⟨rfl, hi, hD, hK⟩
  by_cases hlt : i < z.cps.size
  · refine .inr ⟨hlt, fun H' => H' Dl = some (.lst (((z.cps.toList.take (i + 1)).filter f).map v)) ∧ ∀ p o, p ≠ Dl → H1 p = some o → H' p = some o, fun H' w => ⟨z.cps.size - (i + 1), by omega, rfl, hlt, w⟩, ?_⟩
    rintro x H' ⟨rfl, n, hn, rfl⟩
    have hn' : z.cps.toList[i]? = some n := by rw [Array.getElem?_toList]; exact hn
    have e1 : z.cps.toList.take (i + 1) = z.cps.toList.take i ++ [n] := by rw [List.take_succ, hn']; rfl
    refine hs n H' _ _ (List.mem_of_getElem? hn') hK (fun hf => ?_) (fun hf => ?_)
    · refine ⟨_, hD, ?_, ?_, fun p o n h => by rw [upd_ne n]; exact hK p o n h⟩
      · rw [List.length_map, sizeLine_eq]
        have h1 := List.length_filter_le f (z.cps.toList.take i)
        have h2 : (z.cps.toList.take i).length ≤ z.cps.toList.length := by rw [List.length_take]; omega
        have h3 : z.cps.toList.length ≤ 1000000 := by rw [← hsz]; exact hz
        omega
      · rw [upd_same, e1, List.filter_append, List.filter_cons, if_pos hf, List.map_append]; rfl
    · refine ⟨?_, hK⟩
      rw [hD, e1, List.filter_append, List.filter_cons, if_neg (by rw [hf]; exact Bool.false_ne_true)]
      simp
  · have e : i = z.cps.size := by omega
    subst e
    refine .inl ⟨Nat.le_refl _, hd H hK ?_⟩
    rw [hD, hsz, List.take_length]
theorem join_cps (ys : List Str) : (PySem.Txt.join (Str.ofString "") ys).cps.toList = ys.flatMap fun y => y.cps.toList := by
  show (Builtin.Str.glued (Str.ofString "") ys).cps.toList = _
  rw [StrLaws.glued_eq_join]
  induction ys with
  | nil => rfl
  | cons y r ih =>
    cases r with
    | nil => show y.cps.toList = y.cps.toList ++ []; rw [List.append_nil]
    | cons z r =>
      show ((y ++ Str.ofString "") ++ Str.join (Str.ofString "") (z :: r)).cps.toList = _
      rw [PySem.W.KT.app_list, PySem.W.KT.app_list, ih, show (Str.ofString "").cps.toList = [] by decide +kernel, List.append_nil]
      rfl
theorem g_name {n : Nat} {QS : L2.St → Hp → Prop} (q : QS (σ.set n (some v)) H) : gName n v σ H QS := q
theorem g_inr {R : It → Hp → Prop} {p : Addr} {J : Addr → It} (q : (∃ xs, SqL K H p xs) ∧ R (J p) H) : ∃ a, V.ref p = .ref a ∧ (∃ xs, SqL K H a xs) ∧ R (J a) H := ⟨p, rfl, q⟩
theorem lex_trans {a b c : List Nat} (h : a < b) (k : b < c) : a < c := List.lt_trans h k
theorem lex_asymm {a b : List Nat} (h : a < b) : ¬ b < a := List.lt_asymm h
theorem lex_irrefl (a : List Nat) : ¬ a < a := List.lt_irrefl a
theorem lex_total {a b : List Nat} (h : ¬ a < b) (k : ¬ b < a) : a = b := List.le_antisymm (List.not_lt.mp k) (List.not_lt.mp h)
theorem str_ext {a b : Str} (h : a.cps.toList = b.cps.toList) : a = b := congrArg Str.mk (Array.toList_inj.mp h)
/-- a list, a tuple, a dict -/
def isRef (H : Hp) (p : Addr) : Prop := (∃ xs, H p = some (.lst xs)) ∨ (∃ xs, H p = some (.tup xs)) ∨ ∃ kvs, H p = some (.dK kvs)
theorem isRef.keep {H H' : Hp} {p : Addr} (h : isRef H p) (k : ∀ p o, H p = some o → H' p = some o) : isRef H' p := by
  rcases h with ⟨xs, h⟩ | ⟨xs, h⟩ | ⟨xs, h⟩
  · exact .inl ⟨xs, k _ _ h⟩
  · exact .inr (.inl ⟨xs, k _ _ h⟩)
  · exact .inr (.inr ⟨xs, k _ _ h⟩)
theorem g_isiR {p : Addr} {c : String} (h : isRef H p) (hc : c = "int" ∨ c = "str" ∨ c = "bool") (q : Q (.bl false) H) : rIsi K [.ref p, .ty c] H Q := by
  rcases h with ⟨xs, h⟩ | ⟨xs, h⟩ | ⟨xs, h⟩
  · exact g_isi (.base (.lst h)) (by rcases hc with rfl | rfl | rfl <;> decide +kernel) q
  · exact g_isi (.base (.tup h)) (by rcases hc with rfl | rfl | rfl <;> decide +kernel) q
  · exact g_isi (.base (.dK h)) (by rcases hc with rfl | rfl | rfl <;> decide +kernel) q
/-- a thing of any kind that a law draws -/
def thing (H : Hp) (v : V) : Prop := v = .non ∨ (∃ b, v = .bl b) ∨ (∃ i, v = .int i) ∨ (∃ z : Str, v = .str z ∧ z.length ≤ 100) ∨ ∃ p, v = .ref p ∧ isRef H p
theorem thing.keep {H H' : Hp} {v : V} (h : thing H v) (k : ∀ p o, H p = some o → H' p = some o) : thing H' v := by
  rcases h with h | h | h | h | ⟨p, e, h⟩
  · exact .inl h
  · exact .inr (.inl h)
  · exact .inr (.inr (.inl h))
  · exact .inr (.inr (.inr (.inl h)))
  · exact .inr (.inr (.inr (.inr ⟨p, e, h.keep k⟩)))
def isIntB : V → Bool
  | .int _ => true
  | _ => false
theorem inV_strs {z : Str} {ws : List Str} : inV (.str z) (ws.map V.str) = decide (z ∈ ws) := by
  unfold inV
  rw [List.any_map]
  rw [Bool.eq_iff_iff, decide_eq_true_eq, List.any_eq_true]
  constructor
  · rintro ⟨y, hy, h⟩
    have : y = z := by simpa [eqV] using h
    rw [← this]; exact hy
  · intro h
    exact ⟨z, h, by simp [eqV]⟩
theorem flat_strs (ws : List Str) : (ws.map V.str).all flatV = true := by
  rw [List.all_map, List.all_eq_true]
  intro x _
  rfl
theorem atI_strs {ws : List Str} {i : Int} (h0 : 0 ≤ i) (h1 : i < ws.length) : ∃ z, z ∈ ws ∧ atI (ws.map V.str) i = some (.str z) := by
  obtain ⟨k, rfl⟩ := Int.eq_ofNat_of_zero_le h0
  have hk : k < ws.length := by omega
  refine ⟨ws[k], List.getElem_mem hk, atI_nat ?_⟩
  rw [List.getElem?_map, List.getElem?_eq_getElem hk]; rfl
theorem g_tupE {p : Addr} {R : Prop} (q : R) : R := q
theorem g_test (q : ta σ H fun x H' => ∃ k, x = .bl k ∧ QT k H') : tTest ta σ H QT := q
theorem g_B (q : ta σ H fun x H' => ∃ k, x = .bl k ∧ QT k H') : tB ta σ H QT := q
theorem g_bl {p : Bool → Prop} (q : p a) : ∃ k, V.bl a = .bl k ∧ p k := ⟨a, rfl, q⟩
theorem g_tand (q : c σ H fun d H1 => if d = true then u σ H1 QT else QT false H1) : tAnd c u σ H QT := q
theorem g_tor (q : c σ H fun d H1 => if d = true then QT true H1 else u σ H1 QT) : tOr c u σ H QT := q
theorem g_tnot (q : c σ H fun d H1 => QT (!d) H1) : tNot c σ H QT := q
theorem g_vand (q : ta σ H fun x H1 => ∃ c, x = .bl c ∧ if c = true then tb σ H1 Q else Q (.bl false) H1) : tAndV ta tb σ H Q := q
theorem g_vor (q : ta σ H fun x H1 => ∃ c, x = .bl c ∧ if c = true then Q (.bl true) H1 else tb σ H1 Q) : tOrV ta tb σ H Q := q
theorem g_vnot (q : ta σ H fun x H1 => ∃ c, x = .bl c ∧ Q (.bl (!c)) H1) : tNotV ta σ H Q := q
theorem g_eif (q : c σ H fun d H1 => if d = true then ta σ H1 Q else tb σ H1 Q) : tIf c ta tb σ H Q := q
theorem g_seq (q : ts (mkE (tz D) D.rt D.bk D.ct) σ H) : tSeq ts tz D σ H := q
theorem g_asg {n : Nat} (q : te σ H fun x H1 => D.nx (σ.set n (some x)) H1) : tAsg te (gName n) D σ H := q
theorem g_asgSub {to ti : TE} {s : TSet} (q : te σ H fun x H1 => to σ H1 fun o H2 => ti σ H2 fun i H3 => s o i x H3 fun H4 => D.nx σ H4) : tAsg te (gSub to ti s) D σ H := q
theorem g_ret (q : te σ H D.rt) : tRet te D σ H := q
theorem g_drop (q : te σ H fun _ H1 => D.nx σ H1) : tDrop te D σ H := q
theorem g_if {t1 t2 : TS} (q : c σ H fun d H1 => if d = true then t1 D σ H1 else t2 D σ H1) : tIfS c t1 t2 D σ H := q
theorem g_next (q : D.nx σ H) : tNext D σ H := q
variable {nx : L2.St → Hp → Prop} {rt : VK} {bk ct : L2.St → Hp → Prop}
theorem g_nx (q : nx σ H) : (mkE nx rt bk ct).nx σ H := q
theorem g_rt (q : rt v H) : (mkE nx rt bk ct).rt v H := q
theorem g_bk (q : bk σ H) : (mkE nx rt bk ct).bk σ H := q
theorem g_ct (q : ct σ H) : (mkE nx rt bk ct).ct σ H := q
theorem g_ctS (q : D.ct σ H) : tCont D σ H := q
theorem g_bkS (q : D.bk σ H) : tBreak D σ H := q
/-! sizes, places -/
theorem cpow_small (h0 : 0 ≤ j) (h1 : j ≤ 1000000) (h2 : -(2 ^ 64) < i) (h3 : i < 2 ^ 64) : CPowG i j := by
  have h := PySem.intBits_le_64 h2 h3
  have h4 : ((Builtin.Int.intBits i : Nat) : Int) ≤ 64 := by omega
  refine ⟨h0, ?_⟩
  have h5 : ((Builtin.Int.intBits i : Nat) : Int) * j ≤ 64 * j := Int.mul_le_mul_of_nonneg_right h4 h0
  omega
theorem atI_map {ns : List Int} {n : Int} (h : 0 ≤ n ∧ n < ((ns.map V.int).length : Nat)) : atI (ns.map V.int) n = some (.int (ns.getD n.toNat 0)) := by
  rw [List.length_map] at h
  obtain ⟨h0, h⟩ := h
  obtain ⟨k, rfl⟩ := Int.eq_ofNat_of_zero_le h0
  refine atI_nat ?_
  rw [List.getElem?_map, List.getD_eq_getElem?_getD, Int.toNat_natCast, List.getElem?_eq_getElem (by omega)]
  rfl
theorem atI_get {α : Type} {xs : List α} {n : Nat} {v : α} (h : xs[n]? = some v) : atI xs (n : Int) = some v := atI_nat h
/-! tests -/
theorem g_T {A B : Prop} (h : A) : if true = true then A else B := by rw [if_pos rfl]; exact h
theorem g_F {A B : Prop} (h : B) : if false = true then A else B := by rw [if_neg Bool.false_ne_true]; exact h
theorem g_split {A B : Prop} {k : Bool} (h1 : k = true → A) (h2 : k = false → B) : if k = true then A else B := by
  cases k
  · exact g_F (h2 rfl)
  · exact g_T (h1 rfl)
theorem g_dec {A B p : Prop} [Decidable p] (h1 : p → A) (h2 : ¬ p → B) : if decide p = true then A else B :=
  g_split (fun h => h1 (of_decide_eq_true h)) (fun h => h2 (of_decide_eq_false h))
theorem g_ndec {A B p : Prop} [Decidable p] (h1 : ¬ p → A) (h2 : p → B) : if (!decide p) = true then A else B := by
  by_cases h : p
  · rw [decide_eq_true h]; exact g_F (h2 h)
  · rw [decide_eq_false h]; exact g_T (h1 h)
theorem g_nsplit {A B : Prop} {k : Bool} (h1 : k = false → A) (h2 : k = true → B) : if (!k) = true then A else B := by
  cases k
  · exact g_Fn (h1 rfl)
  · exact g_Tn (h2 rfl)
/-! loops whose turns don't see what follows -/
theorem for_rangeA {lo : Int} {n : Nat} {g : TG} {tb : TS} (Pv : Nat → L2.St → Hp → Prop) (h0 : Pv 0 σ H)
    (hs : ∀ i σ H (D' : Ends), i < n → Pv i σ H → (∀ σ H, Pv (i + 1) σ H → D'.nx σ H) → (∀ σ H, Pv (i + 1) σ H → D'.ct σ H) → (∀ σ H, D.nx σ H → D'.bk σ H) → D'.rt = D.rt → g (.int (lo + i)) σ H fun σ2 H2 => tb D' σ2 H2) (hd : ∀ σ H, Pv n σ H → D.nx σ H) :
    ∃ W : Nat → Nat → L2.St → Hp → Prop, (∃ m, W 0 m σ H) ∧ ∀ i m σ H, W i m σ H →
      ((Itr lo n).stop i H ∧ D.nx σ H) ∨ ((Itr lo n).go i H ∧ ∃ N : L2.St → Hp → Prop, (∀ σ' H', N σ' H' → ∃ m', m' < m ∧ W (i + 1) m' σ' H') ∧ ∀ x H', (Itr lo n).yld i H x H' → g x σ H' fun σ2 H2 => tb { D with nx := N, ct := N, bk := D.nx } σ2 H2) :=
  for_range Pv h0 (fun i σ H hi p => hs i σ H _ hi p (fun _ _ h => h) (fun _ _ h => h) (fun _ _ h => h) rfl) hd
theorem for_listA {p : Addr} {xs : List V} {g : TG} {tb : TS} (Pv : Nat → L2.St → Hp → Prop) (h0 : Pv 0 σ H) (hl : ∀ i σ H, i ≤ xs.length → Pv i σ H → SqL K H p xs)
    (hs : ∀ i x σ H (D' : Ends), xs[i]? = some x → Pv i σ H → (∀ σ H, Pv (i + 1) σ H → D'.nx σ H) → (∀ σ H, Pv (i + 1) σ H → D'.ct σ H) → (∀ σ H, D.nx σ H → D'.bk σ H) → D'.rt = D.rt → g x σ H fun σ2 H2 => tb D' σ2 H2) (hd : ∀ σ H, Pv xs.length σ H → D.nx σ H) :
    ∃ W : Nat → Nat → L2.St → Hp → Prop, (∃ m, W 0 m σ H) ∧ ∀ i m σ H, W i m σ H →
      ((Itl K p).stop i H ∧ D.nx σ H) ∨ ((Itl K p).go i H ∧ ∃ N : L2.St → Hp → Prop, (∀ σ' H', N σ' H' → ∃ m', m' < m ∧ W (i + 1) m' σ' H') ∧ ∀ x H', (Itl K p).yld i H x H' → g x σ H' fun σ2 H2 => tb { D with nx := N, ct := N, bk := D.nx } σ2 H2) :=
  for_list Pv h0 hl (fun i x σ H hi p => hs i x σ H _ hi p (fun _ _ h => h) (fun _ _ h => h) (fun _ _ h => h) rfl) hd
theorem g_cutA {M : L2.St → Hp → Prop} (h : ∀ D' : Ends, (∀ σ H, M σ H → D'.nx σ H) → D'.rt = D.rt → D'.bk = D.bk → D'.ct = D.ct → ts D' σ H) (k : ∀ σ' H', M σ' H' → tz D σ' H') : Evl.tCut ts tz D σ H :=
  ⟨M, h _ (fun _ _ h => h) rfl rfl rfl, k⟩
/-! stores -/
theorem g_setL {p : Addr} {xs : List V} {n : Nat} {QH : Hp → Prop} (h : H p = some (.lst xs)) (e : ixN xs.length i = some n) (q : QH (upd H p (.lst (xs.set n v)))) : rSetL (.ref p) (.int i) v H QH := ⟨p, xs, i, n, rfl, rfl, h, e, q⟩
theorem g_app {p : Addr} {xs : List V} (h : H p = some (.lst xs)) (hz : xs.length < 10000000) (q : Q .non (upd H p (.lst (xs ++ [v])))) : rAppend (.ref p) [v] H Q := ⟨p, xs, v, rfl, rfl, h, by rw [sizeLine_eq]; omega, q⟩
theorem g_bm {r : V → List V → Hp → VK → Prop} {T : String} (q : ta σ H fun x H1 => tyV K T x H1 ∧ t σ H1 fun xs H2 => r x xs H2 Q) : tBM K T r ta t σ H Q := q
theorem tyL {p : Addr} {xs : List V} (h : H p = some (.lst xs)) : tyV K "list" (.ref p) H := .inl ⟨rfl, xs, SqL.of h⟩
theorem g_tyL {p : Addr} {R : Prop} (q : (∃ xs, H p = some (.lst xs)) ∧ R) : tyV K "list" (.ref p) H ∧ R := ⟨let ⟨_, h⟩ := q.1; tyL h, q.2⟩
end
end Tw

set_option Elab.async false
set_option linter.all false
set_option maxRecDepth 100000
namespace Tw
open PySem L2 PySem.Spec
/-- an iterator that goes through xs -/
structure Fits (J : It) (xs : List V) (H : Hp) : Prop where
  go : ∀ i, i < xs.length → J.go i H
  stop : ∀ i, xs.length ≤ i → J.stop i H
  yld : ∀ i x H', J.yld i H x H' → H' = H ∧ xs[i]? = some x
theorem fits_l {K : PySem.W.Frag} {H : Hp} {a : Addr} {xs : List V} (h : SqL K H a xs) : Fits (Itl K a) xs H :=
  ⟨fun i hi => ⟨xs, xs[i], h, by simp [hi]⟩, fun i hi => ⟨xs, h, hi⟩, fun i x H' y => ⟨y.1, y.2 xs h⟩⟩
theorem fits_t {K : PySem.W.Frag} {H : Hp} {a : Addr} {xs : List V} (h : SqT K H a xs) : Fits (Itt K a) xs H :=
  ⟨fun i hi => ⟨xs, xs[i], h, by simp [hi]⟩, fun i hi => ⟨xs, h, hi⟩, fun i x H' y => ⟨y.1, y.2 xs h⟩⟩
theorem take_flat {F : V → List V} {xs : List V} {i : Nat} {x : V} (h : xs[i]? = some x) : (xs.take (i + 1)).flatMap F = (xs.take i).flatMap F ++ F x := by
  rw [List.take_succ, h, List.flatMap_append]
  simp
theorem flat_le {F : V → List V} {xs : List V} {i : Nat} {x : V} (h : xs[i]? = some x) : ((xs.take i).flatMap F ++ F x).length ≤ (xs.flatMap F).length := by
  rw [← take_flat h]
  conv => rhs; rw [← List.take_append_drop (i + 1) xs]
  rw [List.flatMap_append, List.length_append]
  omega
theorem rng_le {F : Nat → List V} {n : Nat} : ∀ {i : Nat}, i < n → ((List.range i).flatMap F ++ F i).length ≤ ((List.range n).flatMap F).length := by
  intro i h
  have e : (List.range (i + 1)).flatMap F = (List.range i).flatMap F ++ F i := by rw [List.range_succ, List.flatMap_append]; simp
  rw [← e]
  obtain ⟨m, rfl⟩ : ∃ m, n = (i + 1) + m := ⟨n - (i + 1), by omega⟩
  have e2 : List.range (i + 1 + m) = List.range (i + 1) ++ (List.range m).map (i + 1 + ·) := List.range_add
  rw [e2, List.flatMap_append, List.length_append]
  omega
section
variable {J : It} {g g1 : TG} {tt tt1 : TT} {wi1 : TI} {te : TE} {vs vs1 : List Nat} {σ : L2.St} {H1 : Hp} {D : Addr} {Qd : Hp → Prop}
/-- a comprehension with two fors and no ifs: what the inner ones hold, one behind the other -/
theorem lc2_flat (xs : List V) (F : V → List V) (hD : H1 D = none) (hJ : ∀ H, (∀ q o, H1 q = some o → H q = some o) → Fits J xs H) (hlen : (xs.flatMap F).length ≤ 1000000)
    (hs : ∀ x Hh (R : L2.St → It → Hp → Prop) (S : Hp → Prop), x ∈ xs → (∀ q o, H1 q = some o → Hh q = some o) →
      (∀ σ2 J1 H', (∀ q o, Hh q = some o → H' q = some o) → (∀ H'', (∀ q o, q ≠ D → H' q = some o → H'' q = some o) → Fits J1 (F x) H'') →
        (∀ y Hk (R1 : V → Hp → Prop) (S1 : Hp → Prop), y ∈ F x → R1 y Hk → g1 y (wipe σ2 vs1) Hk fun σ3 H5 => wipe σ3 vs1 = wipe σ2 vs1 ∧ tt1 σ3 H5 fun b H6 => if b = true then te σ3 H6 R1 else S1 H6) → R σ2 J1 H') →
      g x (wipe σ vs) Hh fun σ2 H2 => wipe σ2 vs = wipe σ vs ∧ tt σ2 H2 fun b H3 => if b = true then wi1 σ2 H3 (R σ2) else S H3)
    (hd : ∀ H, (∀ q o, H1 q = some o → H q = some o) → H D = some (.lst (xs.flatMap F)) → Qd H) :
    ∃ W : Nat → Nat → Hp → Prop, (∃ m, W 0 m (upd H1 D (.lst []))) ∧ ∀ i m H, W i m H →
      (J.stop i H ∧ Qd H) ∨ (J.go i H ∧ ∃ Nx : Hp → Prop, (∀ H', Nx H' → ∃ m', m' < m ∧ W (i + 1) m' H') ∧ ∀ x H', J.yld i H x H' → g x (wipe σ vs) H' fun σ2 H2 => wipe σ2 vs = wipe σ vs ∧ tt σ2 H2 fun b H3 =>
        if b = true then wi1 σ2 H3 fun J1 H4 => ∃ W1 : Nat → Nat → Hp → Prop, (∃ m, W1 0 m H4) ∧ ∀ j k H, W1 j k H →
          (J1.stop j H ∧ Nx H) ∨ (J1.go j H ∧ ∃ Nx1 : Hp → Prop, (∀ H', Nx1 H' → ∃ k', k' < k ∧ W1 (j + 1) k' H') ∧ ∀ x H', J1.yld j H x H' → g1 x (wipe σ2 vs1) H' fun σ3 H5 => wipe σ3 vs1 = wipe σ2 vs1 ∧ tt1 σ3 H5 fun b H6 =>
            if b = true then te σ3 H6 fun y H7 => ∃ acc, H7 D = some (.lst acc) ∧ acc.length < sizeLine ∧ Nx1 (upd H7 D (.lst (acc ++ [y]))) else Nx1 H6)
        else Nx H3) := by
  refine ⟨fun i m H => m = xs.length - i ∧ i ≤ xs.length ∧ H D = some (.lst ((xs.take i).flatMap F)) ∧ ∀ q o, H1 q = some o → H q = some o, ⟨xs.length, by simp, Nat.zero_le _, upd_same, fun q o h => by rw [upd_ne (ne_of_none h hD)]; exact h⟩, ?_⟩
  rintro i m H ⟨rfl, hi, hDl, hK⟩
  have fi := hJ H hK
  by_cases hlt : i < xs.length
  · refine .inr ⟨fi.go i hlt, fun H' => H' D = some (.lst ((xs.take (i + 1)).flatMap F)) ∧ ∀ q o, H1 q = some o → H' q = some o, fun H' w => ⟨xs.length - (i + 1), by omega, rfl, hlt, w⟩, ?_⟩
    intro x H' hy
    obtain ⟨rfl, hx⟩ := fi.yld i x H' hy
    refine hs x H' (fun σ2 J1 H4 => _) (fun H3 => _) (List.mem_of_getElem? hx) hK fun σ2 J1 H4 ext f1 turn => ?_
    have e1 := take_flat (F := F) hx
    have l1 := flat_le (F := F) hx
    refine ⟨fun j k H => k = (F x).length - j ∧ j ≤ (F x).length ∧ H D = some (.lst ((xs.take i).flatMap F ++ (F x).take j)) ∧ ∀ q o, q ≠ D → H4 q = some o → H q = some o, ⟨(F x).length, by simp, Nat.zero_le _, by rw [ext _ _ hDl, List.take_zero, List.append_nil], fun q o _ h => h⟩, ?_⟩
    rintro j k Hj ⟨rfl, hj, hDj, hKj⟩
    have fj := f1 Hj hKj
    by_cases hjl : j < (F x).length
    · refine .inr ⟨fj.go j hjl, fun H' => H' D = some (.lst ((xs.take i).flatMap F ++ (F x).take (j + 1))) ∧ ∀ q o, q ≠ D → H4 q = some o → H' q = some o, fun H' w => ⟨(F x).length - (j + 1), by omega, rfl, hjl, w⟩, ?_⟩
      intro y Hy hyy
      obtain ⟨rfl, hyx⟩ := fj.yld j y Hy hyy
      refine turn y Hy (fun y H7 => _) (fun H6 => _) (List.mem_of_getElem? hyx) ⟨_, hDj, ?_, ?_, fun q o n h => by rw [upd_ne n]; exact hKj q o n h⟩
      · rw [List.length_append] at l1 ⊢
        have : ((F x).take j).length ≤ (F x).length := by rw [List.length_take]; omega
        rw [sizeLine_eq]
        omega
      · rw [upd_same, List.take_succ, hyx, List.append_assoc]
        rfl
    · have e : j = (F x).length := by omega
      subst e
      refine .inl ⟨fj.stop _ (Nat.le_refl _), ?_, fun q o h => hKj q o (ne_of_none h hD) (ext q o (hK q o h))⟩
      rw [hDj, List.take_length, e1]
  · have e : i = xs.length := by omega
    subst e
    refine .inl ⟨fi.stop _ (Nat.le_refl _), hd H hK ?_⟩
    rw [hDl, List.take_length]
/-- the same, the inner ones told by their places: what the inner ones hold, one behind the other -/
theorem lc2_flatI (xs : List V) (F : Nat → List V) (hD : H1 D = none) (hJ : ∀ H, (∀ q o, H1 q = some o → H q = some o) → Fits J xs H) (hlen : ((List.range xs.length).flatMap F).length ≤ 1000000)
    (hs : ∀ i x Hh (R : L2.St → It → Hp → Prop) (S : Hp → Prop), xs[i]? = some x → Hh D ≠ none → (∀ q o, H1 q = some o → Hh q = some o) →
      (∀ σ2 J1 H', (∀ q o, Hh q = some o → H' q = some o) → (∀ H'', (∀ q o, q ≠ D → H' q = some o → H'' q = some o) → Fits J1 (F i) H'') →
        (∀ y Hk (R1 : V → Hp → Prop) (S1 : Hp → Prop), y ∈ F i → R1 y Hk → g1 y (wipe σ2 vs1) Hk fun σ3 H5 => wipe σ3 vs1 = wipe σ2 vs1 ∧ tt1 σ3 H5 fun b H6 => if b = true then te σ3 H6 R1 else S1 H6) → R σ2 J1 H') →
      g x (wipe σ vs) Hh fun σ2 H2 => wipe σ2 vs = wipe σ vs ∧ tt σ2 H2 fun b H3 => if b = true then wi1 σ2 H3 (R σ2) else S H3)
    (hd : ∀ H, (∀ q o, H1 q = some o → H q = some o) → H D = some (.lst ((List.range xs.length).flatMap F)) → Qd H) :
    ∃ W : Nat → Nat → Hp → Prop, (∃ m, W 0 m (upd H1 D (.lst []))) ∧ ∀ i m H, W i m H →
      (J.stop i H ∧ Qd H) ∨ (J.go i H ∧ ∃ Nx : Hp → Prop, (∀ H', Nx H' → ∃ m', m' < m ∧ W (i + 1) m' H') ∧ ∀ x H', J.yld i H x H' → g x (wipe σ vs) H' fun σ2 H2 => wipe σ2 vs = wipe σ vs ∧ tt σ2 H2 fun b H3 =>
        if b = true then wi1 σ2 H3 fun J1 H4 => ∃ W1 : Nat → Nat → Hp → Prop, (∃ m, W1 0 m H4) ∧ ∀ j k H, W1 j k H →
          (J1.stop j H ∧ Nx H) ∨ (J1.go j H ∧ ∃ Nx1 : Hp → Prop, (∀ H', Nx1 H' → ∃ k', k' < k ∧ W1 (j + 1) k' H') ∧ ∀ x H', J1.yld j H x H' → g1 x (wipe σ2 vs1) H' fun σ3 H5 => wipe σ3 vs1 = wipe σ2 vs1 ∧ tt1 σ3 H5 fun b H6 =>
            if b = true then te σ3 H6 fun y H7 => ∃ acc, H7 D = some (.lst acc) ∧ acc.length < sizeLine ∧ Nx1 (upd H7 D (.lst (acc ++ [y]))) else Nx1 H6)
        else Nx H3) := by
  refine ⟨fun i m H => m = xs.length - i ∧ i ≤ xs.length ∧ H D = some (.lst ((List.range i).flatMap F)) ∧ ∀ q o, H1 q = some o → H q = some o, ⟨xs.length, by simp, Nat.zero_le _, upd_same, fun q o h => by rw [upd_ne (ne_of_none h hD)]; exact h⟩, ?_⟩
  rintro i m H ⟨rfl, hi, hDl, hK⟩
  have fi := hJ H hK
  by_cases hlt : i < xs.length
  · refine .inr ⟨fi.go i hlt, fun H' => H' D = some (.lst ((List.range (i + 1)).flatMap F)) ∧ ∀ q o, H1 q = some o → H' q = some o, fun H' w => ⟨xs.length - (i + 1), by omega, rfl, hlt, w⟩, ?_⟩
    intro x H' hy
    obtain ⟨rfl, hx⟩ := fi.yld i x H' hy
    refine hs i x H' (fun σ2 J1 H4 => _) (fun H3 => _) hx (by rw [hDl]; exact nofun) hK fun σ2 J1 H4 ext f1 turn => ?_
    have e1 : (List.range (i + 1)).flatMap F = (List.range i).flatMap F ++ F i := by rw [List.range_succ, List.flatMap_append]; simp
    have l1 : ((List.range i).flatMap F ++ F i).length ≤ ((List.range xs.length).flatMap F).length := rng_le hlt
    refine ⟨fun j k H => k = (F i).length - j ∧ j ≤ (F i).length ∧ H D = some (.lst ((List.range i).flatMap F ++ (F i).take j)) ∧ ∀ q o, q ≠ D → H4 q = some o → H q = some o, ⟨(F i).length, by simp, Nat.zero_le _, by rw [ext _ _ hDl, List.take_zero, List.append_nil], fun q o _ h => h⟩, ?_⟩
    rintro j k Hj ⟨rfl, hj, hDj, hKj⟩
    have fj := f1 Hj hKj
    by_cases hjl : j < (F i).length
    · refine .inr ⟨fj.go j hjl, fun H' => H' D = some (.lst ((List.range i).flatMap F ++ (F i).take (j + 1))) ∧ ∀ q o, q ≠ D → H4 q = some o → H' q = some o, fun H' w => ⟨(F i).length - (j + 1), by omega, rfl, hjl, w⟩, ?_⟩
      intro y Hy hyy
      obtain ⟨rfl, hyx⟩ := fj.yld j y Hy hyy
      refine turn y Hy (fun y H7 => _) (fun H6 => _) (List.mem_of_getElem? hyx) ⟨_, hDj, ?_, ?_, fun q o n h => by rw [upd_ne n]; exact hKj q o n h⟩
      · rw [List.length_append] at l1 ⊢
        have : ((F i).take j).length ≤ (F i).length := by rw [List.length_take]; omega
        rw [sizeLine_eq]
        omega
      · rw [upd_same, List.take_succ, hyx, List.append_assoc]
        rfl
    · have e : j = (F i).length := by omega
      subst e
      refine .inl ⟨fj.stop _ (Nat.le_refl _), ?_, fun q o h => hKj q o (ne_of_none h hD) (ext q o (hK q o h))⟩
      rw [hDj, List.take_length, e1]
  · have e : i = xs.length := by omega
    subst e
    refine .inl ⟨fi.stop _ (Nat.le_refl _), hd H hK ?_⟩
    exact hDl
/-- a comprehension whose turns leave the heap -/
theorem lc_map (xs : List V) (v : V → V) (hD : H1 D = none) (hJ : ∀ H, (∀ q o, H1 q = some o → H q = some o) → Fits J xs H) (hlen : xs.length ≤ 1000000)
    (hs : ∀ x Hh (R : V → Hp → Prop) (S : Hp → Prop), x ∈ xs → (∀ q o, H1 q = some o → Hh q = some o) → R (v x) Hh →
      g x (wipe σ vs) Hh fun σ2 H2 => wipe σ2 vs = wipe σ vs ∧ tt σ2 H2 fun b H3 => if b = true then te σ2 H3 R else S H3)
    (hd : ∀ H, (∀ q o, H1 q = some o → H q = some o) → H D = some (.lst (xs.map v)) → Qd H) :
    ∃ W : Nat → Nat → Hp → Prop, (∃ m, W 0 m (upd H1 D (.lst []))) ∧ ∀ i m H, W i m H →
      (J.stop i H ∧ Qd H) ∨ (J.go i H ∧ ∃ Nx : Hp → Prop, (∀ H', Nx H' → ∃ m', m' < m ∧ W (i + 1) m' H') ∧ ∀ x H', J.yld i H x H' → g x (wipe σ vs) H' fun σ2 H2 => wipe σ2 vs = wipe σ vs ∧ tt σ2 H2 fun b H3 =>
        if b = true then te σ2 H3 fun y H4 => ∃ acc, H4 D = some (.lst acc) ∧ acc.length < sizeLine ∧ Nx (upd H4 D (.lst (acc ++ [y]))) else Nx H3) := by
  refine ⟨fun i m H => m = xs.length - i ∧ i ≤ xs.length ∧ H D = some (.lst ((xs.take i).map v)) ∧ ∀ q o, H1 q = some o → H q = some o, ⟨xs.length, by simp, Nat.zero_le _, upd_same, fun q o h => by rw [upd_ne (ne_of_none h hD)]; exact h⟩, ?_⟩
  rintro i m H ⟨rfl, hi, hDl, hK⟩
  have fi := hJ H hK
  by_cases hlt : i < xs.length
  · refine .inr ⟨fi.go i hlt, fun H' => H' D = some (.lst ((xs.take (i + 1)).map v)) ∧ ∀ q o, H1 q = some o → H' q = some o, fun H' w => ⟨xs.length - (i + 1), by omega, rfl, hlt, w⟩, ?_⟩
    intro x H' hy
    obtain ⟨rfl, hx⟩ := fi.yld i x H' hy
    refine hs x H' (fun y H4 => _) (fun H3 => _) (List.mem_of_getElem? hx) hK ⟨_, hDl, ?_, ?_, fun q o h => by rw [upd_ne (ne_of_none h hD)]; exact hK q o h⟩
    · rw [List.length_map, List.length_take, sizeLine_eq]
      omega
    · rw [upd_same, List.take_succ, hx, List.map_append]
      rfl
  · have e : i = xs.length := by omega
    subst e
    refine .inl ⟨fi.stop _ (Nat.le_refl _), hd H hK ?_⟩
    rw [hDl, List.take_length]
variable {K : PySem.W.Frag} {Q : VK}
theorem g_lc2 {wi : TI} (q : wi σ H1 fun J H1 => ∀ D, H1 D = none → ∃ W : Nat → Nat → Hp → Prop, (∃ m, W 0 m (upd H1 D (.lst []))) ∧ ∀ i m H, W i m H →
      (J.stop i H ∧ Q (.ref D) H) ∨ (J.go i H ∧ ∃ Nx : Hp → Prop, (∀ H', Nx H' → ∃ m', m' < m ∧ W (i + 1) m' H') ∧ ∀ x H', J.yld i H x H' → g x (wipe σ vs) H' fun σ2 H2 => wipe σ2 vs = wipe σ vs ∧ tt σ2 H2 fun b H3 =>
        if b = true then wi1 σ2 H3 fun J1 H4 => ∃ W1 : Nat → Nat → Hp → Prop, (∃ m, W1 0 m H4) ∧ ∀ j k H, W1 j k H →
          (J1.stop j H ∧ Nx H) ∨ (J1.go j H ∧ ∃ Nx1 : Hp → Prop, (∀ H', Nx1 H' → ∃ k', k' < k ∧ W1 (j + 1) k' H') ∧ ∀ x H', J1.yld j H x H' → g1 x (wipe σ2 vs1) H' fun σ3 H5 => wipe σ3 vs1 = wipe σ2 vs1 ∧ tt1 σ3 H5 fun b H6 =>
            if b = true then te σ3 H6 fun y H7 => ∃ acc, H7 D = some (.lst acc) ∧ acc.length < sizeLine ∧ Nx1 (upd H7 D (.lst (acc ++ [y]))) else Nx1 H6)
        else Nx H3)) : tLc2 wi g tt wi1 g1 tt1 te vs vs1 σ H1 Q := q
end
end Tw

set_option Elab.async false
set_option linter.all false
set_option maxRecDepth 100000
set_option maxHeartbeats 4000000
/-! sets of values of one kind, by the list of their members: made of a list, sorted -/
namespace Tw
open PySem L2 PySem.Spec PyProof.Rows
/-- a list that is an arrangement of mapped things is mapped of an arrangement -/
theorem perm_unmap {α β : Type} {f : α → β} {l : List β} {xs : List α} (p : l.Perm (xs.map f)) : ∃ ys : List α, l = ys.map f ∧ ys.Perm xs := by
  generalize hm : xs.map f = m at p
  induction p generalizing xs with
  | nil =>
    have : xs = [] := List.map_eq_nil_iff.mp hm
    exact ⟨[], rfl, by rw [this]⟩
  | cons b _ ih =>
    cases xs with
    | nil => cases hm
    | cons x xs =>
      injection hm with h1 h2
      obtain ⟨ys, e, p⟩ := ih h2
      exact ⟨x :: ys, by rw [List.map_cons, ← e, h1], p.cons x⟩
  | swap b c l =>
    match xs, hm with
    | x :: y :: r, hm =>
      injection hm with h1 h2
      injection h2 with h2 h3
      exact ⟨y :: x :: r, by rw [List.map_cons, List.map_cons, h1, h2, h3], List.Perm.swap x y r⟩
  | trans _ _ ih1 ih2 =>
    obtain ⟨ys, e, p⟩ := ih2 hm
    obtain ⟨zs, e2, p2⟩ := ih1 e.symm
    exact ⟨zs, e2, p2.trans p⟩
section
variable {P : Program} {w : World} {κ : Type} [DecidableEq κ] {knd : PySem.KeyKind P w κ}
/-- the set at a: its members by key and value, in the order in which its table keeps them -/
def SetL (knd : PySem.KeyKind P w κ) (h : Heap) (a : Addr) (L : List (κ × Value)) : Prop :=
  ∃ o es ep t, h.get? a = some o ∧ o.ExactSet ∧ o.data = .set es ep t ∧ es.toList = L.map (fun p => (knd.hash p.1, p.2)) ∧ (∀ p ∈ L, knd.is p.1 p.2 = true ∧ p.2.scannable = true) ∧ (L.map (·.1)).Nodup ∧
    es.size < scanBound ∧ t.fits es.size = true ∧ Ris t.place.toList ∧ (w.params.followText "set-order" = true ∨ t.led = true)
theorem SetL.at {h h' : Heap} {a : Addr} {L : List (κ × Value)} (S : SetL knd h a L) (k : ∀ o, h.get? a = some o → h'.get? a = some o) : SetL knd h' a L := by
  obtain ⟨o, es, ep, t, g, r⟩ := S
  exact ⟨o, es, ep, t, k o g, r⟩
theorem SetL.len {h : Heap} {a : Addr} {L : List (κ × Value)} (S : SetL knd h a L) : L.length < scanBound := by
  obtain ⟨o, es, ep, t, g, gx, gd, ge, gi, gn, gb, _⟩ := S
  have : es.toList.length = L.length := by rw [ge, List.length_map]
  rw [Array.length_toList] at this
  omega
theorem elems_of {L : List (κ × Value)} (gi : ∀ p ∈ L, knd.is p.1 p.2 = true ∧ p.2.scannable = true) : ElemsOf knd (L.map fun p => (knd.hash p.1, p.2)) := fun e he => by
  obtain ⟨p, hp, rfl⟩ := List.mem_map.mp he
  exact ⟨⟨p.1, (gi p hp).1, rfl⟩, (gi p hp).2⟩
variable {A : Around} {E : Value → Shared → Prop} {s : Shared} {a : Addr}
/-- the table laid anew and kept -/
theorem keep_laid {o : Obj} {es : Array (Int × Value)} {ep : Nat} {t : SetTable} (g : s.heap.get? a = some o) (gx : o.ExactSet) (gd : o.data = .set es ep t) {es2 : Array (Int × Value)} {t2 : SetTable} {L2' : List (κ × Value)}
    (ge : es2.toList = L2'.map (fun p => (knd.hash p.1, p.2))) (gi : ∀ p ∈ L2', knd.is p.1 p.2 = true ∧ p.2.scannable = true) (gn : (L2'.map (·.1)).Nodup) (gb : es2.size < scanBound) (gf : t2.fits es2.size = true) (gr : Ris t2.place.toList)
    (gl : w.params.followText "set-order" = true ∨ t2.led = true) {Q : Unit → Shared → Prop} (hQ : ∀ h', Heap.SameBut a s.heap h' → (∃ o', h'.get? a = some o' ∧ o'.ExactSet ∧ o'.data = .set es2 (ep + 1) t2) → SetL knd h' a L2' → Q () { s with heap := h' }) :
    wpAny (model P w) A (storeSet a es2 t2) Q E s := by
  refine wpAny_storeSet_of g gd ?_ (fits_of_scanBound gb)
  have g2 := store_at (es' := es2) (t' := t2) g gd
  exact hQ _ (Heap.SameBut.update s.heap a (Obj.putSet es2 t2)) ⟨_, g2, gx, rfl⟩ ⟨_, es2, _, t2, g2, gx, rfl, ge, gi, gn, gb, gf, gr, gl⟩
/-- a table that has been laid is kept, and laid out wider where it is too full -/
theorem keep_wide {o : Obj} {es : Array (Int × Value)} {ep : Nat} {t : SetTable} (g : s.heap.get? a = some o) (gx : o.ExactSet) (gd : o.data = .set es ep t) {es2 : Array (Int × Value)} {t2 : SetTable} {M : List (κ × Value)}
    (ge : es2.toList = M.map (fun p => (knd.hash p.1, p.2))) (gi : ∀ p ∈ M, knd.is p.1 p.2 = true ∧ p.2.scannable = true) (gn : (M.map (·.1)).Nodup) (gb : es2.size < scanBound) (gf : t2.fits es2.size = true) (gr : Ris t2.place.toList)
    (gl : w.params.followText "set-order" = true ∨ t2.led = true) {was : Bool} {told : Bool → Sem Unit} (ht : ∀ (b : Bool) (s1 : Shared) (Q1 : Unit → Shared → Prop), Q1 () s1 → wpAny (model P w) A (told b) Q1 E s1) {Q : Option Bool → Shared → Prop}
    (hQ : ∀ h' M', Heap.SameBut a s.heap h' → SetL knd h' a M' → M'.Perm M → Q (some true) { s with heap := h' }) :
    wpAny (model P w) A (storeSet a es2 t2 >>= fun _ => if (!was && t2.tooFull) = true then told (relayAll t2 es2 (SetTable.grown es2.size)).2.2 >>= fun _ => storeSet a (relayAll t2 es2 (SetTable.grown es2.size)).1 (relayAll t2 es2 (SetTable.grown es2.size)).2.1 >>= fun _ => pure (some true) else pure (some true)) Q E s := by
  refine wpAny_bind (keep_laid g gx gd ge gi gn gb gf gr gl fun h1 sb1 ⟨o1, g1, gx1, gd1⟩ S1 => ?_)
  by_cases full : (!was && t2.tooFull) = true
  · rw [if_pos full]
    have p1 := relayAll_perm t2 es2 (SetTable.grown es2.size)
    have p2 := relayAll_fits t2 es2 (SetTable.grown es2.size)
    have p3 := relayAll_ris t2 es2 (SetTable.grown es2.size)
    have p4 := relayAll_led t2 es2 (SetTable.grown es2.size)
    rw [ge] at p1
    obtain ⟨M', e', pm⟩ := perm_unmap p1
    have sz : (relayAll t2 es2 (SetTable.grown es2.size)).1.size < scanBound := by
      have q := congrArg List.length e'
      rw [Array.length_toList, List.length_map, pm.length_eq] at q
      have q2 := congrArg List.length ge
      rw [Array.length_toList, List.length_map] at q2
      omega
    refine wpAny_bind (ht _ _ _ ?_)
    refine wpAny_bind (keep_laid (s := { s with heap := h1 }) g1 gx1 gd1 e' (fun p hp => gi p (pm.mem_iff.mp hp)) ((pm.map _).nodup_iff.mpr gn) sz p2 p3 (gl.imp id fun z => by rw [p4]; exact z) fun h2 sb2 _ S2 => ?_)
    exact wpAny_pure (hQ h2 M' (sb1.trans sb2) S2 pm)
  · rw [if_neg full]
    exact wpAny_pure (hQ h1 M sb1 S1 (List.Perm.refl M))
/-- one more member -/
theorem set_one_more {L : List (κ × Value)} (S : SetL knd s.heap a L) {k : κ} {v : Value} (hk : knd.is k v = true) (hv : v.scannable = true) (room : L.length + 1 < scanBound) {Q : Bool → Shared → Prop}
    (hQ : ∀ h' L' b, Heap.SameBut a s.heap h' → SetL knd h' a L' → (∀ j, j ∈ L'.map (·.1) ↔ j ∈ L.map (·.1) ∨ j = k) → L'.length ≤ L.length + 1 → Q b { s with heap := h' }) :
    wpAny (model P w) A (setAddHashed a v (knd.hash k)) Q E s := by
  obtain ⟨o, es, ep, t, g, gx, gd, ge, gi, gn, gb, gf, gr, gl⟩ := id S
  have el : ElemsOf knd es.toList := by rw [ge]; exact elems_of gi
  unfold setAddHashed setAddHashedIn
  refine wpAny_holding ?_
  refine wpAny_bind (wpAny_setState_of g gd gf ?_)
  dsimp only
  rw [byScan_of hv gb el, if_pos rfl]
  refine wpAny_bind ?_
  unfold setAddByScan
  refine wpAny_bind (wpAny_rule ?_)
  refine wpAny_bind (wpAny_setScan_of hk g gd gf el ?_)
  cases hf : es.toList.findIdx? (fun e => knd.is k e.2) with
  | some j =>
    dsimp only
    have hin : k ∈ L.map (·.1) := by
      obtain ⟨hj, pj, _⟩ := List.findIdx?_eq_some_iff_getElem.mp hf
      have hm : es.toList[j] ∈ L.map (fun p => (knd.hash p.1, p.2)) := by rw [← ge]; exact List.getElem_mem hj
      obtain ⟨p, hp, e⟩ := List.mem_map.mp hm
      have pj' : knd.is k p.2 = true := by rw [← e] at pj; exact pj
      exact List.mem_map.mpr ⟨p, hp, knd.inj p.2 _ _ (gi p hp).1 pj'⟩
    exact wpAny_pure (wpAny_pure (hQ s.heap L false (Heap.SameBut.refl a s.heap) S (fun i => ⟨.inl, fun z => z.elim id fun e => by rw [e]; exact hin⟩) (Nat.le_succ _)))
  | none =>
    dsimp only
    have out : k ∉ L.map (·.1) := fun z => by
      obtain ⟨p, hp, e⟩ := List.mem_map.mp z
      have c := List.findIdx?_eq_none_iff.mp hf (knd.hash p.1, p.2) (by rw [ge]; exact List.mem_map.mpr ⟨p, hp, rfl⟩)
      have c' : knd.is k p.2 = false := c
      rw [← e, (gi p hp).1] at c'
      cases c'
    have gave : ∀ (b : Bool) (s1 : Shared) (Q1 : Unit → Shared → Prop), Q1 () s1 → wpAny (model P w) A (match b with | true => rule "set.scan.the-table-gave-way" | false => pure ()) Q1 E s1 := by
      intro b s1 Q1 q
      cases b
      · exact wpAny_pure q
      · exact wpAny_rule q
    have l1 := layNew_perm t es (knd.hash k) v
    have l2 := layNew_fits t es (knd.hash k) v
    have l3 := layNew_ris t es (knd.hash k) v gr
    have l4 := layNew_led t es (knd.hash k) v
    generalize layNew t es (knd.hash k) v = Z at l1 l2 l3 l4 ⊢
    obtain ⟨es1, t1, was, gv⟩ := Z
    dsimp only at l1 l2 l3 l4 ⊢
    have l1' : es1.toList.Perm (((k, v) :: L).map fun p => (knd.hash p.1, p.2)) := by
      rw [Array.toList_push, ge] at l1
      exact l1.trans (List.perm_append_singleton _ _)
    obtain ⟨M, em, pm⟩ := perm_unmap l1'
    have gi1 : ∀ p ∈ M, knd.is p.1 p.2 = true ∧ p.2.scannable = true := fun p hp => by
      rcases List.mem_cons.mp (pm.mem_iff.mp hp) with z | z
      · rw [z]; exact ⟨hk, hv⟩
      · exact gi p z
    have gn1 : (M.map (·.1)).Nodup := (pm.map _).nodup_iff.mpr (List.nodup_cons.mpr ⟨out, gn⟩)
    have sz : es1.size = L.length + 1 := by
      have q := congrArg List.length em
      rw [Array.length_toList, List.length_map, pm.length_eq] at q
      exact q
    have ld : w.params.followText "set-order" = true ∨ t1.led = true := gl.imp id fun z => by rw [l4]; exact z
    have fin : ∀ h' M', Heap.SameBut a s.heap h' → SetL knd h' a M' → M'.Perm M → Q true { s with heap := h' } := fun h' M' sb S' pm' => by
      refine hQ h' M' true sb S' (fun j => ?_) ?_
      · rw [((pm'.trans pm).map (·.1)).mem_iff, List.map_cons, List.mem_cons]
        exact Or.comm
      · rw [(pm'.trans pm).length_eq]; exact Nat.le_refl _
    refine wpAny_bind (gave _ _ _ ?_)
    have told : ∀ (b : Bool) (s1 : Shared) (Q1 : Unit → Shared → Prop), Q1 () s1 → wpAny (model P w) A (match b with | true => rule "set.scan.the-table-gave-way" | false => pure ()) Q1 E s1 := gave
    by_cases pl : t1.plain = true
    · rw [if_pos pl]
      refine wpAny_bind ?_
      rw [hashByValue_scannable 8 hv]
      refine wpAny_pure ?_
      cases plainKind v with
      | true => exact keep_wide g gx gd em gi1 gn1 (by rw [sz]; exact room) l2 l3 ld told fun h' M' sb S' pm' => wpAny_pure (fin h' M' sb S' pm')
      | false => exact keep_wide g gx gd em gi1 gn1 (by rw [sz]; exact room) (SetTable.fits_plain_off l2) l3 ld told fun h' M' sb S' pm' => wpAny_pure (fin h' M' sb S' pm')
    · rw [if_neg pl]
      refine wpAny_bind (wpAny_pure ?_)
      exact keep_wide g gx gd em gi1 gn1 (by rw [sz]; exact room) l2 l3 ld told fun h' M' sb S' pm' => wpAny_pure (fin h' M' sb S' pm')
end
end Tw

set_option Elab.async false
set_option linter.all false
set_option maxRecDepth 100000
set_option maxHeartbeats 4000000
namespace Tw
open PySem L2 PySem.Spec PyProof.Rows
section
variable {prog : Program} {w : World} {A : Around} {R : Result → Shared → Prop} {I : Addr} {fp wr : List Addr} {G : Array GenState → Array GenState → Prop} {n : Nat} {Pw : Nat → Value → Prop} {St : Nat → Shared → Prop}
/-- the set at a holds just these texts -/
def Holds (prog : Program) (w : World) (h : Heap) (a : Addr) (xs : List Str) : Prop := ∃ L, SetL (PySem.strKind prog w) h a L ∧ (∀ j, j ∈ L.map (·.1) ↔ j ∈ xs) ∧ L.length ≤ xs.length
/-- the texts that are walked all come in -/
theorem all_come_in (W : WalksS prog w A.in1 I fp wr G n Pw St) (S : Addr) (off : S ∉ fp) (xs : List Str) (hn : xs.length = n) (few : n + 1 < scanBound) (gives : ∀ i v, Pw i v → ∃ t, v = .str (xs.getD i Str.empty) t) :
    ∀ (m i : Nat) (s : Shared), i + m = n → St i s → Holds prog w s.heap S (xs.take i) → (∀ s', Moved (S :: wr) G s s' → Holds prog w s'.heap S xs → R (.ok (.ret .none)) s') →
      codeAny (model prog w) A (.builtin "set.update.loop" ⟨[.ref S, .ref I], []⟩) R s := by
  have offw : S ∉ wr := fun z => off (W.sub _ z)
  have more : ∀ b ∈ wr, b ∈ S :: wr := fun b z => List.mem_cons_of_mem _ z
  intro m
  induction m with
  | zero =>
    intro i s him st hS fin
    have e : i = n := by omega
    subst e
    refine codeAny_builtin PyProof.Rows.F.entry_set_update_loop ?_
    rw [Around.under_plainId PyProof.Rows.F.plain_set_update_loop _]
    show wpAny _ A.in1 (pyNext (.ref I) >>= _) _ _ s
    refine wpAny_bind (W.done s _ _ st fun s1 mv => ?_)
    show wpAny _ A.in1 (ret Value.none) _ _ s1
    obtain ⟨L, hL, mem, len⟩ := hS
    rw [← hn, List.take_length] at mem len
    exact wpAny_pure (fin s1 (mv.mono more) ⟨L, hL.at fun o g => mv.heap S o offw g, mem, len⟩)
  | succ m ih =>
    intro i s him st hS fin
    refine codeAny_builtin PyProof.Rows.F.entry_set_update_loop ?_
    rw [Around.under_plainId PyProof.Rows.F.plain_set_update_loop _]
    show wpAny _ A.in1 (pyNext (.ref I) >>= _) _ _ s
    refine wpAny_bind (W.item i s _ _ (by omega) st fun v s1 hv st1 mv => ?_)
    obtain ⟨t, rfl⟩ := gives i v hv
    obtain ⟨L, hL, mem, len⟩ := hS
    have hL1 : SetL (PySem.strKind prog w) s1.heap S L := hL.at fun o g => mv.heap S o offw g
    have hx : xs[i]? = some (xs.getD i Str.empty) := by rw [List.getD_eq_getElem?_getD, List.getElem?_eq_getElem (show i < xs.length by omega)]; rfl
    generalize hz : xs.getD i Str.empty = z at hx ⊢
    have tk : xs.take (i + 1) = xs.take i ++ [z] := by rw [List.take_succ, hx]; rfl
    have lt : (xs.take i).length = i := by rw [List.length_take]; omega
    show wpAny _ A.in1 (holding [Value.str z t] (setAdd S (.str z t)) >>= _) _ _ s1
    refine wpAny_bind (wpAny_holding ?_)
    unfold setAdd
    refine wpAny_holding (wpAny_bind ((PySem.strKind prog w).pyHash (k := z) (strKind_is _ _ _ _) ?_))
    refine set_one_more (s := { s1 with toks := s1.toks + 1 }) hL1 (k := z) (strKind_is _ _ _ _) rfl (by omega) fun h2 L2' b sb hL2 mem2 len2 => ?_
    have go : ∀ s2 : Shared, s2 = { s1 with toks := s1.toks + 1, heap := h2 } → codeAny (model prog w) A (.builtin "set.update.loop" ⟨[.ref S, .ref I], []⟩) R s2 := fun s2 e => by
      subst e
      refine ih (i + 1) _ (by omega) (W.frame _ s1 _ _ st1 (Nat.le_succ _) fun b hb o g => ?_) ⟨L2', hL2, fun j => ?_, ?_⟩ fun s3 mv3 hS3 => ?_
      · exact (sb.2 b (fun z => off (by rw [← z]; exact hb))).trans g
      · rw [mem2, mem, tk, List.mem_append, List.mem_singleton]
      · rw [tk, List.length_append, List.length_singleton, lt]; rw [lt] at len; omega
      · refine fin s3 (Moved.trans W.gtrans ((mv.mono more).then_heap (Nat.le_succ _) fun b o hb g => ?_) mv3) hS3
        exact (sb.2 b (fun z => hb (by rw [z]; exact List.mem_cons_self))).trans g
    exact wpAny_pure ⟨plainId_quiet PyProof.Rows.F.plain_set_update_loop _, go _ rfl⟩
end
section
variable {prog : Program} {w : World} {A : Around} {E : Value → Shared → Prop} {s : Shared}
/-- an empty set just laid -/
abbrev bareSet (w : World) : Obj := { cls := .type "set", dict := none, data := .set #[] 0 (.fresh 0 0 (!w.params.followText "set-order")) }
theorem bare_holds {h : Heap} {a : Addr} (g : h.get? a = some (bareSet w)) : Holds prog w h a [] := by
  refine ⟨[], ⟨_, #[], 0, _, g, ⟨rfl, rfl, rfl⟩, rfl, rfl, (fun p hp => nomatch hp), List.nodup_nil, by decide, by rfl, List.Pairwise.nil, ?_⟩, fun j => Iff.rfl, Nat.le_refl _⟩
  show _ ∨ (!w.params.followText "set-order") = true
  cases w.params.followText "set-order"
  · exact .inr rfl
  · exact .inl rfl
/-- set.__init__(S, xs) on a bare set -/
theorem init_from_list {S l : Addr} {items : Array Value} {xs : List Str} (hh : A.handled = none) (hS : s.heap.get? S = some (bareSet w)) (hl : s.heap.IsList l items) (ne : S ≠ l) (hi : PyProof.Rows.StrsAre items.toList xs) (few : xs.length + 1 < scanBound) {Q : Value → Shared → Prop}
    (h : ∀ (h' : Heap) (tk : Nat), Holds prog w h' S xs → (∀ b o, b ≠ S → s.heap.get? b = some o → h'.get? b = some o) → Q .none { s with heap := h', toks := tk }) :
    codeAny (model prog w) A (.call (.builtin "set.__init__") ⟨[.ref S, .ref l], []⟩) (wants Q E) s := by
  have tS : s.TypeIs (.ref S) "set" := ⟨_, hS, rfl⟩
  refine codeAny_call_builtin PySem.F.called_set.init.plain PySem.F.entry_set_init (check_set_init_1 tS ?_)
  obtain ⟨ol, hol, hcl, nl, hdl⟩ := id hl
  obtain ⟨ocls, odict, odata, oslots⟩ := ol
  simp only at hcl hdl
  subst hcl; subst hdl
  have f1 := PySem.F.sub_list_set
  have f2 := PySem.F.sub_list_frozenset
  have f3 : (Value.type "list" == Value.type "dict") = false := by decide
  unfold Builtin.«set.__init__» noKeywords Builtin.Frozenset.updateFrom
  generalize hPI : pyIter = PI
  wp_walk
  subst hPI
  refine wpAny_pyIter_list hl ?_
  refine wpAny_bind (wpAny_runValue ?_)
  have lS : l < s.heap.objs.size := Heap.lt_size hol
  have sS : S < s.heap.objs.size := Heap.lt_size hS
  have quiet : A.in1.in1.handled = none := by simp [hh]
  have sz : xs.length = items.size := by rw [← StrsAre.len_eq hi, Array.length_toList]
  have gv : ∀ (i : Nat) (v : Value), items[i]? = some v → ∃ t, v = .str (xs.getD i Str.empty) t := fun i v hv => SS.strs_at hi i v (by rw [Array.getElem?_toList]; exact hv)
  refine all_come_in ((Walks.list quiet s.heap.objs.size l (Nat.ne_of_lt lS) items).toS) S ?_ xs sz (by omega) gv items.size 0 _ (by omega) ?_ ?_ fun s1 mv hH => ?_
  · intro z
    rcases List.mem_cons.mp z with z | z
    · exact absurd z (Nat.ne_of_lt sS)
    · exact ne (List.mem_singleton.mp z)
  · exact ⟨⟨_, Heap.get?_push_size _ rfl, rfl, rfl⟩, hl.push _⟩
  · exact bare_holds (Heap.get?_push_of_some _ hS)
  · obtain ⟨h1, g1, d1, k1, o1⟩ := s1
    have e1 : g1 = s.gens := mv.gens
    have e2 : d1 = s.drawn := mv.drawn
    have e3 : o1 = s.os := mv.os
    subst e1; subst e2; subst e3
    refine wpAny_pure ?_
    show wpAny _ _ (ret Value.none) _ _ _
    refine wpAny_pure (h h1 k1 hH fun b o nb g => mv.heap b o ?_ (Heap.get?_push_of_some _ g))
    intro z
    rcases List.mem_cons.mp z with z | z
    · exact nb z
    · exact absurd (List.mem_singleton.mp z) (Nat.ne_of_lt (Heap.lt_size g))
/-- set(xs), xs a list of texts -/
theorem set_of_texts {l : Addr} {items : Array Value} {xs : List Str} {Q : Value → Shared → Prop} (hh : A.handled = none) (hl : s.heap.IsList l items) (hi : PyProof.Rows.StrsAre items.toList xs) (few : xs.length + 1 < scanBound)
    (h : ∀ (h' : Heap) (tk : Nat), Holds prog w h' s.heap.objs.size xs → (∀ b o, s.heap.get? b = some o → h'.get? b = some o) → Q (.ref s.heap.objs.size) { s with heap := h', toks := tk }) :
    wpAny (model prog w) A (call (.type "set") [.ref l]) Q E s := by
  obtain ⟨c, tl, hmro⟩ := PySem.F.called_set.mro
  have made := PySem.F.called_set.made
  have subs := PySem.F.called_set.sub
  have noTy := PySem.F.called_set.notType
  have canC := PySem.F.called_set.canCreate
  have tcal := PySem.F.typeCall_set_1 (.ref l)
  refine wpAny_call (codeAny_of_tree ?_)
  show wpAny _ _ (callAny (.type "set") _) _ _ _
  refine wpAny_pure ⟨Code.quiet_builtin _ (by decide +kernel), codeAny_builtin PySem.F.entry_type_call ?_⟩
  rw [Around.under_plain (weight_type_call_type "set" [.ref l] []) rfl]
  repeat (any_goals (first | assumption | wp_step))
  refine codeAny_mono (code_set_led1 (.ref l) (E := E) (Q₁ := fun ob s1 => ob = .ref s.heap.objs.size ∧ s1 = { s with heap := s.heap.push (bareSet w) }) ⟨rfl, rfl⟩) fun r s1 hr => ?_
  cases r with
  | error e => exact hr
  | ok fl =>
    cases fl with
    | ret ob =>
      obtain ⟨rfl, rfl⟩ := hr
      have gS : (s.heap.push (bareSet w)).get? s.heap.objs.size = some (bareSet w) := Heap.get?_push_size _ rfl
      have tS : Shared.TypeIs { s with heap := s.heap.push (bareSet w) } (.ref s.heap.objs.size) "set" := ⟨_, gS, rfl⟩
      have il := PySem.F.called_set.init.lookup
      have ib := PySem.F.called_set.init.bind (.ref s.heap.objs.size)
      repeat (any_goals (first | assumption | wp_step))
      obtain ⟨ol, hol, _⟩ := id hl
      have lS : l < s.heap.objs.size := Heap.lt_size hol
      refine codeAny_mono (init_from_list (prog := prog) (w := w) (E := E) (s := { s with heap := s.heap.push (bareSet w) }) (xs := xs) (Q := fun r s2 => r = .none ∧ ∃ h' tk, s2 = { s with heap := h', toks := tk } ∧ Holds prog w h' s.heap.objs.size xs ∧ ∀ b o, s.heap.get? b = some o → h'.get? b = some o) ?_ gS (hl.push _) (Nat.ne_of_gt lS) hi few fun h' tk hH k => ⟨rfl, h', tk, rfl, hH, fun b o g => k b o (Nat.ne_of_lt (Heap.lt_size g)) (Heap.get?_push_of_some _ g)⟩) fun r2 s2 hr2 => ?_
      · simp [hh]
      · cases r2 with
        | error e => exact hr2
        | ok fl2 =>
          cases fl2 with
          | ret r =>
            obtain ⟨rfl, h', tk, rfl, hH, k⟩ := hr2
            repeat (any_goals (first | assumption | wp_step))
            exact h _ _ hH k
          | _ => exact hr2.elim
    | _ => exact hr.elim
end
end Tw

set_option Elab.async false
set_option linter.all false
set_option maxRecDepth 100000
set_option maxHeartbeats 4000000
namespace Tw
open PySem L2 PySem.Spec PyProof.Rows
section
variable {prog : Program} {w : World} {A : Around} {E : Value → Shared → Prop} {s : Shared}
theorem list_sort_texts {a : Addr} {vs : List Value} {ss : List Str} {n : Nat} {P : Fin → Shared → Prop} (ho : s.heap.get? a = some (seqObj "list" vs.toArray n)) (hS : StrsAre vs ss) (hL : vs.length ≤ sizeLine)
    (h : ∀ (out : Array Value) (ss' : List Str), StrsAre out.toList ss' → ss'.Perm ss → sortedS ss' = true → P (.done (.ret .none)) { s with heap := sortedHeap s.heap a vs out }) :
    wpAny (model prog w) A (Builtin.«list.sort» ⟨[.ref a], []⟩) P E s := by
  refine list_sort_treeKAny strKind_oneLt ho hS.keysOf (fun v₁ v₂ rest e => keyKind_strs (by rw [← e]; exact hS)) hL fun st' hp hs => ?_
  obtain ⟨ss', h1, h2, h3⟩ := sorted_out_str hS hp hs
  exact h _ ss' h1 h2 h3
theorem strs_of_keys : ∀ {M : List (Str × Value)}, (∀ p ∈ M, (PySem.strKind prog w).is p.1 p.2 = true) → StrsAre (M.map (·.2)) (M.map (·.1))
  | [], _ => .nil
  | p :: M, h => by
    have hp := h p List.mem_cons_self
    obtain ⟨x, v⟩ := p
    have : ∃ t, v = .str x t := Value.isStrOf_shape hp
    obtain ⟨t, rfl⟩ := this
    exact .cons x t (strs_of_keys fun q hq => h q (List.mem_cons_of_mem _ hq))
/-- sorted(a), a a set of texts -/
theorem sorted_of_texts {a : Addr} {xs : List Str} {Q : Value → Shared → Prop} (hH : Holds prog w s.heap a xs) (hh : A.handled = none)
    (hQ : ∀ s' p (out : Array Value) (c : Nat) (zs : List Str), (∀ b o, s.heap.get? b = some o → s'.heap.get? b = some o) → s'.gens = s.gens → s'.os = s.os → s.heap.objs.size ≤ p →
      s'.heap.get? p = some (seqObj "list" out c) → StrsAre out.toList zs → sortedS zs = true → zs.Nodup → (∀ k, k ∈ zs ↔ k ∈ xs) → zs.length ≤ sizeLine → Q (.ref p) s') :
    wpAny (model prog w) A (call (.builtin "sorted") [.ref a]) Q E s := by
  obtain ⟨L, ⟨o, es, ep, t, ho, hex, hd, ge, gi, nd, hb, hf, hr, hl⟩, hm, hn⟩ := hH
  refine Calls.call_function_entry kind_sorted plain_sorted entry_sorted (args_sorted1 _) ?_
  unfold Builtin.«sorted»
  refine wpAny_bind (m := checkCount "sorted" 1 1 _) (wpAny_pure ?_)
  refine wpAny_bind (collect_set (A := A.in1) hh ⟨o, ho, hex.1, hd⟩ hf hb hr hl fun s1 vs k1 hz g1 o1 pm => ?_)
  have ge2 : es.toList.map (·.2) = L.map (·.2) := by rw [ge, List.map_map]; rfl
  rw [ge2] at pm
  obtain ⟨M, rfl, pM⟩ := perm_unmap pm
  have kM : ∀ p ∈ M, (PySem.strKind prog w).is p.1 p.2 = true := fun p hp => (gi p (pM.mem_iff.mp hp)).1
  have hS := strs_of_keys kM
  have hlen : M.length = es.size := by rw [pM.length_eq, ← Array.length_toList, ge, List.length_map]
  have hsl : (M.map (·.2)).length ≤ sizeLine := by
    rw [List.length_map, hlen]
    exact Nat.le_of_lt (Nat.lt_of_lt_of_le hb (by decide))
  refine wpAny_bind (wpAny_newList ?_ hsl)
  have hoL : (s1.heap.push (seqObj "list" (M.map (·.2)).toArray 0)).get? s1.heap.objs.size = some (seqObj "list" (M.map (·.2)).toArray 0) := Heap.get?_push_size _ rfl
  refine wpAny_bind (wpAny_holding (wpAny_call_entry slot_list_sort ⟨_, hoL, rfl⟩ entry_list_sort (list_sort_texts hoL hS hsl fun out zs a1 a2 a3 => ⟨_, rfl, ?_⟩) (args_list_sort _)))
  obtain ⟨c, hc⟩ := sortedHeap_at (vs := M.map (·.2)) (out := out) hoL
  have pn : zs.Perm (L.map (·.1)) := a2.trans (pM.map _)
  refine wpAny_pure ⟨_, rfl, hQ _ s1.heap.objs.size out c zs (fun b u e => ?_) g1 o1 hz hc a1 a3 (pn.nodup_iff.mpr nd) (fun k => by rw [pn.mem_iff, hm k]) ?_⟩
  · have q := k1 b u e
    have hlt := Heap.lt_size q
    show (sortedHeap (s1.heap.push (seqObj "list" (M.map (·.2)).toArray 0)) s1.heap.objs.size (M.map (·.2)) out).get? b = some u
    rw [sortedHeap_old (Nat.ne_of_lt hlt) (by rw [size_push']; exact Nat.lt_succ_of_lt hlt)]
    exact Heap.get?_push_of_some _ q
  · rw [pn.length_eq, List.length_map]
    rw [List.length_map, pM.length_eq] at hsl
    exact hsl
end
section
variable {X : Cx}
/-- sorted(set(xs)), xs a list of texts: a new list, each text once, in order -/
def tSortedSet (K : PySem.W.Frag) (ta : TE) : TE := fun σ H Q => ta σ H fun x H1 => ∃ (l : Addr) (xs : List Str), x = .ref l ∧ SqL K H1 l (xs.map V.str) ∧ xs.length + 1 < scanBound ∧
  ∀ (zs : List Str) (p : Addr), sortedS zs = true → zs.Nodup → (∀ k, k ∈ zs ↔ k ∈ xs) → H1 p = none → Q (.ref p) (upd H1 p (.lst (zs.map V.str)))
theorem pe_sortedSet {K : PySem.W.Frag} {a : Expr} {ta : TE} {p p2 q pos : Pos} (hK : X.K = K) (hc : X.calm = true) (hg : Gl X "sorted") (hm : X.mg "sorted" = none) (hg2 : Gl X "set") (hm2 : X.mg "set" = none) (ha : PE X a ta)
    (na : starEach [a] X.env = (false, eval a X.env) :: starEach [] X.env := by rfl) : PE X (.Call (.Name "sorted" p) [.Call (.Name "set" p2) [a] [] q] [] pos) (tSortedSet K ta) := by
  subst hK
  refine ⟨fun pins s σ H Q I h => ?_⟩
  refine Call_ (ld_blt I hg hm boot_sorted ?_)
  refine PyProof.Rows.callWith_builtin1 (PyProof.Rows.args_cons ?_ rfl) rfl rfl
  refine Call_ (ld_blt I hg2 hm2 boot_set ?_)
  refine PyProof.Rows.callWith_type1 (PyProof.Rows.args_cons (thn (ha.run pins s σ H _ I h) fun v s1 ⟨x, H1, I1, r1, q1⟩ => PyProof.Rows.args_nil ?_) na) na rfl
  obtain ⟨l, xs, rfl, hq, h1, q1⟩ := q1
  cases r1
  obtain ⟨its, r, pl, hz⟩ := I1.list hq
  refine set_of_texts (I1.ok.hd hc) pl.isList (by simpa using strsAre_of r) h1 fun h' tk hS hk => ?_
  refine PyProof.Rows.args_nil ?_
  have I2 : Inv X pins σ H1 { s1 with heap := h', toks := tk } := I1.kept fun b o e => hk b o e
  refine sorted_of_texts hS (I2.ok.hd hc) fun s' p out c zs k g o hp hg so ord nd hm hl => ?_
  have hlen : (zs.map V.str).length ≤ sizeLine := by rw [List.length_map]; exact hl
  have hn : H1 p = none := I2.hok.fresh hp
  have J : Inv X pins σ (upd H1 p (.lst (zs.map V.str))) { ({ s1 with heap := h', toks := tk } : Shared) with heap := s'.heap, gens := s'.gens, drawn := s'.drawn, toks := s'.toks } :=
    I2.call (ch := []) (Un.laid k hp hn) (I2.hok.laid k hp ⟨hlen, out.toList, c, vals_of_strs so, hg⟩) (by rw [g]; exact I2.bare) (fun _ z => nomatch z)
  have e : s' = { ({ s1 with heap := h', toks := tk } : Shared) with heap := s'.heap, gens := s'.gens, drawn := s'.drawn, toks := s'.toks } := by
    cases s'
    cases s1
    cases o
    rfl
  rw [e]
  exact ⟨.ref p, _, J, rfl, q1 zs p ord nd hm hn⟩
end
end Tw

set_option Elab.async false
set_option linter.all false
set_option maxRecDepth 100000
namespace Tw
open PySem L2 PySem.Spec
/-- the address that a name of the text stands for -/
def cadr (mg : Str → Option Value) (x : Str) : Addr := match mg x with
  | some (.ref a) => a
  | _ => 0
theorem cadr_of {mg : Str → Option Value} {x : Str} {a : Addr} (h : mg x = some (.ref a)) : cadr mg x = a := by
  unfold cadr
  rw [h]
/-- a method of a class of the text with its promise -/
structure DefM (P : Program) (w : World) (K : PySem.W.Frag) (mg : Str → Option Value) (base : Heap) (k : Nat) (C : Addr) (m : Str) (ps : List Str) (sp : Sp) : Prop where
  ex : ∃ (f : Addr) (fd : FuncData), FnOk P w K mg base CX0 k f fd ps sp ∧ Meth K C m f ∧ Binds K fd ps []
/-- where a method of the text stands -/
structure HereM (K : PySem.W.Frag) (C : Addr) (m qual : Str) (st : Stmt) (ps : List Str) (f : Addr) (fd : FuncData) : Prop where
  fn : Fun K m qual st f fd
  me : Meth K C m f
  bd : Binds K fd ps []
/-- a maker of a class of the text with its promise -/
structure DefC (P : Program) (w : World) (K : PySem.W.Frag) (mg : Str → Option Value) (base : Heap) (k : Nat) (C : Addr) (ps : List Str) (sp : Sp) : Prop where
  ex : ∃ (f : Addr) (fd : FuncData), FnOk P w K mg base CX0 k f fd ps sp ∧ Mk K C f ∧ Binds K fd ps []
structure HereC (K : PySem.W.Frag) (C : Addr) (qual : Str) (st : Stmt) (ps : List Str) (f : Addr) (fd : FuncData) : Prop where
  fn : Fun K "__init__" qual st f fd
  mkr : Mk K C f
  bd : Binds K fd ps []
theorem HereM.def {P : Program} {w : World} {K : PySem.W.Frag} {mg : Str → Option Value} {base : Heap} {k : Nat} {C : Addr} {m qual : Str} {st : Stmt} {ps : List Str} {sp : Sp} {f : Addr} {fd : FuncData} (h : HereM K C m qual st ps f fd) (F : FnOk P w K mg base CX0 k f fd ps sp) : DefM P w K mg base k C m ps sp :=
  ⟨f, fd, F, h.me, h.bd⟩
theorem HereC.def {P : Program} {w : World} {K : PySem.W.Frag} {mg : Str → Option Value} {base : Heap} {k : Nat} {C : Addr} {qual : Str} {st : Stmt} {ps : List Str} {sp : Sp} {f : Addr} {fd : FuncData} (h : HereC K C qual st ps f fd) (F : FnOk P w K mg base CX0 k f fd ps sp) : DefC P w K mg base k C ps sp :=
  ⟨f, fd, F, h.mkr, h.bd⟩
section
variable {X : Cx} {k j : Nat} {C : Addr} {x m : Str} {p pos apos : Pos} {o e : Expr} {es : List Expr} {ps : List Str} {sp : Sp} {ta : TE} {t : TA}
def tMe (C : Addr) (m : Str) (sp : Sp) (ta : TE) (t : TA) : TE := fun σ H Q => ta σ H fun x H1 => ∃ a dx fs, x = .ref a ∧ H1 a = some (.ins C dx fs) ∧ fs.lookup m = none ∧ t σ H1 fun vs H2 => sp (x :: vs) H2 Q E0
theorem tMe_eq : tMeth C m sp [] E0 ta t = tMe C m sp ta t := by
  funext σ H Q
  unfold tMeth tMe
  simp only [List.append_nil]
def tNew (C : Addr) (sp : Sp) (t : TA) : TE := fun σ H Q => t σ H fun vs H1 => ∀ x dx, H1 x = none → H1 dx = none → dx ≠ x → sp (.ref x :: vs) (upd (upd H1 dx (.own x)) x (.ins C dx [])) (fun v H2 => v = .non ∧ Q (.ref x) H2) E0
theorem tNew_eq : tMake C sp [] E0 t = tNew C sp t := by
  funext σ H Q
  unfold tMake tNew
  simp only [List.append_nil]
theorem pe_never : PE X e (fun _ _ _ => False) := ⟨fun _ _ _ _ _ _ h => h.elim⟩
theorem pe_fldG {K : PySem.W.Frag} {f : Str} (hK : X.K = K) (he : PE X e ta) (hb : attributeBase e f X.env (eval e X.env) = eval e X.env) : PE X (.Attribute e f pos) (tFld K ta f) := by
  subst hK
  exact pe_fld he hb
theorem pi_tupG {K : PySem.W.Frag} {tg : Expr} (hK : X.K = K) (he : PE X e ta) : PI X tg e (iTup K ta) := by
  subst hK
  exact pi_tup he
theorem pi_listG {K : PySem.W.Frag} {tg : Expr} (hK : X.K = K) (he : PE X e ta) : PI X tg e (iList K ta) := by
  subst hK
  exact pi_list he
theorem pe_me {pl : Sem Bool} (he : PE X o ta) (c : Cls X.K C) (D : DefM X.prog X.w X.K X.mg X.base k C m ps sp) (hr : Room j X.A) (ha : PA X (e :: es) t) (hk : k ≤ j := by decide)
    (hst : starEach (e :: es) X.env = (false, eval e X.env) :: starEach es X.env := by rfl) (hpl : (backTo pos (starEach es X.env)).any (·.1) = false := by rfl)
    (ht : eval (.Call (.Attribute o m apos) (e :: es) [] pos) X.env = (do
      let ov ← eval o X.env
      standAt apos.atName
      let (f, first) ← holding [ov] (getMethod ov m pl)
      callWith pos f first (backTo pos (starEach (e :: es) X.env)) (backToKw pos (keywordEach [] X.env))) := by rfl) : PE X (.Call (.Attribute o m apos) (e :: es) [] pos) (tMe C m sp ta t) := by
  obtain ⟨f, fd, F, hm, hb⟩ := D.ex
  rw [← tMe_eq]
  exact pe_meth he c hm F (hr.mono hk) hb .nil pass0 ha hst hpl ht
theorem pe_me0 {pl : Sem Bool} (he : PE X o ta) (c : Cls X.K C) (D : DefM X.prog X.w X.K X.mg X.base k C m ps sp) (hr : Room j X.A) (hk : k ≤ j := by decide)
    (ht : eval (.Call (.Attribute o m apos) [] [] pos) X.env = (do
      let ov ← eval o X.env
      standAt apos.atName
      let (f, first) ← holding [ov] (getMethod ov m pl)
      callWith pos f first (backTo pos (starEach [] X.env)) (backToKw pos (keywordEach [] X.env))) := by rfl) : PE X (.Call (.Attribute o m apos) [] [] pos) (tMe C m sp ta tNil) := by
  obtain ⟨f, fd, F, hm, hb⟩ := D.ex
  rw [← tMe_eq]
  exact pe_meth0 he c hm F (hr.mono hk) hb .nil pass0 ht
theorem pe_new (D : DefC X.prog X.w X.K X.mg X.base k C ps sp) (hr : Room j X.A) (hg : Gl X x) (hm : X.mg x = some (.ref C)) (ha : PA X (e :: es) t) (hk : k + 1 ≤ j := by decide) (hdb : (x == ("__debug__" : Str)) = false := by decide)
    (he : starEach (e :: es) X.env = (false, eval e X.env) :: starEach es X.env := by rfl) (hpl : (backTo pos (starEach es X.env)).any (·.1) = false := by rfl) : PE X (.Call (.Name x p) (e :: es) [] pos) (tNew C sp t) := by
  obtain ⟨f, fd, F, mk, hb⟩ := D.ex
  rw [← tNew_eq]
  exact pe_make mk F (hr.mono hk) hg hm hb .nil pass0 ha hdb he hpl
end
section
variable {K : PySem.W.Frag} {σ : L2.St} {H : Hp} {Q : VK} {QT : Bool → Hp → Prop} {QA : List V → Hp → Prop} {D : Ends} {ta tv te : TE} {t : TA} {sp : Sp} {C : Addr} {f m : Str}
theorem g_sortedSet (q : ta σ H fun x H1 => ∃ (l : Addr) (xs : List Str), x = .ref l ∧ SqL K H1 l (xs.map V.str) ∧ xs.length + 1 < scanBound ∧
  ∀ (zs : List Str) (p : Addr), PyProof.Rows.sortedS zs = true → zs.Nodup → (∀ k, k ∈ zs ↔ k ∈ xs) → H1 p = none → Q (.ref p) (upd H1 p (.lst (zs.map V.str)))) : tSortedSet K ta σ H Q := q
theorem g_dget {td ty : TE} (q : td σ H fun x H1 => ty σ H1 fun y H2 => ∃ a v, x = .ref a ∧ DGet H2 a y (some v) ∧ Q v H2) : tDGet td ty σ H Q := q
theorem g_din {td ty : TE} (q : ty σ H fun y H1 => td σ H1 fun x H2 => ∃ a o, x = .ref a ∧ DGet H2 a y o ∧ Q (.bl o.isSome) H2) : tDIn ty td σ H Q := q
theorem g_dnotin {td ty : TE} (q : ty σ H fun y H1 => td σ H1 fun x H2 => ∃ a o, x = .ref a ∧ DGet H2 a y o ∧ Q (.bl (!o.isSome)) H2) : tDNotIn ty td σ H Q := q
theorem g_neB {a b : Bool} (q : Q (.bl (!decide (a = b))) H) : rNe (.bl a) (.bl b) H Q := ⟨rfl, by rw [dB]; exact q⟩
theorem g_itup {R : It → Hp → Prop} (q : ta σ H fun x H1 => ∃ a, x = .ref a ∧ (∃ xs, SqT K H1 a xs) ∧ R (Itt K a) H1) : iTup K ta σ H R := q
theorem for_tupA {p : Addr} {xs : List V} {g : TG} {tb : TS} (Pv : Nat → L2.St → Hp → Prop) (h0 : Pv 0 σ H) (hl : ∀ i σ H, i ≤ xs.length → Pv i σ H → SqT K H p xs)
    (hs : ∀ i x σ H (D' : Ends), xs[i]? = some x → Pv i σ H → (∀ σ H, Pv (i + 1) σ H → D'.nx σ H) → (∀ σ H, Pv (i + 1) σ H → D'.ct σ H) → (∀ σ H, D.nx σ H → D'.bk σ H) → D'.rt = D.rt → g x σ H fun σ2 H2 => tb D' σ2 H2) (hd : ∀ σ H, Pv xs.length σ H → D.nx σ H) :
    ∃ W : Nat → Nat → L2.St → Hp → Prop, (∃ m, W 0 m σ H) ∧ ∀ i m σ H, W i m σ H →
      ((Itt K p).stop i H ∧ D.nx σ H) ∨ ((Itt K p).go i H ∧ ∃ N : L2.St → Hp → Prop, (∀ σ' H', N σ' H' → ∃ m', m' < m ∧ W (i + 1) m' σ' H') ∧ ∀ x H', (Itt K p).yld i H x H' → g x σ H' fun σ2 H2 => tb { D with nx := N, ct := N, bk := D.nx } σ2 H2) :=
  for_tup Pv h0 hl (fun i x σ H hi p => hs i x σ H _ hi p (fun _ _ h => h) (fun _ _ h => h) (fun _ _ h => h) rfl) hd
theorem g_me (q : ta σ H fun x H1 => ∃ a dx fs, x = .ref a ∧ H1 a = some (.ins C dx fs) ∧ fs.lookup m = none ∧ t σ H1 fun vs H2 => sp (x :: vs) H2 Q E0) : tMe C m sp ta t σ H Q := q
theorem g_new (q : t σ H fun vs H1 => ∀ x dx, H1 x = none → H1 dx = none → dx ≠ x → sp (.ref x :: vs) (upd (upd H1 dx (.own x)) x (.ins C dx [])) (fun v H2 => v = .non ∧ Q (.ref x) H2) E0) : tNew C sp t σ H Q := q
theorem g_fld (q : ta σ H fun x H1 => ∃ a C dx fs v, x = .ref a ∧ H1 a = some (.ins C dx fs) ∧ Cls K C ∧ NoAttr K C f ∧ fs.lookup f = some v ∧ Q v H1) : tFld K ta f σ H Q := q
theorem g_sfld (q : tv σ H fun y H1 => ta σ H1 fun x H2 => ∃ a C dx fs, x = .ref a ∧ H2 a = some (.ins C dx fs) ∧ Cls K C ∧ NoAttr K C f ∧ fs.length < 1000 ∧ D.nx σ (upd H2 a (.ins C dx (putF f y fs)))) : sFld K ta tv f D σ H := q
end
end Tw

set_option Elab.async false
set_option linter.all false
set_option maxRecDepth 100000
namespace Tw
open PySem L2 PySem.Spec
section
variable {X : Cx} {k j : Nat} {C : Addr} {ps : List Str} {sp : Sp}
/-- two instances of a class of the text, by its own operator -/
def rOwn2 (C : Addr) (sp : Sp) : R2 := fun x y H Q => ∃ (a b dx dy : Addr) (fs gs : List (Str × V)), x = .ref a ∧ y = .ref b ∧ H a = some (.ins C dx fs) ∧ H b = some (.ins C dy gs) ∧ sp [x, y] H Q E0
/-- an instance, by its class's own operator -/
def rOwn1 (C : Addr) (sp : Sp) : V → Hp → VK → Prop := fun x H Q => ∃ (a dx : Addr) (fs : List (Str × V)), x = .ref a ∧ H a = some (.ins C dx fs) ∧ sp [x] H Q E0
theorem back_of {pins : List (Addr × Obj)} {σ : L2.St} {Q : VK} {v : Value} {s : Shared} (h : EP X pins σ Q v s) : PySem.W.CmpBack (EP X pins σ Q) v s := by
  obtain ⟨x, H', I, r, q⟩ := h
  cases v with
  | notImplemented => cases x <;> first | (rcases r with ⟨t, h⟩; cases h; done) | (cases r; done)
  | _ => exact ⟨x, H', I, r, q⟩
theorem op_own2 {op : Operator} (D : DefM X.prog X.w X.K X.mg X.base k C (PySem.dunder op.info.2) ps sp) (hr : Room j X.A) (hf : PySem.W.selfFirst X.K C = true) (hk : k ≤ j := by decide) : OpR X (binaryOp op) (rOwn2 C sp) := by
  intro pins s σ H x y u v Q I rx ry h
  obtain ⟨a, b, dx, dy, fs, gs, rfl, rfl, ea, eb, q⟩ := h
  obtain rfl : u = Value.ref a := rx
  obtain rfl : v = Value.ref b := ry
  obtain ⟨f, fd, F, hm, hb⟩ := D.ex
  obtain ⟨_, OA, _⟩ := ins_get I.hok ea
  obtain ⟨_, OB, _⟩ := ins_get I.hok eb
  obtain ⟨_, ia, _⟩ := OA.look
  obtain ⟨_, ib, _⟩ := OB.look
  obtain ⟨m, fr⟩ := I.fr
  refine PySem.W.binop_K fr I.mod.kin ia ib.type hf hm.at_ hm.fn ?_
  refine wpAny_mono (run_fn F (hr.mono hk) hb .nil pass0 I (vs := [.ref a, .ref b]) (.cons (show RelV (.ref a) (.ref a) from rfl) (.cons (show RelV (.ref b) (.ref b) from rfl) .nil)) q) (fun _ _ z => back_of z) fun _ _ z => z
theorem un_inv {P : Program} {w : World} (D : DefM X.prog X.w X.K X.mg X.base k C "__invert__" ps sp) (hr : Room j X.A) (hk : k ≤ j := by decide) : UnR X (unaryOp .Invert) (rOwn1 C sp) := by
  intro pins s σ H x u Q I rx h
  obtain ⟨a, dx, fs, rfl, ea, q⟩ := h
  obtain rfl : u = Value.ref a := rx
  obtain ⟨f, fd, F, hm, hb⟩ := D.ex
  obtain ⟨_, OA, _⟩ := ins_get I.hok ea
  obtain ⟨_, ia, _⟩ := OA.look
  obtain ⟨m, fr⟩ := I.fr
  refine PySem.W.ksp_inv fr I.mod.kin ia hm.at_ hm.fn ?_
  exact run_fn F (hr.mono hk) hb .nil pass0 I (vs := [.ref a]) (.cons (show RelV (.ref a) (.ref a) from rfl) .nil) q
end
end Tw

set_option Elab.async false
set_option linter.all false
set_option maxRecDepth 100000
namespace Tw
open PySem L2 PySem.Spec
section
variable {prog : Program} {w : World} {A : Around} {E : Value → Shared → Prop} {s : Shared} {K : PySem.W.Frag} {x C f : Addr} {o : Obj} {od : Option Obj} {T : String}
/-- an own operator whose right side is of a built-in kind -/
theorem bin_kind {op : Operator} {b : Value} {lo ro rc : Option Value} {Q : Value → Shared → Prop} (kin : K.In s.heap) (inst : PySem.W.InstAt s.heap x o C od) (kind : PySem.W.Looks (model prog w) s.heap (typeOf b) (.type T)) (own : PySem.W.selfFirst K C = true)
    (at1 : PySem.W.findIn K (.ref C) (PySem.dunder op.info.2) = some (some (.ref f))) (isf : PySem.W.isFn K (.ref f) = true) (at2 : PySem.W.findIn K (.ref C) (dunderR op.info.2) = some rc) (at3 : rc = none ∨ ∃ g : Addr, rc = some (.ref g))
    (tl : PySem.W.findIn K (.type T) (PySem.dunder op.info.2) = some lo) (tr : PySem.W.findIn K (.type T) (dunderR op.info.2) = some ro) (ns : PySem.W.subIn K (.type T) (.ref C) = some false)
    (h : wpAny (model prog w) A (call (.ref f) [.ref x, b]) (PySem.W.CmpBack Q) E s) : wpAny (model prog w) A (binaryOp op (.ref x) b) Q E s := by
  obtain ⟨cd, more, ecd, emr⟩ := PySem.W.ksp_first own
  have asked := PySem.W.ksp_try kin inst at1 isf h
  cases nme : op.info with
  | mk sg nm =>
  rw [nme] at at1 at2 tl tr asked
  have q4 := PySem.W.ksp_fillsT (M := model prog w) kin tl tr
  have q3 : PySem.W.Looks (model prog w) s.heap (fillsNumberSlot (.ref C) nm) true := PySem.W.fills_K kin ecd emr at1
  have q5 : PySem.W.Looks (model prog w) s.heap (isSubtype (.type T) (.ref C)) false := PySem.W.looks_subIn kin ns
  have q6 : PySem.W.Looks (model prog w) s.heap (numberSlotInPython (.ref C) nm) true := PySem.W.ksp_inPy kin at1 at2 at3
  have q7 : PySem.W.Looks (model prog w) s.heap (numberSlotInPython (.type T) nm) false := PySem.W.Looks.of_pure rfl
  have q8 : PySem.W.Looks (model prog w) s.heap (typeLookup (.type T) (dunderR nm)) ro := PySem.W.looks_findIn kin tr
  have q1 : PySem.W.Looks (model prog w) s.heap (typeOf (.ref x)) (.ref C) := inst.type
  obtain ⟨hp, gg, dd, kk, oo⟩ := s
  have diff : (Value.ref C == Value.type T) = false := by
    cases e : (Value.ref C == Value.type T) with
    | false => rfl
    | true => cases (beq_iff_eq.mp e)
  generalize ((lo.isSome && !isSeqSlot lo) || (ro.isSome && !isSeqSlot ro)) = slot at q4
  simp only [binaryOp, nme]
  refine wpAny_holding (wpAny_bind ?_)
  unfold binaryOp1
  refine wpAny_bind (q1.at ?_)
  refine wpAny_bind (kind.at ?_)
  refine wpAny_bind (q3.at ?_)
  simp only [diff, Bool.false_eq_true, if_false]
  cases slot
  all_goals
    ksp_lk
    refine wpAny_mono asked (fun r t ht => ?_) fun _ _ e => e
    obtain ⟨v, rfl, hv⟩ := ht
    ksp_lk
    exact hv
end
end Tw
namespace Tw
open PySem L2 PySem.Spec
/-- the built-in kinds that a law's things are of -/
def kinds7 : List String := ["NoneType", "bool", "int", "str", "list", "tuple", "dict"]
theorem kin_and {K : PySem.W.Frag} {C : Addr} : ∀ T ∈ kinds7, (∃ lo, PySem.W.findIn K (.type T) (PySem.dunder Operator.BitAnd.info.2) = some lo) ∧ (∃ ro, PySem.W.findIn K (.type T) (dunderR Operator.BitAnd.info.2) = some ro) ∧ PySem.W.subIn K (.type T) (.ref C) = some false := by
  intro T h
  unfold kinds7 at h
  simp only [List.mem_cons, List.not_mem_nil, or_false] at h
  rcases h with rfl | rfl | rfl | rfl | rfl | rfl | rfl <;> exact ⟨Option.isSome_iff_exists.mp (by kernel_rfl), Option.isSome_iff_exists.mp (by kernel_rfl), by kernel_rfl⟩
end Tw
namespace Tw
open PySem L2 PySem.Spec
theorem kin_or {K : PySem.W.Frag} {C : Addr} : ∀ T ∈ kinds7, (∃ lo, PySem.W.findIn K (.type T) (PySem.dunder Operator.BitOr.info.2) = some lo) ∧ (∃ ro, PySem.W.findIn K (.type T) (dunderR Operator.BitOr.info.2) = some ro) ∧ PySem.W.subIn K (.type T) (.ref C) = some false := by
  intro T h
  unfold kinds7 at h
  simp only [List.mem_cons, List.not_mem_nil, or_false] at h
  rcases h with rfl | rfl | rfl | rfl | rfl | rfl | rfl <;> exact ⟨Option.isSome_iff_exists.mp (by kernel_rfl), Option.isSome_iff_exists.mp (by kernel_rfl), by kernel_rfl⟩
/-- an instance and a thing of a built-in kind, by the class's own operator -/
def rOwnT (K : PySem.W.Frag) (C : Addr) (sp : Sp) : R2 := fun x y H Q => ∃ (a dx : Addr) (fs : List (Str × V)) (T : String), x = .ref a ∧ H a = some (.ins C dx fs) ∧ TyX K H y (.type T) ∧ T ∈ kinds7 ∧ sp [x, y] H Q E0
section
variable {X : Cx} {k j : Nat} {C : Addr} {ps : List Str} {sp : Sp}
theorem op_ownT {op : Operator} (D : DefM X.prog X.w X.K X.mg X.base k C (PySem.dunder op.info.2) ps sp) (hr : Room j X.A) (own : PySem.W.selfFirst X.K C = true) (nr : PySem.W.findIn X.K (.ref C) (dunderR op.info.2) = some none)
    (facts : ∀ T ∈ kinds7, (∃ lo, PySem.W.findIn X.K (.type T) (PySem.dunder op.info.2) = some lo) ∧ (∃ ro, PySem.W.findIn X.K (.type T) (dunderR op.info.2) = some ro) ∧ PySem.W.subIn X.K (.type T) (.ref C) = some false) (hk : k ≤ j := by decide) : OpR X (binaryOp op) (rOwnT X.K C sp) := by
  intro pins s σ H x y u v Q I rx ry h
  obtain ⟨a, dx, fs, T, rfl, ea, ty, hT, q⟩ := h
  obtain rfl : u = Value.ref a := rx
  obtain ⟨f, fd, F, hm, hb⟩ := D.ex
  obtain ⟨_, OA, _⟩ := ins_get I.hok ea
  obtain ⟨_, ia, _⟩ := OA.look
  obtain ⟨Pk, kx, pk, _⟩ := kit_of I ry ty
  obtain ⟨⟨lo, f1⟩, ⟨ro, f2⟩, f3⟩ := facts T hT
  refine bin_kind I.kIn ia (kx.ty _ _ I.kIn pk) own hm.at_ hm.fn nr (.inl rfl) f1 f2 f3 ?_
  exact wpAny_mono (run_fn F (hr.mono hk) hb .nil pass0 I (vs := [.ref a, y]) (.cons (show RelV (.ref a) (.ref a) from rfl) (.cons ry .nil)) q) (fun _ _ z => back_of z) fun _ _ z => z
theorem op_andG {K : PySem.W.Frag} (hK : X.K = K) (D : DefM X.prog X.w X.K X.mg X.base k C (PySem.dunder Operator.BitAnd.info.2) ps sp) (hr : Room j X.A) (own : PySem.W.selfFirst X.K C = true) (nr : PySem.W.findIn X.K (.ref C) (dunderR Operator.BitAnd.info.2) = some none) (hk : k ≤ j := by decide) :
    OpR X (binaryOp .BitAnd) (fun x y H Q => rOwn2 C sp x y H Q ∨ rOwnT K C sp x y H Q) := by
  subst hK
  exact (op_own2 D hr own hk).or (op_ownT D hr own nr kin_and hk)
theorem op_orG {K : PySem.W.Frag} (hK : X.K = K) (D : DefM X.prog X.w X.K X.mg X.base k C (PySem.dunder Operator.BitOr.info.2) ps sp) (hr : Room j X.A) (own : PySem.W.selfFirst X.K C = true) (nr : PySem.W.findIn X.K (.ref C) (dunderR Operator.BitOr.info.2) = some none) (hk : k ≤ j := by decide) :
    OpR X (binaryOp .BitOr) (fun x y H Q => rOwn2 C sp x y H Q ∨ rOwnT K C sp x y H Q) := by
  subst hK
  exact (op_own2 D hr own hk).or (op_ownT D hr own nr kin_or hk)
end
end Tw

set_option Elab.async false
set_option linter.all false
set_option maxRecDepth 100000
set_option maxHeartbeats 4000000
/-! own errors over Exception, of a class below one's own base, with an __init__ that stores its one parameter -/
namespace PySem
namespace TwX
open PySem.W PySem.Calls PyProof.Rows PySem.HandSPX
/-- the classes of an error's order: own ones, then Exception's -/
abbrev exT : List Value := [.type "Exception", .type "BaseException", .type "object"]
inductive OwnEx : List Value → Prop where
  | tail : OwnEx exT
  | own (c : Addr) {r : List Value} (h : OwnEx r) : OwnEx (.ref c :: r)
theorem OwnEx.pass {l : List Value} (h : OwnEx l) (self : Value) : refuseLoop self "__setattr__" l = pure () := by
  induction h with
  | tail => exact F.store_Exception.passes self
  | own c _ ih => rw [refuseLoop_ref, ih]
theorem OwnEx.has {l : List Value} (h : OwnEx l) (n : String) : l.contains (.type n) = exT.contains (.type n) := by
  induction h with
  | tail => rfl
  | own c _ ih => rw [List.contains_cons, ih]; rfl
theorem OwnEx.some {l : List Value} (h : OwnEx l) : l.isEmpty = false := by cases h <;> rfl
section
open Builtin Builtin.ObjectAttr
variable {prog : Program} {w : World} {A : Around} {R : Result → Shared → Prop} {hp : Heap} {gs : Array GenState} {dr : Drawn} {tc : Nat} {os : OsState}
theorem setattr_to {K : Frag} {nm : Str} {tk : Tok} {v : Value} {x C : Addr} {ox : Obj} {od : Option Obj} {cd : ClassData} (XK : K.In hp) (J : InstAt hp x ox C od) (hc : clsIn K C = some cd) (hm : OwnEx cd.mro) (hn : findIn K (.ref C) nm = some none)
    (hq : wpAny (model prog w) A.in1 (storeInOwnDict (.ref x) (.ref C) (.str nm tk) nm v false) (fun fin s' => match fin with | .done f => R (.ok f) s' | .again c' => c'.quiet = true ∧ codeAny (model prog w) A c' R s') (fun e s' => R (.error e) s') ⟨hp, gs, dr, tc, os⟩) :
    codeAny (model prog w) A (.call (.builtin "object.__setattr__") ⟨[.ref x, .str nm tk, v], []⟩) R ⟨hp, gs, dr, tc, os⟩ := by
  have ST := F.store_object
  have hmo : mroIn K C (.type "object") = some true := by
    unfold mroIn
    rw [hc, Option.bind_some, if_neg (by rw [hm.some]; decide), hm.has "object"]
    exact congrArg _ (by decide +kernel)
  have isO : Looks (model prog w) hp (isInstance (.ref x) (.type "object")) true := J.type.andThen (looks_mroIn XK hmo)
  refine codeAny_call_builtin ST.slot.plain ST.entry ?_
  refine @check_slot (model prog w) _ _ ⟨hp, gs, dr, tc, os⟩ "object.__setattr__" "object" "__setattr__" (.ref x) [.str nm tk, v] [] _ ST.kind ST.split isO (ST.args (.ref x) (.str nm tk) v) ?_
  have lm : Looks (model prog w) hp (mroOf (.ref C)) cd.mro := (looks_clsIn XK hc).andThen .now
  have lt : Looks (model prog w) hp (storeTaker? none) none := .now
  rw [osa_eq, refuse_eq]
  refine wpAny_bind (wpAny_bind ?_)
  refine J.type.at (wpAny_bind (lm.at ?_))
  rw [hm.pass]
  refine wpAny_pure (wpAny_bind ?_)
  exact J.type.at (wpAny_bind ((looks_findIn XK hn).at (wpAny_bind (lt.at hq))))
/-- the first field of a fresh error -/
theorem setattr_first {K : Frag} {nm : Str} {tk : Tok} {v : Value} {x C : Addr} {fv : Array Value} {cd : ClassData} (XK : K.In hp) (hx : hp.get? x = some { cls := .ref C, data := .fields fv }) (hc : clsIn K C = some cd) (hm : OwnEx cd.mro) (hh : cd.hasDict = true) (hn : findIn K (.ref C) nm = some none)
    (hq : ∀ h2 tk2 dx, (∀ b o, b ≠ x → hp.get? b = some o → h2.get? b = some o) → hp.objs.size ≤ dx → dx ≠ x → h2.get? x = some { cls := .ref C, dict := some dx, data := .fields fv } → h2.Ns1 dx (fun y => if y = nm then some v else none) → R (.ok (.ret .none)) ⟨h2, gs, dr, tk2, os⟩) :
    codeAny (model prog w) A (.call (.builtin "object.__setattr__") ⟨[.ref x, .str nm tk, v], []⟩) R ⟨hp, gs, dr, tc, os⟩ := by
  have J : InstAt hp x { cls := .ref C, data := .fields fv } C none := ⟨hx, rfl, rfl, trivial⟩
  have nx : x ≠ hp.objs.size := Nat.ne_of_lt (Heap.lt_size hx)
  have lc : Looks (model prog w) hp (classData C) cd := looks_clsIn XK hc
  refine setattr_to XK J hc hm hn ?_
  obtain ⟨a1, a2, a3, a4, a5, a6, a7, a8, a9, a10, a11⟩ := cd
  dsimp only at hh
  subst hh
  unfold storeInOwnDict ownDictForStores
  repeat (first | with_reducible refine HandSPX.store_in_new ?_ ?_ | with_reducible refine wpAny_loadPart_at hx ?_ | with_reducible refine lc.at ?_ | wp_step)
  · refine ⟨_, #[], _, (Heap.get?_update_ne _ _ _ _ nx.symm).trans (Heap.get?_push_at rfl rfl), rfl, ?_, fun _ => rfl⟩
    intro e he
    exact absurd he (by simp)
  · intro h2 tk2 hn2 sb
    have px : (hp.push { cls := .type "dict", data := .dict #[] }).get? x = some { cls := .ref C, data := .fields fv } := Heap.get?_push_of_some _ hx
    refine hq h2 tk2 hp.objs.size ?_ (Nat.le_refl _) nx.symm ((sb.2 x nx).trans (Heap.get?_update_self _ px rfl)) hn2
    intro b o hb ho
    exact (sb.2 b (Nat.ne_of_lt (Heap.lt_size ho))).trans ((Heap.get?_update_ne _ _ _ _ hb).trans (Heap.get?_push_of_some _ ho))
/-- a further one -/
theorem setattr_next {K : Frag} {nm : Str} {tk : Tok} {v : Value} {x C dx : Addr} {fv : Array Value} {cd : ClassData} {m0 : Str → Option Value} {nl : List Str} (XK : K.In hp) (hx : hp.get? x = some { cls := .ref C, dict := some dx, data := .fields fv }) (hns : hp.Ns1 dx m0) (hw : Within m0 nl) (hz : nl.length ≤ 1000)
    (hc : clsIn K C = some cd) (hm : OwnEx cd.mro) (hh : cd.hasDict = true) (hn : findIn K (.ref C) nm = some none)
    (hq : ∀ h2 tk2, (∀ b o, b ≠ dx → hp.get? b = some o → h2.get? b = some o) → h2.Ns1 dx (fun y => if y = nm then some v else m0 y) → R (.ok (.ret .none)) ⟨h2, gs, dr, tk2, os⟩) :
    codeAny (model prog w) A (.call (.builtin "object.__setattr__") ⟨[.ref x, .str nm tk, v], []⟩) R ⟨hp, gs, dr, tc, os⟩ := by
  obtain ⟨oD, eD, pD, gD, dD, _⟩ := hns.count hw
  have J : InstAt hp x { cls := .ref C, dict := some dx, data := .fields fv } C (some oD) := ⟨hx, rfl, rfl, gD⟩
  have lc : Looks (model prog w) hp (classData C) cd := looks_clsIn XK hc
  refine setattr_to XK J hc hm hn ?_
  obtain ⟨a1, a2, a3, a4, a5, a6, a7, a8, a9, a10, a11⟩ := cd
  dsimp only at hh
  subst hh
  unfold storeInOwnDict ownDictForStores
  repeat (first | with_reducible refine ESX.store_in_old hns hw hz ?_ | with_reducible refine wpAny_loadPart_at hx ?_ | with_reducible refine lc.at ?_ | wp_step)
  exact fun h2 tk2 hn2 sb => hq h2 tk2 (fun b o hb ho => (sb.2 b hb).trans ho) hn2
end
end TwX
end PySem

set_option Elab.async false
set_option linter.all false
set_option maxRecDepth 100000
namespace Tw
open PySem L2 PySem.Spec
/-- a def of the text that may let an error out -/
structure DefX (P : Program) (w : World) (K : PySem.W.Frag) (mg : Str → Option Value) (base : Heap) (k : Nat) (x : Str) (ps : List Str) (sp : Sp) : Prop where
  ex : ∃ (f : Addr) (fd : FuncData), FnOk P w K mg base (L2.CX P w) k f fd ps sp ∧ mg x = some (.ref f) ∧ PySem.W.keepIn K (.ref f) = true ∧ Binds K fd ps []
/-- a method that may let an error out -/
structure DefMX (P : Program) (w : World) (K : PySem.W.Frag) (mg : Str → Option Value) (base : Heap) (k : Nat) (C : Addr) (m : Str) (ps : List Str) (sp : Sp) : Prop where
  ex : ∃ (f : Addr) (fd : FuncData), FnOk P w K mg base (L2.CX P w) k f fd ps sp ∧ Meth K C m f ∧ Binds K fd ps []
theorem Here.defX {P : Program} {w : World} {K : PySem.W.Frag} {mg : Str → Option Value} {base : Heap} {k : Nat} {x : Str} {st : Stmt} {ps : List Str} {sp : Sp} {f : Addr} {fd : FuncData} (h : Here K mg x st ps f fd) (F : FnOk P w K mg base (L2.CX P w) k f fd ps sp) : DefX P w K mg base k x ps sp :=
  ⟨f, fd, F, h.mg, h.fn.kp, h.bd⟩
theorem HereM.defX {P : Program} {w : World} {K : PySem.W.Frag} {mg : Str → Option Value} {base : Heap} {k : Nat} {C : Addr} {m qual : Str} {st : Stmt} {ps : List Str} {sp : Sp} {f : Addr} {fd : FuncData} (h : HereM K C m qual st ps f fd) (F : FnOk P w K mg base (L2.CX P w) k f fd ps sp) : DefMX P w K mg base k C m ps sp :=
  ⟨f, fd, F, h.me, h.bd⟩
/-- what is wanted of a body that may raise -/
theorem Fun.okMX {P : Program} {w : World} {K : PySem.W.Frag} {mg : Str → Option Value} {base : Heap} {x qual : Str} {st : Stmt} {f : Addr} {fd : FuncData} {N ps : List Str} {k : Nat} {sp : Sp} (F : Fun K x qual st f fd) (S : FnScope N ps (defScope st)) (len : ∀ vs H Q E, sp vs H Q E → vs.length = ps.length)
    (hbody : ∀ (cdv : Value) (A : Around) (outer : List Env) (s : Shared) (H : Hp) (vs : List V) (Q : VK) (E : XK), Room k (A.deeper (PyProof.Rows.envOfC qual (defScope st) s.heap.objs.size f cdv)) → sp vs H Q E →
      ∃ t, PSs (cxOf (L2.CX P w) P w K mg base N qual (defScope st) f cdv A outer s H E) (defBody st) t ∧ t (mkE (fun _ H' => Q .non H') Q (fun _ _ => False) (fun _ _ => False)) (L2.start N vs) H) : FnOk P w K mg base (L2.CX P w) (k + 1) f fd ps sp := F.okX S len hbody
section
variable {X : Cx} {k j : Nat} {C : Addr} {x m : Str} {p pos apos : Pos} {o e a b : Expr} {es : List Expr} {ps : List Str} {sp : Sp} {ta tb : TE} {t : TA} {W : WX}
theorem pe_defX (tk : Takes X W) (D : DefX X.prog X.w X.K X.mg X.base k x ps sp) (hr : Room j X.A) (hg : Gl X x) (ha : PA X (e :: es) t) (hk : k ≤ j := by decide) (hdb : (x == ("__debug__" : Str)) = false := by decide)
    (he : starEach (e :: es) X.env = (false, eval e X.env) :: starEach es X.env := by rfl) (hpl : (backTo pos (starEach es X.env)).any (·.1) = false := by rfl) : PE X (.Call (.Name x p) (e :: es) [] pos) (tCallS sp (WE W) t) := by
  obtain ⟨f, fd, F, hm, hkp, hb⟩ := D.ex
  exact pe_callS F (hr.mono hk) hg hm hkp hb (fun σ => passAt tk σ) ha hdb he hpl
/-- an operator that may raise -/
def OpW (X : Cx) (f : Value → Value → Sem Value) (r : L2.St → R2) : Prop := ∀ (pins : List (Addr × Obj)) (s : Shared) (σ : L2.St) (H : Hp) (x y : V) (v u : Value) (Q : VK), Inv X pins σ H s → RelV x v → RelV y u → r σ x y H Q → wpAny (model X.prog X.w) X.A (f v u) (EP X pins σ Q) X.xe s
def tOpW (r : L2.St → R2) (ta tb : TE) : TE := fun σ H Q => ta σ H fun x H1 => tb σ H1 fun y H2 => r σ x y H2 Q
theorem pe_opW {op : Operator} {r : L2.St → R2} (ho : OpW X (binaryOp op) r) (ha : PE X a ta) (hb : PE X b tb) : PE X (.BinOp a op b pos) (tOpW r ta tb) :=
  ⟨fun pins s σ _ Q I h => wpAny_BinOp (binT ha hb I h fun v u s2 x y H2 I2 rx ry q => ho pins s2 σ H2 x y v u Q I2 rx ry q)⟩
theorem op_own2W {op : Operator} (tk : Takes X W) (D : DefMX X.prog X.w X.K X.mg X.base k C (PySem.dunder op.info.2) ps sp) (hr : Room j X.A) (hf : PySem.W.selfFirst X.K C = true) (hk : k ≤ j := by decide) :
    OpW X (binaryOp op) (fun σ x y H Q => ∃ (a b dx dy : Addr) (fs gs : List (Str × V)), x = .ref a ∧ y = .ref b ∧ H a = some (.ins C dx fs) ∧ H b = some (.ins C dy gs) ∧ sp [x, y] H Q (WE W σ)) := by
  intro pins s σ H x y u v Q I rx ry h
  obtain ⟨a, b, dx, dy, fs, gs, rfl, rfl, ea, eb, q⟩ := h
  obtain rfl : u = Value.ref a := rx
  obtain rfl : v = Value.ref b := ry
  obtain ⟨f, fd, F, hm, hb⟩ := D.ex
  obtain ⟨_, OA, _⟩ := ins_get I.hok ea
  obtain ⟨_, OB, _⟩ := ins_get I.hok eb
  obtain ⟨_, ia, _⟩ := OA.look
  obtain ⟨_, ib, _⟩ := OB.look
  obtain ⟨m, fr⟩ := I.fr
  refine PySem.W.binop_K fr I.mod.kin ia ib.type hf hm.at_ hm.fn ?_
  exact wpAny_mono (run_fnS F (hr.mono hk) hb (passAt tk σ) I (vs := [.ref a, .ref b]) (.cons (show RelV (.ref a) (.ref a) from rfl) (.cons (show RelV (.ref b) (.ref b) from rfl) .nil)) q) (fun _ _ z => back_of z) fun _ _ z => z
theorem op_ownTW {op : Operator} (tk : Takes X W) (D : DefMX X.prog X.w X.K X.mg X.base k C (PySem.dunder op.info.2) ps sp) (hr : Room j X.A) (own : PySem.W.selfFirst X.K C = true) (nr : PySem.W.findIn X.K (.ref C) (dunderR op.info.2) = some none)
    (facts : ∀ T ∈ kinds7, (∃ lo, PySem.W.findIn X.K (.type T) (PySem.dunder op.info.2) = some lo) ∧ (∃ ro, PySem.W.findIn X.K (.type T) (dunderR op.info.2) = some ro) ∧ PySem.W.subIn X.K (.type T) (.ref C) = some false) (hk : k ≤ j := by decide) :
    OpW X (binaryOp op) (fun σ x y H Q => ∃ (a dx : Addr) (fs : List (Str × V)) (T : String), x = .ref a ∧ H a = some (.ins C dx fs) ∧ TyX X.K H y (.type T) ∧ T ∈ kinds7 ∧ sp [x, y] H Q (WE W σ)) := by
  intro pins s σ H x y u v Q I rx ry h
  obtain ⟨a, dx, fs, T, rfl, ea, ty, hT, q⟩ := h
  obtain rfl : u = Value.ref a := rx
  obtain ⟨f, fd, F, hm, hb⟩ := D.ex
  obtain ⟨_, OA, _⟩ := ins_get I.hok ea
  obtain ⟨_, ia, _⟩ := OA.look
  obtain ⟨Pk, kx, pk, _⟩ := kit_of I ry ty
  obtain ⟨⟨lo, f1⟩, ⟨ro, f2⟩, f3⟩ := facts T hT
  refine bin_kind I.kIn ia (kx.ty _ _ I.kIn pk) own hm.at_ hm.fn nr (.inl rfl) f1 f2 f3 ?_
  exact wpAny_mono (run_fnS F (hr.mono hk) hb (passAt tk σ) I (vs := [.ref a, y]) (.cons (show RelV (.ref a) (.ref a) from rfl) (.cons ry .nil)) q) (fun _ _ z => back_of z) fun _ _ z => z
end
end Tw
namespace Tw
open PySem L2 PySem.Spec
section
variable {X : Cx} {k j : Nat} {C : Addr} {x m : Str} {p pos apos : Pos} {o e a b : Expr} {es : List Expr} {ps : List Str} {sp : Sp} {ta tb : TE} {t : TA} {W : WX}
/-- o.m(..) that may raise -/
def tMeX (C : Addr) (m : Str) (sp : Sp) (W : WX) (ta : TE) (t : TA) : TE := fun σ H Q => ta σ H fun x H1 => ∃ a dx fs, x = .ref a ∧ H1 a = some (.ins C dx fs) ∧ fs.lookup m = none ∧ t σ H1 fun vs H2 => sp (x :: vs) H2 Q (WE W σ)
theorem pe_meX {pl : Sem Bool} (tk : Takes X W) (he : PE X o ta) (c : Cls X.K C) (D : DefMX X.prog X.w X.K X.mg X.base k C m ps sp) (hr : Room j X.A) (ha : PA X (e :: es) t) (hk : k ≤ j := by decide)
    (st : starEach (e :: es) X.env = (false, eval e X.env) :: starEach es X.env := by rfl) (nst : (backTo pos (starEach es X.env)).any (·.1) = false := by rfl)
    (form : eval (.Call (.Attribute o m apos) (e :: es) [] pos) X.env = (do
      let recv ← eval o X.env
      standAt apos.atName
      let (g, front) ← holding [recv] (getMethod recv m pl)
      callWith pos g front (backTo pos (starEach (e :: es) X.env)) (backToKw pos (keywordEach [] X.env))) := by rfl) : PE X (.Call (.Attribute o m apos) (e :: es) [] pos) (tMeX C m sp W ta t) := by
  obtain ⟨f, fd, F, hm, hb⟩ := D.ex
  constructor
  intro pins s σ H Q I h
  refine PySem.W.methodCall_KW (pl := pl) (thn (he.run pins s σ H _ I h) ?_) form
  rintro u s1 ⟨y, H1, I1, ry, q, dq, fs, rfl, eq, lk, rest⟩
  obtain rfl : u = Value.ref q := ry
  refine getmeth_ok I1 eq c hm lk ?_
  refine PySem.W.callWith_K (first := [.ref q]) (h₀ := X.base) I.ok.mod.kin hm.kp (thn (ha.run pos pins s1 σ H1 _ I1 rest) ?_) st nst
  rintro us s2 ⟨vs, H2, I2, rv, fin⟩
  exact ⟨I2.kIn, run_fnS (us := .ref q :: us) (vs := .ref q :: vs) F (hr.mono hk) hb (passAt tk σ) I2 (.cons (show RelV (.ref q) (.ref q) from rfl) rv) fin⟩
theorem g_callS {σ : L2.St} {H : Hp} {Q : VK} {E : L2.St → XK} (q : t σ H fun vs H1 => sp vs H1 Q (E σ)) : tCallS sp E t σ H Q := q
theorem g_meX {σ : L2.St} {H : Hp} {Q : VK} (q : ta σ H fun x H1 => ∃ a dx fs, x = .ref a ∧ H1 a = some (.ins C dx fs) ∧ fs.lookup m = none ∧ t σ H1 fun vs H2 => sp (x :: vs) H2 Q (WE W σ)) : tMeX C m sp W ta t σ H Q := q
end
end Tw
namespace Tw
open PySem L2 PySem.Spec
/-- what isinstance asks of a class of the text -/
structure OwnIs (K : PySem.W.Frag) (C : Addr) : Prop where
  ha : PySem.W.findIn K (.ref C) "__class__" = some (some (.builtin "object.__class__"))
  hn : PySem.W.specialIn K (.builtin "object.__class__") "__get__" = some (some (.builtin "getset_descriptor.__get__"))
  ht : PySem.W.takesIn K (.builtin "object.__class__") = some true
  hm : PySem.W.mroIn K C (.type "object") = some true
  me : PySem.W.kitOne K (.ref C) (.ref C) = some true
  no : ∀ T ∈ kinds7, PySem.W.kitOne K (.type T) (.ref C) = some false
theorem g_isOwn {K : PySem.W.Frag} {C a dx : Addr} {fs : List (Str × V)} {H : Hp} {Q : VK} (O : OwnIs K C) (c : Cls K C) (e : H a = some (.ins C dx fs)) (q : Q (.bl true) H) : rIsi K [.ref a, .ref C] H Q :=
  ⟨_, _, _, _, true, rfl, .own C, .base (.ins e c O.ha O.hn O.ht O.hm), O.me, q⟩
theorem g_isNot {K : PySem.W.Frag} {C : Addr} {x : V} {T : String} {H : Hp} {Q : VK} (O : OwnIs K C) (ty : TyX K H x (.type T)) (h : T ∈ kinds7) (q : Q (.bl false) H) : rIsi K [x, .ref C] H Q :=
  ⟨_, _, _, _, false, rfl, .own C, ty, O.no T h, q⟩
section
variable {X : Cx} {k j : Nat} {C : Addr} {x m : Str} {p pos apos : Pos} {o e a b : Expr} {es : List Expr} {ps : List Str} {sp : Sp} {ta tb : TE} {t : TA} {W : WX}
theorem OpW.or {f : Value → Value → Sem Value} {r r' : L2.St → R2} (h : OpW X f r) (h' : OpW X f r') : OpW X f (fun σ x y H Q => r σ x y H Q ∨ r' σ x y H Q) :=
  fun pins s σ H x y v u Q I rx ry q => q.elim (h pins s σ H x y v u Q I rx ry) (h' pins s σ H x y v u Q I rx ry)
/-- an own operator that may raise: with another instance, with a thing of a built-in kind -/
def rOwnW (K : PySem.W.Frag) (C : Addr) (sp : Sp) (W : WX) : L2.St → R2 := fun σ x y H Q => (∃ (a b dx dy : Addr) (fs gs : List (Str × V)), x = .ref a ∧ y = .ref b ∧ H a = some (.ins C dx fs) ∧ H b = some (.ins C dy gs) ∧ sp [x, y] H Q (WE W σ)) ∨
  ∃ (a dx : Addr) (fs : List (Str × V)) (T : String), x = .ref a ∧ H a = some (.ins C dx fs) ∧ TyX K H y (.type T) ∧ T ∈ kinds7 ∧ sp [x, y] H Q (WE W σ)
theorem op_andW {K : PySem.W.Frag} (hK : X.K = K) (tk : Takes X W) (D : DefMX X.prog X.w X.K X.mg X.base k C (PySem.dunder Operator.BitAnd.info.2) ps sp) (hr : Room j X.A) (own : PySem.W.selfFirst X.K C = true) (nr : PySem.W.findIn X.K (.ref C) (dunderR Operator.BitAnd.info.2) = some none) (hk : k ≤ j := by decide) :
    OpW X (binaryOp .BitAnd) (rOwnW K C sp W) := by
  subst hK
  exact (op_own2W tk D hr own hk).or (op_ownTW tk D hr own nr kin_and hk)
theorem op_orW {K : PySem.W.Frag} (hK : X.K = K) (tk : Takes X W) (D : DefMX X.prog X.w X.K X.mg X.base k C (PySem.dunder Operator.BitOr.info.2) ps sp) (hr : Room j X.A) (own : PySem.W.selfFirst X.K C = true) (nr : PySem.W.findIn X.K (.ref C) (dunderR Operator.BitOr.info.2) = some none) (hk : k ≤ j := by decide) :
    OpW X (binaryOp .BitOr) (rOwnW K C sp W) := by
  subst hK
  exact (op_own2W tk D hr own hk).or (op_ownTW tk D hr own nr kin_or hk)
def tUnW (C : Addr) (sp : Sp) (W : WX) (ta : TE) : TE := fun σ H Q => ta σ H fun x H1 => ∃ (a dx : Addr) (fs : List (Str × V)), x = .ref a ∧ H1 a = some (.ins C dx fs) ∧ sp [x] H1 Q (WE W σ)
theorem pe_invW (tk : Takes X W) (D : DefMX X.prog X.w X.K X.mg X.base k C "__invert__" ps sp) (hr : Room j X.A) (ha : PE X a ta) (hk : k ≤ j := by decide) : PE X (.UnaryOp .Invert a pos) (tUnW C sp W ta) := by
  constructor
  intro pins s σ H Q I h
  refine PyProof.Rows.UnaryOp_ (thn (ha.run pins s σ H _ I h) ?_)
  rintro u s1 ⟨y, H1, I1, ry, q, dq, fs, rfl, eq, rest⟩
  obtain rfl : u = Value.ref q := ry
  obtain ⟨f, fd, F, hm, hb⟩ := D.ex
  obtain ⟨_, OA, _⟩ := ins_get I1.hok eq
  obtain ⟨_, ia, _⟩ := OA.look
  obtain ⟨_, fr⟩ := I1.fr
  refine PySem.W.ksp_inv fr I1.mod.kin ia hm.at_ hm.fn ?_
  exact run_fnS F (hr.mono hk) hb (passAt tk σ) I1 (vs := [.ref q]) (.cons (show RelV (.ref q) (.ref q) from rfl) .nil) rest
/-- a class of the text as a value -/
theorem pe_cls (hg : Gl X x) (hm : X.mg x = some (.ref C)) (hdb : (x == ("__debug__" : Str)) = false := by decide) : PE X (.Name x p) (tC (.ref C)) := pe_glob (v := .ref C) hg hm rfl hdb
end
end Tw
namespace Tw
open PySem L2 PySem.Spec
section
variable {σ : L2.St} {H : Hp} {Q : VK} {ta tb : TE} {t : TA} {sp : Sp} {W : WX} {C : Addr} {r : L2.St → R2} {D : Ends}
theorem g_opW (q : ta σ H fun x H1 => tb σ H1 fun y H2 => r σ x y H2 Q) : tOpW r ta tb σ H Q := q
theorem g_unW (q : ta σ H fun x H1 => ∃ (a dx : Addr) (fs : List (Str × V)), x = .ref a ∧ H1 a = some (.ins C dx fs) ∧ sp [x] H1 Q (WE W σ)) : tUnW C sp W ta σ H Q := q
end
end Tw

set_option Elab.async false
set_option linter.all false
set_option maxRecDepth 100000
set_option maxHeartbeats 4000000
/-! != of lists that are equal item by item -/
namespace PySem.SeqAt
open AutoSeq1 (wpAny_loadPart')
open MeetsSeq MeetsSeq2 MeetsSeq3 SeqRoads2
section
variable {prog : Program} {w : World}
theorem tw_ne_loop (l b : Addr) (items items2 : Array Value) (n n2 : Nat) (dd dd2 : Option Addr) (sl sl2 : Array (Option Value)) (hsz : items.size = items2.size) (k : Nat) :
    ∀ i : Nat, items.size - i = k → MeetsIn prog w (Builtin.«list.__eq__.loop» ⟨[.ref l, .ref b, rawInt i, rawInt 3], []⟩)
      (fun A R s => s.heap.get? l = some { cls := .type "list", dict := dd, data := .seq items n, slots := sl } ∧ s.heap.get? b = some { cls := .type "list", dict := dd2, data := .seq items2 n2, slots := sl2 } ∧
        (∀ j (h1 : j < items.size) (h2 : j < items2.size), EqP prog w A.in1 s items[j] items2[j] true) ∧
        R (.ok (.ret (.bool false))) s) := by
  induction k with
  | zero =>
    intro i hk A R s h
    obtain ⟨hp, g, d, tk, os⟩ := s; obtain ⟨hl, hb, he, h⟩ := h
    wp_walk using wpAny_loadPart' hl, wpAny_loadPart' hb
    have hi1 : items[((i : Nat) : Int).toNat]? = none := by simp; omega
    have hi2 : items2[((i : Nat) : Int).toNat]? = none := by simp; omega
    rw [hi1, hi2]
    wp_walk using wpAny_loadPart' hl, wpAny_loadPart' hb
    show R (.ok (.ret (.bool (items.size != items2.size)))) _
    rw [hsz]
    simpa using h
  | succ k ih =>
    intro i hk A R s h
    obtain ⟨hp, g, d, tk, os⟩ := s; obtain ⟨hl, hb, he, h⟩ := h
    wp_walk using wpAny_loadPart' hl, wpAny_loadPart' hb
    have hlt : i < items.size := by omega
    have hlt2 : i < items2.size := by omega
    have hi1 : items[((i : Nat) : Int).toNat]? = some items[i] := by simp [hlt]
    have hi2 : items2[((i : Nat) : Int).toNat]? = some items2[i] := by simp [hlt2]
    have hc : ((i : Int) + 1) = ((i + 1 : Nat) : Int) := by push_cast; rfl
    rw [hi1, hi2]
    refine wpAny_bind (he i hlt hlt2 _ _ ?_)
    wp_walk
    rw [hc]
    exact ⟨plainId_quiet plain_eq_loop _, codeAny_builtin entry_eq_loop (by
      rw [Around.under_plainId plain_eq_loop _]
      exact ih (i + 1) (by omega) A R _ ⟨hl, hb, he, h⟩)⟩
theorem tw_list_ne (l b : Addr) (items items2 : Array Value) (n n2 : Nat) (dd dd2 : Option Addr) (sl sl2 : Array (Option Value)) (hsz : items.size = items2.size) :
    MeetsIn prog w (Builtin.«list.__ne__» ⟨[.ref l, .ref b], []⟩)
      (fun A R s => s.heap.get? l = some { cls := .type "list", dict := dd, data := .seq items n, slots := sl } ∧ s.heap.get? b = some { cls := .type "list", dict := dd2, data := .seq items2 n2, slots := sl2 } ∧
        (∀ j (h1 : j < items.size) (h2 : j < items2.size), EqP prog w A.in1 s items[j] items2[j] true) ∧
        R (.ok (.ret (.bool false))) s) := by
  intro A R s h
  obtain ⟨hp, g, d, tk, os⟩ := s; obtain ⟨hl, hb, he, h⟩ := h
  have f3 := AutoSeq1.sub_list_list
  have hne : ¬ (items.size != items2.size) = true := by simp [hsz]
  wp_walk using wpAny_loadPart' hl, wpAny_loadPart' hb
  exact ⟨plainId_quiet plain_eq_loop _, codeAny_builtin entry_eq_loop (by
    rw [Around.under_plainId plain_eq_loop _]
    exact tw_ne_loop l b items items2 n n2 dd dd2 sl sl2 hsz _ 0 rfl A R _ ⟨hl, hb, he, h⟩)⟩
theorem tw_ne_lists {A : Around} {s : Shared} {l b : Addr} {items items2 : Array Value} (hl : s.heap.IsList l items) (hb : s.heap.IsList b items2) (hsz : items.size = items2.size) (hu : A.units < cLine)
    (he : ∀ j (h1 : j < items.size) (h2 : j < items2.size), EqP prog w A.in1 s items[j] items2[j] true) (E Q : Value → Shared → Prop) (h : Q (.bool false) s) : wpAny (model prog w) A (richCompare .NotEq (.ref l) (.ref b)) Q E s := by
  obtain ⟨⟨cls, dd, data, sl⟩, ho, hc, n, hd⟩ := id hl
  obtain ⟨⟨cls2, dd2, data2, sl2⟩, ho2, hc2, n2, hd2⟩ := id hb
  simp only at hc hd hc2 hd2
  subst hc hd hc2 hd2
  have ta : s.TypeIs (.ref l) "list" := ⟨_, ho, rfl⟩
  have tb : s.TypeIs (.ref b) "list" := ⟨_, ho2, rfl⟩
  exact wpAny_richCompare_same_room (op := .NotEq) ta tb F.slot_list_ne (call_meetsIn F.slot_list_ne ta F.entry_list_ne (F.args_list_ne_2 _ _) (tw_list_ne l b items items2 n n2 dd dd2 sl sl2 hsz)
    ⟨ho, ho2, he, show Value.bool false ≠ Value.notImplemented ∧ Q (.bool false) s from ⟨(fun x => nomatch x), h⟩⟩) hu
end
end PySem.SeqAt
namespace L2
open PySem PySem.Spec PyProof.Rows
section
variable {X : Cx}
/-- a != b, two lists whose items are equal -/
def rNeV (K : PySem.W.Frag) : R2 := fun x y H Q => ∃ n a b xs ys, n ≤ 60 ∧ x = .ref a ∧ y = .ref b ∧ SqL K H a xs ∧ SqL K H b ys ∧ Paired (EqV K H n) xs ys ∧ Q (.bl false) H
theorem op_neV (hu : X.A.units + 64 < cLine) : OpR X (compareOp .NotEq) (rNeV X.K) := by
  intro pins s σ H x y v u Q I rx ry h
  obtain ⟨n, a, b, xs, ys, hn, rfl, rfl, ha, hb, hp, q⟩ := h
  cases (show v = Value.ref a from rx)
  cases (show u = Value.ref b from ry)
  obtain ⟨us, r1, p1, _⟩ := I.list ha
  obtain ⟨ws, r2, p2, _⟩ := I.list hb
  have hsz : us.toArray.size = ws.toArray.size := by
    rw [List.size_toArray, List.size_toArray, ← r1.length, ← r2.length]
    exact Paired.length hp
  refine SeqAt.tw_ne_lists p1.isList p2.isList hsz (by omega) (fun j h1 h2 => ?_) _ _ ⟨.bl false, H, I, rfl, q⟩
  have k := items_run (eqV_run I n X.A.in1 (by show X.A.units + 1 + n < cLine; omega)) hp r1 r2 j (by simpa using h1) (by simpa using h2)
  simpa using k
theorem op_neVu {K : PySem.W.Frag} (h : X.K = K) (hu : X.A.units + 64 < cLine) : OpR X (compareOp .NotEq) (rNeV K) := by subst h; exact op_neV hu
theorem op_eqVu {K : PySem.W.Frag} (h : X.K = K) (hu : X.A.units + 64 < cLine) : OpR X (compareOp .Eq) (rEqV K) := by subst h; exact op_eqV hu
end
end L2
namespace Tw
open PySem L2
def rMin2 : List V → Hp → VK → Prop := fun xs H Q => ∃ i j, xs = [.int i, .int j] ∧ Q (.int (if j < i then j else i)) H
def rInsert : V → List V → Hp → VK → Prop := fun x vs H Q => ∃ (l : Addr) (xs : List V) (i : Int) (y : V), x = .ref l ∧ vs = [.int i, y] ∧ H l = some (.lst xs) ∧ xs.length < sizeLine ∧ 0 ≤ i ∧ i < 2 ^ 63 ∧ Q .non (upd H l (.lst (xs.take i.toNat ++ [y] ++ xs.drop i.toNat)))
section
variable {X : Cx}
theorem call_min2G (h : X.calm = true) : CallR X (.builtin "min") rMin2 := call_min2 h
theorem pg_tupG {K : PySem.W.Frag} {es : List Expr} {k : Nat} {t : TGs} {n : Nat} {pos : Pos} (hK : X.K = K) (hc : X.calm = true) (h : PGs X es t)
    (hn : (assignEach es X.env).length = n := by rfl) (hst : (assignEach es X.env).findIdx? (·.1) = none := by rfl) : PG X (.Tuple es k pos) (gTup K n t) := by subst hK; exact pg_tup hc h hn hst
theorem mt_insertG : MtR X "list.insert" rInsert := mt_insert
end
section
variable {K : PySem.W.Frag} {σ : L2.St} {H : Hp} {Q : VK} {D : Ends} {t : TA} {c : TT} {tb : TS} {i j : Int}
theorem g_min2 (q : Q (.int (if j < i then j else i)) H) : rMin2 [.int i, .int j] H Q := ⟨i, j, rfl, q⟩
theorem g_rng2 {R : It → Hp → Prop} (q : t σ H fun vs H1 => ∃ i j : Int, vs = [.int i, .int j] ∧ (-(2 ^ 62) ≤ i ∧ i < 2 ^ 62 ∧ -(2 ^ 62) ≤ j ∧ j < 2 ^ 62) ∧ R (Itr i (j - i).toNat) H1) : iRng2 t σ H R := q
theorem g_gtup {n : Nat} {u : TGs} {p : Addr} {xs : List V} {QS : L2.St → Hp → Prop} (h : H p = some (.tup xs)) (hl : xs.length = n) (q : u xs σ H QS) : gTup K n u (.ref p) σ H QS := ⟨p, xs, rfl, SqT.of h, hl, q⟩
theorem g_gcons {g : TG} {u : TGs} {v : V} {r : List V} {QS : L2.St → Hp → Prop} (q : g v σ H fun σ' H' => u r σ' H' QS) : gCons g u (v :: r) σ H QS := ⟨v, r, rfl, q⟩
theorem g_gnil {QS : L2.St → Hp → Prop} (q : QS σ H) : gNil [] σ H QS := ⟨rfl, q⟩
theorem g_while (q : ∃ W : Nat → L2.St → Hp → Prop, (∃ m, W m σ H) ∧ ∀ m σ H, W m σ H →
  c σ H fun b H1 => if b = true then ∃ N : L2.St → Hp → Prop, (∀ σ' H', N σ' H' → ∃ m', m' < m ∧ W m' σ' H') ∧ tb { D with nx := N, ct := N, bk := D.nx } σ H1 else D.nx σ H1) : tWhile c tb D σ H := q
theorem g_ins {p : Addr} {xs : List V} {v : V} (h : H p = some (.lst xs)) (hz : xs.length < 10000000) (h0 : 0 ≤ i) (h1 : i < 10000000) (q : Q .non (upd H p (.lst (xs.take i.toNat ++ [v] ++ xs.drop i.toNat)))) : rInsert (.ref p) [.int i, v] H Q := ⟨p, xs, i, v, rfl, rfl, h, by rw [sizeLine_eq]; omega, h0, by omega, q⟩
end
end Tw
namespace Tw
open PySem L2
section
variable {σ : L2.St} {g : TG} {tt : TT} {te : TE} {vs : List Nat} {J : It} {H1 : Hp} {D : Addr} {Qd : Hp → Prop}
/-- a comprehension whose turns make new things -/
theorem lc_new (xs : List V) (Rel : Nat → V → Hp → Prop) (hD : H1 D = none) (hJ : ∀ H, (∀ q o, H1 q = some o → H q = some o) → Fits J xs H) (hlen : xs.length ≤ 1000000)
    (hmono : ∀ i y H H', (∃ ys, H D = some (.lst ys)) → Rel i y H → (∀ q o, q ≠ D → H q = some o → H' q = some o) → Rel i y H')
    (hs : ∀ i x Hh (R : V → Hp → Prop) (S : Hp → Prop), xs[i]? = some x → (∀ q o, H1 q = some o → Hh q = some o) → (∃ ys, Hh D = some (.lst ys)) → (∀ y H4, (∀ q o, Hh q = some o → H4 q = some o) → Rel i y H4 → R y H4) →
      g x (wipe σ vs) Hh fun σ2 H2 => wipe σ2 vs = wipe σ vs ∧ tt σ2 H2 fun b H3 => if b = true then te σ2 H3 R else S H3)
    (hd : ∀ H ys, (∀ q o, H1 q = some o → H q = some o) → H D = some (.lst ys) → ys.length = xs.length → (∀ i y, ys[i]? = some y → Rel i y H) → Qd H) :
    ∃ W : Nat → Nat → Hp → Prop, (∃ m, W 0 m (upd H1 D (.lst []))) ∧ ∀ i m H, W i m H →
      (J.stop i H ∧ Qd H) ∨ (J.go i H ∧ ∃ Nx : Hp → Prop, (∀ H', Nx H' → ∃ m', m' < m ∧ W (i + 1) m' H') ∧ ∀ x H', J.yld i H x H' → g x (wipe σ vs) H' fun σ2 H2 => wipe σ2 vs = wipe σ vs ∧ tt σ2 H2 fun b H3 =>
        if b = true then te σ2 H3 fun y H4 => ∃ acc, H4 D = some (.lst acc) ∧ acc.length < sizeLine ∧ Nx (upd H4 D (.lst (acc ++ [y]))) else Nx H3) := by
  refine ⟨fun i m H => m = xs.length - i ∧ i ≤ xs.length ∧ (∀ q o, H1 q = some o → H q = some o) ∧ ∃ ys, H D = some (.lst ys) ∧ ys.length = i ∧ ∀ j y, ys[j]? = some y → Rel j y H, ⟨xs.length, by simp, Nat.zero_le _, fun q o h => by rw [upd_ne (ne_of_none h hD)]; exact h, [], upd_same, rfl, fun j y h => by simp at h⟩, ?_⟩
  rintro i m H ⟨rfl, hi, hK, ys, hDl, hyl, hR⟩
  have fi := hJ H hK
  by_cases hlt : i < xs.length
  · refine .inr ⟨fi.go i hlt, fun H' => (∀ q o, H1 q = some o → H' q = some o) ∧ ∃ ys, H' D = some (.lst ys) ∧ ys.length = i + 1 ∧ ∀ j y, ys[j]? = some y → Rel j y H', fun H' w => ⟨xs.length - (i + 1), by omega, rfl, hlt, w⟩, ?_⟩
    intro x H' hy
    obtain ⟨rfl, hx⟩ := fi.yld i x H' hy
    refine hs i x H' (fun y H4 => _) (fun H3 => _) hx hK ⟨_, hDl⟩ fun y H4 k4 r4 => ⟨ys, k4 _ _ hDl, by rw [sizeLine_eq]; omega, fun q o h => by rw [upd_ne (ne_of_none h hD)]; exact k4 _ _ (hK q o h), ys ++ [y], upd_same, by rw [List.length_append, hyl]; rfl, fun j z hz => ?_⟩
    have ku : ∀ q o, q ≠ D → H4 q = some o → (upd H4 D (.lst (ys ++ [y]))) q = some o := fun q o n h => by rw [upd_ne n]; exact h
    by_cases hj : j < ys.length
    · rw [List.getElem?_append_left hj] at hz
      exact hmono j z _ _ ⟨ys, k4 _ _ hDl⟩ (hmono j z _ _ ⟨ys, hDl⟩ (hR j z hz) fun q o _ h => k4 q o h) ku
    · rw [List.getElem?_append_right (by omega)] at hz
      obtain ⟨h0, _⟩ := List.getElem?_eq_some_iff.mp hz
      have e : j - ys.length = 0 := by simpa using h0
      rw [e] at hz
      obtain rfl : y = z := by simpa using hz
      obtain rfl : j = i := by omega
      exact hmono _ _ _ _ ⟨ys, k4 _ _ hDl⟩ r4 ku
  · have e : i = xs.length := by omega
    subst e
    exact .inl ⟨fi.stop _ (Nat.le_refl _), hd H ys hK hDl hyl hR⟩
end
end Tw

set_option Elab.async false
set_option linter.all false
set_option maxRecDepth 100000
set_option maxHeartbeats 4000000
namespace PySem
namespace ErBadShape
open PySem.W PySem.Calls PyProof.Rows PySem.HandSPX PySem.TwX
def inA (p1 p2 p3 : Pos) : Arguments := { posonlyargs := [], args := [{ arg := "self", annotation := none, pos := p1 }, { arg := "why", annotation := none, pos := p2 }, { arg := "at", annotation := none, pos := p3 }], vararg := none, kwonlyargs := [], kw_defaults := [], kwarg := none, defaults := [] }
def inB (q1 q2 q3 q4 q5 q6 q7 q8 : Pos) : List Stmt := [.Assign [.Attribute (.Name "self" q1) "why" q2] (.Name "why" q3) q4, .Assign [.Attribute (.Name "self" q5) "at" q6] (.Name "at" q7) q8]
/-- what the written part says of the class at C, and of its __init__ at fI -/
structure Err (K : Frag) (mg : Str → Option Value) (C fI : Addr) : Prop where
  gC : mg "BadShape" = some (.ref C)
  cls : ∃ nm q N bs bm sn sub ab col dd k0 k1 k2 k3 k5, K.lookup C = some (excClassObj nm q C N bs bm true sn sub ab col dd k0 k1 k2 k3 k5 "Exception.__new__") ∧ OwnEx bm
  sa : findIn K (.ref C) "__setattr__" = some (some (.builtin "object.__setattr__"))
  ga : findIn K (.ref C) "__getattribute__" = some (some (.builtin "BaseException.__getattribute__"))
  gg : findIn K (.ref C) "__getattr__" = some none
  noF : findIn K (.ref C) "why" = some none
  noG : findIn K (.ref C) "at" = some none
  ini : findIn K (.ref C) "__init__" = some (some (.ref fI))
  tyI : typeIn K (.ref fI) = some (.type "function")
  kC : keepIn K (.ref C) = true
  exC : subIn K (.ref C) (.type "BaseException") = some true
  tyC : typeIn K (.ref C) = some (.type "type")
  hdC : hasDictIn K C = true
  te : exmOne K (.ref C) (.ref C) = some true
  fn : ∃ (oc : Value) (od : Option Addr) (doc pm : Value) (an : Option Addr) (cdv ct : Value) (osl : Array (Option Value)) (p1 p2 p3 q1 q2 q3 q4 q5 q6 q7 q8 : Pos) (sc : Scope),
    K.lookup fI = some ⟨oc, od, .func (fnOf "__init__" "BadShape.__init__" (inA p1 p2 p3) (inB q1 q2 q3 q4 q5 q6 q7 q8) sc .none .none doc pm an cdv ct), osl⟩ ∧ codeIn K cdv "BadShape.__init__" = true ∧ sc.kind = .function ∧ sc.names = [(PySem.Str.ofString "self", .local), (PySem.Str.ofString "why", .local), (PySem.Str.ofString "at", .local)] ∧ sc.isGenerator = false ∧ sc.isCoroutine = false
theorem two_ok (v u : Value) : [v, u].length ≤ sizeLine := by rw [sizeLine_eq]; exact (by decide : 2 ≤ 16777216)
theorem read_local {M : Model} {s : Shared} {name : Str} {scope : Scope} {L a : Addr} {cd : Value} {m : Str → Option Value} {x : Str} {pos : Pos} {v : Value} {Q : Value → Shared → Prop} {A : Around} {E : Value → Shared → Prop} (hn : s.heap.Ns L m) (hv : m x = some v) (h : Q v s) (hk : scope.kind = .function)
    (hl : scope.names.lookup x = some .local) (hd : (x == ("__debug__" : Str)) = false := by decide) : wpAny M A (eval (.Name x pos) (envOfC name scope L a cd)) Q E s := wpAny_Name (wpAny_loadName_local hk hl hn hv h) hd
structure InitLeft (h h2 : Heap) (x C dx t1 : Addr) (v u : Value) : Prop where
  keep : ∀ b o, b ≠ x → h.get? b = some o → h2.get? b = some o
  obj : h2.get? x = some { cls := .ref C, dict := some dx, data := .fields #[.ref t1, .none, .none, .none, .bool false, .none] }
  dbig : h.objs.size ≤ dx
  dne : dx ≠ x
  ns : h2.Ns1 dx (fun y => if y = "at" then some u else if y = "why" then some v else none)
structure ErrMade (h h2 : Heap) (e C d : Addr) (v u : Value) : Prop where
  keep : ∀ b o, h.get? b = some o → h2.get? b = some o
  new : h.objs.size ≤ e
  obj : ∃ oe vs, h2.get? e = some oe ∧ oe.cls = .ref C ∧ oe.dict = some d ∧ oe.data = .fields vs ∧ vs[1]? = some .none
  dbig : h.objs.size ≤ d
  dne : d ≠ e
  ns : h2.Ns1 d (fun y => if y = "at" then some u else if y = "why" then some v else none)
section
variable {prog : Program} {w : World} {A : Around} {E : Value → Shared → Prop} {R : Result → Shared → Prop} {s : Shared} {K : Frag} {mg : Str → Option Value} {C fI : Addr}
theorem err_init (T : Err K mg C fI) {x t0 : Addr} {v u : Value} (X : K.In s.heap) (hlim : s.heap.NoLimit) (hx : s.heap.get? x = some (excO C t0)) (hxK : ∀ b o, K.lookup b = some o → b ≠ x) (hroom : A.depth < recursionLimit)
    (hq : ∀ h2 tk dx, InitLeft s.heap h2 x C dx t0 v u → R (.ok (.ret .none)) { s with heap := h2, toks := tk }) :
    codeAny (model prog w) A (.call (.ref fI) ⟨[.ref x, v, u], []⟩) R s := by
  obtain ⟨oc, od, doc, pm, an, cdv, ct, osl, p1, p2, p3, q1, q2, q3, q4, q5, q6, q7, q8, sc, ho, hcd, hk, hnames, hge, hco⟩ := T.fn
  obtain ⟨nm', q, N, bs, bm, sn, sub, ab, col, dd, k0, k1, k2, k3, k5, hC, hbm⟩ := T.cls
  have hcl : clsIn K C = some { name := nm', bases := bs, mro := .ref C :: bm, ns := N, qualname := q, hasDict := true, slotNames := sn, subclasses := sub, abstract := ab, collection := col, hasDel := false } := by unfold clsIn; rw [hC] <;> rfl
  have l1 : sc.names.lookup ("self" : Str) = some .local := by rw [hnames]; decide +kernel
  have l2 : sc.names.lookup ("why" : Str) = some .local := by rw [hnames]; decide +kernel
  have l3 : sc.names.lookup ("at" : Str) = some .local := by rw [hnames]; decide +kernel
  refine Att.call_fn (binds := [("self", .ref x), ("why", v), ("at", u)]) X hlim ho hcd hroom (BindsTo.of_eq (by first | rfl | with_unfolding_all rfl)) (by rw [List.all_cons, List.all_cons, List.all_cons, l1, l2, l3]; rfl) (fun s₁ IC => ?_) hco hge hk
  obtain ⟨h₁, tk₁, rfl⟩ := IC.toInCall.same
  have k : ∀ b o, s.heap.get? b = some o → h₁.get? b = some o := IC.toInCall.keep
  have hn := IC.toInCall.ns
  have X₁ : K.In h₁ := X.keeps k
  have hx₁ := k _ _ hx
  have b1 : (bindL (envOfC "BadShape.__init__" sc s.heap.objs.size fI cdv).kindOf [("self", .ref x), ("why", v), ("at", u)] fun _ => none) ("self" : Str) = some (.ref x) :=
    L2.bindL_get (P := ["self", "why", "at"]) (vs := [.ref x, v, u]) (i := 0) (by decide +kernel) rfl rfl l1
  have b2 : (bindL (envOfC "BadShape.__init__" sc s.heap.objs.size fI cdv).kindOf [("self", .ref x), ("why", v), ("at", u)] fun _ => none) ("why" : Str) = some v :=
    L2.bindL_get (P := ["self", "why", "at"]) (vs := [.ref x, v, u]) (i := 1) (by decide +kernel) rfl rfl l2
  have b3 : (bindL (envOfC "BadShape.__init__" sc s.heap.objs.size fI cdv).kindOf [("self", .ref x), ("why", v), ("at", u)] fun _ => none) ("at" : Str) = some u :=
    L2.bindL_get (P := ["self", "why", "at"]) (vs := [.ref x, v, u]) (i := 2) (by decide +kernel) rfl rfl l3
  show wpAny _ _ (execs _ _) _ _ _
  refine wpAny_execs_cons (plainObj_wpAny_Assign_Attribute ?_)
  refine read_local (v := v) hn b2 (read_local (v := .ref x) hn b1 ?_ hk l1) hk l2
  refine set_plain X₁ (ox := excO C t0) (od := none) ⟨hx₁, rfl, rfl, trivial⟩ T.sa ?_
  refine setattr_first X₁ hx₁ hcl (.own C hbm) rfl T.noF (fun h₃ tk₃ dx k₃ dn dne hx₃ hn₃ => ?_)
  have z : s.heap.objs.size < h₁.objs.size := hn.lt
  have nx : x < s.heap.objs.size := Heap.lt_size hx
  have hn₄ := hn.at fun o q => k₃ _ _ (Nat.ne_of_gt nx) q
  have X₃ : K.In h₃ := fun b o e => k₃ b o (hxK b o e) (k b o (X b o e))
  show wpAny _ _ (execs _ _) _ _ _
  refine wpAny_execs_cons (plainObj_wpAny_Assign_Attribute ?_)
  refine read_local (v := u) hn₄ b3 (read_local (v := .ref x) hn₄ b1 ?_ hk l1) hk l3
  have hw₄ : Within (fun y => if y = ("why" : Str) then some v else none) [("why" : Str)] := fun y hy => by
    by_cases e : y = ("why" : Str)
    · rw [e]; exact List.mem_cons_self
    · exact absurd (if_neg e) hy
  obtain ⟨oD, eD, pD, gD, dD, _⟩ := hn₃.count hw₄
  refine set_plain X₃ (ox := { cls := .ref C, dict := some dx, data := .fields #[.ref t0, .none, .none, .none, .bool false, .none] }) (od := some oD) ⟨hx₃, rfl, rfl, gD⟩ T.sa ?_
  refine setattr_next X₃ hx₃ hn₃ hw₄ (by decide) hcl (.own C hbm) rfl T.noG (fun h₅ tk₅ k₅ hn₅ => ?_)
  show wpAny _ _ (execs _ _) _ _ _
  exact wpAny_execs_nil (hq h₅ tk₅ dx ⟨fun b o hb e => k₅ b o (fun eb => by
    have e2 := Heap.lt_size e
    have e3 := Nat.lt_of_lt_of_le z dn
    rw [eb] at e2
    exact absurd e2 (Nat.not_lt.mpr (Nat.le_of_lt e3))) (k₃ b o hb (k b o e)), k₅ _ _ (Ne.symm dne) hx₃, Nat.le_of_lt (Nat.lt_of_lt_of_le z dn), dne, hn₅⟩)
theorem err_made (T : Err K mg C fI) {v u : Value} (X : K.In s.heap) (hlim : s.heap.NoLimit) (hroom : A.depth + 1 < recursionLimit)
    (hq : ∀ h2 tk e d, ErrMade s.heap h2 e C d v u → R (.ok (.ret (.ref e))) { s with heap := h2, toks := tk }) :
    codeAny (model prog w) A (.call (.ref C) ⟨[v, u], []⟩) R s := by
  obtain ⟨nm', q, N, bs, bm, sn, sub, ab, col, dd, k0, k1, k2, k3, k5, hC, hbm⟩ := T.cls
  obtain ⟨hp, g, dr, tk, os⟩ := s
  have k : ∀ b o, hp.get? b = some o → ((hp.push (kdv_tup [v, u])).push (excO C hp.objs.size)).get? b = some o := fun b o e => Heap.get?_push_of_some _ (Heap.get?_push_of_some _ e)
  have hget : ((hp.push (kdv_tup [v, u])).push (excO C hp.objs.size)).get? (hp.objs.size + 1) = some (excO C hp.objs.size) := by heap_get
  refine call_own F.excBase_Exception (fun X => hbm.has X) (X _ _ hC) (looks_findIn X T.ini) (fun self => bind_fn X self T.tyI) (two_ok v u) ?_
  refine err_init (s := ⟨(hp.push (kdv_tup [v, u])).push (excO C hp.objs.size), g, dr, tk, os⟩) T (X.keeps k) (hlim.keeps k) hget (fun b o e => Nat.ne_of_lt (Nat.lt_succ_of_lt (Heap.lt_size (X b o e)))) ?_ fun h2 tk2 dx ⟨k', hx, dn, dne, hns⟩ => ?_
  · show A.depth + 1 < recursionLimit
    exact hroom
  · have old : ∀ b o, hp.get? b = some o → h2.get? b = some o := fun b o e => k' b o (Nat.ne_of_lt (Nat.lt_succ_of_lt (Heap.lt_size e))) (k b o e)
    have z : hp.objs.size + 1 + 1 ≤ dx := by
      first
        | (simpa only [Heap.size_push] using dn)
        | exact dn
        | (have q := dn; rw [Heap.size_push, Heap.size_push] at q; exact q)
    exact ⟨rfl, hq h2 tk2 (hp.objs.size + 1) dx ⟨old, Nat.le_succ _, ⟨_, _, hx, rfl, rfl, rfl, rfl⟩, Nat.le_trans (Nat.le_trans (Nat.le_succ _) (Nat.le_succ _)) z, dne, hns⟩⟩
end
end ErBadShape
end PySem
namespace Tw
open PySem L2
theorem relO_BadShape {v u : V} {v' u' : Value} (r : RelV v v') (r2 : RelV u u') (f : Str) : RelO (List.lookup f [(("why" : Str), v), (("at" : Str), u)]) (if f = "at" then some u' else if f = "why" then some v' else none) := by
  have nFG : ("why" : Str) ≠ "at" := by decide +kernel
  by_cases hw : f = "why"
  · subst hw
    rw [if_neg nFG, if_pos rfl]
    have q : List.lookup ("why" : Str) [(("why" : Str), v), (("at" : Str), u)] = some v := by simp [List.lookup]
    rw [q]
    exact r
  · have qw : (f == ("why" : Str)) = false := by simpa using hw
    by_cases hg : f = "at"
    · subst hg
      rw [if_pos rfl]
      have q : List.lookup ("at" : Str) [(("why" : Str), v), (("at" : Str), u)] = some u := by simp [List.lookup, qw]
      rw [q]
      exact r2
    · rw [if_neg hg, if_neg hw]
      have qg : (f == ("at" : Str)) = false := by simpa using hg
      have q2 : List.lookup f [(("why" : Str), v), (("at" : Str), u)] = none := by simp [List.lookup, qw, qg]
      rw [q2]
      trivial
section
variable {X : Cx} {C fI : Addr}
def tMkBadShape (C : Addr) (ta : TA) : L2.St → Hp → XK → Prop := fun σ H Q => ta σ H fun vs H1 => ∃ v u, vs = [v, u] ∧ ∀ d, H1 d = none → Q (.ref C) (some d) (upd H1 d (.xd [(("why" : Str), v), (("at" : Str), u)]))
theorem pmk_BadShape {a b : Expr} {ta : TA} {p pos : Pos} {k : Nat} (T : PySem.ErBadShape.Err X.K X.mg C fI) (hr : Room k X.A) (ha : PA X [a, b] ta) (hg : Gl X "BadShape" := by rfl)
    (he : starEach [a, b] X.env = (false, eval a X.env) :: starEach [b] X.env := by rfl) (hpl : (backTo pos (starEach [b] X.env)).any (·.1) = false := by rfl) :
    PMk X (.Call (.Name "BadShape" p) [a, b] [] pos) (tMkBadShape C ta) := by
  intro pins s σ H Q I h
  refine wpAny_Call_Name_kw (ld_glob I hg T.gC ?_)
  refine PySem.W.callWith_K (h₀ := X.base) I.ok.mod.kin T.kC (thn (ha.run pos pins s σ H _ I h) fun us s1 hh => ?_) he hpl
  obtain ⟨vs, H1, I1, r1, v, u, ev, q1⟩ := hh
  subst ev
  refine ⟨I1.kIn, ?_⟩
  cases r1 with
  | cons rv rn =>
    rename_i v' us'
    cases rn with
    | cons ru rn =>
    rename_i u' us'
    cases rn
    show wpAny _ _ (call (.ref C) [v', u']) _ _ _
    have hlim := I1.nolimit
    obtain ⟨hp, g, dr, tk, os⟩ := s1
    refine wpAny_call (PySem.ErBadShape.err_made T I1.kIn hlim (by have := hr.dp; omega) fun h' tk' e d M => ?_)
    show MkP X pins σ Q (.ref e) ⟨h', g, dr, tk', os⟩
    obtain ⟨oe, fv, hoe, hc, hd, hdat, h1⟩ := M.obj
    have hns := M.ns
    obtain ⟨G', g1, g2⟩ := restrict h' fun b => decide (b ≠ e)
    have gk : ∀ b, b ≠ e → G'.get? b = h'.get? b := fun b hb => g1 b (decide_eq_true hb)
    have ge : G'.get? e = none := g2 e (by simp)
    have old : ∀ b o, hp.get? b = some o → G'.get? b = some o := fun b o q => (gk b (Nat.ne_of_lt (Nat.lt_of_lt_of_le (Heap.lt_size q) M.new))).trans (M.keep b o q)
    have ob : ObjOk X.prog X.w (upd H1 d (.xd [(("why" : Str), v), (("at" : Str), u)])) G' d (.xd [(("why" : Str), v), (("at" : Str), u)]) :=
      ⟨_, hns.at (fun o q => (gk d M.dne).trans q), fun f => relO_BadShape rv ru f⟩
    have J : Inv X pins σ (upd H1 d (.xd [(("why" : Str), v), (("at" : Str), u)])) ⟨G', g, dr, tk', os⟩ := I1.laid (t' := tk') old M.dbig ob
    refine ⟨e, oe, fv, ⟨G', g, dr, tk', os⟩, _, .ref C, some d, rfl, J, fun b o q => ?_, ge, hoe, ⟨hc, hd⟩, hdat, h1, ?_, rfl, I1.bare, raises_own T.exC T.tyC, q1 d (I1.hok.fresh M.dbig)⟩
    · by_cases hb : b = e
      · have q' : G'.get? b = some o := q
        rw [hb, ge] at q'; cases q'
      · exact (gk b hb).symm.trans q
    · rw [upd_ne (Ne.symm M.dne)]
      exact I1.hok.fresh M.new
def tRaiseBadShape (C : Addr) (W : WX) (ta : TA) : TS := fun _ σ H => tMkBadShape C ta σ H fun cls d H' => W cls d σ H'
theorem ps_raiseBadShape {a b : Expr} {ta : TA} {W : WX} {p pos pos2 : Pos} {k : Nat} (hc : X.calm = true) (T : PySem.ErBadShape.Err X.K X.mg C fI) (hr : Room k X.A) (tk : Takes X W) (ha : PA X [a, b] ta) (hg : Gl X "BadShape" := by rfl)
    (he : starEach [a, b] X.env = (false, eval a X.env) :: starEach [b] X.env := by rfl) (hpl : (backTo pos (starEach [b] X.env)).any (·.1) = false := by rfl) :
    PS X (.Raise (some (.Call (.Name "BadShape" p) [a, b] [] pos)) none pos2) (tRaiseBadShape C W ta) := ps_raise hc tk (pmk_BadShape T hr ha hg he hpl)
def tByBadShape_why (C : Addr) (a : Addr) (cls : Value) (d : Option Addr) (te : TE) : TE := fun σ H Q => te σ H fun x H1 => x = .ref a ∧ cls = .ref C ∧ ∃ (dd : Addr) (v u : V), d = some dd ∧ H1 dd = some (.xd [(("why" : Str), v), (("at" : Str), u)]) ∧ Q v H1
theorem pe_byBadShape_why {a : Addr} {oe : Obj} {cls : Value} {d : Option Addr} {pn : List (Addr × Obj)} {e : Expr} {te : TE} {pos : Pos} (T : PySem.ErBadShape.Err X.K X.mg C fI) (hz : Zc cls d oe) (hf : ∃ vs, oe.data = .fields vs) (he : PE (X.suite a ((a, oe) :: pn)) e te)
    (hb : attributeBase e "why" X.env (eval e X.env) = eval e X.env := by rfl) :
    PE (X.suite a ((a, oe) :: pn)) (.Attribute e "why" pos) (tByBadShape_why C a cls d te) := by
  refine ⟨fun pins s σ H Q I h => ?_⟩
  refine attr_of hb (thn (he.run pins s σ H _ I h) fun u s1 hh => ?_)
  obtain ⟨x, H1, I1, rx, ex, ec, dd, v, u0, ed, ea, q⟩ := hh
  subst ex
  obtain rfl : u = Value.ref a := rx
  subst ec
  subst ed
  obtain ⟨ha, _⟩ := I1.pin (a, oe) (List.mem_append_left _ List.mem_cons_self)
  obtain ⟨vs, hd⟩ := hf
  have hx : ObjOk X.prog X.w H1 s1.heap dd (.xd [(("why" : Str), v), (("at" : Str), u0)]) := I1.hok dd _ ea
  obtain ⟨mA, hns, hr⟩ := hx
  obtain ⟨od, ho, hl⟩ := lookIn_ns hns
  have l : List.lookup ("why" : Str) [(("why" : Str), v), (("at" : Str), u0)] = some v := by simp [List.lookup]
  obtain ⟨u, hu, ru⟩ := RelO.some_of (v := v) (o := mA "why") (by rw [← l]; exact hr "why")
  have J : PySem.W.InstAt s1.heap a oe C (some od) := ⟨ha, hz.1, by unfold PySem.W.notCls; rw [hd] <;> rfl, by rw [hz.2]; exact ho⟩
  exact HandSPX.exc_get I1.kIn J T.ga T.gg T.exC (PySem.W.findObj_own T.hdC T.noF rfl (by rw [hl, hu])) (handed_of ru) ⟨v, H1, I1.tok _, ru, q⟩
def tByBadShape_at (C : Addr) (a : Addr) (cls : Value) (d : Option Addr) (te : TE) : TE := fun σ H Q => te σ H fun x H1 => x = .ref a ∧ cls = .ref C ∧ ∃ (dd : Addr) (v u : V), d = some dd ∧ H1 dd = some (.xd [(("why" : Str), v), (("at" : Str), u)]) ∧ Q u H1
theorem pe_byBadShape_at {a : Addr} {oe : Obj} {cls : Value} {d : Option Addr} {pn : List (Addr × Obj)} {e : Expr} {te : TE} {pos : Pos} (T : PySem.ErBadShape.Err X.K X.mg C fI) (hz : Zc cls d oe) (hf : ∃ vs, oe.data = .fields vs) (he : PE (X.suite a ((a, oe) :: pn)) e te)
    (hb : attributeBase e "at" X.env (eval e X.env) = eval e X.env := by rfl) :
    PE (X.suite a ((a, oe) :: pn)) (.Attribute e "at" pos) (tByBadShape_at C a cls d te) := by
  refine ⟨fun pins s σ H Q I h => ?_⟩
  refine attr_of hb (thn (he.run pins s σ H _ I h) fun u s1 hh => ?_)
  obtain ⟨x, H1, I1, rx, ex, ec, dd, v, u0, ed, ea, q⟩ := hh
  subst ex
  obtain rfl : u = Value.ref a := rx
  subst ec
  subst ed
  obtain ⟨ha, _⟩ := I1.pin (a, oe) (List.mem_append_left _ List.mem_cons_self)
  obtain ⟨vs, hd⟩ := hf
  have hx : ObjOk X.prog X.w H1 s1.heap dd (.xd [(("why" : Str), v), (("at" : Str), u0)]) := I1.hok dd _ ea
  obtain ⟨mA, hns, hr⟩ := hx
  obtain ⟨od, ho, hl⟩ := lookIn_ns hns
  have l : List.lookup ("at" : Str) [(("why" : Str), v), (("at" : Str), u0)] = some u0 := by
    have qw : (("at" : Str) == ("why" : Str)) = false := by decide +kernel
    simp [List.lookup, qw]
  obtain ⟨u, hu, ru⟩ := RelO.some_of (v := u0) (o := mA "at") (by rw [← l]; exact hr "at")
  have J : PySem.W.InstAt s1.heap a oe C (some od) := ⟨ha, hz.1, by unfold PySem.W.notCls; rw [hd] <;> rfl, by rw [hz.2]; exact ho⟩
  exact HandSPX.exc_get I1.kIn J T.ga T.gg T.exC (PySem.W.findObj_own T.hdC T.noG rfl (by rw [hl, hu])) (handed_of ru) ⟨u0, H1, I1.tok _, ru, q⟩
end
end Tw

set_option Elab.async false
set_option linter.all false
set_option maxRecDepth 100000
set_option maxHeartbeats 4000000
/-! enumerate over a list or a tuple; a walk over either; a maker with two keyword-only parameters whose defaults are empty tuples -/
namespace PySem
namespace TwE
open Sem (wp)
theorem fresh_enum {v : Value} {o : Obj} {Hc : Heap → Prop} (B : Begins v o Hc) :
    Meets (Builtin.«enumerate.__new__» ⟨[.type "enumerate", v], []⟩) (fun _ R s => Hc s.heap ∧ R (.ok (.ret (.ref (s.heap.push o).objs.size)))
      { s with heap := (s.heap.push o).push { cls := .type "enumerate", data := .fields #[.none, .bool false, .ref s.heap.objs.size, rawInt 0, .none, .none] } }) :=
  .of_wp fun pr wd Ar Rr st hyp => by
    obtain ⟨hp, gg, dr, tc, os⟩ := st
    obtain ⟨hb, hr⟩ := hyp
    have sub0 := sub_enumerate
    have start : ∀ {A2 : Around} {E2 Q2 : Value → Shared → Prop}, Q2 (.ref hp.objs.size) ⟨hp.push o, gg, dr, tc, os⟩ → wpAny (model pr wd) A2 (pyIter v) Q2 E2 ⟨hp, gg, dr, tc, os⟩ := fun q => B.iter pr wd _ _ ⟨hp, gg, dr, tc, os⟩ _ hb q
    wp_walk using start
    refine wpAny_stack_any fun stk => wpAny_pure ?_
    split
    · rename_i cc _ _ _ _ _
      rcases (cc == Value.type "enumerate") with _ | _
      all_goals wp_walk using start
      all_goals exact ⟨_, rfl, hr⟩
    · wp_walk using start
      exact ⟨_, rfl, hr⟩
section
variable {prog : Program} {w : World} {A : Around} {E : Value → Shared → Prop} {s : Shared}
theorem enum_call {v : Value} {o : Obj} {Hc : Heap → Prop} {Q : Value → Shared → Prop} (B : Begins v o Hc) (h1 : Hc s.heap)
    (hq : ∀ h2, IsEnum h2 (s.heap.objs.size + 1) s.heap.objs.size 0 .none → h2.get? s.heap.objs.size = some o → h2.objs.size = s.heap.objs.size + 2 → (∀ b u, s.heap.get? b = some u → h2.get? b = some u) → Q (.ref (s.heap.objs.size + 1)) { s with heap := h2 }) :
    wpAny (model prog w) A (call (.type "enumerate") [v]) Q E s := by
  refine callType_new F.called_enumerate (by decide) (F.typeCall_enumerate_1 _) (F.newCall_enumerate_1 _) (fun x => F.args_object_init_2 x _) F.entry_enumerate_new (fresh_enum B) ⟨h1, ?_⟩
  have sz : (s.heap.push o).objs.size = s.heap.objs.size + 1 := Heap.size_push ..
  have en := Heap.get?_push_size (s.heap.push o) (o := { cls := .type "enumerate", data := .fields #[.none, .bool false, .ref s.heap.objs.size, rawInt 0, .none, .none] }) rfl
  rw [sz] at en
  show _ ∧ _
  rw [sz]
  exact ⟨⟨_, en, rfl⟩, hq _ en (Heap.get?_push_of_some _ (Heap.get?_push_size _ B.free)) (by rw [Heap.size_push, sz]) fun b u e => Heap.get?_push_of_some _ (Heap.get?_push_of_some _ e)⟩
end
end TwE
end PySem
namespace L2
open PySem PySem.Spec PyProof.Rows
/-- the tuple at a, each item in a new pair -/
def Itet (K : PySem.W.Frag) (a : Addr) : It :=
  ⟨fun i H => ∃ (xs : List V) (x : V), SqT K H a xs ∧ xs[i]? = some x, fun i H v H2 => ∃ T x, v = .ref T ∧ H T = none ∧ H2 = upd H T (.tup [.int (i : Nat), x]) ∧ ∀ xs, SqT K H a xs → xs[i]? = some x, fun i H => ∃ xs : List V, SqT K H a xs ∧ xs.length = i⟩
theorem tw_apart {h : Heap} {a it : Addr} {i : Nat} {its : Array Value} (p : h.IsTuple a its) (q : h.IsTupleIter it a i) : a ≠ it := by
  intro e
  obtain ⟨o, ho, hc, n, hd⟩ := p
  obtain ⟨o2, ho2, hc2, hd2⟩ := q
  rw [e, ho2] at ho
  cases ho
  rw [hd] at hd2
  cases hd2
theorem tw_apart2 {h : Heap} {a e it : Addr} {c : Int} {old : Value} {its : Array Value} (p : h.IsTuple a its) (q : IsEnum h e it c old) : e ≠ a := by
  intro z
  obtain ⟨o, ho, hc, n, hd⟩ := p
  have ho2 := q
  unfold IsEnum at ho2
  rw [z, ho] at ho2
  cases ho2
  cases hd
theorem turn_enumT {P : Program} {w : World} {K : PySem.W.Frag} {elts : List Expr} {kk : Nat} {tpos : Pos} (a e it : Addr) :
    Turn P w K (.Tuple elts kk tpos) (Itet K a) [e, it] e (fun i h => (∃ old, IsEnum h e it ((i : Nat) : Int) old) ∧ h.IsTupleIter it a i ∧ e ≠ it) where
  mem := by simp
  obj := fun i h st b hb => by
    obtain ⟨⟨old, he⟩, ⟨o, ho, hc, hd⟩, _⟩ := st
    rcases (show b = e ∨ b = it by simpa using hb) with rfl | rfl
    · exact ⟨_, he, fun v q => nomatch q⟩
    · exact ⟨o, ho, fun v q => by rw [hd] at q; cases q⟩
  keep := fun i h h2 st k => ⟨st.1.elim fun old he => ⟨old, k e (by simp) _ he⟩, st.2.1.at fun o q => k it (by simp) o q, st.2.2⟩
  item := by
    intro X hP hw hK hc i pins s σ H E I hf st hg
    subst hP hw hK
    obtain ⟨⟨old, he⟩, hit, hne⟩ := st
    obtain ⟨xs, x, hq, hx⟩ := hg
    obtain ⟨its, rv, p, hz⟩ := I.tuple hq
    have pt : s.heap.IsTuple a its.toArray := p
    obtain ⟨u, hu, ru⟩ := rv.get hx
    have hel : e < s.heap.objs.size := Heap.lt_size he
    have hil : it < s.heap.objs.size := by
      obtain ⟨_, q, _⟩ := hit
      exact Heap.lt_size q
    have hai := tw_apart pt hit
    have hea := tw_apart2 pt he
    have D := Draws.tuple (prog := X.prog) (w := X.w) (A := X.A.in1) (I.ok.hd hc) it a hai its.toArray
    have hlt : i < its.toArray.size := by
      have := (List.getElem?_eq_some_iff.mp hu).1
      simpa using this
    refine wpAny_pyNext_enum_itemD D he ⟨hit, pt⟩ hlt hne (by simp [hne, hea]) fun y h2 tk py ho st2 hT hsz hk => ?_
    obtain rfl : u = y := by
      rw [List.getElem?_toArray, hu] at py
      injection py
    refine ⟨_, rfl, wpAny_letOwnedTupleGo_enum (s := { s with heap := h2, toks := tk + 1 }) ho fun h3 he3 sb => ?_⟩
    have hT3 : h3.get? s.heap.objs.size = some { cls := .type "tuple", data := .seq #[.int i tk, u] } := (sb.2 _ (Nat.ne_of_gt hel)).trans hT
    have new : ObjOk X.prog X.w (upd H s.heap.objs.size (.tup [.int (i : Nat), x])) h3 s.heap.objs.size (.tup [.int (i : Nat), x]) :=
      ⟨by show 2 ≤ sizeLine; decide, [.int i tk, u], .cons ⟨_, rfl⟩ (.cons ru .nil), ⟨_, hT3, rfl, _, rfl⟩⟩
    have I3 : Inv X pins σ (upd H s.heap.objs.size (.tup [.int (i : Nat), x])) { s with heap := h3, toks := tk + 1 } :=
      I.turnedNew (ch := [e, it]) (fun b ob hb q => by
        have n1 : b ≠ e := fun z => hb (by simp [z])
        have n2 : b ≠ it := fun z => hb (by simp [z])
        exact (sb.2 b n1).trans (hk b ob n1 n2 q)) hf (Nat.le_refl _) new
    have e1 : ((i + 1 : Nat) : Int) = (i : Int) + 1 := by omega
    refine ⟨.ref s.heap.objs.size, _, I3, rfl, ⟨_, x, rfl, I.hok.fresh (Nat.le_refl _), rfl, fun ys hy => by rw [I.tuple_inj hy hq]; exact hx⟩, ⟨⟨u, by rw [e1]; exact he3⟩, st2.1.at fun o q => (sb.2 it (Ne.symm hne)).trans q, hne⟩, fun b hb => ?_⟩
    have hb2 : b < s.heap.objs.size := by
      rcases (show b = e ∨ b = it by simpa using hb) with rfl | rfl
      · exact hel
      · exact hil
    rw [upd_ne (Nat.ne_of_lt hb2)]
    exact (hf b hb).1
  done := by
    intro X hP hw hK hc i pins s σ H E I hf st hg
    subst hP hw hK
    obtain ⟨⟨old, he⟩, hit, hne⟩ := st
    obtain ⟨xs, hq, hx⟩ := hg
    obtain ⟨its, rv, p, hz⟩ := I.tuple hq
    have pt : s.heap.IsTuple a its.toArray := p
    obtain ⟨f0, f1, f2, f3, f4, f5⟩ := hf it (by simp)
    have D := Draws.tuple (prog := X.prog) (w := X.w) (A := X.A.in1) (I.ok.hd hc) it a (tw_apart pt hit) its.toArray
    have hl : its.toArray.size = i := by
      rw [List.size_toArray, ← rv.length, hx]
    exact wpAny_pyNext_enum_endD D he (by rw [hl]; exact ⟨hit, pt⟩) fun h2 eb => ⟨rfl, I.turned (t' := s.toks) (fun b o hb q => eb b o hb q) f0 f1 f3 f4 f5⟩
  self := fun A i s Q E st h => st.1.elim fun _ he => wpAny_pyIter_enum he h
/-- what enumerate gives of the items xs -/
structure EFits (J : It) (xs : List V) (H : Hp) : Prop where
  go : ∀ i, i < xs.length → J.go i H
  stop : J.stop xs.length H
  yld : ∀ i x H', J.yld i H x H' → ∃ T v, x = .ref T ∧ H T = none ∧ H' = upd H T (.tup [.int (i : Nat), v]) ∧ xs[i]? = some v
/-- a list or a tuple -/
def SqA (K : PySem.W.Frag) (H : Hp) (a : Addr) (xs : List V) : Prop := SqL K H a xs ∨ SqT K H a xs
theorem same_l {K : PySem.W.Frag} {H H' : Hp} {a : Addr} {xs : List V} (h : SqL K H a xs) (e : H' a = H a) : SqL K H' a xs := by
  rcases h with h | h
  · exact .inl (by unfold Rd at h ⊢; rw [e]; exact h)
  · exact .inr h
theorem same_t {K : PySem.W.Frag} {H H' : Hp} {a : Addr} {xs : List V} (h : SqT K H a xs) (e : H' a = H a) : SqT K H' a xs := by
  rcases h with h | h
  · exact .inl (by unfold Rd at h ⊢; rw [e]; exact h)
  · exact .inr h
theorem efits_l {K : PySem.W.Frag} {H : Hp} {a : Addr} {xs : List V} (h : SqL K H a xs) : EFits (Ite K a) xs H :=
  ⟨fun i hi => ⟨xs, xs[i], h, List.getElem?_eq_getElem hi⟩, ⟨xs, h, Nat.le_refl _⟩, fun i x H' ⟨T, v, e1, e2, e3, e4⟩ => ⟨T, v, e1, e2, e3, e4 xs h⟩⟩
theorem efits_t {K : PySem.W.Frag} {H : Hp} {a : Addr} {xs : List V} (h : SqT K H a xs) : EFits (Itet K a) xs H :=
  ⟨fun i hi => ⟨xs, xs[i], h, List.getElem?_eq_getElem hi⟩, ⟨xs, h, rfl⟩, fun i x H' ⟨T, v, e1, e2, e3, e4⟩ => ⟨T, v, e1, e2, e3, e4 xs h⟩⟩
def iEnumG (K : PySem.W.Frag) (ta : TA) : TI := fun σ H R => ta σ H fun vs H1 => ∃ a xs, vs = [.ref a] ∧ SqA K H1 a xs ∧ ∀ J, (∀ H', H' a = H1 a → EFits J xs H') → R J H1
theorem pi_enumG {X : Cx} {K : PySem.W.Frag} {e : Expr} {ta : TA} {p pos tpos : Pos} {elts : List Expr} {kk : Nat} (hK : X.K = K) (hg : Gl X "enumerate") (hm : X.mg "enumerate" = none) (ha : PA X [e] ta) (hs : starEach [e] X.env = [(false, eval e X.env)] := by rfl) :
    PI X (.Tuple elts kk tpos) (.Call (.Name "enumerate" p) [e] [] pos) (iEnumG K ta) := by
  subst hK
  refine ⟨fun pins s σ H R I h => ?_⟩
  refine Call_ (ld_blt I hg hm boot_enumerate (PyProof.Rows.callWith_type1 (thn (ha.run pos pins s σ H _ I h) fun us s1 ⟨vs, H1, I1, r1, q1⟩ => ?_) hs rfl))
  obtain ⟨a, xs, rfl, hs2, q⟩ := q1
  cases r1 with
  | cons r rr =>
    cases rr
    cases r
    have fp : ∀ b ∈ [s1.heap.objs.size + 1, s1.heap.objs.size], FpOk X pins H1 b := fun b hb => by
      have hle : s1.heap.objs.size ≤ b := by
        rcases (show b = s1.heap.objs.size + 1 ∨ b = s1.heap.objs.size by simpa using hb) with rfl | rfl
        · exact Nat.le_add_right _ _
        · exact Nat.le_refl _
      exact I1.fpOk hle (I1.hok.fresh hle)
    rcases hs2 with hq | hq
    · replace q := q (Ite X.K a) fun H' e => efits_l (same_l hq e)
      obtain ⟨its, rv, p2, hz⟩ := I1.list hq
      refine call_enumerate_list p2.isList fun h2 he hit hsz hk => wpAny_pyIter_enum he ?_
      exact ⟨s1.heap.objs.size + 1, [s1.heap.objs.size + 1, s1.heap.objs.size], _, _, H1, rfl, I1.kept (t' := s1.toks) hk, turn_enum a (s1.heap.objs.size + 1) s1.heap.objs.size, ⟨⟨.none, he⟩, hit, Nat.succ_ne_self _⟩, fp, q⟩
    · replace q := q (Itet X.K a) fun H' e => efits_t (same_t hq e)
      obtain ⟨its, rv, p2, hz⟩ := I1.tuple hq
      have pt : s1.heap.IsTuple a its.toArray := p2
      refine TwE.enum_call (begins_tuple a its.toArray) pt fun h2 he hit hsz hk => wpAny_pyIter_enum he ?_
      exact ⟨s1.heap.objs.size + 1, [s1.heap.objs.size + 1, s1.heap.objs.size], _, _, H1, rfl, I1.kept (t' := s1.toks) hk, turn_enumT a (s1.heap.objs.size + 1) s1.heap.objs.size, ⟨⟨.none, he⟩, ⟨_, hit, rfl, rfl⟩, Nat.succ_ne_self _⟩, fp, q⟩
def iSeq (K : PySem.W.Frag) (tl : TE) : TI := fun σ H R => tl σ H fun x H1 => ∃ a xs, x = .ref a ∧ SqA K H1 a xs ∧ ∀ J, (∀ H', H' a = H1 a → Tw.Fits J xs H') → R J H1
theorem pi_seqG {X : Cx} {K : PySem.W.Frag} {tg : Expr} {l : Expr} {tl : TE} (hK : X.K = K) (hl : PE X l tl) : PI X tg l (iSeq K tl) := by
  subst hK
  refine ⟨fun pins s σ H R I h => ?_⟩
  refine thn (hl.run pins s σ H _ I h) fun v s1 ⟨x, H1, I1, r1, q1⟩ => ?_
  obtain ⟨a, xs, rfl, hs2, q⟩ := q1
  cases r1
  have fp : ∀ b ∈ [s1.heap.objs.size], FpOk X pins H1 b := fun b hb => by
    obtain rfl : b = s1.heap.objs.size := by simpa using hb
    exact I1.fpOk (Nat.le_refl _) (I1.hok.fresh (Nat.le_refl _))
  rcases hs2 with hq | hq
  · replace q := q (Itl X.K a) fun H' e => Tw.fits_l (same_l hq e)
    obtain ⟨its, rv, p, hz⟩ := I1.list hq
    refine wpAny_pyIter_list p.isList ?_
    exact ⟨s1.heap.objs.size, [s1.heap.objs.size], _, _, H1, rfl, I1.kept (t' := s1.toks) fun b o e => Heap.get?_push_of_some _ e, turn_list a _, ⟨_, Heap.get?_push_size _ rfl, rfl, rfl⟩, fp, q⟩
  · replace q := q (Itt X.K a) fun H' e => Tw.fits_t (same_t hq e)
    obtain ⟨its, rv, p, hz⟩ := I1.tuple hq
    refine wpAny_pyIter_tuple (show s1.heap.IsTuple a its.toArray from p) ?_
    exact ⟨s1.heap.objs.size, [s1.heap.objs.size], _, _, H1, rfl, I1.kept (t' := s1.toks) fun b o e => Heap.get?_push_of_some _ e, turn_tuple a _, ⟨_, Heap.get?_push_size _ rfl, rfl, rfl⟩, fp, q⟩
end L2
namespace Tw
open PySem L2
section
variable {K : PySem.W.Frag} {σ : L2.St} {H : Hp} {D : Ends} {ta : TA} {te : TE} {a : Addr} {xs : List V}
theorem g_enumG {R : It → Hp → Prop} (q : ta σ H fun vs H1 => ∃ a xs, vs = [.ref a] ∧ SqA K H1 a xs ∧ ∀ J, (∀ H', H' a = H1 a → EFits J xs H') → R J H1) : iEnumG K ta σ H R := q
theorem g_seqG {R : It → Hp → Prop} (q : te σ H fun x H1 => ∃ a xs, x = .ref a ∧ SqA K H1 a xs ∧ ∀ J, (∀ H', H' a = H1 a → Fits J xs H') → R J H1) : iSeq K te σ H R := q
theorem for_enumA {J : It} {g : TG} {tb : TS} (Pv : Nat → L2.St → Hp → Prop) (h0 : Pv 0 σ H) (hl : ∀ i σ H, i ≤ xs.length → Pv i σ H → EFits J xs H)
    (hs : ∀ i v T σ H (D' : Ends), xs[i]? = some v → Pv i σ H → H T = none → (∀ σ H, Pv (i + 1) σ H → D'.nx σ H) → (∀ σ H, Pv (i + 1) σ H → D'.ct σ H) → (∀ σ H, D.nx σ H → D'.bk σ H) → D'.rt = D.rt → g (.ref T) σ (upd H T (.tup [.int (i : Nat), v])) fun σ2 H2 => tb D' σ2 H2)
    (hd : ∀ σ H, Pv xs.length σ H → D.nx σ H) :
    ∃ W : Nat → Nat → L2.St → Hp → Prop, (∃ m, W 0 m σ H) ∧ ∀ i m σ H, W i m σ H →
      (J.stop i H ∧ D.nx σ H) ∨ (J.go i H ∧ ∃ N : L2.St → Hp → Prop, (∀ σ' H', N σ' H' → ∃ m', m' < m ∧ W (i + 1) m' σ' H') ∧ ∀ x H', J.yld i H x H' → g x σ H' fun σ2 H2 => tb { D with nx := N, ct := N, bk := D.nx } σ2 H2) := by
  refine ⟨fun i m σ H => m = xs.length - i ∧ i ≤ xs.length ∧ Pv i σ H, ⟨xs.length, by simp, Nat.zero_le _, h0⟩, ?_⟩
  rintro i m σ H ⟨rfl, hi, p⟩
  have fi := hl i σ H hi p
  by_cases hlt : i < xs.length
  · refine .inr ⟨fi.go i hlt, Pv (i + 1), fun σ' H' q => ⟨xs.length - (i + 1), by omega, rfl, hlt, q⟩, fun x H' y => ?_⟩
    obtain ⟨T, v, rfl, hT, rfl, hv⟩ := fi.yld i x H' y
    exact hs i v T σ H { D with nx := Pv (i + 1), ct := Pv (i + 1), bk := D.nx } hv p hT (fun _ _ h => h) (fun _ _ h => h) (fun _ _ h => h) rfl
  · obtain rfl : i = xs.length := by omega
    exact .inl ⟨fi.stop, hd σ H p⟩
end
/-- a maker with two keyword-only parameters whose defaults are empty tuples -/
structure HereCD (K : PySem.W.Frag) (C : Addr) (qual : Str) (st : Stmt) (ps : List Str) (f : Addr) (fd : FuncData) : Prop where
  fn : Fun K "__init__" qual st f fd
  mkr : Mk K C f
  bd : ∃ d1 d2 : Addr, (∀ H, SqT K H d1 []) ∧ (∀ H, SqT K H d2 []) ∧ ∃ ds, Vals [.ref d1, .ref d2] ds ∧ Binds K fd ps ds
structure DefCD (P : Program) (w : World) (K : PySem.W.Frag) (mg : Str → Option Value) (base : Heap) (k : Nat) (C : Addr) (ps : List Str) (sp : Sp) : Prop where
  ex : ∃ (f : Addr) (fd : FuncData), FnOk P w K mg base CX0 k f fd ps sp ∧ Mk K C f ∧ ∃ d1 d2 : Addr, (∀ H, SqT K H d1 []) ∧ (∀ H, SqT K H d2 []) ∧ ∃ ds, Vals [.ref d1, .ref d2] ds ∧ Binds K fd ps ds
theorem HereCD.def {P : Program} {w : World} {K : PySem.W.Frag} {mg : Str → Option Value} {base : Heap} {k : Nat} {C : Addr} {qual : Str} {st : Stmt} {ps : List Str} {sp : Sp} {f : Addr} {fd : FuncData} (h : HereCD K C qual st ps f fd) (F : FnOk P w K mg base CX0 k f fd ps sp) : DefCD P w K mg base k C ps sp :=
  ⟨f, fd, F, h.mkr, h.bd⟩
def tNewD (K : PySem.W.Frag) (C : Addr) (sp : Sp) (t : TA) : TE := fun σ H Q => ∀ d1 d2 : Addr, (∀ H, SqT K H d1 []) → (∀ H, SqT K H d2 []) → t σ H fun vs H1 => ∀ x dx, H1 x = none → H1 dx = none → dx ≠ x →
  sp (.ref x :: (vs ++ [.ref d1, .ref d2])) (upd (upd H1 dx (.own x)) x (.ins C dx [])) (fun v H2 => v = .non ∧ Q (.ref x) H2) E0
theorem g_newD {K : PySem.W.Frag} {C : Addr} {sp : Sp} {t : TA} {σ : L2.St} {H : Hp} {Q : VK} (q : ∀ d1 d2 : Addr, (∀ H, SqT K H d1 []) → (∀ H, SqT K H d2 []) → t σ H fun vs H1 => ∀ x dx, H1 x = none → H1 dx = none → dx ≠ x →
  sp (.ref x :: (vs ++ [.ref d1, .ref d2])) (upd (upd H1 dx (.own x)) x (.ins C dx [])) (fun v H2 => v = .non ∧ Q (.ref x) H2) E0) : tNewD K C sp t σ H Q := q
theorem pe_newD {X : Cx} {K : PySem.W.Frag} {k j : Nat} {C : Addr} {x : Str} {p pos : Pos} {e : Expr} {es : List Expr} {ps : List Str} {sp : Sp} {t : TA} (hK : X.K = K)
    (D : DefCD X.prog X.w K X.mg X.base k C ps sp) (hr : Room j X.A) (hg : Gl X x) (hm : X.mg x = some (.ref C)) (ha : PA X (e :: es) t) (hk : k + 1 ≤ j := by decide) (hdb : (x == ("__debug__" : Str)) = false := by decide)
    (he : starEach (e :: es) X.env = (false, eval e X.env) :: starEach es X.env := by rfl) (hpl : (backTo pos (starEach es X.env)).any (·.1) = false := by rfl) : PE X (.Call (.Name x p) (e :: es) [] pos) (tNewD K C sp t) := by
  subst hK
  obtain ⟨f, fd, F, mk, d1, d2, e1, e2, ds, hv, hb⟩ := D.ex
  exact ⟨fun pins s σ H Q I h => (pe_make mk F (hr.mono hk) hg hm hb hv pass0 ha hdb he hpl).run pins s σ H Q I (h d1 d2 e1 e2)⟩
theorem kw_bd2 {K : PySem.W.Frag} {fd : FuncData} {D : Addr} {k1 k2 : Str} {ps : List Str} {n : Nat} {a1 a2 : Addr} {o1 o2 : Obj} {i1 i2 : Array Value} {n1 n2 : Nat} (hps : ps.length = n + 2) (h1 : PySem.W.nsIn K D k1 = some (some (.ref a1))) (h2 : PySem.W.nsIn K D k2 = some (some (.ref a2)))
    (l1 : K.lookup a1 = some o1) (c1 : o1.cls = .type "tuple") (g1 : o1.data = .seq i1 n1) (z1 : i1.size = 0) (l2 : K.lookup a2 = some o2) (c2 : o2.cls = .type "tuple") (g2 : o2.data = .seq i2 n2) (z2 : i2.size = 0)
    (h : ∀ us : List Value, us.length = n → ∀ u v : Value, KwChain D [(k1, u), (k2, v)] (bindArgs fd ⟨us, []⟩) (ps.zip (us ++ [u, v]))) :
    ∃ d1 d2 : Addr, (∀ H, SqT K H d1 []) ∧ (∀ H, SqT K H d2 []) ∧ ∃ ds, Vals [.ref d1, .ref d2] ds ∧ Binds K fd ps ds := by
  have nil : ∀ {i : Array Value}, i.size = 0 → Vals [] i.toList := fun {i} z => by
    have : i.toList = [] := List.length_eq_zero_iff.mp (by simpa using z)
    rw [this]
    exact .nil
  refine ⟨a1, a2, fun H => .inr ⟨o1, i1, n1, l1, c1, g1, by rw [z1]; exact Nat.zero_le _, nil z1⟩, fun H => .inr ⟨o2, i2, n2, l2, c2, g2, by rw [z2]; exact Nat.zero_le _, nil z2⟩, [.ref a1, .ref a2], .cons rfl (.cons rfl .nil), fun s us X hlen => BindsTo.of_looks fun M => KwChain.looks X (fun q hq => ?_) (h us ?_ (.ref a1) (.ref a2))⟩
  · rcases List.mem_cons.mp hq with rfl | hq
    · exact h1
    · obtain rfl := List.mem_singleton.mp hq
      exact h2
  · simp at hlen
    omega

def rTupG (K : PySem.W.Frag) : List V → Hp → VK → Prop := fun xs H Q => ∃ p ys, xs = [.ref p] ∧ ((SqL K H p ys ∧ ∀ l, H l = none → Q (.ref l) (upd H l (.tup ys))) ∨ (SqT K H p ys ∧ Q (.ref p) H))
theorem call_tupleG {X : Cx} {K : PySem.W.Frag} (h : X.K = K) : CallR X (.type "tuple") (rTupG K) := by subst h; exact call_tuple_of
section
variable {K : PySem.W.Frag} {σ : L2.St} {H : Hp} {Q : VK} {a : Addr} {xs : List V}
theorem g_tupL (h : SqL K H a xs) (q : ∀ l, H l = none → Q (.ref l) (upd H l (.tup xs))) : rTupG K [.ref a] H Q := ⟨a, xs, rfl, .inl ⟨h, q⟩⟩
theorem g_tupT (h : SqT K H a xs) (q : Q (.ref a) H) : rTupG K [.ref a] H Q := ⟨a, xs, rfl, .inr ⟨h, q⟩⟩
theorem g_dc {wi : TI} {g : TG} {tt : TT} {tk tv : TE} {vs : List Nat} (q : wi σ H fun J H1 => ∀ D, H1 D = none → ∃ W : Nat → Nat → Hp → Prop, (∃ m, W 0 m (upd H1 D (.dK []))) ∧ ∀ i m H, W i m H →
  (J.stop i H ∧ Q (.ref D) H) ∨ (J.go i H ∧ ∃ Nx : Hp → Prop, (∀ H', Nx H' → ∃ m', m' < m ∧ W (i + 1) m' H') ∧ ∀ x H', J.yld i H x H' → g x (wipe σ vs) H' fun σ2 H2 => wipe σ2 vs = wipe σ vs ∧ tt σ2 H2 fun b H3 =>
    if b = true then tk σ2 H3 fun y H4 => tv σ2 H4 fun z H5 => ∃ kvs k, y = kV k ∧ H5 D = some (.dK kvs) ∧ kvs.length < sizeLine ∧ Nx (upd H5 D (.dK (putK kvs k z))) else Nx H3)) : tDc wi g tt tk tv vs σ H Q := q
/-- a tuple, a list in the heap, a tuple of the written part: what isinstance sees -/
theorem tyx_t (h : SqT K H a xs) : TyX K H (.ref a) (.type "tuple") := by
  rcases h with h | ⟨o, its, n, h1, h2, _⟩
  · rcases h with h | ⟨o, h⟩
    · exact .base (.tup h)
    · exact .fTuple h
  · exact .kTuple h1 h2
end
end Tw

set_option Elab.async false
set_option linter.all false
set_option maxRecDepth 100000
set_option maxHeartbeats 4000000
/-! isinstance of a caught own error that has fields -/
namespace PySem.TwX
open PySem PySem.Spec PySem.Calls PyProof.Rows PySem.W
structure ExCls (K : Frag) (D : Addr) : Prop where
  ga : findIn K (.ref D) "__getattribute__" = some (some (.builtin "BaseException.__getattribute__"))
  gg : findIn K (.ref D) "__getattr__" = some none
  sb : subIn K (.ref D) (.type "BaseException") = some true
  hd : hasDictIn K D = true
  kc : findIn K (.ref D) "__class__" = some (some (.builtin "object.__class__"))
  gt : specialIn K (.builtin "object.__class__") "__get__" = some (some (.builtin "getset_descriptor.__get__"))
  tk : takesIn K (.builtin "object.__class__") = some true
  mo : mroIn K D (.type "object") = some true
section
variable {prog : Program} {w : World} {A : Around} {E : Value → Shared → Prop} {s : Shared} {K : Frag} {x D : Addr} {ox : Obj} {dx : Option Obj}
theorem obj_data {C : Addr} {nm : Str} {u g : Value} (hc : (clsIn K C).isSome = true) (hu : findIn K (.ref C) nm = some (some u)) (hg : specialIn K u "__get__" = some (some g)) (ht : takesIn K u = some true) : findObj K C dx nm = some (.bind g u) := by
  obtain ⟨cd, hcd⟩ := Option.isSome_iff_exists.mp hc
  unfold findObj
  rw [hcd, Option.bind_some, hu, Option.bind_some]
  cases dx <;> simp [hg, ht]
theorem class_asked {Q : Option Value → Shared → Prop} (C : ExCls K D) (XK : K.In s.heap) (J : InstAt s.heap x ox D dx) (hq : Q (some (.ref D)) { s with toks := s.toks + 1 }) : wpAny (model prog w) A (getAttr? (.ref x) "__class__") Q E s := by
  have hfo : findObj K D dx "__class__" = some (.bind (.builtin "getset_descriptor.__get__") (.builtin "object.__class__")) := obj_data (by obtain ⟨cd, h1, _⟩ := any_some C.hd; rw [h1]; rfl) C.kc C.gt C.tk
  obtain ⟨hp, gs, dr, tc, os⟩ := s
  have k0 := J.type (M := model prog w)
  have k1 := looks_findIn (M := model prog w) XK C.ga
  have k2 := looks_findIn (M := model prog w) XK C.gg
  have k3 := looks_find (M := model prog w) XK J hfo
  have isB : Looks (model prog w) hp (isInstance (.ref x) (.type "BaseException")) true := k0.andThen (looks_subIn XK C.sb)
  have b0 : (false && onTheHeap (Value.builtin "BaseException.__getattribute__")) = false := rfl
  have b2 : (Value.builtin "BaseException.__getattribute__" == Value.builtin "object.__getattribute__") = false := by decide +kernel
  have b1 : (onTheHeap (Value.ref D) && Value.builtin "BaseException.__getattribute__" == Value.builtin "object.__getattribute__") = false := by rw [b2]; rfl
  unfold getAttr? getAttrBy? getAttrBy
  refine wpAny_bind (wpAny_mkText (wpAny_bind (wpAny_attempt (wpAny_holding (wpAny_bind (k0.at (wpAny_bind (k1.at ?_))))))))
  show wpAny _ _ (if (onTheHeap (Value.ref D) && Value.builtin "BaseException.__getattribute__" == Value.builtin "object.__getattribute__") = true then (_ : Sem _) else _) _ _ _
  rw [b1, if_neg Bool.false_ne_true]
  unfold getAttrByItsOwn hookBefore
  refine wpAny_bind ?_
  have onH : onTheHeap (Value.ref D) = true := rfl
  rw [if_pos onH]
  refine k2.at (wpAny_bind (wpAny_attempt (wpAny_holding ?_)))
  unfold callGetattribute
  rw [b0, if_neg Bool.false_ne_true]
  unfold boundAndCalled
  rw [PySem.F.excAttr_ValueError.ga.bind (Value.ref x)]
  refine wpAny_bind (wpAny_pure ?_)
  show wpAny _ _ (call (.builtin "BaseException.__getattribute__") [Value.ref x, Value.str "__class__" tc]) _ _ _
  refine wpAny_call (codeAny_call_builtin PySem.F.excAttr_ValueError.ga.plain PySem.F.entry_bexc_ga (@check_slot (model prog w) _ _ ⟨hp, gs, dr, tc + 1, os⟩ "BaseException.__getattribute__" "BaseException" "__getattribute__" (.ref x) [.str "__class__" tc] [] _ (by decide +kernel) (by decide +kernel) isB (PySem.F.args_bexc_ga (.ref x) (.str "__class__" tc)) ?_))
  unfold Builtin.«object.__getattribute__»
  refine wpAny_bind (wpAny_of_eq (a := ((Value.ref x : Value), [Value.str "__class__" tc])) (by first | rfl | (simp only [slotArgs]; rfl)) (wpAny_bind (wpAny_pure (wpAny_bind (k0.at (wpAny_bind (k3.at ?_)))))))
  show wpAny _ _ (holding [Value.builtin "object.__class__"] (call (.builtin "getset_descriptor.__get__") [Value.builtin "object.__class__", Value.ref x, Value.ref D]) >>= ret) _ _ _
  refine wpAny_bind (wpAny_holding (wpAny_call (class_get (s := ⟨hp, gs, dr, tc + 1, os⟩) (ox := ox) (od := dx) XK J C.mo (wpAny_pure ?_))))
  show wpAny _ _ (handedOut (Value.ref D)) _ _ _
  rw [handedOut_of (v := Value.ref D) rfl]
  first
    | exact wpAny_pure (wpAny_pure hq)
    | exact wpAny_pure hq
    | exact wpAny_pure (wpAny_bind (wpAny_pure (wpAny_pure hq)))
theorem kit_exc (C : ExCls K D) : KitX K (.ref x) (.ref D) (fun h => InstAt h x ox D dx) where
  ty := fun _ _ _ J => J.type
  it := fun _ _ XK _ => by
    obtain ⟨cd, h1, _⟩ := any_some C.hd
    unfold clsIn at h1
    split at h1
    · rename_i c1 d1 cd1 sl1 ho
      intro A2 Q2 E2 s2 kp q
      unfold isType loadHead
      exact wpAny_bind (wpAny_loadPart (kp _ _ (XK _ _ ho)) (wpAny_pure q))
    · cases h1
  ne := fun h tp dd its n sl XK htp => by
    obtain ⟨cd, h1, _⟩ := any_some C.hd
    refine Bool.eq_false_iff.mpr fun q => ?_
    obtain rfl : D = tp := Value.ref.inj (beq_iff_eq.mp q)
    unfold clsIn at h1
    split at h1
    · rename_i c1 d1 cd1 sl1 ho
      cases (XK _ _ ho).symm.trans htp
    · cases h1
  ca := fun XK J k => class_asked C XK J k
end
end PySem.TwX
namespace Tw
open PySem L2 PySem.Spec PyProof.Rows
/-- isinstance(e, c), e the caught error -/
def rIsX (K : PySem.W.Frag) (a : Addr) (cls : Value) (d : Option Addr) : List V → Hp → VK → Prop := fun xs H Q => ∃ (D : Addr) (c : V) (cv : Value) (b : Bool), cls = .ref D ∧ (∃ dd fs, d = some dd ∧ H dd = some (.xd fs)) ∧ PySem.TwX.ExCls K D ∧ xs = [.ref a, c] ∧ (∀ u, RelV c u → u = cv) ∧ PySem.W.kitOne K (.ref D) cv = some b ∧ Q (.bl b) H
theorem call_isX {X : Cx} {K : PySem.W.Frag} {a : Addr} {cls : Value} {d : Option Addr} {oe : Obj} {pn : List (Addr × Obj)} (hK : X.K = K) (hz : Zc cls d oe) (hf : ∃ vs, oe.data = .fields vs) : CallR (X.suite a ((a, oe) :: pn)) (.builtin "isinstance") (rIsX K a cls d) := by
  subst hK
  intro pins s σ H xs us Q I r h
  obtain ⟨D, c, cv, b, rfl, ⟨dd, fs, rfl, ed⟩, C, rfl, hcv, e, q⟩ := h
  cases r with
  | cons rx rr =>
    cases rr with
    | cons rt rr =>
      cases rr
      cases rx
      obtain rfl := hcv _ rt
      obtain ⟨hget, _⟩ := I.pin (a, oe) (List.mem_append.mpr (.inl List.mem_cons_self))
      obtain ⟨vs, hv⟩ := hf
      have hx : ObjOk X.prog X.w H s.heap dd (.xd fs) := I.hok dd _ ed
      obtain ⟨mA, hns, _⟩ := hx
      obtain ⟨od, ho, _⟩ := lookIn_ns hns
      have J : ∃ dx, PySem.W.InstAt s.heap a oe D dx := ⟨some od, hget, hz.1, by unfold PySem.W.notCls; rw [hv] <;> rfl, by rw [hz.2]; exact ho⟩
      obtain ⟨dx, J⟩ := J
      exact PySem.W.kia_one (PySem.TwX.kit_exc C) I.kIn J e (fun z => nomatch z) fun tk => ⟨.bl b, H, I.kept (t' := tk) fun _ _ z => z, rfl, q⟩
/-- a maker with two keyword-only parameters that may let an error out -/
structure DefCDX (P : Program) (w : World) (K : PySem.W.Frag) (mg : Str → Option Value) (base : Heap) (k : Nat) (C : Addr) (ps : List Str) (sp : Sp) : Prop where
  ex : ∃ (f : Addr) (fd : FuncData), FnOk P w K mg base (L2.CX P w) k f fd ps sp ∧ Mk K C f ∧ ∃ d1 d2 : Addr, (∀ H, SqT K H d1 []) ∧ (∀ H, SqT K H d2 []) ∧ ∃ ds, Vals [.ref d1, .ref d2] ds ∧ Binds K fd ps ds
theorem HereCD.defX {P : Program} {w : World} {K : PySem.W.Frag} {mg : Str → Option Value} {base : Heap} {k : Nat} {C : Addr} {qual : Str} {st : Stmt} {ps : List Str} {sp : Sp} {f : Addr} {fd : FuncData} (h : HereCD K C qual st ps f fd) (F : FnOk P w K mg base (L2.CX P w) k f fd ps sp) : DefCDX P w K mg base k C ps sp :=
  ⟨f, fd, F, h.mkr, h.bd⟩
def tNewDX (K : PySem.W.Frag) (C : Addr) (sp : Sp) (W : WX) (t : TA) : TE := fun σ H Q => ∀ d1 d2 : Addr, (∀ H, SqT K H d1 []) → (∀ H, SqT K H d2 []) → t σ H fun vs H1 => ∀ x dx, H1 x = none → H1 dx = none → dx ≠ x →
  sp (.ref x :: (vs ++ [.ref d1, .ref d2])) (upd (upd H1 dx (.own x)) x (.ins C dx [])) (fun v H2 => v = .non ∧ Q (.ref x) H2) (WE W σ)
theorem g_newDX {K : PySem.W.Frag} {C : Addr} {sp : Sp} {W : WX} {t : TA} {σ : L2.St} {H : Hp} {Q : VK} (q : ∀ d1 d2 : Addr, (∀ H, SqT K H d1 []) → (∀ H, SqT K H d2 []) → t σ H fun vs H1 => ∀ x dx, H1 x = none → H1 dx = none → dx ≠ x →
  sp (.ref x :: (vs ++ [.ref d1, .ref d2])) (upd (upd H1 dx (.own x)) x (.ins C dx [])) (fun v H2 => v = .non ∧ Q (.ref x) H2) (WE W σ)) : tNewDX K C sp W t σ H Q := q
theorem make_at {X : Cx} {CX : CXT} {k : Nat} {f C : Addr} {fd : FuncData} {ps : List Str} {sp : Sp} {dvs : List V} {ds : List Value} {W : XK} {pins : List (Addr × Obj)} {σ : L2.St} {H : Hp} {s : Shared} {Q : VK} {us : List Value} {vs : List V} (mk : Mk X.K C f) (F : FnOk X.prog X.w X.K X.mg X.base CX k f fd ps sp) (hr : Room (k + 1) X.A) (hb : Binds X.K fd ps ds) (hv : Vals dvs ds)
    (out : PassesAt CX X σ W) (I : Inv X pins σ H s) (rv : Vals vs us) (q : ∀ x dx, H x = none → H dx = none → dx ≠ x → sp (.ref x :: (vs ++ dvs)) (upd (upd H dx (.own x)) x (.ins C dx [])) (fun v H2 => v = .non ∧ Q (.ref x) H2) W) :
    wpAny (model X.prog X.w) X.A (call (.ref C) us) (EP X pins σ Q) X.xe s := by
  have asked := q (s.heap.objs.size + 1) s.heap.objs.size (I.hok.fresh (Nat.le_succ _)) (I.hok.fresh (Nat.le_refl _)) (Nat.ne_of_lt (Nat.lt_succ_self _))
  have J := Inv.made (C := C) I
  have all : Vals (V.ref (s.heap.objs.size + 1) :: (vs ++ dvs)) (Value.ref (s.heap.objs.size + 1) :: (us ++ ds)) := .cons rfl (rv.append hv)
  have len : (Value.ref (s.heap.objs.size + 1) :: us ++ ds).length = ps.length := (F.len _ _ _ _ asked ▸ all.length).symm
  have body := F.run _ X.stack _ _ ⟨Value.ref (s.heap.objs.size + 1) :: us, []⟩ (Value.ref (s.heap.objs.size + 1) :: (us ++ ds)) _ _ W (hr.make C us []) (J.env0.make C us []) (hb _ (Value.ref (s.heap.objs.size + 1) :: us) J.kIn len) all asked
  refine wpAny_call (make_map (f := f) I.kIn mk.makes mk.init (beq_iff_eq.mp mk.fn) (codeAny_mono body fun res s2 told => ?_))
  rcases res with er | fl
  · exact out pins _ _ er s2 J told
  · rcases fl with _ | _ | _ | u
    case ret =>
      obtain ⟨v, H3, I3, r3, ev, q3⟩ := J.after told
      subst ev
      exact ⟨r3, ⟨V.ref (s.heap.objs.size + 1), H3, I3, rfl, q3⟩⟩
    all_goals exact False.elim told
theorem pe_newDX {X : Cx} {K : PySem.W.Frag} {W : WX} {k j : Nat} {C : Addr} {x : Str} {p pos : Pos} {e : Expr} {es : List Expr} {ps : List Str} {sp : Sp} {t : TA} (tk : Takes X W) (hK : X.K = K)
    (D : DefCDX X.prog X.w K X.mg X.base k C ps sp) (hr : Room j X.A) (hg : Gl X x) (hm : X.mg x = some (.ref C)) (ha : PA X (e :: es) t) (hk : k + 1 ≤ j := by decide) (hdb : (x == ("__debug__" : Str)) = false := by decide)
    (he : starEach (e :: es) X.env = (false, eval e X.env) :: starEach es X.env := by rfl) (hpl : (backTo pos (starEach es X.env)).any (·.1) = false := by rfl) : PE X (.Call (.Name x p) (e :: es) [] pos) (tNewDX K C sp W t) := by
  subst hK
  obtain ⟨f, fd, F, mk, d1, d2, e1, e2, ds, hv, hb⟩ := D.ex
  refine ⟨fun pins s σ H Q I h => wpAny_Call_Name_kw (ld_glob I hg hm ?_ hdb)⟩
  refine PySem.W.callWith_K (h₀ := X.base) I.ok.mod.kin mk.kp (thn (ha.run pos pins s σ H _ I (h d1 d2 e1 e2)) fun us s1 ⟨vs, H1, J, rv, q⟩ => ⟨J.kIn, make_at mk F (hr.mono hk) hb hv (passAt tk σ) J rv q⟩) he hpl
end Tw


set_option Elab.async false
set_option linter.all false
set_option maxRecDepth 100000
set_option maxHeartbeats 4000000
namespace L
open PySem L2 Tw
local macro_rules | `(tactic| walk_at "hp") => `(tactic| first
  | assumption
  | exact upd_same
  | (refine Eq.trans (upd_ne ?hn) ?hr; (case hn => first | assumption | exact Ne.symm (by assumption)); (case hr => walk_at "hp")))
local macro_rules | `(tactic| walk_at "g1") => `(tactic| first
  | with_reducible refine g_nx ?_
  | with_reducible refine g_rt ?_
  | with_reducible refine g_seq ?_
  | with_reducible refine g_ret ?_
  | with_reducible refine g_if ?_
  | with_reducible refine g_asg ?_
  | with_reducible refine g_drop ?_
  | with_reducible refine g_asgSub ?_
  | with_reducible refine g_next ?_
  | with_reducible refine g_op ?_
  | ((with_reducible refine g_var0 ?_); refine ⟨_, rfl, ?_⟩)
  | with_reducible refine g_c ?_
  | with_reducible refine g_cons ?_
  | with_reducible refine g_nil ?_
  | with_reducible refine g_def ?_
  | with_reducible refine g_cb ?_
  | with_reducible refine g_test ?_
  | with_reducible refine g_B ?_
  | with_reducible refine g_bl ?_
  | with_reducible refine g_sl ?_
  | with_reducible refine g_name ?_
  | with_reducible refine g_lc ?_
  | with_reducible refine g_rng1 ?_
  | with_reducible refine g_for ?_
  | with_reducible refine g_yes ?_
  | with_reducible refine g_ilist ?_
  | ((with_reducible refine g_m1 ?_))
  | with_reducible refine g_m0 ?_
  | with_reducible refine g_noPart ?_
  | with_reducible refine g_part ?_
  | with_reducible refine g_int ?_
  | with_reducible refine g_tand ?_
  | with_reducible refine g_tor ?_
  | with_reducible refine g_tnot ?_
  | with_reducible refine g_vand ?_
  | with_reducible refine g_vor ?_
  | with_reducible refine g_vnot ?_
  | with_reducible refine g_eif ?_
  | with_reducible refine g_un ?_
  | with_reducible refine g_addI ?_
  | with_reducible refine g_subI ?_
  | with_reducible refine g_negI ?_
  | with_reducible refine g_ltI ?_
  | with_reducible refine g_ltS ?_
  | with_reducible refine g_leI ?_
  | with_reducible refine g_geS ?_
  | with_reducible refine g_inS ?_
  | with_reducible refine g_notInS ?_
  | with_reducible refine g_max2 ?_
  | with_reducible refine g_isiR (by assumption) (by decide) ?_
  | with_reducible refine g_isBl_tt ?_
  | with_reducible refine g_notBl_tt ?_
  | with_reducible refine g_isBl_tf ?_
  | with_reducible refine g_notBl_tf ?_
  | with_reducible refine g_isBl_ft ?_
  | with_reducible refine g_notBl_ft ?_
  | with_reducible refine g_isBl_ff ?_
  | with_reducible refine g_notBl_ff ?_
  | with_reducible refine g_isBl ?_
  | with_reducible refine g_notBl ?_
  | with_reducible refine g_istr ?_
  | with_reducible refine g_str1 ?_
  | with_reducible refine g_strE ?_
  | with_reducible refine g_gtI ?_
  | with_reducible refine g_geI ?_
  | with_reducible refine g_isN_non ?_
  | with_reducible refine g_isN_int ?_
  | with_reducible refine g_isN_str ?_
  | with_reducible refine g_isN_bl ?_
  | with_reducible refine g_isN_ref ?_
  | with_reducible refine g_notN_non ?_
  | with_reducible refine g_notN_int ?_
  | with_reducible refine g_notN_str ?_
  | with_reducible refine g_notN_bl ?_
  | with_reducible refine g_notN_ref ?_
  | with_reducible refine g_isN ?_
  | with_reducible refine g_notN ?_
  | with_reducible refine g_isiI kb_ii ?_
  | with_reducible refine g_isiI kb_is ?_
  | with_reducible refine g_isiI kb_ib ?_
  | with_reducible refine g_isiS kb_si ?_
  | with_reducible refine g_isiS kb_ss ?_
  | with_reducible refine g_isiS kb_sb ?_
  | with_reducible refine g_isiB kb_bi ?_
  | with_reducible refine g_isiB kb_bs ?_
  | with_reducible refine g_isiB kb_bb ?_
  | with_reducible refine g_isiN kb_ni ?_
  | with_reducible refine g_isiN kb_ns ?_
  | with_reducible refine g_isiN kb_nb ?_
  | with_reducible refine g_eqI ?_
  | with_reducible refine g_eqS ?_
  | with_reducible refine g_eqB ?_
  | with_reducible refine g_neI ?_
  | with_reducible refine g_neS ?_
  | with_reducible refine g_int1 ?_
  | with_reducible refine g_int1B ?_
  | with_reducible refine g_bool1B ?_
  | with_reducible refine g_bool1I ?_
  | ((with_reducible refine g_modI ?gm ?_); (case gm => first | assumption | decide | omega))
  | ((with_reducible refine g_mulI ?gm ?_); (case gm => first | exact Or.inl ⟨by decide, by decide⟩ | exact Or.inr ⟨by decide, by decide⟩ | (unfold CMul; omega)))
  | with_reducible refine g_tup ?_
  | with_reducible refine g_lst ?_
  | with_reducible refine g_bm ?_
  | ((with_reducible refine g_tyL ?_); refine ⟨⟨_, by walk_at "hp"⟩, ?_⟩)
  | (with_reducible refine g_app (by walk_at "hp") (by first | assumption | (simp only [List.length_map, List.length_append, List.length_cons, List.length_nil]; omega) | omega) ?_)
  | ((with_reducible refine g_ixL0 ?_); (refine' ⟨_, _, ?ga, ?gb, ?_⟩; (case ga => walk_at "hp"); (case gb => exact rfl)))
  | ((with_reducible refine g_ixL0 ?_); (refine' ⟨_, _, ?ga, atI_map ?gb, ?_⟩; (case ga => walk_at "hp"); (case gb => omega)))
  | ((with_reducible refine g_powI ?gm ?_); (case gm => first | exact ⟨by decide, by decide +kernel⟩ | exact cpow_small (by decide) (by decide) (by omega) (by omega)))
  | ((with_reducible refine g_fdI ?gm ?_); (case gm => first | exact ⟨by assumption, by assumption⟩ | exact ⟨by decide, by decide +kernel⟩))
  | ((with_reducible refine g_lenL0 ?_); (refine' ⟨_, ?ga, ?_⟩; (case ga => walk_at "hp")))
  | ((with_reducible refine g_setL0 ?_); (refine' ⟨_, _, ?ga, ?gb, ?_⟩; (case ga => walk_at "hp"); (case gb => exact rfl)))
  | with_reducible refine g_itup ?_
  | with_reducible refine g_lc2 ?_
  | with_reducible refine g_sortedSet ?_
  | with_reducible refine g_dget ?_
  | with_reducible refine g_din ?_
  | with_reducible refine g_dnotin ?_
  | with_reducible refine g_neB ?_
  | with_reducible refine g_opW ?_
  | with_reducible refine g_unW ?_
  | with_reducible refine g_callS ?_
  | with_reducible refine g_meX ?_
  | with_reducible refine g_me ?_
  | with_reducible refine g_new ?_
  | with_reducible refine g_sfld ?_
  | with_reducible refine g_fld ?_
  | with_reducible refine g_T ?_
  | with_reducible refine g_F ?_
  | with_reducible refine g_Tn ?_
  | with_reducible refine g_Fn ?_
  | with_reducible refine g_bk ?_
  | with_reducible refine g_ct ?_
  | with_reducible refine g_ctS ?_
  | with_reducible refine g_bkS ?_)
local macro_rules | `(tactic| walk_at "g") => `(tactic| repeat walk_at "g1")
local macro_rules | `(tactic| walk_at "G") => `(tactic| (walk_at "g"; try ((first | with_reducible refine g_dec (fun _ => ?_) (fun _ => ?_) | with_reducible refine g_ndec (fun _ => ?_) (fun _ => ?_)) <;> walk_at "G")))
def C_LETTERS : Str := Str.ofString "abcdefghijklmnopqrstuvwxyz"
def C_WORDS : List V := [.str "and", .str "or", .str "not", .str "sure", .str "in", .str "is", .str "empty", .str "begins", .str "always", .str "never"]
def C_NAME_SIGNS : Str := Str.ofString "abcdefghijklmnopqrstuvwxyz0123456789"
def C_KINDS : List V := [.str "number", .str "text"]
def top (i : Nat) : Stmt := PySem.Challenge.pw_tworows_k12_columns_refused.main.body.getD i (.Pass ⟨0, 0, 0, 0⟩)
abbrev S_is_sequence : Stmt := top 13
abbrev N_is_sequence : List Str := ["thing"]
theorem sc_is_sequence : FnScope N_is_sequence ["thing"] (defScope S_is_sequence) := ⟨rfl, rfl, rfl, by decide +kernel, rfl, by decide +kernel, by decide +kernel⟩
abbrev S_is_name : Stmt := top 15
abbrev N_is_name : List Str := ["thing", "sign"]
theorem sc_is_name : FnScope N_is_name ["thing"] (defScope S_is_name) := ⟨rfl, rfl, rfl, by decide +kernel, rfl, by decide +kernel, by decide +kernel⟩
abbrev S_Shape_init : Stmt := inClass (top 36) 0
abbrev N_Shape_init : List Str := ["self", "columns", "checks", "keys", "column", "names", "test"]
theorem sc_Shape_init : FnScope N_Shape_init ["self", "columns", "checks", "keys"] (defScope S_Shape_init) := ⟨rfl, rfl, rfl, by decide +kernel, rfl, by decide +kernel, by decide +kernel⟩
abbrev S_Shape_columns : Stmt := inClass (top 36) 1
abbrev N_Shape_columns : List Str := ["self"]
theorem sc_Shape_columns : FnScope N_Shape_columns ["self"] (defScope S_Shape_columns) := ⟨rfl, rfl, rfl, by decide +kernel, rfl, by decide +kernel, by decide +kernel⟩
abbrev S_Shape_names : Stmt := inClass (top 36) 2
abbrev N_Shape_names : List Str := ["self", "column"]
theorem sc_Shape_names : FnScope N_Shape_names ["self"] (defScope S_Shape_names) := ⟨rfl, rfl, rfl, by decide +kernel, rfl, by decide +kernel, by decide +kernel⟩
abbrev S_Shape_kind : Stmt := inClass (top 36) 5
abbrev N_Shape_kind : List Str := ["self", "name"]
theorem sc_Shape_kind : FnScope N_Shape_kind ["self", "name"] (defScope S_Shape_kind) := ⟨rfl, rfl, rfl, by decide +kernel, rfl, by decide +kernel, by decide +kernel⟩
abbrev S_Shape_filled : Stmt := inClass (top 36) 6
abbrev N_Shape_filled : List Str := ["self", "name"]
theorem sc_Shape_filled : FnScope N_Shape_filled ["self", "name"] (defScope S_Shape_filled) := ⟨rfl, rfl, rfl, by decide +kernel, rfl, by decide +kernel, by decide +kernel⟩
abbrev S_is_short : Stmt := top 37
abbrev N_is_short : List Str := ["thing", "least", "most"]
theorem sc_is_short : FnScope N_is_short ["thing", "least", "most"] (defScope S_is_short) := ⟨rfl, rfl, rfl, by decide +kernel, rfl, by decide +kernel, by decide +kernel⟩
abbrev S_is_column : Stmt := top 38
abbrev N_is_column : List Str := ["thing", "right_kind"]
theorem sc_is_column : FnScope N_is_column ["thing"] (defScope S_is_column) := ⟨rfl, rfl, rfl, by decide +kernel, rfl, by decide +kernel, by decide +kernel⟩
abbrev S_need_columns : Stmt := top 39
abbrev N_need_columns : List Str := ["columns", "names", "at", "column"]
theorem sc_need_columns : FnScope N_need_columns ["columns"] (defScope S_need_columns) := ⟨rfl, rfl, rfl, by decide +kernel, rfl, by decide +kernel, by decide +kernel⟩
abbrev S_need_checks : Stmt := top 40
abbrev N_need_checks : List Str := ["spots", "checks", "at", "test"]
theorem sc_need_checks : FnScope N_need_checks ["spots", "checks"] (defScope S_need_checks) := ⟨rfl, rfl, rfl, by decide +kernel, rfl, by decide +kernel, by decide +kernel⟩
abbrev S_need_keys : Stmt := top 41
abbrev N_need_keys : List Str := ["spots", "keys", "at", "key"]
theorem sc_need_keys : FnScope N_need_keys ["spots", "keys"] (defScope S_need_keys) := ⟨rfl, rfl, rfl, by decide +kernel, rfl, by decide +kernel, by decide +kernel⟩
abbrev S_column_of : Stmt := top 46
abbrev N_column_of : List Str := ["shape", "name"]
theorem sc_column_of : FnScope N_column_of ["shape", "name"] (defScope S_column_of) := ⟨rfl, rfl, rfl, by decide +kernel, rfl, by decide +kernel, by decide +kernel⟩
abbrev S__law_begin : Stmt := top 48
abbrev N__law_begin : List Str := ["_law_script"]
theorem sc__law_begin : FnScope N__law_begin ["_law_script"] (defScope S__law_begin) := ⟨rfl, rfl, rfl, by decide +kernel, rfl, by decide +kernel, by decide +kernel⟩
abbrev S__law_take : Stmt := top 49
abbrev N__law_take : List Str := ["_law_draw", "_law_many", "_law_cell", "_law_digit", "_law_mixed"]
theorem sc__law_take : FnScope N__law_take ["_law_draw", "_law_many"] (defScope S__law_take) := ⟨rfl, rfl, rfl, by decide +kernel, rfl, by decide +kernel, by decide +kernel⟩
abbrev S__law_is_integer : Stmt := top 50
abbrev N__law_is_integer : List Str := ["_law_thing"]
theorem sc__law_is_integer : FnScope N__law_is_integer ["_law_thing"] (defScope S__law_is_integer) := ⟨rfl, rfl, rfl, by decide +kernel, rfl, by decide +kernel, by decide +kernel⟩
abbrev S__law_name : Stmt := top 51
abbrev N__law_name : List Str := ["_law_draw", "_law_taken", "_law_letters", "_law_signs", "_law_name_here", "_law_k", "_law_kept"]
theorem sc__law_name : FnScope N__law_name ["_law_draw", "_law_taken"] (defScope S__law_name) := ⟨rfl, rfl, rfl, by decide +kernel, rfl, by decide +kernel, by decide +kernel⟩
abbrev S__law_flag : Stmt := top 52
abbrev N__law_flag : List Str := ["_law_thing", "_law_due_here"]
theorem sc__law_flag : FnScope N__law_flag ["_law_thing", "_law_due_here"] (defScope S__law_flag) := ⟨rfl, rfl, rfl, by decide +kernel, rfl, by decide +kernel, by decide +kernel⟩
abbrev S__law_spoiled : Stmt := top 53
abbrev N__law_spoiled : List Str := ["_law_draw", "_law_column", "_law_names", "_law_choice"]
theorem sc__law_spoiled : FnScope N__law_spoiled ["_law_draw", "_law_column", "_law_names"] (defScope S__law_spoiled) := ⟨rfl, rfl, rfl, by decide +kernel, rfl, by decide +kernel, by decide +kernel⟩
abbrev S__law_is_column : Stmt := top 54
abbrev N__law_is_column : List Str := ["_law_thing", "_law_names", "_law_letters", "_law_char"]
theorem sc__law_is_column : FnScope N__law_is_column ["_law_thing", "_law_names"] (defScope S__law_is_column) := ⟨rfl, rfl, rfl, by decide +kernel, rfl, by decide +kernel, by decide +kernel⟩
abbrev S__law_due : Stmt := top 55
abbrev N__law_due : List Str := ["_law_columns", "_law_names", "_law_at"]
theorem sc__law_due : FnScope N__law_due ["_law_columns"] (defScope S__law_due) := ⟨rfl, rfl, rfl, by decide +kernel, rfl, by decide +kernel, by decide +kernel⟩
abbrev S__law_shape_or_error : Stmt := top 56
abbrev N__law_shape_or_error : List Str := ["_law_columns", "_law_shape", "e"]
theorem sc__law_shape_or_error : FnScope N__law_shape_or_error ["_law_columns"] (defScope S__law_shape_or_error) := ⟨rfl, rfl, rfl, by decide +kernel, rfl, by decide +kernel, by decide +kernel⟩
abbrev S_law : Stmt := top 57
abbrev N_law : List Str := ["_law_script", "_law_draw", "_law_columns", "_law_k", "_law_name_here", "_law_column", "_law_at", "_law_names", "_law_due_here", "_law_given", "_law_actual", "_law_shape", "_law_told", "_law_refused"]
theorem sc_law : FnScope N_law ["_law_script"] (defScope S_law) := ⟨rfl, rfl, rfl, by decide +kernel, rfl, by decide +kernel, by decide +kernel⟩
structure Txt (K : PySem.W.Frag) (mg : Str → Option Value) : Prop where
  h_isinstance : mg "isinstance" = none
  h_list : mg "list" = none
  h_tuple : mg "tuple" = none
  h_all : mg "all" = none
  h_str : mg "str" = none
  h_len : mg "len" = none
  h_bool : mg "bool" = none
  h_enumerate : mg "enumerate" = none
  h_int : mg "int" = none
  h_range : mg "range" = none
  d_is_sequence : ∃ f fd, Here K mg "is_sequence" S_is_sequence ["thing"] f fd
  d_is_name : ∃ f fd, Here K mg "is_name" S_is_name ["thing"] f fd
  d_Shape_init : ∃ f fd, HereCD K (cadr mg "Shape") "Shape.__init__" S_Shape_init ["self", "columns", "checks", "keys"] f fd
  d_Shape_columns : ∃ f fd, HereM K (cadr mg "Shape") "columns" "Shape.columns" S_Shape_columns ["self"] f fd
  d_Shape_names : ∃ f fd, HereM K (cadr mg "Shape") "names" "Shape.names" S_Shape_names ["self"] f fd
  d_Shape_kind : ∃ f fd, HereM K (cadr mg "Shape") "kind" "Shape.kind" S_Shape_kind ["self", "name"] f fd
  d_Shape_filled : ∃ f fd, HereM K (cadr mg "Shape") "filled" "Shape.filled" S_Shape_filled ["self", "name"] f fd
  d_is_short : ∃ f fd, Here K mg "is_short" S_is_short ["thing", "least", "most"] f fd
  d_is_column : ∃ f fd, Here K mg "is_column" S_is_column ["thing"] f fd
  d_need_columns : ∃ f fd, Here K mg "need_columns" S_need_columns ["columns"] f fd
  d_need_checks : ∃ f fd, Here K mg "need_checks" S_need_checks ["spots", "checks"] f fd
  d_need_keys : ∃ f fd, Here K mg "need_keys" S_need_keys ["spots", "keys"] f fd
  d_column_of : ∃ f fd, Here K mg "column_of" S_column_of ["shape", "name"] f fd
  d__law_begin : ∃ f fd, Here K mg "_law_begin" S__law_begin ["_law_script"] f fd
  d__law_take : ∃ f fd, Here K mg "_law_take" S__law_take ["_law_draw", "_law_many"] f fd
  d__law_is_integer : ∃ f fd, Here K mg "_law_is_integer" S__law_is_integer ["_law_thing"] f fd
  d__law_name : ∃ f fd, Here K mg "_law_name" S__law_name ["_law_draw", "_law_taken"] f fd
  d__law_flag : ∃ f fd, Here K mg "_law_flag" S__law_flag ["_law_thing", "_law_due_here"] f fd
  d__law_spoiled : ∃ f fd, Here K mg "_law_spoiled" S__law_spoiled ["_law_draw", "_law_column", "_law_names"] f fd
  d__law_is_column : ∃ f fd, Here K mg "_law_is_column" S__law_is_column ["_law_thing", "_law_names"] f fd
  d__law_due : ∃ f fd, Here K mg "_law_due" S__law_due ["_law_columns"] f fd
  d__law_shape_or_error : ∃ f fd, Here K mg "_law_shape_or_error" S__law_shape_or_error ["_law_columns"] f fd
  x_BadShape : ∃ fI, PySem.ErBadShape.Err K mg (cadr mg "BadShape") fI
  ko_BadShape_RowsError : PySem.W.kitOne K (.ref (cadr mg "BadShape")) (.ref (cadr mg "RowsError")) = some true
  e_RowsError : mg "RowsError" = some (.ref (cadr mg "RowsError"))
  ko_BadShape_BadRow : PySem.W.kitOne K (.ref (cadr mg "BadShape")) (.ref (cadr mg "BadRow")) = some false
  e_BadRow : mg "BadRow" = some (.ref (cadr mg "BadRow"))
  ei_BadShape : PySem.TwX.ExCls K (cadr mg "BadShape")
  is_Shape : OwnIs K (cadr mg "Shape")
  sf_Shape : PySem.W.selfFirst K (cadr mg "Shape") = true
  nr_Shape_and : PySem.W.findIn K (.ref (cadr mg "Shape")) (dunderR "and") = some none
  nr_Shape_or : PySem.W.findIn K (.ref (cadr mg "Shape")) (dunderR "or") = some none
  e_Shape : mg "Shape" = some (.ref (cadr mg "Shape"))
  cl_Shape : Cls K (cadr mg "Shape")
  n_Shape_layout : NoAttr K (cadr mg "Shape") "layout"
  n_Shape_spots : NoAttr K (cadr mg "Shape") "spots"
  n_Shape_check_tests : NoAttr K (cadr mg "Shape") "check_tests"
  n_Shape_key_rules : NoAttr K (cadr mg "Shape") "key_rules"
  k_LONGEST_NAME : ∃ t, mg "LONGEST_NAME" = some (.int 8 t)
  k_LETTERS : ∃ t, mg "LETTERS" = some (.str C_LETTERS t)
  k_WORDS : ∃ a, mg "WORDS" = some (.ref a) ∧ ∀ H : Hp, SqT K H a C_WORDS
  k_NAME_SIGNS : ∃ t, mg "NAME_SIGNS" = some (.str C_NAME_SIGNS t)
  k_KINDS : ∃ a, mg "KINDS" = some (.ref a) ∧ ∀ H : Hp, SqT K H a C_KINDS
  k_MOST_COLUMNS : ∃ t, mg "MOST_COLUMNS" = some (.int 12 t)
  k_MOST_RULES : ∃ t, mg "MOST_RULES" = some (.int 9 t)
def signs : Str := Str.ofString " !\"#$&'()*+,-./0123456789:;<=>?@ABCDEFGHIJKLMNOPQRSTUVWXYZ[\\]^_`abcdefghijklmnopqrstuvwxyz{|}~"
/-! texts of the 94 signs -/
def txtB (z : Str) : Bool := z.cps.toList.all fun c => decide (c ∈ signs.cps.toList)
def isTxtB : V → Bool
  | .str z => txtB z
  | _ => false
theorem none_bad {l : List Nat} {p : Nat → Bool} {f : Nat → V} : decide ((((l.filter fun n => !p n).map f).length : Int) = 0) = l.all p := by
  rw [List.length_map, Bool.eq_iff_iff, decide_eq_true_eq, List.all_eq_true]
  constructor
  · intro h c hc
    have h' : (l.filter fun n => !p n) = [] := List.length_eq_zero_iff.mp (by omega)
    have := (List.filter_eq_nil_iff.mp h') c hc
    simpa using this
  · intro h
    have h' : (l.filter fun n => !p n) = [] := List.filter_eq_nil_iff.mpr fun c hc => by
      have := h c hc
      simpa using this
    rw [h']
    rfl
def spThingB (F : V → Bool) : Sp := fun vs H Q _ => ∃ v, vs = [v] ∧ thing H v ∧ ∀ H', (∀ p o, H p = some o → H' p = some o) → Q (.bl (F v)) H'
def letters : List Nat := (Str.ofString "abcdefghijklmnopqrstuvwxyz").cps.toList
def nameSigns : List Nat := (Str.ofString "abcdefghijklmnopqrstuvwxyz0123456789").cps.toList
def keptWords : List Str := ["and", "or", "not", "sure", "in", "is", "empty", "begins", "always", "never"]
def nameP (z : Str) : Prop := z.length ≠ 0 ∧ z.length ≤ 8 ∧ (∀ c r, z.cps.toList = c :: r → c ∈ letters) ∧ z ∉ keptWords ∧ ∀ c ∈ z.cps.toList, c ∈ nameSigns
noncomputable def nameB : V → Bool
  | .str z => @decide (nameP z) (Classical.propDecidable _)
  | _ => false
theorem nameB_str {z : Str} : nameB (.str z) = true ↔ nameP z := by
  unfold nameB
  exact @decide_eq_true_iff _ (Classical.propDecidable _)
theorem nameB_no {z : Str} (h : ¬ nameP z) : nameB (.str z) = false := by
  cases e : nameB (.str z) with
  | false => rfl
  | true => exact absurd (nameB_str.mp e) h
theorem nameB_is {z : Str} {b : Bool} (h : nameP z ↔ b = true) : nameB (.str z) = b := by
  cases b with
  | true => exact nameB_str.mpr (h.mpr rfl)
  | false => exact nameB_no fun z => absurd (h.mp z) Bool.false_ne_true
def kindV : V → V
  | .int _ => .str (Str.ofString "number")
  | .str z => if txtB z = true then .str (Str.ofString "text") else .non
  | _ => .non
section
variable {P : Program} {w : World} {K : PySem.W.Frag} {mg : Str → Option Value} {base : Heap}
theorem ok_is_name (T : Txt K mg) : Def P w K mg base 1 "is_name" ["thing"] (spThingB nameB) := by
  obtain ⟨f, fd, h⟩ := T.d_is_name
  obtain ⟨t_LONGEST_NAME, G_LONGEST_NAME⟩ := T.k_LONGEST_NAME
  obtain ⟨t_LETTERS, G_LETTERS⟩ := T.k_LETTERS
  obtain ⟨t_WORDS, G_WORDS, Q_WORDS⟩ := T.k_WORDS
  obtain ⟨t_NAME_SIGNS, G_NAME_SIGNS⟩ := T.k_NAME_SIGNS
  refine h.def (Fun.okM h.fn sc_is_name (fun vs H Q E h => ?_) (fun cdv A outer s H vs Q E hr h => ?_))
  · obtain ⟨x, rfl, _⟩ := h
    rfl
  · obtain ⟨x, rfl, hx, k⟩ := h
    have k' := k H fun _ _ h => h
    refine ⟨_, (pss_cons (ps_if (pt_not (pt_val (pe_callB (call_isiG (K := K) rfl) (by rfl) T.h_isinstance (by decide +kernel) (pa_cons (pv 0) (pa_cons (pe_bltn (v := .ty "str") (by rfl) T.h_str (by decide +kernel) rfl) pa_nil)))))
  (pss_one (ps_ret pe_bl))
  pss_nil)
  (pss_cons (ps_if (PW.pt (pw_or (pt_cmpR op_eq (pe_callB (call_lenG (K := K) rfl) (by rfl) T.h_len (by decide +kernel) (pa_cons (pv 0) pa_nil)) pe_int (nomark _)) (pw_or1 (pt_cmpR op_gtG (pe_callB (call_lenG (K := K) rfl) (by rfl) T.h_len (by decide +kernel) (pa_cons (pv 0) pa_nil)) (pe_glob (v := .int 8) rfl G_LONGEST_NAME ⟨_, rfl⟩) (nomark _)))))
  (pss_one (ps_ret pe_bl))
  pss_nil)
  (pss_cons (ps_if (PW.pt (pw_or (pt_cmpR (op_notInG (K := K) rfl) (pe_ix (ix_seqG (K := K) rfl) (pv 0) pe_int (fun _ _ => rfl)) (pe_glob (v := .str C_LETTERS) rfl G_LETTERS ⟨_, rfl⟩) (by rfl)) (pw_or1 (pt_cmpR (op_inG (K := K) rfl) (pv 0) (pe_glob (v := .ref t_WORDS) rfl G_WORDS rfl) (by rfl)))))
  (pss_one (ps_ret pe_bl))
  pss_nil)
  (pss_one (ps_ret (pe_callB (cr_all rfl) (by rfl) T.h_all (by decide +kernel) (pa_cons (pe_lc (own := [("sign", 1)]) rfl sc_is_name.nd (pi_str (pv 0)) (blkOk_by (N := N_is_name) (sc := defScope S_is_name) (by decide +kernel)) (fun _ _ _ _ _ => pg_name (i := 1) sc_is_name.nd rfl (Or.inl rfl)) (fun _ _ _ _ _ => pts_nil) (fun _ _ _ _ _ => (pe_cmpR (op_inG (K := K) rfl) (pv 1) (pe_glob (v := .str C_NAME_SIGNS) rfl G_NAME_SIGNS ⟨_, rfl⟩) (by rfl)))) pa_nil))))))), ?_⟩
    rcases hx with rfl | ⟨b, rfl⟩ | ⟨i, rfl⟩ | ⟨z, rfl, hz⟩ | ⟨p, rfl, hp⟩
    case inr.inr.inr.inl =>
      walk_at "g"
      refine g_lenS (by rw [sizeLine_eq]; omega) ?_
      have no : ¬ nameP z → Q (.bl false) H := fun h => by rw [← nameB_no h]; exact k'
      walk_at "g"
      refine g_dec (fun h0 => ?_) (fun h0 => ?_)
      · walk_at "g"
        exact no fun n => n.1 (by omega)
      walk_at "g"
      refine g_lenS (by rw [sizeLine_eq]; omega) ?_
      walk_at "g"
      refine g_dec (fun h8 => ?_) (fun h8 => ?_)
      · walk_at "g"
        exact no fun n => by have := n.2.1; omega
      walk_at "g"
      obtain ⟨c, r, hcr⟩ : ∃ c r, z.cps.toList = c :: r := by
        cases e : z.cps.toList with
        | nil => exact absurd (by have e2 : z.cps.toList.length = z.length := Array.length_toList
                                  rw [e] at e2; simpa using e2.symm) h0
        | cons c r => exact ⟨c, r, rfl⟩
      refine g_ixS (n := c) (by rw [sizeLine_eq]; omega) (atI_nat (j := 0) (by rw [hcr]; rfl)) ?_
      walk_at "g"
      refine g_ndec (fun hc => ?_) (fun hc => ?_)
      · walk_at "g"
        exact no fun n => hc (n.2.2.1 c r hcr)
      walk_at "g"
      refine .inr ⟨_, keptWords.map V.str, rfl, .inr (Q_WORDS _), rfl, Tw.flat_strs _, ?_⟩
      walk_at "g"
      rw [if_neg Bool.false_ne_true, inV_strs]
      refine g_dec (fun hw => ?_) (fun hw => ?_)
      · walk_at "g"
        exact no fun n => n.2.2.2.1 hw
      walk_at "g"
      refine fun L hL => ?_
      refine lc_text (fun _ => true) (fun n => .bl (decide (n ∈ nameSigns))) (by omega) (fun n Hh R S hn hK hR hS => ?_) (fun H2 hK hL2 => ?_)
      · walk_at "g"
        refine ⟨rfl, ?_⟩
        walk_at "g"
        exact hR rfl
      · walk_at "g"
        refine ⟨L, z.cps.toList.map fun n => decide (n ∈ nameSigns), rfl, SqL.of ?_, ?_⟩
        · rw [hL2, List.filter_eq_self.mpr (fun _ _ => rfl), List.map_map]; rfl
        · walk_at "g"
          have e : nameB (.str z) = (z.cps.toList.map fun n => decide (n ∈ nameSigns)).all id := by
            refine nameB_is ?_
            rw [List.all_map, List.all_eq_true]
            constructor
            · intro n c hc
              exact decide_eq_true (n.2.2.2.2 c hc)
            · intro h
              exact ⟨by omega, by omega, fun c' r' e' => by rw [hcr] at e'; injection e' with e1 _; rw [← e1]; exact hc, hw, fun c hc => of_decide_eq_true (h c hc)⟩
          rw [← e]
          exact k _ fun p o h => hK p o (ne_of_none h hL) h
    all_goals (walk_at "g"; exact k')
end
/-! the draws -/
structure Dr (H : Hp) (d sc : Addr) (ns : List Int) : Prop where
  ex : ∃ (i b c e : Int), sc ≠ d ∧ 0 ≤ i ∧ H d = some (.lst [.ref sc, .int i, .int b, .int c, .int e]) ∧ H sc = some (.lst (ns.map V.int))
def Keep (d : Addr) (H H' : Hp) : Prop := ∀ p o, p ≠ d → H p = some o → H' p = some o
theorem Keep.refl (d : Addr) (H : Hp) : Keep d H H := fun _ _ _ h => h
theorem Keep.trans {d : Addr} {H H1 H2 : Hp} (a : Keep d H H1) (b : Keep d H1 H2) : Keep d H H2 := fun p o n h => b p o n (a p o n h)
theorem Dr.new {H : Hp} {d sc p : Addr} {ns : List Int} {o : HO} (D : Dr H d sc ns) (hp : H p = none) : Dr (upd H p o) d sc ns := by
  obtain ⟨i, b, c, e, h1, h2, h3, h4⟩ := D.ex
  exact ⟨i, b, c, e, h1, h2, by rw [upd_ne (ne_of_none h3 hp)]; exact h3, by rw [upd_ne (ne_of_none h4 hp)]; exact h4⟩
theorem Dr.at {H : Hp} {d sc : Addr} {ns : List Int} (D : Dr H d sc ns) : ∃ xs, H d = some (.lst xs) := by
  obtain ⟨i, b, c, e, h1, h2, h3, h4⟩ := D.ex
  exact ⟨_, h3⟩
theorem Dr.sc {H : Hp} {d sc : Addr} {ns : List Int} (D : Dr H d sc ns) : H sc = some (.lst (ns.map V.int)) := by
  obtain ⟨i, b, c, e, h1, h2, h3, h4⟩ := D.ex
  exact h4
theorem Dr.ne {H : Hp} {d sc p : Addr} {ns : List Int} (D : Dr H d sc ns) (hp : H p = none) : p ≠ d ∧ p ≠ sc := by
  obtain ⟨i, b, c, e, h1, h2, h3, h4⟩ := D.ex
  exact ⟨Ne.symm (ne_of_none h3 hp), Ne.symm (ne_of_none h4 hp)⟩
theorem Dr.other {H : Hp} {d sc p : Addr} {ns : List Int} {o : HO} (D : Dr H d sc ns) (h1 : p ≠ d) (h2 : p ≠ sc) : Dr (upd H p o) d sc ns := by
  obtain ⟨i, b, c, e, g1, g2, g3, g4⟩ := D.ex
  exact ⟨i, b, c, e, g1, g2, by rw [upd_ne (Ne.symm h1)]; exact g3, by rw [upd_ne (Ne.symm h2)]; exact g4⟩
theorem Keep.new {d p : Addr} {H H1 : Hp} {o : HO} (a : Keep d H H1) (hp : H p = none) : Keep d H (L2.upd H1 p o) := fun q u n h => by rw [upd_ne (ne_of_none h hp)]; exact a q u n h
theorem Keep.back {d p : Addr} {H H1 : Hp} (a : Keep d H H1) (n : p ≠ d) (h : H1 p = none) : H p = none := by
  cases hh : H p with
  | none => rfl
  | some o => rw [a p o n hh] at h; cases h
theorem Keep.upd {d : Addr} {H H1 : Hp} {o : HO} (a : Keep d H H1) : Keep d H (L2.upd H1 d o) := fun p u n h => by rw [upd_ne n]; exact a p u n h
def spTake : Sp := fun vs H Q _ => ∃ d sc ns m, vs = [.ref d, .int m] ∧ Dr H d sc ns ∧ 0 < m ∧ m.natAbs.log2 < 9000 ∧ ∀ r H', 0 ≤ r → r < m → Dr H' d sc ns → Keep d H H' → Q (.int r) H'
section
variable {P : Program} {w : World} {K : PySem.W.Frag} {mg : Str → Option Value} {base : Heap}
theorem ok__law_take (T : Txt K mg) : Def P w K mg base 1 "_law_take" ["_law_draw", "_law_many"] spTake := by
  obtain ⟨f, fd, h⟩ := T.d__law_take
  refine h.def (Fun.okM h.fn sc__law_take (fun vs H Q E h => ?_) (fun cdv A outer s H vs Q E hr h => ?_))
  · obtain ⟨d, sc, ns, m, rfl, _⟩ := h
    rfl
  · obtain ⟨d, sc, ns, m, rfl, ⟨i, b, c, e, hne, hi, hd, hs⟩, hm, hml, k⟩ := h
    refine ⟨_, (pss_cons (ps_if (PW.pt (pw_and (pt_cmpR op_eq (pe_ix (ix_seqG (K := K) rfl) (pv 0) pe_int (fun _ _ => rfl)) pe_int (nomark _)) (pw_and1 (pt_cmpR op_ltG (pe_ix (ix_seqG (K := K) rfl) (pv 0) pe_int (fun _ _ => rfl)) (pe_callB (call_lenG (K := K) rfl) (by rfl) T.h_len (by decide +kernel) (pa_cons (pe_ix (ix_seqG (K := K) rfl) (pv 0) pe_int (fun _ _ => rfl)) pa_nil)) (nomark _)))))
  (pss_cons (ps_set (i := 2) sc__law_take.nd rfl (Or.inl rfl) (pe_ix (ix_seqG (K := K) rfl) (pe_ix (ix_seqG (K := K) rfl) (pv 0) pe_int (fun _ _ => rfl)) (pe_ix (ix_seqG (K := K) rfl) (pv 0) pe_int (fun _ _ => rfl)) (fun _ _ => rfl)))
  (pss_cons (ps_asg (pe_op op_addG (pe_ix (ix_seqG (K := K) rfl) (pv 0) pe_int (fun _ _ => rfl)) pe_int) (pg_sub (pv 0) pe_int set_list))
  (pss_one (ps_if (pt_cmpR op_geG (pv 2) (pe_op op_powG' pe_int pe_int) (nomark _))
  (pss_one (ps_asg (pe_op op_modG (pe_callTy call_intG (by rfl) T.h_int (by decide +kernel) (pa_cons (pv 2) pa_nil)) (pe_op op_powG' (pe_op op_powG' pe_int pe_int) pe_int)) (pg_sub (pv 0) pe_int set_list)))
  (pss_one (ps_asg (pe_op op_modG (pe_callTy call_intG (by rfl) T.h_int (by decide +kernel) (pa_cons (pe_op op_addG (pe_op op_addG (pe_op op_mulG (pe_ix (ix_seqG (K := K) rfl) (pv 0) pe_int (fun _ _ => rfl)) pe_int) (pe_op op_modG (pe_callTy call_intG (by rfl) T.h_int (by decide +kernel) (pa_cons (pv 2) pa_nil)) pe_int)) pe_int) pa_nil)) pe_int) (pg_sub (pv 0) pe_int set_list)))))))
  pss_nil)
  (pss_cons (ps_if (pt_cmpR op_gtG (pe_ix (ix_seqG (K := K) rfl) (pv 0) pe_int (fun _ _ => rfl)) pe_int (nomark _))
  (pss_cons (ps_set (i := 3) sc__law_take.nd rfl (Or.inl rfl) (pe_op op_modG (pe_callTy call_intG (by rfl) T.h_int (by decide +kernel) (pa_cons (pe_ix (ix_seqG (K := K) rfl) (pv 0) pe_int (fun _ _ => rfl)) pa_nil)) (pv 1)))
  (pss_cons (ps_asg (pe_op op_fdG (pe_ix (ix_seqG (K := K) rfl) (pv 0) pe_int (fun _ _ => rfl)) (pv 1)) (pg_sub (pv 0) pe_int set_list))
  (pss_one (ps_ret (pv 3)))))
  pss_nil)
  (pss_cons (ps_asg (pe_op op_addG (pe_ix (ix_seqG (K := K) rfl) (pv 0) pe_int (fun _ _ => rfl)) pe_int) (pg_sub (pv 0) pe_int set_list))
  (pss_cons (ps_set (i := 4) sc__law_take.nd rfl (Or.inl rfl) (pe_op op_modG (pe_callTy call_intG (by rfl) T.h_int (by decide +kernel) (pa_cons (pe_op op_addG (pe_ix (ix_seqG (K := K) rfl) (pv 0) pe_int (fun _ _ => rfl)) (pe_op op_mulG pe_int (pe_ix (ix_seqG (K := K) rfl) (pv 0) pe_int (fun _ _ => rfl)))) pa_nil)) pe_int))
  (pss_cons (ps_set (i := 4) sc__law_take.nd rfl (Or.inl rfl) (pe_op op_modG (pe_callTy call_intG (by rfl) T.h_int (by decide +kernel) (pa_cons (pe_op op_powG' (pv 4) pe_int) pa_nil)) pe_int))
  (pss_cons (ps_asg (pe_op op_modG (pe_callTy call_intG (by rfl) T.h_int (by decide +kernel) (pa_cons (pe_op op_addG (pe_op op_mulG (pv 4) pe_int) (pe_ix (ix_seqG (K := K) rfl) (pv 0) pe_int (fun _ _ => rfl))) pa_nil)) pe_int) (pg_sub (pv 0) pe_int set_list))
  (pss_one (ps_ret (pe_op op_modG (pe_callTy call_intG (by rfl) T.h_int (by decide +kernel) (pa_cons (pe_op op_fdG (pe_ix (ix_seqG (K := K) rfl) (pv 0) pe_int (fun _ _ => rfl)) pe_int) pa_nil)) (pv 1)))))))))), ?_⟩
    walk_at "G"
    all_goals refine k _ _ (Int.emod_nonneg _ (by omega)) (Int.emod_lt_of_pos _ hm) ?_ ?_
    all_goals first
      | exact ⟨_, _, _, _, hne, by omega, upd_same, by walk_at "hp"⟩
      | (repeat (first | exact Keep.refl _ _ | refine Keep.upd ?_))
end
/-! more draws -/
def spBegin (K : PySem.W.Frag) : Sp := fun vs H Q _ => ∃ (a : Addr) (ns : List Int), vs = [.ref a] ∧ SqL K H a (ns.map V.int) ∧ ∀ d sc ms H', H d = none → Same H H' → Dr H' d sc ms → Q (.ref d) H'
theorem cut_map (ns : List Int) (lo hi : Option Int) : ∃ ms : List Int, cutV (ns.map V.int) lo hi = ms.map V.int := ⟨_, by unfold cutV; rw [← List.map_drop, ← List.map_take]⟩
section
variable {P : Program} {w : World} {K : PySem.W.Frag} {mg : Str → Option Value} {base : Heap}
theorem ok__law_begin (T : Txt K mg) : Def P w K mg base 1 "_law_begin" ["_law_script"] (spBegin K) := by
  obtain ⟨f, fd, h⟩ := T.d__law_begin
  refine h.def (Fun.okM h.fn sc__law_begin (fun vs H Q E h => ?_) (fun cdv A outer s H vs Q E hr h => ?_))
  · obtain ⟨x, y, rfl, _⟩ := h
    rfl
  · obtain ⟨a, ns, rfl, hS, k⟩ := h
    refine ⟨_, (pss_one (ps_ret (pe_lst (pa_cons (pe_callTy (call_listG (K := K) rfl) (by rfl) T.h_list (by decide +kernel) (pa_cons (pe_slice (sl_G (K := K) rfl) (pv 0) po_none (po_some pe_int)) pa_nil)) (pa_cons pe_int (pa_cons pe_int (pa_cons pe_int (pa_cons pe_int pa_nil)))))))), ?_⟩
    walk_at "g"
    obtain ⟨ms, hms⟩ := cut_map ns none (some 63)
    refine g_slL hS (fun p hp => ?_)
    rw [hms]
    walk_at "g"
    refine ⟨p, _, rfl, .inl (SqL.of upd_same), fun l hl => ?_⟩
    walk_at "g"
    refine ⟨by show 5 ≤ sizeLine; decide, fun d hd => ?_⟩
    walk_at "g"
    have n1 : l ≠ d := ne_of_none upd_same hd
    have n2 : l ≠ p := fun z => by rw [z, upd_same] at hl; cases hl
    have hpd : d ≠ p := fun z => by rw [z, upd_ne (fun z => n2 z.symm), upd_same] at hd; cases hd
    refine k d l ms _ ?_ (fun b o hb => ?_) ⟨0, 0, 1, 0, n1, by decide, upd_same, by rw [upd_ne n1, upd_same]⟩
    · rw [upd_ne (fun z => n1 z.symm), upd_ne hpd] at hd
      exact hd
    · have b1 : b ≠ p := ne_of_none hb hp
      have b2 : b ≠ l := fun z => by rw [upd_ne n2] at hl; rw [z, hl] at hb; cases hb
      have b3 : b ≠ d := fun z => by rw [upd_ne (fun z => n1 z.symm), upd_ne hpd] at hd; rw [z, hd] at hb; cases hb
      rw [upd_ne b3, upd_ne b2, upd_ne b1]
      exact hb
/-- a text of the 94 signs -/
def spChars : Sp := fun vs H Q _ => vs = [] ∧ Q (.str signs) H
/-- a drawn value -/
def spDraw (G : V → Prop) : Sp := fun vs H Q _ => ∃ d sc ns, vs = [.ref d] ∧ Dr H d sc ns ∧ ∀ v H', G v → Dr H' d sc ns → Keep d H H' → Q v H'
def isI (v : V) : Prop := ∃ i, v = .int i
def isS (v : V) : Prop := ∃ z : Str, v = .str z ∧ z.length ≤ 100 ∧ ∀ c ∈ z.cps.toList, c ∈ signs.cps.toList
end
def kS (k : Bool) : Str := if k = true then "text" else "number"
/-! columns, orders, rows -/
def LAt (H : Hp) (L : Addr) (ts : List (List V)) : Prop := ∃ qs : List Addr, H L = some (.lst (qs.map V.ref)) ∧ qs.length = ts.length ∧ ∀ (i : Nat) (q : Addr) (t : List V), qs[i]? = some q → ts[i]? = some t → H q = some (.tup t)
theorem LAt.keep {H H' : Hp} {L : Addr} {ts : List (List V)} (h : LAt H L ts) (k : ∀ q o, H q = some o → H' q = some o) : LAt H' L ts := by
  obtain ⟨qs, h1, h2, h3⟩ := h
  exact ⟨qs, k _ _ h1, h2, fun i q t hq ht => k _ _ (h3 i q t hq ht)⟩
theorem LAt.keepP {H H' : Hp} {L p : Addr} {ts : List (List V)} (h : LAt H L ts) (n : L ≠ p) (hp : ∃ xs, H p = some (.lst xs)) (k : Keep p H H') : LAt H' L ts := by
  obtain ⟨qs, h1, h2, h3⟩ := h
  refine ⟨qs, k _ _ n h1, h2, fun i q t hq ht => ?_⟩
  have e := h3 i q t hq ht
  exact k _ _ (fun z => by obtain ⟨xs, hx⟩ := hp; rw [z, hx] at e; cases e) e
theorem LAt.app {H : Hp} {L t : Addr} {ts : List (List V)} {qs : List Addr} {x : List V} (h : LAt H L ts) (e : H L = some (.lst (qs.map V.ref))) (ht : H t = none) :
    LAt (upd (upd H t (.tup x)) L (.lst (qs.map V.ref ++ [.ref t]))) L (ts ++ [x]) := by
  obtain ⟨qs', h1, h2, h3⟩ := h
  obtain rfl : qs' = qs := by
    rw [e] at h1
    injection h1 with e
    injection e with e
    exact ((List.map_inj_right (fun a b h => by injection h)).mp e).symm
  have nt : L ≠ t := ne_of_none e ht
  refine ⟨qs' ++ [t], by rw [upd_same, List.map_append]; rfl, by rw [List.length_append, List.length_append, h2]; rfl, fun i q u hq hu => ?_⟩
  by_cases hlt : i < qs'.length
  · rw [List.getElem?_append_left hlt] at hq
    rw [List.getElem?_append_left (by omega)] at hu
    have e' := h3 i q u hq hu
    rw [upd_ne (fun z => by rw [z, e] at e'; cases e'), upd_ne (ne_of_none e' ht)]
    exact e'
  · rw [List.getElem?_append_right (by omega)] at hq
    rw [List.getElem?_append_right (by omega), ← h2] at hu
    obtain ⟨hi0, _⟩ := List.getElem?_eq_some_iff.mp hq
    have : i - qs'.length = 0 := by simpa using hi0
    rw [this] at hq hu
    obtain rfl : t = q := by simpa using hq
    obtain rfl : x = u := by simpa using hu
    rw [upd_ne (Ne.symm nt)]
    exact upd_same
theorem LAt.get {H : Hp} {L : Addr} {ts : List (List V)} (h : LAt H L ts) {qs : List Addr} (e : H L = some (.lst (qs.map V.ref))) : qs.length = ts.length ∧ ∀ (i : Nat) (q : Addr) (t : List V), qs[i]? = some q → ts[i]? = some t → H q = some (.tup t) := by
  obtain ⟨qs', h1, h2, h3⟩ := h
  obtain rfl : qs' = qs := by
    rw [e] at h1
    injection h1 with e
    injection e with e
    exact ((List.map_inj_right (fun a b h => by injection h)).mp e).symm
  exact ⟨h2, h3⟩
abbrev Col := Str × Bool × Bool
def ct (c : Col) : List V := [.str c.1, .str (kS c.2.1), .bl c.2.2]
def dS (up : Bool) : Str := if up = true then "up" else "down"
def pt (c : Str × Bool) : List V := [.str c.1, .str (dS c.2)]
def kdA (cs : List Col) : Str → Option Bool := cs.foldl (fun f x => fun c => if c = x.1 then some x.2.1 else f c) (fun _ => none)
theorem kdA_app {cs : List Col} {x : Col} {c : Str} : kdA (cs ++ [x]) c = if c = x.1 then some x.2.1 else kdA cs c := by
  unfold kdA
  rw [List.foldl_append]
  rfl
theorem kdA_mem {cs : List Col} {x : Col} (h : x ∈ cs) : ∃ kd, kdA cs x.1 = some kd := by
  have key : ∀ (r : List Col) (l : List Col), x ∈ l ++ r → (x ∈ l → ∃ kd, kdA l x.1 = some kd) → ∃ kd, kdA (l ++ r) x.1 = some kd := by
    intro r
    induction r with
    | nil => intro l h k; rw [List.append_nil] at h ⊢; exact k h
    | cons y r ih =>
      intro l h k
      have e : l ++ y :: r = (l ++ [y]) ++ r := by simp
      rw [e] at h ⊢
      refine ih (l ++ [y]) h fun hm => ?_
      rw [kdA_app]
      by_cases hx : x.1 = y.1
      · rw [if_pos hx]; exact ⟨_, rfl⟩
      · rw [if_neg hx]
        rcases List.mem_append.mp hm with hm | hm
        · exact k hm
        · exact absurd (by rw [List.mem_singleton.mp hm]) hx
  exact key cs [] h fun hm => nomatch hm
theorem strs_of : ∀ {ys : List V}, (∀ y ∈ ys, ∃ z, y = .str z) → ∃ xs : List Str, ys = xs.map V.str
  | [], _ => ⟨[], rfl⟩
  | y :: ys, h => by
    obtain ⟨z, rfl⟩ := h y List.mem_cons_self
    obtain ⟨xs, rfl⟩ := strs_of fun y hy => h y (List.mem_cons_of_mem _ hy)
    exact ⟨z :: xs, rfl⟩
/-- a thing's kind -/
inductive TyOf7 (H : Hp) : V → String → Prop
  | non : TyOf7 H .non "NoneType"
  | bl (b : Bool) : TyOf7 H (.bl b) "bool"
  | int (i : Int) : TyOf7 H (.int i) "int"
  | str (z : Str) : TyOf7 H (.str z) "str"
  | lst {p : Addr} {xs : List V} (h : H p = some (.lst xs)) : TyOf7 H (.ref p) "list"
  | tup {p : Addr} {xs : List V} (h : H p = some (.tup xs)) : TyOf7 H (.ref p) "tuple"
  | dct {p : Addr} {kvs : List (Key × V)} (h : H p = some (.dK kvs)) : TyOf7 H (.ref p) "dict"
theorem TyOf7.x {H : Hp} {v : V} {T : String} (h : TyOf7 H v T) (K : PySem.W.Frag) : TyX K H v (.type T) := by
  cases h with
  | non => exact .base .non
  | bl b => exact .base (.bl b)
  | int i => exact .base (.int i)
  | str z => exact .base (.str z)
  | lst h => exact .base (.lst h)
  | tup h => exact .base (.tup h)
  | dct h => exact .base (.dK h)
abbrev XT (H H' : Hp) : Prop := ∀ q o, H q = some o → H' q = some o
theorem XT.new {H H1 : Hp} {t : Addr} {o : HO} (k : XT H H1) (h : H1 t = none) : XT H (upd H1 t o) := fun q u e => by rw [upd_ne (ne_of_none (k q u e) h)]; exact k q u e
theorem XT.pool {H H1 H2 : Hp} {p : Addr} (k : XT H H1) (h : H p = none) (K : Keep p H1 H2) : XT H H2 := fun q u e => K q u (ne_of_none e h) (k q u e)
theorem xtL {K : PySem.W.Frag} {H H' : Hp} {a : Addr} {xs : List V} (h : SqL K H a xs) (k : XT H H') : SqL K H' a xs := by
  rcases h with h | h
  · rcases h with h | ⟨o, h⟩
    · exact .inl (.inl (k _ _ h))
    · exact .inl (.inr ⟨o, k _ _ h⟩)
  · exact .inr h
theorem XT.trans {H H1 H2 : Hp} (a : XT H H1) (b : XT H1 H2) : XT H H2 := fun q o h => b q o (a q o h)

/-- a comprehension with a promise over what it has taken -/
theorem lc_inv {σ : L2.St} {g : TG} {tt : TT} {te : TE} {vs : List Nat} {J : It} {H1 : Hp} {D : Addr} {Qd : Hp → Prop} (xs : List V) (Pv : Nat → List V → Hp → Prop) (h0 : Pv 0 [] (upd H1 D (.lst []))) (hJ : ∀ i acc H, Pv i acc H → Fits J xs H) (hlen : xs.length ≤ 1000000)
    (hD : ∀ i acc H, Pv i acc H → H D = some (.lst acc) ∧ acc.length ≤ i)
    (hs : ∀ i acc x Hh (R : V → Hp → Prop) (S : Hp → Prop), xs[i]? = some x → Pv i acc Hh → (∀ y H4, H4 D = some (.lst acc) → Pv (i + 1) (acc ++ [y]) (upd H4 D (.lst (acc ++ [y]))) → R y H4) → (∀ H3, Pv (i + 1) acc H3 → S H3) →
      g x (wipe σ vs) Hh fun σ2 H2 => wipe σ2 vs = wipe σ vs ∧ tt σ2 H2 fun b H3 => if b = true then te σ2 H3 R else S H3)
    (hd : ∀ acc H, Pv xs.length acc H → Qd H) :
    ∃ W : Nat → Nat → Hp → Prop, (∃ m, W 0 m (upd H1 D (.lst []))) ∧ ∀ i m H, W i m H →
      (J.stop i H ∧ Qd H) ∨ (J.go i H ∧ ∃ Nx : Hp → Prop, (∀ H', Nx H' → ∃ m', m' < m ∧ W (i + 1) m' H') ∧ ∀ x H', J.yld i H x H' → g x (wipe σ vs) H' fun σ2 H2 => wipe σ2 vs = wipe σ vs ∧ tt σ2 H2 fun b H3 =>
        if b = true then te σ2 H3 fun y H4 => ∃ acc, H4 D = some (.lst acc) ∧ acc.length < sizeLine ∧ Nx (upd H4 D (.lst (acc ++ [y]))) else Nx H3) := by
  refine ⟨fun i m H => m = xs.length - i ∧ i ≤ xs.length ∧ ∃ acc, Pv i acc H, ⟨xs.length, by simp, Nat.zero_le _, [], h0⟩, ?_⟩
  rintro i m H ⟨rfl, hi, acc, hp⟩
  have fi := hJ i acc H hp
  by_cases hlt : i < xs.length
  · refine .inr ⟨fi.go i hlt, fun H' => ∃ acc, Pv (i + 1) acc H', fun H' w => ⟨xs.length - (i + 1), by omega, rfl, hlt, w⟩, ?_⟩
    intro x H' hy
    obtain ⟨rfl, hx⟩ := fi.yld i x H' hy
    obtain ⟨d1, d2⟩ := hD i acc _ hp
    exact hs i acc x _ _ _ hx hp (fun y H4 e q => ⟨acc, e, by rw [sizeLine_eq]; omega, _, q⟩) (fun H3 q => ⟨_, q⟩)
  · have e : i = xs.length := by omega
    subst e
    exact .inl ⟨fi.stop _ (Nat.le_refl _), hd acc H hp⟩

theorem TyOf7.keep {H H' : Hp} {v : V} {T : String} (h : TyOf7 H v T) (k : XT H H') : TyOf7 H' v T := by
  cases h with
  | non => exact .non
  | bl b => exact .bl b
  | int i => exact .int i
  | str z => exact .str z
  | lst h => exact .lst (k _ _ h)
  | tup h => exact .tup (k _ _ h)
  | dct h => exact .dct (k _ _ h)
theorem XT.refl {H : Hp} : XT H H := fun _ _ h => h
theorem kit_seq {K : PySem.W.Frag} : ∀ T ∈ kinds7, PySem.W.kitAny K (.type T) [.type "list", .type "tuple"] = some (decide (T = "list" ∨ T = "tuple")) := by
  intro T h
  unfold kinds7 at h
  simp only [List.mem_cons, List.not_mem_nil, or_false] at h
  rcases h with rfl | rfl | rfl | rfl | rfl | rfl | rfl
  · exact kitAny_cons (b := false) (kit_ty (by decide +kernel)) (fun _ => kitAny_cons (b := false) (kit_ty (by decide +kernel)) (fun _ => rfl) (fun z => nomatch z)) (fun z => nomatch z)
  · exact kitAny_cons (b := false) (kit_ty (by decide +kernel)) (fun _ => kitAny_cons (b := false) (kit_ty (by decide +kernel)) (fun _ => rfl) (fun z => nomatch z)) (fun z => nomatch z)
  · exact kitAny_cons (b := false) (kit_ty (by decide +kernel)) (fun _ => kitAny_cons (b := false) (kit_ty (by decide +kernel)) (fun _ => rfl) (fun z => nomatch z)) (fun z => nomatch z)
  · exact kitAny_cons (b := false) (kit_ty (by decide +kernel)) (fun _ => kitAny_cons (b := false) (kit_ty (by decide +kernel)) (fun _ => rfl) (fun z => nomatch z)) (fun z => nomatch z)
  · exact kitAny_cons (b := true) (kit_ty (by decide +kernel)) (fun z => nomatch z) (fun _ => by decide)
  · exact kitAny_cons (b := false) (kit_ty (by decide +kernel)) (fun _ => kitAny_cons (b := true) (kit_ty (by decide +kernel)) (fun z => nomatch z) (fun _ => by decide)) (fun z => nomatch z)
  · exact kitAny_cons (b := false) (kit_ty (by decide +kernel)) (fun _ => kitAny_cons (b := false) (kit_ty (by decide +kernel)) (fun _ => rfl) (fun z => nomatch z)) (fun z => nomatch z)
/-! shapes without checks and keys -/
def spSeqX (K : PySem.W.Frag) : Sp := fun vs H Q _ => ∃ v Tn, vs = [v] ∧ Tn ∈ kinds7 ∧ (∀ H', XT H H' → TyX K H' v (.type Tn)) ∧ ∀ H', XT H H' → Q (.bl (decide (Tn = "list" ∨ Tn = "tuple"))) H'
def spShort (K : PySem.W.Frag) : Sp := fun vs H Q _ => ∃ (v : V) (a b : Int), vs = [v, .int a, .int b] ∧
  ((∃ Tn, Tn ∈ kinds7 ∧ TyOf7 H v Tn ∧ Tn ≠ "list" ∧ Tn ≠ "tuple" ∧ ∀ H', XT H H' → Q (.bl false) H') ∨
   (∃ p xs, v = .ref p ∧ (H p = some (.lst xs) ∨ SqT K H p xs) ∧ ∀ H', XT H H' → Q (.bl (decide (a ≤ (xs.length : Int)) && decide ((xs.length : Int) ≤ b))) H'))
theorem xtT {K : PySem.W.Frag} {H H' : Hp} {a : Addr} {xs : List V} (h : SqT K H a xs) (k : XT H H') : SqT K H' a xs := by
  rcases h with h | h
  · rcases h with h | ⟨o, h⟩
    · exact .inl (.inl (k _ _ h))
    · exact .inl (.inr ⟨o, k _ _ h⟩)
  · exact .inr h
def keysP (kvs : List (Key × V)) (S : List Str) : Prop := ∀ z : Str, (valV kvs (Sum.inr z)).isSome = decide (z ∈ S)
theorem keysP.nil : keysP [] [] := fun z => rfl
theorem keysP.put {kvs : List (Key × V)} {S : List Str} {c : Str} {v : V} (h : keysP kvs S) : keysP (putK kvs (Sum.inr c) v) (S ++ [c]) := fun z => by
  rw [valV_put]
  by_cases e : z = c
  · rw [if_pos (by rw [e]), e]
    exact (decide_eq_true (List.mem_append.mpr (.inr (List.mem_singleton.mpr rfl)))).symm
  · rw [if_neg (fun h => e (by injection h)), h z]
    exact decide_eq_decide.mpr ⟨fun h => List.mem_append.mpr (.inl h), fun h => (List.mem_append.mp h).elim id fun h => absurd (List.mem_singleton.mp h) e⟩
theorem g_dput {σ : L2.St} {H : Hp} {D : Ends} {td ty tv : TE} (q : tv σ H fun v H1 => td σ H1 fun x H2 => ty σ H2 fun y H3 => ∃ a H4, x = .ref a ∧ DPut H3 a y v H4 ∧ D.nx σ H4) : sDPut td ty tv D σ H := q
section
variable {P : Program} {w : World} {K : PySem.W.Frag} {mg : Str → Option Value} {base : Heap}
theorem ok_is_sequence (T : Txt K mg) : Def P w K mg base 1 "is_sequence" ["thing"] (spSeqX K) := by
  obtain ⟨f, fd, h⟩ := T.d_is_sequence
  refine h.def (Fun.okM h.fn sc_is_sequence (fun vs H Q E h => ?_) (fun cdv A outer s H vs Q E hr h => ?_))
  · obtain ⟨v, Tn, rfl, _⟩ := h
    rfl
  · obtain ⟨v, Tn, rfl, hT, ty, k⟩ := h
    refine ⟨_, (pss_one (ps_ret (pe_callB call_isiT (by rfl) T.h_isinstance (by decide +kernel) (pa_cons (pv 0) (pa_cons (pe_tup (pa_cons (pe_bltn (v := .ty "list") (by rfl) T.h_list (by decide +kernel) rfl) (pa_cons (pe_bltn (v := .ty "tuple") (by rfl) T.h_tuple (by decide +kernel) rfl) pa_nil))) pa_nil))))), ?_⟩
    walk_at "g"
    refine ⟨by show 2 ≤ sizeLine; decide, fun t ht => ?_⟩
    walk_at "g"
    have kt : XT H (upd H t (.tup [.ty "list", .ty "tuple"])) := fun q o h => by rw [upd_ne (ne_of_none h ht)]; exact h
    refine ⟨v, t, _, _, _, _, rfl, upd_same, .cons (.ty "list") (.cons (.ty "tuple") .nil), ty _ kt, kit_seq Tn hT, ?_⟩
    walk_at "g"
    exact k _ kt
theorem ok_is_short (T : Txt K mg) : Def P w K mg base 2 "is_short" ["thing", "least", "most"] (spShort K) := by
  obtain ⟨f, fd, h⟩ := T.d_is_short
  refine h.def (Fun.okM h.fn sc_is_short (fun vs H Q E h => ?_) (fun cdv A outer s H vs Q E hr h => ?_))
  · obtain ⟨v, a, b, rfl, _⟩ := h
    rfl
  · obtain ⟨v, a, b, rfl, h⟩ := h
    refine ⟨_, (pss_one (ps_ret (pe_and (pe_def (ok_is_sequence T) hr rfl (pa_cons (pv 0) pa_nil)) (pe_and (pe_cmpR op_leG (pv 1) (pe_callB (call_lenG (K := K) rfl) (by rfl) T.h_len (by decide +kernel) (pa_cons (pv 0) pa_nil)) (nomark _)) (pe_one (pe_cmpR op_leG (pe_callB (call_lenG (K := K) rfl) (by rfl) T.h_len (by decide +kernel) (pa_cons (pv 0) pa_nil)) (pv 2) (nomark _))))))), ?_⟩
    rcases h with ⟨Tn, hT, ty, n1, n2, k⟩ | ⟨p, xs, rfl, hp, k⟩
    · walk_at "g"
      refine ⟨v, Tn, rfl, hT, fun H' x => (ty.keep x).x K, fun H' x => ?_⟩
      rw [decide_eq_false (fun h => h.elim n1 n2)]
      walk_at "g"
      exact k _ x
    · rcases hp with hp | hp
      · walk_at "g"
        refine ⟨.ref p, "list", rfl, by decide, fun H' x => .base (.lst (x _ _ hp)), fun H' x => ?_⟩
        rw [show decide ("list" = "list" ∨ "list" = "tuple") = true by decide]
        walk_at "g"
        refine g_lenL (SqL.of (x _ _ hp)) ?_
        walk_at "g"
        by_cases ha : a ≤ (xs.length : Int)
        · rw [decide_eq_true ha]
          walk_at "g"
          refine g_lenL (SqL.of (x _ _ hp)) ?_
          walk_at "g"
          have := k _ x
          rw [decide_eq_true ha, Bool.true_and] at this
          exact this
        · rw [decide_eq_false ha]
          walk_at "g"
          have := k _ x
          rw [decide_eq_false ha, Bool.false_and] at this
          exact this
      · walk_at "g"
        refine ⟨.ref p, "tuple", rfl, by decide, fun H' x => tyx_t (xtT hp x), fun H' x => ?_⟩
        rw [show decide ("tuple" = "list" ∨ "tuple" = "tuple") = true by decide]
        walk_at "g"
        refine g_lenT (xtT hp x) ?_
        walk_at "g"
        by_cases ha : a ≤ (xs.length : Int)
        · rw [decide_eq_true ha]
          walk_at "g"
          refine g_lenT (xtT hp x) ?_
          walk_at "g"
          have := k _ x
          rw [decide_eq_true ha, Bool.true_and] at this
          exact this
        · rw [decide_eq_false ha]
          walk_at "g"
          have := k _ x
          rw [decide_eq_false ha, Bool.false_and] at this
          exact this
end
section
variable {P : Program} {w : World} {K : PySem.W.Frag} {mg : Str → Option Value} {base : Heap}
theorem g_isSeq {H H' : Hp} {v : V} {Tn : String} {t : Addr} {b : Bool} {Q : VK} (hT : Tn ∈ kinds7) (ty : TyX K H' v (.type Tn)) (e : H' t = some (.tup [.ty "list", .ty "tuple"])) (hb : decide (Tn = "list" ∨ Tn = "tuple") = b) (q : Q (.bl b) H') : rIsiT K [v, .ref t] H' Q := by
  subst hb
  exact ⟨v, t, _, _, _, _, rfl, e, .cons (.ty "list") (.cons (.ty "tuple") .nil), ty, kit_seq Tn hT, q⟩
theorem seq_ty {H : Hp} {p : Addr} {xs : List V} (h : H p = some (.lst xs) ∨ H p = some (.tup xs)) : ∃ Tn, Tn ∈ kinds7 ∧ TyX K H (.ref p) (.type Tn) ∧ decide (Tn = "list" ∨ Tn = "tuple") = true := by
  rcases h with h | h
  · exact ⟨"list", by decide, .base (.lst h), by decide⟩
  · exact ⟨"tuple", by decide, .base (.tup h), by decide⟩
theorem g_lenA {H : Hp} {p : Addr} {xs : List V} {Q : VK} (h : H p = some (.lst xs) ∨ H p = some (.tup xs)) (q : Q (.int (xs.length : Int)) H) : rLenG K [.ref p] H Q := by
  rcases h with h | h
  · exact g_lenL (SqL.of h) q
  · exact g_lenT (SqT.of h) q
end
theorem seq_t {K : PySem.W.Frag} {H : Hp} {p : Addr} {xs : List V} (h : H p = some (.lst xs) ∨ H p = some (.tup xs)) : H p = some (.lst xs) ∨ SqT K H p xs := h.elim .inl fun h => .inr (SqT.of h)
theorem seq_a {K : PySem.W.Frag} {H : Hp} {p : Addr} {xs : List V} (h : H p = some (.lst xs) ∨ H p = some (.tup xs)) : SqA K H p xs := h.elim (fun h => .inl (SqL.of h)) fun h => .inr (SqT.of h)
theorem g_ixA {K : PySem.W.Frag} {H : Hp} {p : Addr} {xs : List V} {i : Int} {v : V} {Q : VK} (h : H p = some (.lst xs) ∨ H p = some (.tup xs)) (e : atI xs i = some v) (q : Q v H) : rIx K (.ref p) (.int i) H Q := by
  rcases h with h | h
  · exact g_ixL (SqL.of h) e q
  · exact g_ixT (SqT.of h) e q
theorem seq_keep {H H' : Hp} {p : Addr} {xs : List V} (h : H p = some (.lst xs) ∨ H p = some (.tup xs)) (k : XT H H') : H' p = some (.lst xs) ∨ H' p = some (.tup xs) := h.elim (fun h => .inl (k _ _ h)) fun h => .inr (k _ _ h)
/-! columns, right and wrong -/
def badNm (x : V) : Prop := (∀ z, x ≠ .str z) ∨ ∃ z : Str, x = .str z ∧ (z.length < 1 ∨ 8 < z.length ∨ z = "in" ∨ (∃ c r, z.cps.toList = c :: r ∧ c ∉ letters) ∨ ∃ c ∈ z.cps.toList, c ∉ nameSigns)
theorem badNm.no {x : V} (h : badNm x) : nameB x = false := by
  cases e : nameB x with
  | false => rfl
  | true =>
    cases x with
    | str z =>
      have n := nameB_str.mp e
      rcases h with h | ⟨z', e', h⟩
      · exact absurd rfl (h z)
      · injection e' with e'
        subst e'
        rcases h with h | h | h | ⟨c, r, h1, h2⟩ | ⟨c, h1, h2⟩
        · have := n.1; omega
        · have := n.2.1; omega
        · subst h
          exact absurd n.2.2.2.1 (by decide +kernel)
        · exact absurd (n.2.2.1 c r h1) h2
        · exact absurd (n.2.2.2.2 c h1) h2
    | _ => cases e
inductive CAt (H : Hp) : V → Option Col → Prop
  | nos {v : V} {T : String} (hT : T ∈ kinds7) (h : TyOf7 H v T) (n : T ≠ "list") (m : T ≠ "tuple") : CAt H v none
  | len {p : Addr} {xs : List V} (h : H p = some (.lst xs) ∨ H p = some (.tup xs)) (n : xs.length ≠ 3) : CAt H (.ref p) none
  | nam {p : Addr} {x : V} {k f : Bool} (h : H p = some (.tup [x, .str (kS k), .bl f])) (hx : thing H x) (n : badNm x) : CAt H (.ref p) none
  | knd {p : Addr} {z : Str} {y : V} {f : Bool} (h : H p = some (.lst [.str z, y, .bl f])) (hz : nameP z) (hy : thing H y) (n1 : y ≠ .str "number") (n2 : y ≠ .str "text") : CAt H (.ref p) none
  | flg {p : Addr} {z : Str} {k : Bool} {y : V} (h : H p = some (.tup [.str z, .str (kS k), y])) (hz : nameP z) (hy : thing H y) (n : ∀ b, y ≠ .bl b) : CAt H (.ref p) none
  | ok {p : Addr} {c : Col} (h : H p = some (.lst (ct c)) ∨ H p = some (.tup (ct c))) (hz : nameP c.1) : CAt H (.ref p) (some c)
theorem seq_keep0 {H H' : Hp} {p : Addr} {xs : List V} (h : H p = some (.lst xs) ∨ H p = some (.tup xs)) (k : XT H H') : H' p = some (.lst xs) ∨ H' p = some (.tup xs) := h.elim (fun h => .inl (k _ _ h)) fun h => .inr (k _ _ h)
theorem CAt.keep {H H' : Hp} {v : V} {r : Option Col} (h : CAt H v r) (k : XT H H') : CAt H' v r := by
  cases h with
  | nos hT h n m => exact .nos hT (h.keep k) n m
  | len h n => exact .len (seq_keep0 h k) n
  | nam h hx n => exact .nam (k _ _ h) (hx.keep k) n
  | knd h hz hy n1 n2 => exact .knd (k _ _ h) hz (hy.keep k) n1 n2
  | flg h hz hy n => exact .flg (k _ _ h) hz (hy.keep k) n
  | ok h hz => exact .ok (seq_keep0 h k) hz
theorem thing_setL {H : Hp} {L : Addr} {xs ys : List V} {v : V} (hL : H L = some (.lst xs)) (h : thing H v) : thing (upd H L (.lst ys)) v := by
  rcases h with e | e | e | e | ⟨q, e, hq⟩
  · exact .inl e
  · exact .inr (.inl e)
  · exact .inr (.inr (.inl e))
  · exact .inr (.inr (.inr (.inl e)))
  · refine .inr (.inr (.inr (.inr ⟨q, e, ?_⟩)))
    by_cases e2 : q = L
    · rw [e2]; exact .inl ⟨_, upd_same⟩
    · rcases hq with ⟨zs, h⟩ | ⟨zs, h⟩ | ⟨zs, h⟩
      · exact .inl ⟨zs, by rw [upd_ne e2]; exact h⟩
      · exact .inr (.inl ⟨zs, by rw [upd_ne e2]; exact h⟩)
      · exact .inr (.inr ⟨zs, by rw [upd_ne e2]; exact h⟩)
/-- where one list that is no column is written -/
theorem CAt.setL {H : Hp} {L : Addr} {xs ys : List V} {v : V} {r : Option Col} (hL : H L = some (.lst xs)) (hv : v ≠ .ref L) (h : CAt H v r) : CAt (upd H L (.lst ys)) v r := by
  have hne : ∀ {p : Addr}, V.ref p ≠ .ref L → p ≠ L := fun h e => h (by rw [e])
  have kp : ∀ {p : Addr} {o : HO}, V.ref p ≠ .ref L → H p = some o → (upd H L (.lst ys)) p = some o := fun {p o} n h => by
    rw [upd_ne (hne n)]; exact h
  cases h with
  | nos hT ty n m =>
    refine .nos hT ?_ n m
    cases ty with
    | non => exact .non
    | bl b => exact .bl b
    | int i => exact .int i
    | str z => exact .str z
    | lst h => exact absurd rfl n
    | tup h => exact absurd rfl m
    | dct h => exact .dct (kp hv h)
  | len hp n => exact .len (hp.elim (fun h => .inl (kp hv h)) fun h => .inr (kp hv h)) n
  | nam h hx n => exact .nam (kp hv h) (thing_setL hL hx) n
  | knd h hz hy n1 n2 => exact .knd (kp hv h) hz (thing_setL hL hy) n1 n2
  | flg h hz hy n => exact .flg (kp hv h) hz (thing_setL hL hy) n
  | ok h hz => exact .ok (h.elim (fun h => .inl (kp hv h)) fun h => .inr (kp hv h)) hz
/-- the first wrong column -/
def badC : List Str → Nat → List (Option Col) → Option Nat
  | _, _, [] => none
  | _, i, none :: _ => some i
  | S, i, some c :: r => if c.1 ∈ S then some i else badC (S ++ [c.1]) (i + 1) r
theorem badC_in {S : List Str} {i : Nat} {c : Col} {r : List (Option Col)} (h : c.1 ∈ S) : badC S i (some c :: r) = some i := by
  show (if c.1 ∈ S then some i else badC (S ++ [c.1]) (i + 1) r) = _
  rw [if_pos h]
theorem badC_step {S : List Str} {i : Nat} {c : Col} {r : List (Option Col)} (h : c.1 ∉ S) : badC S i (some c :: r) = badC (S ++ [c.1]) (i + 1) r := by
  show (if c.1 ∈ S then some i else badC (S ++ [c.1]) (i + 1) r) = _
  rw [if_neg h]
theorem badC_none : ∀ {rs : List (Option Col)} {S : List Str} {i : Nat}, badC S i rs = none → S.Nodup → ∃ cs : List Col, rs = cs.map some ∧ (S ++ cs.map (·.1)).Nodup
  | [], S, _, _, hS => ⟨[], rfl, by simpa using hS⟩
  | none :: _, _, _, h, _ => by cases h
  | some c :: r, S, i, h, hS => by
    by_cases hm : c.1 ∈ S
    · rw [badC_in hm] at h; cases h
    · rw [badC_step hm] at h
      obtain ⟨cs, e, hn⟩ := badC_none h (List.nodup_append.mpr ⟨hS, List.nodup_cons.mpr ⟨fun h => (nomatch h), List.nodup_nil⟩, fun u hu v hv e => hm (by rw [List.mem_singleton.mp hv] at e; rw [← e]; exact hu)⟩)
      exact ⟨c :: cs, by rw [e]; rfl, by simpa using hn⟩
def dueC : Option (List (Option Col)) → Option Int
  | none => some (-1)
  | some rs => if rs.length < 1 ∨ 12 < rs.length then some (-1) else (badC [] 0 rs).map Int.ofNat
theorem dueC_len {rs : List (Option Col)} (h : ¬ (rs.length < 1 ∨ 12 < rs.length)) : dueC (some rs) = (badC [] 0 rs).map Int.ofNat := by
  show (if rs.length < 1 ∨ 12 < rs.length then some (-1) else (badC [] 0 rs).map Int.ofNat) = _
  rw [if_neg h]
theorem dueC_bad {rs : List (Option Col)} (h : rs.length < 1 ∨ 12 < rs.length) : dueC (some rs) = some (-1) := by
  show (if rs.length < 1 ∨ 12 < rs.length then some (-1) else (badC [] 0 rs).map Int.ofNat) = _
  rw [if_pos h]
theorem dueC_none {rs : List (Option Col)} (h : dueC (some rs) = none) : 1 ≤ rs.length ∧ rs.length ≤ 12 ∧ ∃ cs : List Col, rs = cs.map some ∧ (cs.map (·.1)).Nodup := by
  by_cases hl : rs.length < 1 ∨ 12 < rs.length
  · rw [dueC_bad hl] at h; cases h
  · rw [dueC_len hl] at h
    have hb : badC [] 0 rs = none := by
      cases e : badC [] 0 rs with
      | none => rfl
      | some j => rw [e] at h; cases h
    obtain ⟨cs, e, hn⟩ := badC_none hb List.nodup_nil
    exact ⟨by omega, by omega, cs, e, by simpa using hn⟩
/-- a thing that is given as columns -/
inductive ThC (H : Hp) : V → Option (List (Option Col)) → Prop
  | nos {v : V} {T : String} (hT : T ∈ kinds7) (h : TyOf7 H v T) (n : T ≠ "list") (m : T ≠ "tuple") : ThC H v none
  | seq {p : Addr} {xs : List V} {rs : List (Option Col)} (h : H p = some (.lst xs) ∨ H p = some (.tup xs)) (hl : xs.length = rs.length) (hs : ∀ (i : Nat) x r, xs[i]? = some x → rs[i]? = some r → CAt H x r) : ThC H (.ref p) (some rs)
theorem ThC.keep {H H' : Hp} {v : V} {d : Option (List (Option Col))} (h : ThC H v d) (k : XT H H') : ThC H' v d := by
  cases h with
  | nos hT h n m => exact .nos hT (h.keep k) n m
  | seq h hl hs => exact .seq (seq_keep0 h k) hl fun i x r hx hr => (hs i x r hx hr).keep k
def fV : Option Int → V
  | none => .non
  | some i => .int i
def xsh (i : Int) : HO := .xd [(("why" : Str), .str "columns"), (("at" : Str), .int i)]
def mthF (fs : List (Str × V)) : Prop := fs.lookup ("columns" : Str) = none ∧ fs.lookup ("names" : Str) = none ∧ fs.lookup ("kind" : Str) = none ∧ fs.lookup ("filled" : Str) = none
/-- a shape made of the columns cs -/
def ShAt (C : Addr) (H : Hp) (cs : List Col) (x : Addr) : Prop := ∃ dx fs T D kvs, ∃ ts : List Addr, H x = some (.ins C dx fs) ∧ fs.lookup ("layout" : Str) = some (V.ref T) ∧ fs.lookup ("spots" : Str) = some (V.ref D) ∧ H T = some (.tup (ts.map V.ref)) ∧ ts.length = cs.length ∧
  (∀ (i : Nat) t c, ts[i]? = some t → cs[i]? = some c → H t = some (.tup (ct c))) ∧ H D = some (.dK kvs) ∧ (∀ (i : Nat) t c, ts[i]? = some t → cs[i]? = some c → valV kvs (Sum.inr c.1) = some (.ref t)) ∧ mthF fs
theorem ShAt.keep {C x : Addr} {H H' : Hp} {cs : List Col} (h : ShAt C H cs x) (k : XT H H') : ShAt C H' cs x := by
  obtain ⟨dx, fs, T, D, kvs, ts, h1, h2, h3, h4, h5, h6, h7, h8, h9⟩ := h
  exact ⟨dx, fs, T, D, kvs, ts, k _ _ h1, h2, h3, k _ _ h4, h5, fun i t c ht hc => k _ _ (h6 i t c ht hc), k _ _ h7, h8, h9⟩
section
variable {P : Program} {w : World} {K : PySem.W.Frag} {mg : Str → Option Value} {base : Heap}
theorem kS_in {k : Bool} : decide (kS k ∈ [Str.ofString "number", Str.ofString "text"]) = true := by cases k <;> decide +kernel
theorem ok_is_column (T : Txt K mg) : Def P w K mg base 3 "is_column" ["thing"] (fun vs H Q _ => ∃ (v : V) (r : Option Col), vs = [v] ∧ CAt H v r ∧ ∀ H', XT H H' → Q (.bl r.isSome) H') := by
  obtain ⟨f, fd, h⟩ := T.d_is_column
  obtain ⟨t_KINDS, G_KINDS, Q_KINDS⟩ := T.k_KINDS
  refine h.def (Fun.okM h.fn sc_is_column (fun vs H Q E h => ?_) (fun cdv A outer s H vs Q E hr h => ?_))
  · obtain ⟨v, r, rfl, _⟩ := h
    rfl
  · obtain ⟨v, r, rfl, hc, k⟩ := h
    refine ⟨_, (pss_cons (ps_if (pt_not (pt_val (pe_def (ok_is_short T) hr rfl (pa_cons (pv 0) (pa_cons pe_int (pa_cons pe_int pa_nil))))))
  (pss_one (ps_ret pe_bl))
  pss_nil)
  (pss_cons (ps_set (i := 1) sc_is_column.nd rfl (Or.inl rfl) (pe_and (pe_callB (call_isiG (K := K) rfl) (by rfl) T.h_isinstance (by decide +kernel) (pa_cons (pe_ix (ix_seqG (K := K) rfl) (pv 0) pe_int (fun _ _ => rfl)) (pa_cons (pe_bltn (v := .ty "str") (by rfl) T.h_str (by decide +kernel) rfl) pa_nil))) (pe_one (pe_cmpR (op_inG (K := K) rfl) (pe_ix (ix_seqG (K := K) rfl) (pv 0) pe_int (fun _ _ => rfl)) (pe_glob (v := .ref t_KINDS) rfl G_KINDS rfl) (by rfl)))))
  (pss_one (ps_ret (pe_and (pe_def (ok_is_name T) hr rfl (pa_cons (pe_ix (ix_seqG (K := K) rfl) (pv 0) pe_int (fun _ _ => rfl)) pa_nil)) (pe_and (pv 1) (pe_one (pe_callB (call_isiG (K := K) rfl) (by rfl) T.h_isinstance (by decide +kernel) (pa_cons (pe_ix (ix_seqG (K := K) rfl) (pv 0) pe_int (fun _ _ => rfl)) (pa_cons (pe_bltn (v := .ty "bool") (by rfl) T.h_bool (by decide +kernel) rfl) pa_nil)))))))))), ?_⟩
    have three : (decide ((3 : Int) ≤ ((3 : Nat) : Int)) && decide (((3 : Nat) : Int) ≤ 3)) = true := by decide
    cases hc with
    | nos hT ty n m =>
      walk_at "g"
      refine ⟨v, _, _, rfl, .inl ⟨_, hT, ty, n, m, fun H1 x1 => ?_⟩⟩
      walk_at "g"
      exact k _ x1
    | len hp n =>
      rename_i p xs
      walk_at "g"
      refine ⟨_, _, _, rfl, .inr ⟨p, xs, rfl, seq_t hp, fun H1 x1 => ?_⟩⟩
      have : (decide ((3 : Int) ≤ (xs.length : Int)) && decide ((xs.length : Int) ≤ 3)) = false := by
        by_cases h2 : (3 : Int) ≤ (xs.length : Int)
        · rw [decide_eq_true h2, decide_eq_false (by omega)]; rfl
        · rw [decide_eq_false h2]; rfl
      rw [this]
      walk_at "g"
      exact k _ x1
    | nam hp hx n =>
      rename_i p x kk ff
      walk_at "g"
      refine ⟨_, _, _, rfl, .inr ⟨p, _, rfl, .inr (SqT.of hp), fun H1 x1 => ?_⟩⟩
      rw [show (decide ((3 : Int) ≤ (([x, .str (kS kk), .bl ff] : List V).length : Int)) && decide ((([x, .str (kS kk), .bl ff] : List V).length : Int) ≤ 3)) = true from three]
      have h1 := x1 _ _ hp
      walk_at "g"
      refine g_ixT (SqT.of h1) (v := .str (kS kk)) (show atI [x, .str (kS kk), .bl ff] 1 = some (.str (kS kk)) from rfl) ?_
      walk_at "g"
      refine g_ixT (SqT.of h1) (v := .str (kS kk)) (show atI [x, .str (kS kk), .bl ff] 1 = some (.str (kS kk)) from rfl) ?_
      walk_at "g"
      refine .inr ⟨_, [Str.ofString "number", Str.ofString "text"].map V.str, rfl, .inr (Q_KINDS _), rfl, Tw.flat_strs _, ?_⟩
      rw [if_neg Bool.false_ne_true, inV_strs, kS_in]
      walk_at "g"
      refine g_ixT (SqT.of h1) (v := x) (show atI [x, .str (kS kk), .bl ff] 0 = some x from rfl) ?_
      walk_at "g"
      refine ⟨_, rfl, hx.keep x1, fun H2 x2 => ?_⟩
      rw [n.no]
      walk_at "g"
      exact k _ (x1.trans x2)
    | knd hp hz hy n1 n2 =>
      rename_i p z y ff
      walk_at "g"
      refine ⟨_, _, _, rfl, .inr ⟨p, _, rfl, .inl hp, fun H1 x1 => ?_⟩⟩
      rw [show (decide ((3 : Int) ≤ (([.str z, y, .bl ff] : List V).length : Int)) && decide ((([.str z, y, .bl ff] : List V).length : Int) ≤ 3)) = true from three]
      have h1 := x1 _ _ hp
      have hnm : nameP z := hz
      have fin : ∀ b : Bool, b = false → ∀ H2, XT H1 H2 → (if true = true then Q (.bl false) H2 else Q (.bl false) H2) := fun b _ H2 x2 => by rw [if_pos rfl]; exact k _ (x1.trans x2)
      walk_at "g"
      rcases hy.keep x1 with rfl | ⟨b, rfl⟩ | ⟨i, rfl⟩ | ⟨s', rfl, hs'⟩ | ⟨q, rfl, hq⟩
      · walk_at "g"
        refine ⟨_, rfl, .inr (.inr (.inr (.inl ⟨_, rfl, by have := hz.2.1; omega⟩))), fun H2 x2 => ?_⟩
        rw [nameB_str.mpr hz]
        walk_at "g"
        exact k _ (x1.trans x2)
      · walk_at "g"
        refine ⟨_, rfl, .inr (.inr (.inr (.inl ⟨_, rfl, by have := hz.2.1; omega⟩))), fun H2 x2 => ?_⟩
        rw [nameB_str.mpr hz]
        walk_at "g"
        exact k _ (x1.trans x2)
      · walk_at "g"
        refine ⟨_, rfl, .inr (.inr (.inr (.inl ⟨_, rfl, by have := hz.2.1; omega⟩))), fun H2 x2 => ?_⟩
        rw [nameB_str.mpr hz]
        walk_at "g"
        exact k _ (x1.trans x2)
      · walk_at "g"
        refine .inr ⟨_, [Str.ofString "number", Str.ofString "text"].map V.str, rfl, .inr (Q_KINDS _), rfl, Tw.flat_strs _, ?_⟩
        rw [if_neg Bool.false_ne_true, inV_strs, decide_eq_false (fun h => by
          rcases List.mem_cons.mp h with h | h
          · exact n1 (by rw [h])
          · exact n2 (by rw [List.mem_singleton.mp h]))]
        walk_at "g"
        refine ⟨_, rfl, .inr (.inr (.inr (.inl ⟨_, rfl, by have := hz.2.1; omega⟩))), fun H2 x2 => ?_⟩
        rw [nameB_str.mpr hz]
        walk_at "g"
        exact k _ (x1.trans x2)
      · refine g_isiR hq (.inr (.inl rfl)) ?_
        walk_at "g"
        refine ⟨_, rfl, .inr (.inr (.inr (.inl ⟨_, rfl, by have := hz.2.1; omega⟩))), fun H2 x2 => ?_⟩
        rw [nameB_str.mpr hz]
        walk_at "g"
        exact k _ (x1.trans x2)
    | flg hp hz hy n =>
      rename_i p z kk y
      walk_at "g"
      refine ⟨_, _, _, rfl, .inr ⟨p, _, rfl, .inr (SqT.of hp), fun H1 x1 => ?_⟩⟩
      rw [show (decide ((3 : Int) ≤ (([.str z, .str (kS kk), y] : List V).length : Int)) && decide ((([.str z, .str (kS kk), y] : List V).length : Int) ≤ 3)) = true from three]
      have h1 := x1 _ _ hp
      walk_at "g"
      refine g_ixT (SqT.of h1) (v := .str (kS kk)) (show atI [.str z, .str (kS kk), y] 1 = some (.str (kS kk)) from rfl) ?_
      walk_at "g"
      refine g_ixT (SqT.of h1) (v := .str (kS kk)) (show atI [.str z, .str (kS kk), y] 1 = some (.str (kS kk)) from rfl) ?_
      walk_at "g"
      refine .inr ⟨_, [Str.ofString "number", Str.ofString "text"].map V.str, rfl, .inr (Q_KINDS _), rfl, Tw.flat_strs _, ?_⟩
      rw [if_neg Bool.false_ne_true, inV_strs, kS_in]
      walk_at "g"
      refine g_ixT (SqT.of h1) (v := .str z) (show atI [.str z, .str (kS kk), y] 0 = some (.str z) from rfl) ?_
      walk_at "g"
      refine ⟨_, rfl, .inr (.inr (.inr (.inl ⟨_, rfl, by have := hz.2.1; omega⟩))), fun H2 x2 => ?_⟩
      rw [nameB_str.mpr hz]
      have h2 := x2 _ _ h1
      have hy2 := (hy.keep x1).keep x2
      walk_at "g"
      refine g_ixT (SqT.of h2) (v := y) (show atI [.str z, .str (kS kk), y] 2 = some y from rfl) ?_
      walk_at "g"
      rcases hy2 with rfl | ⟨b, rfl⟩ | ⟨i, rfl⟩ | ⟨s', rfl, hs'⟩ | ⟨q, rfl, hq⟩
      · walk_at "g"
        exact k _ (x1.trans x2)
      · exact absurd rfl (n b)
      · walk_at "g"
        exact k _ (x1.trans x2)
      · walk_at "g"
        exact k _ (x1.trans x2)
      · refine g_isiR hq (.inr (.inr rfl)) ?_
        walk_at "g"
        exact k _ (x1.trans x2)
    | ok hp hz =>
      rename_i p c
      walk_at "g"
      refine ⟨_, _, _, rfl, .inr ⟨p, ct c, rfl, seq_t hp, fun H1 x1 => ?_⟩⟩
      rw [show (decide ((3 : Int) ≤ ((ct c).length : Int)) && decide (((ct c).length : Int) ≤ 3)) = true from three]
      have h1 := seq_keep0 hp x1
      walk_at "g"
      refine g_ixA h1 (v := .str (kS c.2.1)) (show atI (ct c) 1 = some (.str (kS c.2.1)) from rfl) ?_
      walk_at "g"
      refine g_ixA h1 (v := .str (kS c.2.1)) (show atI (ct c) 1 = some (.str (kS c.2.1)) from rfl) ?_
      walk_at "g"
      refine .inr ⟨_, [Str.ofString "number", Str.ofString "text"].map V.str, rfl, .inr (Q_KINDS _), rfl, Tw.flat_strs _, ?_⟩
      rw [if_neg Bool.false_ne_true, inV_strs, kS_in]
      walk_at "g"
      refine g_ixA h1 (v := .str c.1) (show atI (ct c) 0 = some (.str c.1) from rfl) ?_
      walk_at "g"
      refine ⟨_, rfl, .inr (.inr (.inr (.inl ⟨_, rfl, by have := hz.2.1; omega⟩))), fun H2 x2 => ?_⟩
      rw [nameB_str.mpr hz]
      walk_at "g"
      refine g_ixA (seq_keep0 h1 x2) (v := .bl c.2.2) (show atI (ct c) 2 = some (.bl c.2.2) from rfl) ?_
      walk_at "g"
      exact k _ (x1.trans x2)
end
theorem g_raiseBS {C : Addr} {W : WX} {ta : TA} {D : Ends} {σ : L2.St} {H : Hp} (q : ta σ H fun vs H1 => ∃ v u, vs = [v, u] ∧ ∀ d, H1 d = none → W (.ref C) (some d) σ (upd H1 d (.xd [(("why" : Str), v), (("at" : Str), u)]))) : tRaiseBadShape C W ta D σ H := q
def spNeedC (CB : Addr) : Sp := fun vs H Q E => ∃ (v : V) (d : Option (List (Option Col))), vs = [v] ∧ ThC H v d ∧
  (∀ i, dueC d = some i → ∀ e H', XT H H' → H' e = some (xsh i) → E (.ref CB) (some e) H') ∧ (dueC d = none → ∀ H', XT H H' → Q .non H')
section
variable {P : Program} {w : World} {K : PySem.W.Frag} {mg : Str → Option Value} {base : Heap}
theorem ok_need_columns (T : Txt K mg) : DefX P w K mg base 4 "need_columns" ["columns"] (spNeedC (cadr mg "BadShape")) := by
  obtain ⟨f, fd, h⟩ := T.d_need_columns
  obtain ⟨t_MOST_COLUMNS, G_MOST_COLUMNS⟩ := T.k_MOST_COLUMNS
  obtain ⟨fE_BadShape, EB_BadShape⟩ := T.x_BadShape
  refine h.defX (Fun.okMX h.fn sc_need_columns (fun vs H Q E h => ?_) (fun cdv A outer s H vs Q E hr h => ?_))
  · obtain ⟨v, d, rfl, _⟩ := h
    rfl
  · obtain ⟨v, d, rfl, hT, kE, kQ⟩ := h
    refine ⟨_, (pss_cons (ps_if (pt_not (pt_val (pe_def (ok_is_short T) hr rfl (pa_cons (pv 0) (pa_cons pe_int (pa_cons (pe_glob (v := .int 12) rfl G_MOST_COLUMNS ⟨_, rfl⟩) pa_nil))))))
  (pss_one (ps_raiseBadShape rfl EB_BadShape hr (takes_of rfl rfl rfl rfl) (pa_cons pe_str (pa_cons (pe_un un_negG pe_int) pa_nil))))
  pss_nil)
  (pss_cons (ps_set (i := 1) sc_need_columns.nd rfl (Or.inl rfl) pe_dnewK)
  (pss_one (ps_for (passes_of rfl) rfl (pi_enumG (K := K) rfl (by rfl) T.h_enumerate (pa_cons (pv 0) pa_nil)) (pg_tupG (K := K) (n := 2) rfl rfl (pgs_cons (pg_name (i := 2) sc_need_columns.nd rfl (Or.inl rfl)) (pgs_cons (pg_name (i := 3) sc_need_columns.nd rfl (Or.inl rfl)) pgs_nil)))
  (pss_cons (ps_if (PW.pt (pw_or (pt_not (pt_val (pe_def (ok_is_column T) hr rfl (pa_cons (pv 3) pa_nil)))) (pw_or1 (pt_cmp (pc_din (hu_of hr) (pe_ix (ix_seqG (K := K) rfl) (pv 3) pe_int (fun _ _ => rfl)) (pv 1))))))
  (pss_one (ps_raiseBadShape rfl EB_BadShape hr (takes_of rfl rfl rfl rfl) (pa_cons pe_str (pa_cons (pv 2) pa_nil))))
  pss_nil)
  (pss_one (ps_dput (hu_of hr) (pv 1) (pe_ix (ix_seqG (K := K) rfl) (pv 3) pe_int (fun _ _ => rfl)) pe_bl rfl))))))), ?_⟩
    cases hT with
    | nos hT ty n m =>
      walk_at "g"
      refine ⟨v, _, _, rfl, .inl ⟨_, hT, ty, n, m, fun H1 x1 => ?_⟩⟩
      walk_at "g"
      refine g_raiseBS ?_
      walk_at "g"
      exact ⟨_, _, rfl, fun d hd => kE (-1) rfl d _ (x1.new hd) upd_same⟩
    | seq hp hl hs =>
      rename_i p xs rs
      walk_at "g"
      refine ⟨_, _, _, rfl, .inr ⟨p, xs, rfl, seq_t hp, fun H1 x1 => ?_⟩⟩
      by_cases hlen : xs.length < 1 ∨ 12 < xs.length
      · have : (decide ((1 : Int) ≤ (xs.length : Int)) && decide ((xs.length : Int) ≤ 12)) = false := by
          by_cases h2 : (1 : Int) ≤ (xs.length : Int)
          · rw [decide_eq_true h2, decide_eq_false (by omega)]; rfl
          · rw [decide_eq_false h2]; rfl
        rw [this]
        walk_at "g"
        refine g_raiseBS ?_
        walk_at "g"
        exact ⟨_, _, rfl, fun d hd => kE (-1) (dueC_bad (by omega)) d _ (x1.new hd) upd_same⟩
      · rw [show (decide ((1 : Int) ≤ (xs.length : Int)) && decide ((xs.length : Int) ≤ 12)) = true by
          rw [decide_eq_true (by omega), decide_eq_true (by omega)]; rfl]
        have hd : dueC (some rs) = (badC [] 0 rs).map Int.ofNat := dueC_len (by omega)
        walk_at "g"
        intro r hr
        have x2 := x1.new (o := .dK []) hr
        have e2 : (upd H1 r (.dK [])) r = some (.dK []) := upd_same
        generalize upd H1 r (.dK []) = H2 at x2 e2
        have hHr : H r = none := by
          cases e : H r with
          | none => rfl
          | some o => rw [x1 _ _ e] at hr; cases hr
        have nr : p ≠ r := fun z => by rw [z, hHr] at hp; rcases hp with h | h <;> cases h
        walk_at "g"
        refine g_enumG ?_
        walk_at "g"
        refine ⟨p, xs, rfl, seq_a (seq_keep0 hp x2), fun J hJ => ?_⟩
        refine for_enumA (xs := xs) (fun i σ' H' => ∃ (s2 s3 : Option V) (kvs : List (Key × V)) (cs : List Col), σ' = [some (.ref p), some (.ref r), s2, s3] ∧ XT H H' ∧ H' r = some (.dK kvs) ∧ keysP kvs (cs.map (·.1)) ∧ kvs.length ≤ i ∧ rs.take i = cs.map some ∧ badC [] 0 rs = badC (cs.map (·.1)) i (rs.drop i)) ⟨none, none, [], [], rfl, x2, e2, keysP.nil, Nat.le_refl _, rfl, rfl⟩ ?_ ?_ ?_
        · rintro i σ' H' hi ⟨s2, s3, kvs, cs, rfl, x3, _⟩
          refine hJ H' ?_
          rcases hp with h | h
          · rw [x3 _ _ h, x2 _ _ h]
          · rw [x3 _ _ h, x2 _ _ h]
        · rintro i v t σ' H3 D' hv ⟨s2, s3, kvs, cs, rfl, x3, e3, hk, hkl, htk, hbad⟩ ht hnx hct hbk hrt
          have hil : i < xs.length := (List.getElem?_eq_some_iff.mp hv).1
          obtain ⟨ro, hro⟩ : ∃ ro, rs[i]? = some ro := ⟨_, List.getElem?_eq_getElem (by omega)⟩
          have hpt := hs i v ro hv hro
          have edr : rs.drop i = ro :: rs.drop (i + 1) := by
            rw [List.drop_eq_getElem_cons (by omega)]
            congr 1
            exact Option.some.inj (by rw [← hro, List.getElem?_eq_getElem (by omega)])
          have x4 := x3.new (o := .tup [.int (i : Nat), v]) ht
          have nrt : r ≠ t := ne_of_none e3 ht
          have e4 : (upd H3 t (.tup [.int (i : Nat), v])) r = some (.dK kvs) := by rw [upd_ne nrt]; exact e3
          refine g_gtup upd_same rfl ?_
          refine g_gcons ?_
          walk_at "g"
          refine g_gcons ?_
          walk_at "g"
          refine g_gnil ?_
          generalize upd H3 t (.tup [.int (i : Nat), v]) = H4 at x4 e4
          walk_at "g"
          refine ⟨_, _, rfl, hpt.keep x4, fun H5 x5 => ?_⟩
          have x45 := x4.trans x5
          cases ro with
          | none =>
            rw [show (none : Option Col).isSome = false from rfl]
            walk_at "g"
            refine g_raiseBS ?_
            walk_at "g"
            exact ⟨_, _, rfl, fun d hdn => kE i (by rw [hd, hbad, edr]; rfl) d _ (x45.new hdn) upd_same⟩
          | some c =>
            cases hpt with
            | ok hq hz =>
            rename_i q
            have eq5 := seq_keep0 hq x45
            have e5 := x5 _ _ e4
            rw [show (some c).isSome = true from rfl]
            walk_at "g"
            refine g_ixA eq5 (v := .str c.1) (show atI (ct c) 0 = some (.str c.1) from rfl) ?_
            walk_at "g"
            refine ⟨_, _, rfl, DGet.k (k := Sum.inr c.1) e5, ?_⟩
            rw [hk]
            walk_at "g"
            refine g_dec (fun hm => ?_) (fun hm => ?_)
            · walk_at "g"
              refine g_raiseBS ?_
              walk_at "g"
              exact ⟨_, _, rfl, fun d hdn => kE i (by rw [hd, hbad, edr, badC_in hm]; rfl) d _ (x45.new hdn) upd_same⟩
            · walk_at "g"
              refine g_dput ?_
              walk_at "g"
              refine g_ixA eq5 (v := .str c.1) (show atI (ct c) 0 = some (.str c.1) from rfl) ?_
              refine ⟨r, _, rfl, DPut.k (k := Sum.inr c.1) e5 (by rw [sizeLine_eq]; omega), ?_⟩
              refine hnx _ _ ⟨_, _, _, cs ++ [c], rfl, fun q o h => ?_, upd_same, by rw [List.map_append]; exact hk.put, Nat.le_trans (length_putK _ _ _) (by omega), ?_, ?_⟩
              · rw [upd_ne (fun z => by rw [z, hHr] at h; cases h)]
                exact x45 _ _ h
              · rw [List.take_succ, hro, htk, List.map_append]
                rfl
              · rw [hbad, edr, badC_step hm, List.map_append]
                rfl
        · rintro σ' H3 ⟨s2, s3, kvs, cs, rfl, x3, e3, hk, hkl, htk, hbad⟩
          have hnone : dueC (some rs) = none := by
            rw [hd, hbad, List.drop_of_length_le (by omega)]
            rfl
          walk_at "g"
          exact kQ hnone _ x3
end
section
variable {P : Program} {w : World} {K : PySem.W.Frag} {mg : Str → Option Value} {base : Heap}
def spNone2 (K : PySem.W.Frag) : Sp := fun vs H Q _ => ∃ (v : V) (d : Addr), vs = [v, .ref d] ∧ (∀ H, SqT K H d []) ∧ ∀ H', XT H H' → Q .non H'
theorem ok_need_checks (T : Txt K mg) : Def P w K mg base 3 "need_checks" ["spots", "checks"] (spNone2 K) := by
  obtain ⟨f, fd, h⟩ := T.d_need_checks
  obtain ⟨t_MOST_RULES, G_MOST_RULES⟩ := T.k_MOST_RULES
  refine h.def (Fun.okM h.fn sc_need_checks (fun vs H Q E h => ?_) (fun cdv A outer s H vs Q E hr h => ?_))
  · obtain ⟨v, d, rfl, _⟩ := h
    rfl
  · obtain ⟨v, d, rfl, hd, k⟩ := h
    refine ⟨_, (pss_cons (ps_if (pt_not (pt_val (pe_def (ok_is_short T) hr rfl (pa_cons (pv 1) (pa_cons pe_int (pa_cons (pe_glob (v := .int 9) rfl G_MOST_RULES ⟨_, rfl⟩) pa_nil))))))
  (pss_one ps_never)
  pss_nil)
  (pss_one (ps_for PassesOwn.never rfl (pi_enumG (K := K) rfl (by rfl) T.h_enumerate (pa_cons (pv 1) pa_nil)) (pg_tupG (K := K) (n := 2) rfl rfl (pgs_cons (pg_name (i := 2) sc_need_checks.nd rfl (Or.inl rfl)) (pgs_cons (pg_name (i := 3) sc_need_checks.nd rfl (Or.inl rfl)) pgs_nil)))
  (pss_one ps_never)))), ?_⟩
    walk_at "g"
    refine ⟨_, _, _, rfl, .inr ⟨d, [], rfl, .inr (hd _), fun H1 x1 => ?_⟩⟩
    rw [show (decide ((0 : Int) ≤ (([] : List V).length : Int)) && decide ((([] : List V).length : Int) ≤ 9)) = true by rfl]
    walk_at "g"
    refine g_enumG ?_
    walk_at "g"
    refine ⟨d, [], rfl, .inr (hd _), fun J hJ => ?_⟩
    refine for_enumA (xs := []) (fun i σ' H' => H' = H1) rfl (fun i σ' H' _ e => hJ H' (by rw [e])) ?_ ?_
    · intro i v t σ' H3 D' hv
      simp at hv
    · rintro σ' H' rfl
      exact k _ x1
theorem ok_need_keys (T : Txt K mg) : Def P w K mg base 3 "need_keys" ["spots", "keys"] (spNone2 K) := by
  obtain ⟨f, fd, h⟩ := T.d_need_keys
  obtain ⟨t_MOST_RULES, G_MOST_RULES⟩ := T.k_MOST_RULES
  refine h.def (Fun.okM h.fn sc_need_keys (fun vs H Q E h => ?_) (fun cdv A outer s H vs Q E hr h => ?_))
  · obtain ⟨v, d, rfl, _⟩ := h
    rfl
  · obtain ⟨v, d, rfl, hd, k⟩ := h
    refine ⟨_, (pss_cons (ps_if (pt_not (pt_val (pe_def (ok_is_short T) hr rfl (pa_cons (pv 1) (pa_cons pe_int (pa_cons (pe_glob (v := .int 9) rfl G_MOST_RULES ⟨_, rfl⟩) pa_nil))))))
  (pss_one ps_never)
  pss_nil)
  (pss_one (ps_for PassesOwn.never rfl (pi_enumG (K := K) rfl (by rfl) T.h_enumerate (pa_cons (pv 1) pa_nil)) (pg_tupG (K := K) (n := 2) rfl rfl (pgs_cons (pg_name (i := 2) sc_need_keys.nd rfl (Or.inl rfl)) (pgs_cons (pg_name (i := 3) sc_need_keys.nd rfl (Or.inl rfl)) pgs_nil)))
  (pss_one ps_never)))), ?_⟩
    walk_at "g"
    refine ⟨_, _, _, rfl, .inr ⟨d, [], rfl, .inr (hd _), fun H1 x1 => ?_⟩⟩
    rw [show (decide ((0 : Int) ≤ (([] : List V).length : Int)) && decide ((([] : List V).length : Int) ≤ 9)) = true by rfl]
    walk_at "g"
    refine g_enumG ?_
    walk_at "g"
    refine ⟨d, [], rfl, .inr (hd _), fun J hJ => ?_⟩
    refine for_enumA (xs := []) (fun i σ' H' => H' = H1) rfl (fun i σ' H' _ e => hJ H' (by rw [e])) ?_ ?_
    · intro i v t σ' H3 D' hv
      simp at hv
    · rintro σ' H' rfl
      exact k _ x1
theorem eq_of_tup {H : Hp} {q : Addr} {xs ys : List V} (h : H q = some (.tup xs)) (k : H q = some (.tup ys)) : xs = ys := by
  rw [h] at k
  injection k with k
  injection k
end
theorem nd_ne {l : List Str} (h : l.Nodup) {i j : Nat} {a b : Str} (ha : l[i]? = some a) (hb : l[j]? = some b) (n : i ≠ j) : a ≠ b := fun e => by
  subst e
  exact n ((List.getElem?_inj (List.getElem?_eq_some_iff.mp ha).1 h).mp (ha.trans hb.symm))
section
variable {P : Program} {w : World} {K : PySem.W.Frag} {mg : Str → Option Value} {base : Heap}
theorem ok_Shape_init (T : Txt K mg) : DefCDX P w K mg base 5 (cadr mg "Shape") ["self", "columns", "checks", "keys"] (fun vs H Q E => ∃ (x : Addr) (v : V) (d1 d2 dx : Addr) (d : Option (List (Option Col))), vs = [.ref x, v, .ref d1, .ref d2] ∧ H x = some (.ins (cadr mg "Shape") dx []) ∧ ThC H v d ∧ (∀ H, SqT K H d1 []) ∧ (∀ H, SqT K H d2 []) ∧
    (∀ i, dueC d = some i → ∀ e H', (∀ q o, q ≠ x → H q = some o → H' q = some o) → H' e = some (xsh i) → E (.ref (cadr mg "BadShape")) (some e) H') ∧
    (∀ cs, d = some (cs.map some) → dueC d = none → ∀ H', (∀ q o, q ≠ x → H q = some o → H' q = some o) → ShAt (cadr mg "Shape") H' cs x → Q .non H')) := by
  obtain ⟨f, fd, h⟩ := T.d_Shape_init
  refine h.defX (Fun.okMX h.fn sc_Shape_init (fun vs H Q E h => ?_) (fun cdv A outer s H vs Q E hr h => ?_))
  · obtain ⟨x, v, d1, d2, dx, d, rfl, _⟩ := h
    rfl
  · obtain ⟨x, v, d1, d2, dx, d, rfl, hx, hT, hd1, hd2, kE, kQ⟩ := h
    refine ⟨_, (pss_cons (ps_expr (pe_defX (takes_of rfl rfl rfl rfl) (ok_need_columns T) hr rfl (pa_cons (pv 1) pa_nil)))
  (pss_cons (ps_fld (pv 0) (pe_callTy (call_tupleG (K := K) rfl) (by rfl) T.h_tuple (by decide +kernel) (pa_cons (pe_lc (own := [("column", 4)]) rfl sc_Shape_init.nd (pi_seqG (K := K) rfl (pv 1)) (blkOk_by (N := N_Shape_init) (sc := defScope S_Shape_init) (by decide +kernel)) (fun _ _ _ _ _ => pg_name (i := 4) sc_Shape_init.nd rfl (Or.inl rfl)) (fun _ _ _ _ _ => pts_nil) (fun _ _ _ _ _ => (pe_callTy (call_tupleG (K := K) rfl) (by rfl) T.h_tuple (by decide +kernel) (pa_cons (pv 4) pa_nil)))) pa_nil)) rfl)
  (pss_cons (ps_fld (pv 0) (pe_dc (own := [("column", 4)]) rfl sc_Shape_init.nd (pi_tupG (K := K) rfl (pe_fldG (K := K) rfl (pv 0) rfl)) (blkOk_by (N := N_Shape_init) (sc := defScope S_Shape_init) (by decide +kernel)) (fun _ _ _ _ _ => pg_name (i := 4) sc_Shape_init.nd rfl (Or.inl rfl)) (fun _ _ _ _ _ => pts_nil) (fun _ _ _ _ _ => (pe_ix (ix_seqG (K := K) rfl) (pv 4) pe_int (fun _ _ => rfl))) (fun _ _ _ _ _ => (pv 4))) rfl)
  (pss_cons (ps_expr (pe_def (ok_need_checks T) hr rfl (pa_cons (pe_fldG (K := K) rfl (pv 0) rfl) (pa_cons (pv 2) pa_nil))))
  (pss_cons (ps_fld (pv 0) (pe_callTy (call_tupleG (K := K) rfl) (by rfl) T.h_tuple (by decide +kernel) (pa_cons (pv 2) pa_nil)) rfl)
  (pss_cons (ps_expr (pe_def (ok_need_keys T) hr rfl (pa_cons (pe_fldG (K := K) rfl (pv 0) rfl) (pa_cons (pv 3) pa_nil))))
  (pss_one (ps_fld (pv 0) (pe_callTy (call_tupleG (K := K) rfl) (by rfl) T.h_tuple (by decide +kernel) (pa_cons (pe_lc (own := [("names", 5), ("test", 6)]) rfl sc_Shape_init.nd (pi_tupG (K := K) rfl (pv 3)) (blkOk_by (N := N_Shape_init) (sc := defScope S_Shape_init) (by decide +kernel)) (fun _ _ _ _ _ => (pg_tupG (K := K) (n := 2) rfl rfl (pgs_cons (pg_name (i := 5) sc_Shape_init.nd rfl (Or.inl rfl)) (pgs_cons (pg_name (i := 6) sc_Shape_init.nd rfl (Or.inl rfl)) pgs_nil)))) (fun _ _ _ _ _ => pts_nil) (fun _ _ _ _ _ => pe_never)) pa_nil)) rfl)))))))), ?_⟩
    walk_at "g"
    refine ⟨v, d, rfl, hT, fun i hi e H' x' he => kE i hi e H' (fun q o _ h => x' _ _ h) he, fun hnone H1 x1 => ?_⟩
    cases hT with
    | nos hT ty n m => cases hnone
    | seq hp hl hs =>
    rename_i L xs rs
    obtain ⟨hr1, hr2, cs, rfl, hnd⟩ := dueC_none hnone
    rw [List.length_map] at hl hr1 hr2
    have hp1 := seq_keep0 hp x1
    have hx1 := x1 _ _ hx
    have hLx : L ≠ x := fun z => by rw [z, hx] at hp; rcases hp with h | h <;> cases h
    walk_at "g"
    refine g_seqG ?_
    walk_at "g"
    refine ⟨L, xs, rfl, seq_a hp1, fun J hJ D hD => ?_⟩
    refine lc_new xs (fun i y H' => ∃ q c, y = .ref q ∧ cs[i]? = some c ∧ H' q = some (.tup (ct c))) hD (fun H2 k2 => hJ H2 (by
      rcases hp1 with h | h
      · rw [k2 _ _ h, h]
      · rw [k2 _ _ h, h])) (by omega) ?_ ?_ ?_
    · rintro i y Ha Hb ⟨zs, hz⟩ ⟨q, c, rfl, h1, h2⟩ hk
      exact ⟨q, c, rfl, h1, hk _ _ (fun z => by rw [z, hz] at h2; cases h2) h2⟩
    · intro i y Hh R S hy kh _ hR
      have hil : i < xs.length := (List.getElem?_eq_some_iff.mp hy).1
      obtain ⟨c, hc⟩ : ∃ c, cs[i]? = some c := ⟨_, List.getElem?_eq_getElem (by omega)⟩
      have hpt := ((hs i y (some c) hy (by rw [List.getElem?_map, hc]; rfl)).keep x1).keep kh
      cases hpt with
      | ok hq hz =>
      rename_i q
      walk_at "g"
      refine ⟨rfl, ?_⟩
      walk_at "g"
      rcases hq with hq | hq
      · refine g_tupL (SqL.of hq) fun t ht => ?_
        exact hR _ _ (XT.refl.new ht) ⟨t, c, rfl, hc, upd_same⟩
      · refine g_tupT (SqT.of hq) ?_
        exact hR _ _ (fun q o h => h) ⟨q, c, rfl, hc, hq⟩
    · intro H2 ys x2 hW hyl hys
      obtain ⟨ts, rfl, htl, hts⟩ : ∃ ts : List Addr, ys = ts.map V.ref ∧ ts.length = cs.length ∧ ∀ (i : Nat) t c, ts[i]? = some t → cs[i]? = some c → H2 t = some (.tup (ct c)) := by
        have key : ∀ (ys : List V), (∀ y ∈ ys, ∃ q, y = .ref q) → ∃ qs : List Addr, ys = qs.map V.ref := by
          intro ys
          induction ys with
          | nil => exact fun _ => ⟨[], rfl⟩
          | cons y r ih =>
            intro h
            obtain ⟨q, rfl⟩ := h y List.mem_cons_self
            obtain ⟨qs, rfl⟩ := ih fun z hz => h z (List.mem_cons_of_mem _ hz)
            exact ⟨q :: qs, rfl⟩
        obtain ⟨ts, rfl⟩ := key ys fun y hy => by
          obtain ⟨i, hi⟩ := List.getElem?_of_mem hy
          obtain ⟨q, c, e, _⟩ := hys i y hi
          exact ⟨q, e⟩
        refine ⟨ts, rfl, by rw [← hl, ← hyl, List.length_map], fun i t c ht hc => ?_⟩
        obtain ⟨q, c2, e, h1, h2⟩ := hys i (.ref t) (by rw [List.getElem?_map, ht]; rfl)
        injection e with e
        rw [hc] at h1
        injection h1 with h1
        rw [e, h1]; exact h2
      walk_at "g"
      refine g_tupL (SqL.of hW) fun t ht => ?_
      have hx2 := x2 _ _ hx1
      have x3 : XT H2 (upd H2 t (.tup (ts.map V.ref))) := fun q o h => by rw [upd_ne (ne_of_none h ht)]; exact h
      have et : (upd H2 t (.tup (ts.map V.ref))) t = some (.tup (ts.map V.ref)) := upd_same
      generalize upd H2 t (.tup (ts.map V.ref)) = H3 at x3 et
      have hx3 := x3 _ _ hx2
      walk_at "g"
      refine ⟨x, _, dx, _, rfl, hx3, T.cl_Shape, T.n_Shape_layout, by decide, ?_⟩
      have kA : ∀ q o, q ≠ x → H q = some o → (upd H3 x (.ins (cadr mg "Shape") dx (putF "layout" (.ref t) []))) q = some o := fun q o n h => by rw [upd_ne n]; exact x3 _ _ (x2 _ _ (x1 _ _ h))
      have eA : (upd H3 x (.ins (cadr mg "Shape") dx (putF "layout" (.ref t) []))) x = some (.ins (cadr mg "Shape") dx (putF "layout" (.ref t) [])) := upd_same
      have xt : t ≠ x := fun z => by rw [z, hx3] at et; cases et
      have etA : (upd H3 x (.ins (cadr mg "Shape") dx (putF "layout" (.ref t) []))) t = some (.tup (ts.map V.ref)) := by rw [upd_ne xt]; exact et
      have yA : ∀ (i : Nat) u c, ts[i]? = some u → cs[i]? = some c → (upd H3 x (.ins (cadr mg "Shape") dx (putF "layout" (.ref t) []))) u = some (.tup (ct c)) := fun i u c ht hc => by
        have h4 := x3 _ _ (hts i u c ht hc)
        rw [upd_ne (fun z => by rw [z, hx3] at h4; cases h4)]; exact h4
      have l1 : (putF ("layout" : Str) (V.ref t) []).lookup ("layout" : Str) = some (V.ref t) := by rfl
      have l1n : (putF ("layout" : Str) (V.ref t) []).length < 1000 := by show 1 < 1000; decide
      generalize upd H3 x (.ins (cadr mg "Shape") dx (putF "layout" (.ref t) [])) = HA at kA eA etA yA
      walk_at "g"
      refine g_dc ?_
      walk_at "g"
      refine ⟨x, _, dx, _, _, rfl, eA, T.cl_Shape, T.n_Shape_layout, l1, ?_⟩
      refine ⟨t, rfl, ⟨_, SqT.of etA⟩, fun D hD => ?_⟩
      have hDt : t ≠ D := ne_of_none etA hD
      refine dc_tup (xs := ts.map V.ref) (fun i H' => (∀ q o, q ≠ D → HA q = some o → H' q = some o) ∧ ∃ kvs, H' D = some (.dK kvs) ∧ kvs.length ≤ i ∧ ∀ (j : Nat) t c, j < i → ts[j]? = some t → cs[j]? = some c → valV kvs (Sum.inr c.1) = some (.ref t)) ⟨fun q o n h => by rw [upd_ne n]; exact h, [], upd_same, Nat.le_refl _, fun j t c h => absurd h (Nat.not_lt_zero j)⟩ (fun i H' _ p => SqT.of (p.1 _ _ hDt etA)) ?_ ?_
      · rintro i y H' hy ⟨kD, kvs, eD, hkl, hk⟩
        rw [List.getElem?_map] at hy
        obtain ⟨q, hqi, rfl⟩ := Option.map_eq_some_iff.mp hy
        have hil : i < cs.length := by
          have := (List.getElem?_eq_some_iff.mp hqi).1
          omega
        obtain ⟨c, hc⟩ : ∃ c, cs[i]? = some c := ⟨_, List.getElem?_eq_getElem hil⟩
        have hq := yA i q c hqi hc
        have eq := kD _ _ (ne_of_none hq hD) hq
        walk_at "g"
        refine ⟨rfl, ?_⟩
        walk_at "g"
        refine g_ixT (SqT.of eq) (v := .str c.1) (show atI (ct c) 0 = some (.str c.1) from rfl) ?_
        walk_at "g"
        refine ⟨kvs, Sum.inr c.1, rfl, eD, by rw [sizeLine_eq]; omega, fun q o n h => by rw [upd_ne n]; exact kD _ _ n h, _, upd_same, Nat.le_trans (length_putK _ _ _) (by omega), fun j t2 c2 hj ht2 hc2 => ?_⟩
        rw [valV_put]
        by_cases e : j = i
        · subst e
          rw [hqi] at ht2
          rw [hc] at hc2
          injection ht2 with ht2
          injection hc2 with hc2
          rw [if_pos (by rw [hc2]), ht2]
        · have hne : c2.1 ≠ c.1 := nd_ne hnd (i := j) (j := i) (by rw [List.getElem?_map, hc2]; rfl) (by rw [List.getElem?_map, hc]; rfl) e
          rw [if_neg (fun h => hne (by injection h))]
          exact hk j t2 c2 (by omega) ht2 hc2
      · rintro HB ⟨kB, kvs, eD, hkl, hk⟩
        rw [List.length_map] at hkl hk
        have hxD : x ≠ D := ne_of_none eA hD
        have eB := kB _ _ hxD eA
        walk_at "g"
        refine ⟨x, _, dx, _, rfl, eB, T.cl_Shape, T.n_Shape_spots, l1n, ?_⟩
        have fC : ∃ fs, putF ("spots" : Str) (V.ref D) (putF ("layout" : Str) (V.ref t) []) = fs ∧ fs.lookup ("spots" : Str) = some (V.ref D) ∧ fs.lookup ("layout" : Str) = some (V.ref t) ∧ fs.length < 900 := ⟨_, rfl, by rfl, by rfl, by show 2 < 900; decide⟩
        obtain ⟨fs, e3, l3, m3, n3⟩ := fC
        rw [e3]
        have yB : ∀ q o, q ≠ x → HA q = some o → (upd HB x (.ins (cadr mg "Shape") dx fs)) q = some o := fun q o n h => by
          rw [upd_ne n]; exact kB _ _ (ne_of_none h hD) h
        have kC : ∀ q o, q ≠ x → H q = some o → (upd HB x (.ins (cadr mg "Shape") dx fs)) q = some o := fun q o n h => yB q o n (kA q o n h)
        have eC : (upd HB x (.ins (cadr mg "Shape") dx fs)) x = some (.ins (cadr mg "Shape") dx fs) := upd_same
        have etC := yB t _ xt etA
        have tC : ∀ (i : Nat) t c, ts[i]? = some t → cs[i]? = some c → (upd HB x (.ins (cadr mg "Shape") dx fs)) t = some (.tup (ct c)) := fun i t c ht hc => yB _ _ (fun z => by
          have := yA i t c ht hc
          rw [z, eA] at this; cases this) (yA i t c ht hc)
        have eDC : (upd HB x (.ins (cadr mg "Shape") dx fs)) D = some (.dK kvs) := by rw [upd_ne (Ne.symm hxD)]; exact eD
        generalize upd HB x (.ins (cadr mg "Shape") dx fs) = HC at kC eC eDC etC tC
        clear yB
        walk_at "g"
        refine ⟨x, _, dx, _, _, rfl, eC, T.cl_Shape, T.n_Shape_spots, l3, ?_⟩
        walk_at "g"
        refine ⟨_, _, rfl, hd1, fun HE xE => ?_⟩
        walk_at "g"
        refine g_tupT (hd1 _) ?_
        walk_at "g"
        refine ⟨x, _, dx, _, rfl, xE _ _ eC, T.cl_Shape, T.n_Shape_check_tests, by omega, ?_⟩
        have fF : ∃ fs', putF ("check_tests" : Str) (V.ref d1) fs = fs' ∧ fs'.lookup ("spots" : Str) = some (V.ref D) ∧ fs'.lookup ("layout" : Str) = some (V.ref t) ∧ fs'.length < 950 := by
          rw [← e3]
          exact ⟨_, rfl, by rfl, by rfl, by show 3 < 950; decide⟩
        obtain ⟨fs', e4, l4, m4, n4⟩ := fF
        rw [e4]
        have stepF : ∀ q o, q ≠ x → HC q = some o → (upd HE x (.ins (cadr mg "Shape") dx fs')) q = some o := fun q o n h => by
          rw [upd_ne n]; exact xE _ _ h
        have kF : ∀ q o, q ≠ x → H q = some o → (upd HE x (.ins (cadr mg "Shape") dx fs')) q = some o := fun q o n h => stepF q o n (kC q o n h)
        have eF : (upd HE x (.ins (cadr mg "Shape") dx fs')) x = some (.ins (cadr mg "Shape") dx fs') := upd_same
        have eDF := stepF D _ (Ne.symm hxD) eDC
        have etF := stepF t _ xt etC
        have tF : ∀ (i : Nat) t c, ts[i]? = some t → cs[i]? = some c → (upd HE x (.ins (cadr mg "Shape") dx fs')) t = some (.tup (ct c)) := fun i t c ht hc => stepF _ _ (fun z => by
          have := tC i t c ht hc
          rw [z, eC] at this; cases this) (tC i t c ht hc)
        generalize upd HE x (.ins (cadr mg "Shape") dx fs') = HF at kF eF eDF etF tF
        clear stepF
        walk_at "g"
        refine ⟨x, _, dx, _, _, rfl, eF, T.cl_Shape, T.n_Shape_spots, l4, ?_⟩
        walk_at "g"
        refine ⟨_, _, rfl, hd2, fun HG xG => ?_⟩
        walk_at "g"
        refine ⟨d2, rfl, ⟨[], hd2 _⟩, fun D2 hD2 => ?_⟩
        have xI : XT HG (upd HG D2 (.lst [])) := fun q o h => by rw [upd_ne (ne_of_none h hD2)]; exact h
        have hzs : (upd HG D2 (.lst [])) D2 = some (.lst []) := upd_same
        refine ⟨fun i m H' => i = 0 ∧ m = 0 ∧ H' = upd HG D2 (.lst []), ⟨0, rfl, rfl, rfl⟩, ?_⟩
        rintro i m H' ⟨rfl, rfl, rfl⟩
        refine .inl ⟨⟨[], hd2 _, Nat.le_refl _⟩, ?_⟩
        generalize upd HG D2 (.lst []) = HI at xI hzs
        walk_at "g"
        refine g_tupL (SqL.of hzs) fun t2 ht2 => ?_
        have eI := xI _ _ (xG _ _ eF)
        have x2I : XT HI (upd HI t2 (.tup [])) := fun q o h => by rw [upd_ne (ne_of_none h ht2)]; exact h
        walk_at "g"
        refine ⟨x, _, dx, _, rfl, x2I _ _ eI, T.cl_Shape, T.n_Shape_key_rules, by omega, ?_⟩
        have fJ : ∃ fs2, putF ("key_rules" : Str) (V.ref t2) fs' = fs2 ∧ fs2.lookup ("spots" : Str) = some (V.ref D) ∧ fs2.lookup ("layout" : Str) = some (V.ref t) ∧ mthF fs2 := by
          rw [← e4, ← e3]
          exact ⟨_, rfl, by rfl, by rfl, by rfl, by rfl, by rfl, by rfl⟩
        obtain ⟨fs2, e5, l5, m5, w5⟩ := fJ
        rw [e5]
        have stepJ : ∀ q o, q ≠ x → HF q = some o → (upd (upd HI t2 (.tup [])) x (.ins (cadr mg "Shape") dx fs2)) q = some o := fun q o n h => by
          rw [upd_ne n]; exact x2I _ _ (xI _ _ (xG _ _ h))
        walk_at "g"
        refine kQ cs rfl hnone _ (fun q o n h => stepJ q o n (kF q o n h)) ⟨dx, fs2, t, D, kvs, ts, upd_same, m5, l5, stepJ t _ xt etF, htl, fun i t c ht hc => stepJ _ _ (fun z => by
          have := tF i t c ht hc
          rw [z, eF] at this; cases this) (tF i t c ht hc), stepJ D _ (Ne.symm hxD) eDF, fun i t c ht hc => hk i t c (List.getElem?_eq_some_iff.mp ht).1 ht hc, w5⟩
end
section
variable {P : Program} {w : World} {K : PySem.W.Frag} {mg : Str → Option Value} {base : Heap}
theorem ok_Shape_columns (T : Txt K mg) : DefM P w K mg base 1 (cadr mg "Shape") "columns" ["self"] (fun vs H Q _ => ∃ (x : Addr) (cs : List Col), vs = [.ref x] ∧ ShAt (cadr mg "Shape") H cs x ∧ ∀ l H', XT H H' → H l = none → LAt H' l (cs.map ct) → Q (.ref l) H') := by
  obtain ⟨f, fd, h⟩ := T.d_Shape_columns
  refine h.def (Fun.okM h.fn sc_Shape_columns (fun vs H Q E h => ?_) (fun cdv A outer s H vs Q E hr h => ?_))
  · obtain ⟨x, cs, rfl, _⟩ := h
    rfl
  · obtain ⟨x, cs, rfl, hS, k⟩ := h
    obtain ⟨dx, fs, T0, D, kvs, ts, h1, h2, h3, h4, h5, h6, h7, h8, h9⟩ := hS
    refine ⟨_, (pss_one (ps_ret (pe_callTy (call_listG (K := K) rfl) (by rfl) T.h_list (by decide +kernel) (pa_cons (pe_fldG (K := K) rfl (pv 0) rfl) pa_nil)))), ?_⟩
    walk_at "g"
    refine ⟨x, _, dx, _, _, rfl, h1, T.cl_Shape, T.n_Shape_layout, h2, ?_⟩
    refine ⟨T0, _, rfl, .inr (SqT.of h4), fun l hl => ?_⟩
    walk_at "g"
    refine k l _ (XT.refl.new hl) hl ⟨ts, upd_same, by rw [List.length_map]; exact h5, fun i q t hq ht => ?_⟩
    rw [List.getElem?_map] at ht
    obtain ⟨c, hc, rfl⟩ := Option.map_eq_some_iff.mp ht
    have := h6 i q c hq hc
    rw [upd_ne (ne_of_none this hl)]; exact this
theorem ok_Shape_names (T : Txt K mg) : DefM P w K mg base 1 (cadr mg "Shape") "names" ["self"] (fun vs H Q _ => ∃ (x : Addr) (cs : List Col), vs = [.ref x] ∧ ShAt (cadr mg "Shape") H cs x ∧ cs.length ≤ 12 ∧ ∀ l H', XT H H' → H l = none → H' l = some (.lst ((cs.map (·.1)).map V.str)) → Q (.ref l) H') := by
  obtain ⟨f, fd, h⟩ := T.d_Shape_names
  refine h.def (Fun.okM h.fn sc_Shape_names (fun vs H Q E h => ?_) (fun cdv A outer s H vs Q E hr h => ?_))
  · obtain ⟨x, cs, rfl, _⟩ := h
    rfl
  · obtain ⟨x, cs, rfl, hS, hcl, k⟩ := h
    obtain ⟨dx, fs, T0, D, kvs, ts, h1, h2, h3, h4, h5, h6, h7, h8, h9⟩ := hS
    refine ⟨_, (pss_one (ps_ret (pe_lc (own := [("column", 1)]) rfl sc_Shape_names.nd (pi_tupG (K := K) rfl (pe_fldG (K := K) rfl (pv 0) rfl)) (blkOk_by (N := N_Shape_names) (sc := defScope S_Shape_names) (by decide +kernel)) (fun _ _ _ _ _ => pg_name (i := 1) sc_Shape_names.nd rfl (Or.inl rfl)) (fun _ _ _ _ _ => pts_nil) (fun _ _ _ _ _ => (pe_ix (ix_seqG (K := K) rfl) (pv 1) pe_int (fun _ _ => rfl)))))), ?_⟩
    walk_at "g"
    refine ⟨x, _, dx, _, _, rfl, h1, T.cl_Shape, T.n_Shape_layout, h2, ?_⟩
    refine ⟨T0, rfl, ⟨_, SqT.of h4⟩, fun l hl => ?_⟩
    refine lc_new (ts.map V.ref) (fun i y _ => ∃ c, cs[i]? = some c ∧ y = .str c.1) hl (fun H2 k2 => fits_t (SqT.of (k2 _ _ h4))) (by rw [List.length_map]; omega) (fun i y Ha Hb _ h _ => h) ?_ ?_
    · intro j y Hh R S hy kh _ hR
      rw [List.getElem?_map] at hy
      obtain ⟨q, hqj, rfl⟩ := Option.map_eq_some_iff.mp hy
      have hjl : j < cs.length := by
        have := (List.getElem?_eq_some_iff.mp hqj).1
        omega
      obtain ⟨c, hc⟩ : ∃ c, cs[j]? = some c := ⟨_, List.getElem?_eq_getElem hjl⟩
      have et := kh _ _ (h6 j q c hqj hc)
      walk_at "g"
      refine ⟨rfl, ?_⟩
      walk_at "g"
      refine g_ixT (SqT.of et) (v := .str c.1) (show atI (ct c) 0 = some (.str c.1) from rfl) ?_
      exact hR _ _ (fun q o h => h) ⟨c, hc, rfl⟩
    · intro H2 ys x2 hW hyl hys
      obtain rfl : ys = (cs.map (·.1)).map V.str := by
        refine List.ext_getElem (by rw [hyl, List.length_map, List.length_map, List.length_map, h5]) fun i g1 g2 => ?_
        obtain ⟨c, hc, e⟩ := hys i ys[i] (List.getElem?_eq_getElem g1)
        rw [e, List.getElem_map, List.getElem_map]
        obtain ⟨h3, h4⟩ := List.getElem?_eq_some_iff.mp hc
        rw [h4]
      walk_at "g"
      exact k l _ x2 hl hW
theorem ok_column_of (T : Txt K mg) : Def P w K mg base 2 "column_of" ["shape", "name"] (fun vs H Q _ => ∃ (x : Addr) (cs : List Col) (i : Nat) (c : Col), vs = [.ref x, .str c.1] ∧ ShAt (cadr mg "Shape") H cs x ∧ cs[i]? = some c ∧ nameP c.1 ∧ ∀ t H', XT H H' → H' t = some (.tup (ct c)) → Q (.ref t) H') := by
  obtain ⟨f, fd, h⟩ := T.d_column_of
  refine h.def (Fun.okM h.fn sc_column_of (fun vs H Q E h => ?_) (fun cdv A outer s H vs Q E hr h => ?_))
  · obtain ⟨x, cs, i, c, rfl, _⟩ := h
    rfl
  · obtain ⟨x, cs, i, c, rfl, hS, hc, hn, k⟩ := h
    refine ⟨_, (pss_cons (ps_if (PW.pt (pw_or (pt_not (pt_val (pe_def (ok_is_name T) hr rfl (pa_cons (pv 1) pa_nil)))) (pw_or1 (pt_cmp (pc_dnotin (hu_of hr) (pv 1) (pe_fldG (K := K) rfl (pv 0) rfl))))))
  (pss_one ps_never)
  pss_nil)
  (pss_one (ps_ret (pe_dget (hu_of hr) (pe_fldG (K := K) rfl (pv 0) rfl) (pv 1) (fun _ _ => rfl))))), ?_⟩
    walk_at "g"
    refine ⟨_, rfl, .inr (.inr (.inr (.inl ⟨_, rfl, by have := hn.2.1; omega⟩))), fun H1 x1 => ?_⟩
    rw [nameB_str.mpr hn]
    obtain ⟨dx, fs, T0, D, kvs, ts, h1, h2, h3, h4, h5, h6, h7, h8, h9⟩ := hS.keep x1
    obtain ⟨t, ht⟩ : ∃ t, ts[i]? = some t := ⟨_, List.getElem?_eq_getElem (by have := (List.getElem?_eq_some_iff.mp hc).1; omega)⟩
    have hv := h8 i t c ht hc
    walk_at "g"
    refine ⟨x, _, dx, _, _, rfl, h1, T.cl_Shape, T.n_Shape_spots, h3, ?_⟩
    refine ⟨D, _, rfl, DGet.k (k := Sum.inr c.1) h7, ?_⟩
    rw [hv]
    walk_at "g"
    refine g_F ?_
    walk_at "g"
    refine ⟨x, _, dx, _, _, rfl, h1, T.cl_Shape, T.n_Shape_spots, h3, ?_⟩
    walk_at "g"
    refine ⟨D, .ref t, rfl, by rw [← hv]; exact DGet.k (k := Sum.inr c.1) h7, ?_⟩
    walk_at "g"
    exact k t _ x1 (h6 i t c ht hc)
theorem ok_Shape_kind (T : Txt K mg) : DefM P w K mg base 3 (cadr mg "Shape") "kind" ["self", "name"] (fun vs H Q _ => ∃ (x : Addr) (cs : List Col) (i : Nat) (c : Col), vs = [.ref x, .str c.1] ∧ ShAt (cadr mg "Shape") H cs x ∧ cs[i]? = some c ∧ nameP c.1 ∧ ∀ H', XT H H' → Q (.str (kS c.2.1)) H') := by
  obtain ⟨f, fd, h⟩ := T.d_Shape_kind
  refine h.def (Fun.okM h.fn sc_Shape_kind (fun vs H Q E h => ?_) (fun cdv A outer s H vs Q E hr h => ?_))
  · obtain ⟨x, cs, i, c, rfl, _⟩ := h
    rfl
  · obtain ⟨x, cs, i, c, rfl, hS, hc, hn, k⟩ := h
    refine ⟨_, (pss_one (ps_ret (pe_ix (ix_seqG (K := K) rfl) (pe_def (ok_column_of T) hr rfl (pa_cons (pv 0) (pa_cons (pv 1) pa_nil))) pe_int (fun _ _ => rfl)))), ?_⟩
    walk_at "g"
    refine ⟨x, cs, i, c, rfl, hS, hc, hn, fun t H1 x1 ht => ?_⟩
    walk_at "g"
    refine g_ixT (SqT.of ht) (v := .str (kS c.2.1)) (show atI (ct c) 1 = some (.str (kS c.2.1)) from rfl) ?_
    walk_at "g"
    exact k _ x1
theorem ok_Shape_filled (T : Txt K mg) : DefM P w K mg base 3 (cadr mg "Shape") "filled" ["self", "name"] (fun vs H Q _ => ∃ (x : Addr) (cs : List Col) (i : Nat) (c : Col), vs = [.ref x, .str c.1] ∧ ShAt (cadr mg "Shape") H cs x ∧ cs[i]? = some c ∧ nameP c.1 ∧ ∀ H', XT H H' → Q (.bl c.2.2) H') := by
  obtain ⟨f, fd, h⟩ := T.d_Shape_filled
  refine h.def (Fun.okM h.fn sc_Shape_filled (fun vs H Q E h => ?_) (fun cdv A outer s H vs Q E hr h => ?_))
  · obtain ⟨x, cs, i, c, rfl, _⟩ := h
    rfl
  · obtain ⟨x, cs, i, c, rfl, hS, hc, hn, k⟩ := h
    refine ⟨_, (pss_one (ps_ret (pe_ix (ix_seqG (K := K) rfl) (pe_def (ok_column_of T) hr rfl (pa_cons (pv 0) (pa_cons (pv 1) pa_nil))) pe_int (fun _ _ => rfl)))), ?_⟩
    walk_at "g"
    refine ⟨x, cs, i, c, rfl, hS, hc, hn, fun t H1 x1 ht => ?_⟩
    walk_at "g"
    refine g_ixT (SqT.of ht) (v := .bl c.2.2) (show atI (ct c) 2 = some (.bl c.2.2) from rfl) ?_
    walk_at "g"
    exact k _ x1
theorem ok__law_is_integer (T : Txt K mg) : Def P w K mg base 1 "_law_is_integer" ["_law_thing"] (fun vs H Q _ => ∃ i, vs = [.int i] ∧ Q (.bl true) H) := by
  obtain ⟨f, fd, h⟩ := T.d__law_is_integer
  refine h.def (Fun.okM h.fn sc__law_is_integer (fun vs H Q E h => ?_) (fun cdv A outer s H vs Q E hr h => ?_))
  · obtain ⟨i, rfl, _⟩ := h
    rfl
  · obtain ⟨i, rfl, k⟩ := h
    refine ⟨_, (pss_one (ps_ret (pe_and (pe_callB (call_isiG (K := K) rfl) (by rfl) T.h_isinstance (by decide +kernel) (pa_cons (pv 0) (pa_cons (pe_bltn (v := .ty "int") (by rfl) T.h_int (by decide +kernel) rfl) pa_nil))) (pe_one (pe_not (pe_callB (call_isiG (K := K) rfl) (by rfl) T.h_isinstance (by decide +kernel) (pa_cons (pv 0) (pa_cons (pe_bltn (v := .ty "bool") (by rfl) T.h_bool (by decide +kernel) rfl) pa_nil)))))))), ?_⟩
    walk_at "g"
    exact k
theorem ok__law_flag (T : Txt K mg) : Def P w K mg base 1 "_law_flag" ["_law_thing", "_law_due_here"] (fun vs H Q _ => ∃ b, vs = [.bl b, .bl b] ∧ Q (.bl true) H) := by
  obtain ⟨f, fd, h⟩ := T.d__law_flag
  refine h.def (Fun.okM h.fn sc__law_flag (fun vs H Q E h => ?_) (fun cdv A outer s H vs Q E hr h => ?_))
  · obtain ⟨b, rfl, _⟩ := h
    rfl
  · obtain ⟨b, rfl, k⟩ := h
    refine ⟨_, (pss_one (ps_ret (pe_and (pe_callB (call_isiG (K := K) rfl) (by rfl) T.h_isinstance (by decide +kernel) (pa_cons (pv 0) (pa_cons (pe_bltn (v := .ty "bool") (by rfl) T.h_bool (by decide +kernel) rfl) pa_nil))) (pe_one (pe_cmpR op_eq (pv 0) (pe_callTy call_boolG (by rfl) T.h_bool (by decide +kernel) (pa_cons (pv 1) pa_nil)) (nomark _)))))), ?_⟩
    walk_at "g"
    rw [decide_eq_true (rfl : b = b)]
    exact k
end
/-- what the law keeps of a try to make a shape -/
def SdAt (C : Addr) (H : Hp) (t : Addr) (cs : List Col) : Option Int → Prop
  | some i => H t = some (.tup [.non, .str "columns", .int i, .bl true])
  | none => ∃ x, H t = some (.tup [.ref x, .str "", .int 0, .bl true]) ∧ ShAt C H cs x
section
variable {P : Program} {w : World} {K : PySem.W.Frag} {mg : Str → Option Value} {base : Heap}
theorem ok__law_shape_or_error (T : Txt K mg) : Def P w K mg base 7 "_law_shape_or_error" ["_law_columns"] (fun vs H Q _ => ∃ (v : V) (d : Option (List (Option Col))), vs = [v] ∧ ThC H v d ∧ ∀ t H', XT H H' → (∀ cs, (dueC d = none → d = some (cs.map some)) → SdAt (cadr mg "Shape") H' t cs (dueC d) → Q (.ref t) H')) := by
  obtain ⟨f, fd, h⟩ := T.d__law_shape_or_error
  obtain ⟨fE_BadShape, EB_BadShape⟩ := T.x_BadShape
  refine h.def (Fun.okM h.fn sc__law_shape_or_error (fun vs H Q E h => ?_) (fun cdv A outer s H vs Q E hr h => ?_))
  · obtain ⟨v, d, rfl, _⟩ := h
    rfl
  · obtain ⟨v, d, rfl, hT, k⟩ := h
    refine ⟨_, (pss_cons (ps_try_as (i := 2) (Wout := fun _ _ _ _ => False) rfl rfl sc__law_shape_or_error.nd rfl rfl ⟨rfl, by decide, Or.inl EB_BadShape.gC⟩ takes0 (fun W pn xe tk _ =>
  (pss_one (ps_set (i := 1) sc__law_shape_or_error.nd rfl (Or.inl rfl) (pe_newDX (K := K) tk rfl (ok_Shape_init T) hr rfl T.e_Shape (pa_cons (pv 0) pa_nil)))))
  (fun a oe cls d pn hz hf => (pss_one (ps_ret (pe_tup (pa_cons pe_non (pa_cons (pe_byBadShape_why EB_BadShape hz hf (pv 2)) (pa_cons (pe_byBadShape_at EB_BadShape hz hf (pv 2)) (pa_cons (pe_and (pe_callB (call_isX (K := K) rfl hz hf) (by rfl) T.h_isinstance (by decide +kernel) (pa_cons (pv 2) (pa_cons (pe_cls rfl T.e_RowsError) pa_nil))) (pe_one (pe_not (pe_callB (call_isX (K := K) rfl hz hf) (by rfl) T.h_isinstance (by decide +kernel) (pa_cons (pv 2) (pa_cons (pe_cls rfl T.e_BadRow) pa_nil)))))) pa_nil)))))))))
  (pss_one (ps_ret (pe_tup (pa_cons (pv 1) (pa_cons pe_str (pa_cons pe_int (pa_cons pe_bl pa_nil)))))))), ?_⟩
    walk_at "g"
    refine g_newDX ?_
    intro d1 d2 hd1 hd2
    walk_at "g"
    intro x dx hx hdx hne
    have xN : XT H (upd (upd H dx (.own x)) x (.ins (cadr mg "Shape") dx [])) := fun q o h => by rw [upd_ne (ne_of_none h hx), upd_ne (ne_of_none h hdx)]; exact h
    refine ⟨x, v, d1, d2, dx, d, rfl, upd_same, hT.keep xN, hd1, hd2, fun i hi e H' k' he => ?_, fun cs hd hn H' k' hS => ⟨rfl, ?_⟩⟩
    · have xx : XT H H' := fun q o h => k' q o (ne_of_none h hx) (xN q o h)
      refine ⟨true, EB_BadShape.te, fun _ a0 ha0 => ?_, fun q => Bool.noConfusion q⟩
      walk_at "g"
      refine ⟨_, rfl, rfl, rfl, e, _, _, rfl, he, ?_⟩
      walk_at "g"
      refine ⟨_, rfl, rfl, rfl, e, _, _, rfl, he, ?_⟩
      walk_at "g"
      refine ⟨cadr mg "BadShape", .ref (cadr mg "RowsError"), .ref (cadr mg "RowsError"), true, rfl, ⟨e, _, rfl, he⟩, T.ei_BadShape, rfl, fun u r => r, T.ko_BadShape_RowsError, ?_⟩
      walk_at "g"
      refine ⟨cadr mg "BadShape", .ref (cadr mg "BadRow"), .ref (cadr mg "BadRow"), false, rfl, ⟨e, _, rfl, he⟩, T.ei_BadShape, rfl, fun u r => r, T.ko_BadShape_BadRow, ?_⟩
      walk_at "g"
      refine ⟨by show 4 ≤ sizeLine; decide, fun t ht => ?_⟩
      refine k t _ (xx.new ht) [] (fun h => by rw [hi] at h; cases h) ?_
      rw [hi]
      exact upd_same
    · have xx : XT H H' := fun q o h => k' q o (ne_of_none h hx) (xN q o h)
      walk_at "g"
      refine ⟨by show 4 ≤ sizeLine; decide, fun t ht => ?_⟩
      refine k t _ (xx.new ht) cs (fun _ => hd) ?_
      rw [hn]
      exact ⟨x, upd_same, hS.keep (XT.refl.new ht)⟩
end
section
variable {P : Program} {w : World} {K : PySem.W.Frag} {mg : Str → Option Value} {base : Heap}
/-- whether the law calls it a column whose name is not among xs -/
def colB (xs : List Str) : Option Col → Bool
  | none => false
  | some c => !decide (c.1 ∈ xs)
theorem none_badC {l : List Nat} {p : Nat → Bool} : (decide ((((l.filter fun n => !p n).map fun n => V.str ⟨#[n]⟩).length : Int) > 0)) = !l.all p := by
  induction l with
  | nil => rfl
  | cons n l ih =>
    rw [List.filter_cons, List.all_cons]
    cases p n with
    | true => simpa using ih
    | false => simp
theorem kb_no : ∀ T ∈ kinds7, T ≠ "list" → T ≠ "tuple" → kitB T "list" = some false ∧ kitB T "tuple" = some false := by
  intro T h n m
  unfold kinds7 at h
  simp only [List.mem_cons, List.not_mem_nil, or_false] at h
  rcases h with rfl | rfl | rfl | rfl | rfl | rfl | rfl
  · exact ⟨by decide +kernel, by decide +kernel⟩
  · exact ⟨by decide +kernel, by decide +kernel⟩
  · exact ⟨by decide +kernel, by decide +kernel⟩
  · exact ⟨by decide +kernel, by decide +kernel⟩
  · exact absurd rfl n
  · exact absurd rfl m
  · exact ⟨by decide +kernel, by decide +kernel⟩
theorem CAt.split {H : Hp} {v : V} {r : Option Col} (h : CAt H v r) : (r = none ∧ ∃ T, T ∈ kinds7 ∧ TyOf7 H v T ∧ T ≠ "list" ∧ T ≠ "tuple") ∨ ∃ p zs, v = .ref p ∧ (H p = some (.lst zs) ∨ H p = some (.tup zs)) ∧ ((zs.length ≠ 3 ∧ r = none) ∨ ∃ x y f, zs = [x, y, f] ∧ thing H x ∧ thing H y ∧ thing H f ∧
    ((badNm x ∧ r = none) ∨ ∃ z, x = .str z ∧ nameP z ∧ ((y ≠ .str "number" ∧ y ≠ .str "text" ∧ r = none) ∨ ∃ k, y = .str (kS k) ∧ (((∀ b, f ≠ .bl b) ∧ r = none) ∨ ∃ b, f = .bl b ∧ r = some (z, k, b))))) := by
  have thK : ∀ {k : Bool}, thing H (.str (kS k)) := fun {k} => .inr (.inr (.inr (.inl ⟨_, rfl, by cases k <;> decide +kernel⟩)))
  have thB : ∀ {b : Bool}, thing H (.bl b) := fun {b} => .inr (.inl ⟨b, rfl⟩)
  have thN : ∀ {z : Str}, nameP z → thing H (.str z) := fun {z} n => .inr (.inr (.inr (.inl ⟨z, rfl, by have := n.2.1; omega⟩)))
  cases h with
  | nos hT ty n m => exact .inl ⟨rfl, _, hT, ty, n, m⟩
  | len hp n => exact .inr ⟨_, _, rfl, hp, .inl ⟨n, rfl⟩⟩
  | nam hp hx n => exact .inr ⟨_, _, rfl, .inr hp, .inr ⟨_, _, _, rfl, hx, thK, thB, .inl ⟨n, rfl⟩⟩⟩
  | knd hp hz hy n1 n2 => exact .inr ⟨_, _, rfl, .inl hp, .inr ⟨_, _, _, rfl, thN hz, hy, thB, .inr ⟨_, rfl, hz, .inl ⟨n1, n2, rfl⟩⟩⟩⟩
  | flg hp hz hy n => exact .inr ⟨_, _, rfl, .inr hp, .inr ⟨_, _, _, rfl, thN hz, thK, hy, .inr ⟨_, rfl, hz, .inr ⟨_, rfl, .inl ⟨n, rfl⟩⟩⟩⟩⟩
  | ok hp hz => exact .inr ⟨_, _, rfl, hp, .inr ⟨_, _, _, rfl, thN hz, thK, thB, .inr ⟨_, rfl, hz, .inr ⟨_, rfl, .inr ⟨_, rfl, rfl⟩⟩⟩⟩⟩
theorem ok__law_is_column (T : Txt K mg) : Def P w K mg base 1 "_law_is_column" ["_law_thing", "_law_names"] (fun vs H Q _ => ∃ (v : V) (N : Addr) (xs : List Str) (r : Option Col), vs = [v, .ref N] ∧ CAt H v r ∧ H N = some (.lst (xs.map V.str)) ∧ ∀ H', XT H H' → Q (.bl (colB xs r)) H') := by
  obtain ⟨f, fd, h⟩ := T.d__law_is_column
  refine h.def (Fun.okM h.fn sc__law_is_column (fun vs H Q E h => ?_) (fun cdv A outer s H vs Q E hr h => ?_))
  · obtain ⟨v, N, xs, r, rfl, _⟩ := h
    rfl
  · obtain ⟨v, N, xs, r, rfl, hc, hN, k⟩ := h
    refine ⟨_, (Evl.pss_cut (ps_if (PW.pt (pw_and (pt_not (pt_val (pe_callB (call_isiG (K := K) rfl) (by rfl) T.h_isinstance (by decide +kernel) (pa_cons (pv 0) (pa_cons (pe_bltn (v := .ty "list") (by rfl) T.h_list (by decide +kernel) rfl) pa_nil))))) (pw_and1 (pt_not (pt_val (pe_callB (call_isiG (K := K) rfl) (by rfl) T.h_isinstance (by decide +kernel) (pa_cons (pv 0) (pa_cons (pe_bltn (v := .ty "tuple") (by rfl) T.h_tuple (by decide +kernel) rfl) pa_nil))))))))
  (pss_one (ps_ret pe_bl))
  pss_nil)
  (pss_cons (ps_if (PW.pt (pw_or (pt_cmpR op_ne (pe_callB (call_lenG (K := K) rfl) (by rfl) T.h_len (by decide +kernel) (pa_cons (pv 0) pa_nil)) pe_int (nomark _)) (pw_or (pt_not (pt_val (pe_callB (call_isiG (K := K) rfl) (by rfl) T.h_isinstance (by decide +kernel) (pa_cons (pe_ix (ix_seqG (K := K) rfl) (pv 0) pe_int (fun _ _ => rfl)) (pa_cons (pe_bltn (v := .ty "str") (by rfl) T.h_str (by decide +kernel) rfl) pa_nil))))) (pw_or1 (pt_not (pt_val (pe_callB (call_isiG (K := K) rfl) (by rfl) T.h_isinstance (by decide +kernel) (pa_cons (pe_ix (ix_seqG (K := K) rfl) (pv 0) pe_int (fun _ _ => rfl)) (pa_cons (pe_bltn (v := .ty "str") (by rfl) T.h_str (by decide +kernel) rfl) pa_nil)))))))))
  (pss_one (ps_ret pe_bl))
  pss_nil)
  (pss_cons (ps_set (i := 2) sc__law_is_column.nd rfl (Or.inr rfl) pe_str)
  (pss_cons (ps_if (PW.pt (pw_or (pt_cmpR op_ltG (pe_callB (call_lenG (K := K) rfl) (by rfl) T.h_len (by decide +kernel) (pa_cons (pe_ix (ix_seqG (K := K) rfl) (pv 0) pe_int (fun _ _ => rfl)) pa_nil)) pe_int (nomark _)) (pw_or (pt_cmpR op_gtG (pe_callB (call_lenG (K := K) rfl) (by rfl) T.h_len (by decide +kernel) (pa_cons (pe_ix (ix_seqG (K := K) rfl) (pv 0) pe_int (fun _ _ => rfl)) pa_nil)) pe_int (nomark _)) (pw_or (pt_cmpR (op_inG (K := K) rfl) (pe_ix (ix_seqG (K := K) rfl) (pv 0) pe_int (fun _ _ => rfl)) (pv 1) (by rfl)) (pw_or (pt_cmpR op_eq (pe_ix (ix_seqG (K := K) rfl) (pv 0) pe_int (fun _ _ => rfl)) pe_str (nomark _)) (pw_or1 (pt_cmpR (op_notInG (K := K) rfl) (pe_ix (ix_seqG (K := K) rfl) (pe_ix (ix_seqG (K := K) rfl) (pv 0) pe_int (fun _ _ => rfl)) pe_int (fun _ _ => rfl)) (pv 2) (by rfl))))))))
  (pss_one (ps_ret pe_bl))
  pss_nil)
  (pss_cons (ps_if (pt_cmpR op_gtG (pe_callB (call_lenG (K := K) rfl) (by rfl) T.h_len (by decide +kernel) (pa_cons (pe_lc (own := [("_law_char", 3)]) rfl sc__law_is_column.nd (pi_str (pe_ix (ix_seqG (K := K) rfl) (pv 0) pe_int (fun _ _ => rfl))) (blkOk_by (N := N__law_is_column) (sc := defScope S__law_is_column) (by decide +kernel)) (fun _ _ _ _ _ => pg_name (i := 3) sc__law_is_column.nd rfl (Or.inl rfl)) (fun _ _ _ _ _ => pts_one (pt_cmpR (op_notInG (K := K) rfl) (pv 3) (pe_op op_addG (pv 2) pe_str) (by rfl))) (fun _ _ _ _ _ => (pv 3))) pa_nil)) pe_int (nomark _))
  (pss_one (ps_ret pe_bl))
  pss_nil)
  (pss_one (ps_ret (pe_and (pe_or (pe_cmpR op_eq (pe_ix (ix_seqG (K := K) rfl) (pv 0) pe_int (fun _ _ => rfl)) pe_str (nomark _)) (pe_one (pe_cmpR op_eq (pe_ix (ix_seqG (K := K) rfl) (pv 0) pe_int (fun _ _ => rfl)) pe_str (nomark _)))) (pe_one (pe_callB (call_isiG (K := K) rfl) (by rfl) T.h_isinstance (by decide +kernel) (pa_cons (pe_ix (ix_seqG (K := K) rfl) (pv 0) pe_int (fun _ _ => rfl)) (pa_cons (pe_bltn (v := .ty "bool") (by rfl) T.h_bool (by decide +kernel) rfl) pa_nil)))))))))))), ?_⟩
    have no : ∀ H', XT H H' → r = none → Q (.bl false) H' := fun H' x e => by
      have := k H' x
      rw [e] at this
      exact this
    rcases hc.split with ⟨hr, Tn, hT, ty, n, m⟩ | ⟨p, zs, rfl, hp, hc⟩
    · walk_at "g"
      refine g_cutA (M := fun _ _ => False) (fun D' hn1 hrt _ _ => ?_) (fun _ _ h => h.elim)
      walk_at "g"
      refine g_isi (ty.x K) (kb_no Tn hT n m).1 ?_
      walk_at "g"
      refine g_isi (ty.x K) (kb_no Tn hT n m).2 ?_
      walk_at "g"
      rw [hrt]
      exact no _ XT.refl hr
    walk_at "g"
    refine g_cutA (M := fun σ' H' => σ' = L2.start N__law_is_column [.ref p, .ref N] ∧ H' = H) (fun D' hn1 hrt _ _ => ?_) ?_
    · walk_at "g"
      rcases hp with h | h
      · refine g_isi (.base (.lst h)) (b := true) (by decide +kernel) ?_
        walk_at "g"
        exact hn1 _ _ ⟨rfl, rfl⟩
      · refine g_isi (.base (.tup h)) (b := false) (by decide +kernel) ?_
        walk_at "g"
        refine g_isi (.base (.tup h)) (b := true) (by decide +kernel) ?_
        walk_at "g"
        exact hn1 _ _ ⟨rfl, rfl⟩
    · rintro σ' H' ⟨rfl, rfl⟩
      walk_at "g"
      refine g_lenA hp ?_
      walk_at "g"
      refine g_ndec (fun h3 => ?_) (fun h3 => ?_)
      · walk_at "g"
        rcases hc with ⟨_, hr⟩ | ⟨x, y, ff, rfl, _⟩
        · exact no _ XT.refl hr
        · exact absurd rfl h3
      rcases hc with ⟨h3', _⟩ | ⟨x, y, ff, rfl, tx, ty, tf, hc⟩
      · exact absurd h3 (by omega)
      have i0 : atI [x, y, ff] 0 = some x := rfl
      have i1 : atI [x, y, ff] 1 = some y := rfl
      have i2 : atI [x, y, ff] 2 = some ff := rfl
      walk_at "g"
      refine g_ixA hp i0 ?_
      walk_at "g"
      have noStr : ∀ {u : V}, thing H' u → (∀ s, u ≠ .str s) → ∀ {R : VK}, R (.bl false) H' → rIsi K [u, .ty "str"] H' R := fun {u} tu hu {R} q => by
        rcases tu with rfl | ⟨b, rfl⟩ | ⟨i, rfl⟩ | ⟨s, rfl, _⟩ | ⟨q1, rfl, hq⟩
        · exact g_isiN kb_ns q
        · exact g_isiB kb_bs q
        · exact g_isiI kb_is q
        · exact absurd rfl (hu s)
        · exact g_isiR hq (.inr (.inl rfl)) q
      by_cases hxs : ∀ s, x ≠ .str s
      · refine noStr tx hxs ?_
        walk_at "g"
        rcases hc with ⟨_, hr⟩ | ⟨z, e, _⟩
        · exact no _ XT.refl hr
        · exact absurd e (hxs z)
      obtain ⟨z, rfl⟩ : ∃ z, x = .str z := Classical.byContradiction fun h => hxs fun s e => h ⟨s, e⟩
      have hzl : z.cps.toList.length = z.length := Array.length_toList
      obtain ⟨z', ez, hz100⟩ : ∃ z', V.str z = .str z' ∧ z'.length ≤ 100 := by
        rcases tx with e | ⟨b, e⟩ | ⟨i, e⟩ | ⟨s, e, h⟩ | ⟨q1, e, hq⟩
        · cases e
        · cases e
        · cases e
        · exact ⟨s, e, h⟩
        · cases e
      injection ez with ez
      subst ez
      refine g_isiS kb_ss ?_
      walk_at "g"
      refine g_ixA hp i1 ?_
      walk_at "g"
      by_cases hys : ∀ s, y ≠ .str s
      · refine noStr ty hys ?_
        walk_at "g"
        rcases hc with ⟨_, hr⟩ | ⟨z1, e, hz1, ⟨_, _, hr⟩ | ⟨kk, e2, _⟩⟩
        · exact no _ XT.refl hr
        · exact no _ XT.refl hr
        · exact absurd e2 (hys _)
      obtain ⟨ys, rfl⟩ : ∃ z, y = .str z := Classical.byContradiction fun h => hys fun s e => h ⟨s, e⟩
      refine g_isiS kb_ss ?_
      walk_at "g"
      have hz0 : badNm (.str z) → ¬ nameP z := fun h n => by
        have := h.no
        rw [nameB_str.mpr n] at this
        cases this
      have fin : ∀ H1, XT H' H1 → (¬ nameP z ∨ z ∈ xs) → Q (.bl false) H1 := fun H1 x1 h => by
        rcases hc with ⟨_, hr⟩ | ⟨z1, e, hz1, hc⟩
        · exact no _ x1 hr
        · injection e with e
          subst e
          have hm : z ∈ xs := h.resolve_left fun h => h hz1
          rcases hc with ⟨_, _, hr⟩ | ⟨kk, e2, ⟨_, hr⟩ | ⟨b, _, hr⟩⟩
          · exact no _ x1 hr
          · exact no _ x1 hr
          · have := k _ x1
            rw [hr] at this
            have e3 : colB xs (some (z, kk, b)) = false := by
              show (!decide (z ∈ xs)) = false
              rw [decide_eq_true hm]; rfl
            rw [e3] at this
            exact this
      refine g_ixA hp i0 ?_
      walk_at "g"
      refine g_lenS (by rw [sizeLine_eq]; omega) ?_
      walk_at "g"
      refine g_dec (fun h0 => ?_) (fun h0 => ?_)
      · walk_at "g"
        exact fin _ XT.refl (.inl fun n => n.1 (by omega))
      walk_at "g"
      refine g_ixA hp i0 ?_
      walk_at "g"
      refine g_lenS (by rw [sizeLine_eq]; omega) ?_
      walk_at "g"
      refine g_dec (fun h8 => ?_) (fun h8 => ?_)
      · walk_at "g"
        exact fin _ XT.refl (.inl fun n => by have := n.2.1; omega)
      walk_at "g"
      refine g_ixA hp i0 ?_
      walk_at "g"
      refine .inr ⟨_, xs.map V.str, rfl, .inl (SqL.of hN), rfl, Tw.flat_strs _, ?_⟩
      rw [if_neg Bool.false_ne_true, inV_strs]
      walk_at "g"
      refine g_dec (fun hm => ?_) (fun hm => ?_)
      · walk_at "g"
        exact fin _ XT.refl (.inr hm)
      walk_at "g"
      refine g_ixA hp i0 ?_
      walk_at "g"
      refine g_dec (fun hi => ?_) (fun hi => ?_)
      · walk_at "g"
        exact fin _ XT.refl (.inl fun n => n.2.2.2.1 (by rw [hi]; decide +kernel))
      obtain ⟨c, rr, hcr⟩ : ∃ c r, z.cps.toList = c :: r := by
        cases e : z.cps.toList with
        | nil => rw [e] at hzl; simp at hzl; omega
        | cons c r => exact ⟨c, r, rfl⟩
      walk_at "g"
      refine g_ixA hp i0 ?_
      walk_at "g"
      refine g_ixS (n := c) (by rw [sizeLine_eq]; omega) (atI_nat (j := 0) (by rw [hcr]; rfl)) ?_
      walk_at "g"
      have hlet : (Str.ofString "abcdefghijklmnopqrstuvwxyz").cps.toList = letters := rfl
      rw [hlet]
      refine g_ndec (fun hl => ?_) (fun hl => ?_)
      · walk_at "g"
        exact fin _ XT.refl (.inl fun n => hl (n.2.2.1 c rr hcr))
      have hns : (Str.ofString "abcdefghijklmnopqrstuvwxyz" ++ Str.ofString "0123456789").cps.toList = nameSigns := by decide +kernel
      walk_at "g"
      refine g_ixA hp i0 ?_
      walk_at "g"
      intro L hL
      have hsz : (Str.ofString "abcdefghijklmnopqrstuvwxyz").length + (Str.ofString "0123456789").length ≤ sizeLine := by rw [sizeLine_eq]; decide +kernel
      refine lc_text (fun n => !decide (n ∈ nameSigns)) (fun n => .str ⟨#[n]⟩) (by omega) (fun n Hh R S hn hK hR hS => ?_) (fun H2 hK hL2 => ?_)
      · walk_at "g"
        refine ⟨rfl, ?_⟩
        walk_at "g"
        refine g_addS hsz ?_
        walk_at "g"
        rw [hns]
        refine g_split (fun h => ?_) (fun h => ?_)
        · walk_at "g"
          exact hR h
        · exact hS h
      have x2 : XT H' H2 := fun q o h => hK q o (ne_of_none h hL) h
      have e4 := none_badC (l := z.cps.toList) (p := fun n => decide (n ∈ nameSigns))
      walk_at "g"
      rw [show (decide ((0 : Int) < (((z.cps.toList.filter fun n => !decide (n ∈ nameSigns)).map fun n => V.str ⟨#[n]⟩).length : Int))) = !z.cps.toList.all fun n => decide (n ∈ nameSigns) from e4]
      refine g_nsplit (fun ha => ?_) (fun ha => ?_)
      · walk_at "g"
        refine fin _ x2 (.inl fun n => ?_)
        have : z.cps.toList.all (fun n => decide (n ∈ nameSigns)) = true := List.all_eq_true.mpr fun c hc => decide_eq_true (n.2.2.2.2 c hc)
        rw [this] at ha
        cases ha
      have hp2 := seq_keep0 hp x2
      have hall : ∀ c ∈ z.cps.toList, c ∈ nameSigns := fun c hc => of_decide_eq_true (List.all_eq_true.mp ha c hc)
      have nob : ¬ badNm (.str z) := fun h => by
        rcases h with h | ⟨z', e, h⟩
        · exact h z rfl
        · injection e with e
          subst e
          rcases h with h | h | h | ⟨c', r', h1, h2⟩ | ⟨c', h1, h2⟩
          · exact h0 (by omega)
          · exact h8 (by omega)
          · exact hi h
          · rw [hcr] at h1
            injection h1 with h1 _
            rw [← h1] at h2
            exact h2 hl
          · exact h2 (hall c' h1)
      rcases hc with ⟨hb, _⟩ | ⟨z1, e, hz1, hc⟩
      · exact absurd hb nob
      injection e with e
      subst e
      have nn : Str.ofString "number" ≠ Str.ofString "text" := by decide +kernel
      have i2' : atI [V.str z, V.str ys, ff] 2 = some ff := rfl
      walk_at "g"
      refine g_ixA hp2 i1 ?_
      walk_at "g"
      rcases hc with ⟨n1, n2, hr⟩ | ⟨kk, e2, hc⟩
      · rw [decide_eq_false (fun h : ys = Str.ofString "number" => n1 (by rw [h]))]
        walk_at "g"
        refine g_ixA hp2 i1 ?_
        walk_at "g"
        rw [decide_eq_false (fun h : ys = Str.ofString "text" => n2 (by rw [h]))]
        walk_at "g"
        exact no _ x2 hr
      injection e2 with e2
      subst e2
      have flag : ∀ {R : VK}, (∀ b, colB xs r = b → R (.bl b) H2) → rIsi K [ff, .ty "bool"] H2 R := fun {R} hR => by
        rcases hc with ⟨nb, hr⟩ | ⟨b, hb, hr⟩
        · have hR' : R (.bl false) H2 := hR false (by rw [hr]; rfl)
          rcases tf.keep x2 with rfl | ⟨b, rfl⟩ | ⟨i, rfl⟩ | ⟨s, rfl, _⟩ | ⟨q1, rfl, hq⟩
          · exact g_isiN kb_nb hR'
          · exact absurd rfl (nb b)
          · exact g_isiI kb_ib hR'
          · exact g_isiS kb_sb hR'
          · exact g_isiR hq (.inr (.inr rfl)) hR'
        · subst hb
          refine g_isiB kb_bb (hR true ?_)
          rw [hr]
          show (!decide (z ∈ xs)) = true
          rw [decide_eq_false hm]; rfl
      have done : ∀ b, colB xs r = b → Q (.bl b) H2 := fun b e => by
        have := k _ x2
        rw [e] at this
        exact this
      cases kk with
      | false =>
        have e5 : kS false = Str.ofString "number" := rfl
        rw [e5, decide_eq_true (rfl : Str.ofString "number" = Str.ofString "number")]
        walk_at "g"
        refine g_ixA hp2 i2' ?_
        walk_at "g"
        exact flag fun b e => by walk_at "g"; exact done b e
      | true =>
        have e5 : kS true = Str.ofString "text" := rfl
        rw [e5, decide_eq_false (Ne.symm nn)]
        walk_at "g"
        refine g_ixA hp2 (v := .str (kS true)) rfl ?_
        walk_at "g"
        rw [e5, decide_eq_true (rfl : Str.ofString "text" = Str.ofString "text")]
        walk_at "g"
        refine g_ixA hp2 (v := ff) rfl ?_
        walk_at "g"
        exact flag fun b e => by walk_at "g"; exact done b e
end
section
variable {P : Program} {w : World} {K : PySem.W.Frag} {mg : Str → Option Value} {base : Heap}
theorem ok__law_due (T : Txt K mg) : Def P w K mg base 2 "_law_due" ["_law_columns"] (fun vs H Q _ => ∃ (L : Addr) (xs : List V) (rs : List (Option Col)), vs = [.ref L] ∧ H L = some (.lst xs) ∧ xs.length = rs.length ∧ xs.length ≤ 100 ∧ (∀ (i : Nat) x r, xs[i]? = some x → rs[i]? = some r → CAt H x r) ∧ ∀ H', XT H H' → Q (fV (dueC (some rs))) H') := by
  obtain ⟨f, fd, h⟩ := T.d__law_due
  refine h.def (Fun.okM h.fn sc__law_due (fun vs H Q E h => ?_) (fun cdv A outer s H vs Q E hr h => ?_))
  · obtain ⟨L, xs, rs, rfl, _⟩ := h
    rfl
  · obtain ⟨L, xs, rs, rfl, hL, hl, hl100, hs, k⟩ := h
    refine ⟨_, (pss_cons (ps_if (PW.pt (pw_or (pt_cmpR op_ltG (pe_callB (call_lenG (K := K) rfl) (by rfl) T.h_len (by decide +kernel) (pa_cons (pv 0) pa_nil)) pe_int (nomark _)) (pw_or1 (pt_cmpR op_gtG (pe_callB (call_lenG (K := K) rfl) (by rfl) T.h_len (by decide +kernel) (pa_cons (pv 0) pa_nil)) pe_int (nomark _)))))
  (pss_one (ps_ret (pe_un un_negG pe_int)))
  pss_nil)
  (pss_cons (ps_set (i := 1) sc__law_due.nd rfl (Or.inl rfl) (pe_lst pa_nil))
  (pss_cons (ps_for PassesOwn.never rfl (pi_range1 rfl T.h_range (pa_cons (pe_callB (call_lenG (K := K) rfl) (by rfl) T.h_len (by decide +kernel) (pa_cons (pv 0) pa_nil)) pa_nil)) (pg_name (i := 2) sc__law_due.nd rfl (Or.inl rfl))
  (pss_cons (ps_if (pt_not (pt_val (pe_def (ok__law_is_column T) hr rfl (pa_cons (pe_ix (ix_seqG (K := K) rfl) (pv 0) (pv 2) (fun _ _ => rfl)) (pa_cons (pv 1) pa_nil)))))
  (pss_one (ps_ret (pv 2)))
  pss_nil)
  (pss_one (ps_expr (pe_bm PySem.F.plainAttrs_list PySem.F.slot_list_append PySem.F.type_list_append mt_append (pv 1) (pa_cons (pe_ix (ix_seqG (K := K) rfl) (pe_ix (ix_seqG (K := K) rfl) (pv 0) (pv 2) (fun _ _ => rfl)) pe_int (fun _ _ => rfl)) pa_nil))))))
  (pss_one (ps_ret pe_non))))), ?_⟩
    walk_at "g"
    have short : (xs.length < 1 ∨ 12 < xs.length) → Q (.int (-1)) H := fun h => by
      have := k _ XT.refl
      rw [dueC_bad (by omega)] at this
      exact this
    refine g_dec (fun h0 => ?_) (fun h0 => ?_)
    · walk_at "g"
      exact short (by omega)
    walk_at "g"
    refine g_dec (fun h4 => ?_) (fun h4 => ?_)
    · walk_at "g"
      exact short (by omega)
    have hd : dueC (some rs) = (badC [] 0 rs).map Int.ofNat := dueC_len (by omega)
    walk_at "g"
    refine ⟨Nat.zero_le _, fun N hN => ?_⟩
    have hHN : H N = none := hN
    have x2 : XT H (upd H N (.lst [])) := XT.refl.new hN
    have e2 : (upd H N (.lst [])) N = some (.lst []) := upd_same
    have hL2 := x2 _ _ hL
    generalize upd H N (.lst []) = H2 at x2 e2 hL2
    walk_at "g"
    refine ⟨_, rfl, by omega, by omega, ?_⟩
    refine for_rangeA (fun i σ' H' => ∃ (s2 : Option V) (cs : List Col), σ' = [some (.ref L), some (.ref N), s2] ∧ XT H H' ∧ H' N = some (.lst ((cs.map (·.1)).map V.str)) ∧ cs.length ≤ i ∧ rs.take i = cs.map some ∧ badC [] 0 rs = badC (cs.map (·.1)) i (rs.drop i)) ⟨none, [], rfl, x2, e2, Nat.le_refl _, rfl, rfl⟩ ?_ ?_
    · rintro i σ' H3 D' hi ⟨s2, cs, rfl, x3, e3, hcl, htk, hbad⟩ hnx hct hbk hrt
      have hil : i < xs.length := by simpa using hi
      have e0 : (0 + (i : Int)) = ((i : Nat) : Int) := Int.zero_add _
      obtain ⟨v, hv⟩ : ∃ v, xs[i]? = some v := ⟨_, List.getElem?_eq_getElem hil⟩
      obtain ⟨ro, hro⟩ : ∃ ro, rs[i]? = some ro := ⟨_, List.getElem?_eq_getElem (by omega)⟩
      have edr : rs.drop i = ro :: rs.drop (i + 1) := by
        rw [List.drop_eq_getElem_cons (by omega)]
        congr 1
        exact Option.some.inj (by rw [← hro, List.getElem?_eq_getElem (by omega)])
      have hpt := (hs i v ro hv hro).keep x3
      have ix : atI xs (0 + (i : Int)) = some v := by rw [e0]; exact atI_nat hv
      have out : ∀ H', XT H H' → badC [] 0 rs = some i → Q (.int (0 + (i : Int))) H' := fun H' x e => by
        have := k _ x
        rw [hd, e] at this
        rw [e0]
        exact this
      have hL3 := x3 _ _ hL
      walk_at "g"
      refine g_ixL (SqL.of hL3) ix ?_
      walk_at "g"
      refine ⟨v, N, cs.map (·.1), ro, rfl, hpt, e3, fun H4 x4 => ?_⟩
      have x34 := x3.trans x4
      cases ro with
      | none =>
        rw [show colB (cs.map (·.1)) none = false from rfl]
        walk_at "g"
        rw [hrt]
        exact out _ x34 (by rw [hbad, edr]; rfl)
      | some c =>
        by_cases hm : c.1 ∈ cs.map (·.1)
        · rw [show colB (cs.map (·.1)) (some c) = false from by show (!decide (c.1 ∈ cs.map (·.1))) = false; rw [decide_eq_true hm]; rfl]
          walk_at "g"
          rw [hrt]
          exact out _ x34 (by rw [hbad, edr, badC_in hm])
        · rw [show colB (cs.map (·.1)) (some c) = true from by show (!decide (c.1 ∈ cs.map (·.1))) = true; rw [decide_eq_false hm]; rfl]
          cases hpt.keep x4 with
          | ok hq hz =>
          rename_i q
          have hL4 := x4 _ _ hL3
          have e4 := x4 _ _ e3
          walk_at "g"
          refine g_ixL (SqL.of hL4) ix ?_
          walk_at "g"
          refine g_ixA hq (v := .str c.1) (show atI (ct c) 0 = some (.str c.1) from rfl) ?_
          have hcl13 : cs.length < 13 := by omega
          walk_at "g"
          refine hnx _ _ ⟨_, cs ++ [c], rfl, fun q o h => ?_, ?_, by rw [List.length_append]; show _ + 1 ≤ _; omega, ?_, ?_⟩
          · rw [upd_ne (fun z => by rw [z, hHN] at h; cases h)]
            exact x34 _ _ h
          · rw [upd_same, List.map_append, List.map_append]
            rfl
          · rw [List.take_succ, hro, htk, List.map_append]
            rfl
          · rw [hbad, edr, badC_step hm, List.map_append]
            rfl
    · rintro σ' H3 ⟨s2, cs, rfl, x3, e3, hcl, htk, hbad⟩
      walk_at "g"
      have := k _ x3
      rw [hd, hbad, List.drop_of_length_le (by omega)] at this
      exact this
end
theorem bn_0 : badNm (.str (Str.ofString "")) := .inr ⟨_, rfl, .inl (by decide +kernel)⟩
theorem bn_A : badNm (.str (Str.ofString "A")) := .inr ⟨_, rfl, .inr (.inr (.inr (.inl ⟨65, [], by decide +kernel, by decide +kernel⟩)))⟩
theorem bn_in : badNm (.str (Str.ofString "in")) := .inr ⟨_, rfl, .inr (.inr (.inl rfl))⟩
theorem bn_9 : badNm (.str (Str.ofString "abcdefghi")) := .inr ⟨_, rfl, .inr (.inl (by decide +kernel))⟩
theorem bn_ab : badNm (.str (Str.ofString "a-b")) := .inr ⟨_, rfl, .inr (.inr (.inr (.inr ⟨45, by decide +kernel, by decide +kernel⟩)))⟩
theorem thS {H : Hp} {z : Str} (h : z.length ≤ 100) : thing H (.str z) := .inr (.inr (.inr (.inl ⟨z, rfl, h⟩)))
section
variable {P : Program} {w : World} {K : PySem.W.Frag} {mg : Str → Option Value} {base : Heap}
theorem ok__law_spoiled (T : Txt K mg) : Def P w K mg base 2 "_law_spoiled" ["_law_draw", "_law_column", "_law_names"] (fun vs H Q _ => ∃ (d sc : Addr) (ns : List Int) (t N L : Addr) (c : Col) (xs : List Str), vs = [.ref d, .ref t, .ref N] ∧ Dr H d sc ns ∧ (H t = some (.lst (ct c)) ∨ H t = some (.tup (ct c))) ∧ t ≠ d ∧ nameP c.1 ∧ H N = some (.lst (xs.map V.str)) ∧ N ≠ d ∧ (∀ z ∈ xs, nameP z) ∧ xs.length ≤ 20 ∧ (∃ o, H L = some o) ∧ L ≠ d ∧
    ∀ v r H', CAt H' v r → v ≠ .ref L → v ≠ .ref d → Dr H' d sc ns → Keep d H H' → Q v H') := by
  obtain ⟨f, fd, h⟩ := T.d__law_spoiled
  refine h.def (Fun.okM h.fn sc__law_spoiled (fun vs H Q E h => ?_) (fun cdv A outer s H vs Q E hr h => ?_))
  · obtain ⟨d, sc, ns, t, N, L, c, xs, rfl, _⟩ := h
    rfl
  · obtain ⟨d, sc, ns, t, N, L, c, xs, rfl, hD, ht, htd, hcn, hN, hNd, hxs, hxl, ⟨oL, hL⟩, hLd, k⟩ := h
    refine ⟨_, (pss_cons (ps_set (i := 3) sc__law_spoiled.nd rfl (Or.inl rfl) (pe_def (ok__law_take T) hr rfl (pa_cons (pv 0) (pa_cons pe_int pa_nil))))
  (pss_cons (ps_if (pt_cmpR op_eq (pv 3) pe_int (nomark _))
  (pss_one (ps_ret (pe_ix (ix_seqG (K := K) rfl) (pe_lst (pa_cons pe_non (pa_cons pe_int (pa_cons pe_str (pa_cons pe_dnewK (pa_cons pe_bl pa_nil)))))) (pe_def (ok__law_take T) hr rfl (pa_cons (pv 0) (pa_cons pe_int pa_nil))) (fun _ _ => rfl))))
  pss_nil)
  (pss_cons (ps_if (pt_cmpR op_eq (pv 3) pe_int (nomark _))
  (pss_one (ps_ret (pe_tup (pa_cons (pe_ix (ix_seqG (K := K) rfl) (pv 1) pe_int (fun _ _ => rfl)) (pa_cons (pe_ix (ix_seqG (K := K) rfl) (pv 1) pe_int (fun _ _ => rfl)) pa_nil)))))
  pss_nil)
  (pss_cons (ps_if (pt_cmpR op_eq (pv 3) pe_int (nomark _))
  (pss_one (ps_ret (pe_lst (pa_cons (pe_ix (ix_seqG (K := K) rfl) (pv 1) pe_int (fun _ _ => rfl)) (pa_cons (pe_ix (ix_seqG (K := K) rfl) (pv 1) pe_int (fun _ _ => rfl)) (pa_cons (pe_ix (ix_seqG (K := K) rfl) (pv 1) pe_int (fun _ _ => rfl)) (pa_cons pe_bl pa_nil)))))))
  pss_nil)
  (pss_cons (ps_if (pt_cmpR op_eq (pv 3) pe_int (nomark _))
  (pss_one (ps_ret (pe_tup (pa_cons (pe_ix (ix_seqG (K := K) rfl) (pe_lst (pa_cons pe_str (pa_cons pe_str (pa_cons pe_str (pa_cons pe_non (pa_cons pe_int (pa_cons (pe_lst pa_nil) (pa_cons pe_str (pa_cons pe_str pa_nil))))))))) (pe_def (ok__law_take T) hr rfl (pa_cons (pv 0) (pa_cons pe_int pa_nil))) (fun _ _ => rfl)) (pa_cons (pe_ix (ix_seqG (K := K) rfl) (pv 1) pe_int (fun _ _ => rfl)) (pa_cons (pe_ix (ix_seqG (K := K) rfl) (pv 1) pe_int (fun _ _ => rfl)) pa_nil))))))
  pss_nil)
  (Evl.pss_cut (ps_if (PW.pt (pw_and (pt_cmpR op_eq (pv 3) pe_int (nomark _)) (pw_and1 (pt_cmpR op_gtG (pe_callB (call_lenG (K := K) rfl) (by rfl) T.h_len (by decide +kernel) (pa_cons (pv 2) pa_nil)) pe_int (nomark _)))))
  (pss_one (ps_ret (pe_tup (pa_cons (pe_ix (ix_seqG (K := K) rfl) (pv 2) (pe_def (ok__law_take T) hr rfl (pa_cons (pv 0) (pa_cons (pe_callB (call_lenG (K := K) rfl) (by rfl) T.h_len (by decide +kernel) (pa_cons (pv 2) pa_nil)) pa_nil))) (fun _ _ => rfl)) (pa_cons (pe_ix (ix_seqG (K := K) rfl) (pv 1) pe_int (fun _ _ => rfl)) (pa_cons (pe_ix (ix_seqG (K := K) rfl) (pv 1) pe_int (fun _ _ => rfl)) pa_nil))))))
  pss_nil)
  (pss_cons (ps_if (pt_cmpR op_eq (pv 3) pe_int (nomark _))
  (pss_one (ps_ret (pe_lst (pa_cons (pe_ix (ix_seqG (K := K) rfl) (pv 1) pe_int (fun _ _ => rfl)) (pa_cons (pe_ix (ix_seqG (K := K) rfl) (pe_lst (pa_cons pe_str (pa_cons pe_str (pa_cons pe_non (pa_cons (pe_lst pa_nil) (pa_cons pe_str (pa_cons pe_int pa_nil))))))) (pe_def (ok__law_take T) hr rfl (pa_cons (pv 0) (pa_cons pe_int pa_nil))) (fun _ _ => rfl)) (pa_cons (pe_ix (ix_seqG (K := K) rfl) (pv 1) pe_int (fun _ _ => rfl)) pa_nil))))))
  pss_nil)
  (pss_one (ps_ret (pe_tup (pa_cons (pe_ix (ix_seqG (K := K) rfl) (pv 1) pe_int (fun _ _ => rfl)) (pa_cons (pe_ix (ix_seqG (K := K) rfl) (pv 1) pe_int (fun _ _ => rfl)) (pa_cons (pe_ix (ix_seqG (K := K) rfl) (pe_lst (pa_cons pe_int (pa_cons pe_int (pa_cons pe_non (pa_cons pe_str (pa_cons (pe_lst pa_nil) pa_nil)))))) (pe_def (ok__law_take T) hr rfl (pa_cons (pv 0) (pa_cons pe_int pa_nil))) (fun _ _ => rfl)) pa_nil))))))))))))), ?_⟩
    have i0 : atI (ct c) 0 = some (.str c.1) := rfl
    have i1 : atI (ct c) 1 = some (.str (kS c.2.1)) := rfl
    have i2 : atI (ct c) 2 = some (.bl c.2.2) := rfl
    have seqK : ∀ {H1 H2 : Hp}, Keep d H1 H2 → (H1 t = some (.lst (ct c)) ∨ H1 t = some (.tup (ct c))) → (H2 t = some (.lst (ct c)) ∨ H2 t = some (.tup (ct c))) := fun kk h => h.elim (fun h => .inl (kk _ _ htd h)) fun h => .inr (kk _ _ htd h)
    walk_at "g"
    refine ⟨d, sc, ns, 8, rfl, hD, by decide, by decide, fun r H1 r0 r1 D1 K1 => ?_⟩
    have ht1 := seqK K1 ht
    have hN1 := K1 _ _ hNd hN
    have hL1 := K1 _ _ hLd hL
    have nL : ∀ {H' : Hp} {q : Addr}, Keep d H H' → H' q = none → V.ref q ≠ .ref L := fun {H' q} kk hq e => by
      injection e with e
      rw [e, kk _ _ hLd hL] at hq
      cases hq
    have nd : ∀ {H' : Hp} {q : Addr}, Dr H' d sc ns → H' q = none → V.ref q ≠ .ref d := fun D hq e => (D.ne hq).1 (by injection e)
    walk_at "g"
    refine g_dec (fun h0 => ?_) (fun h0 => ?_)
    · walk_at "g"
      intro dk hdk
      have D2 := D1.new (o := .dK []) hdk
      have K2 := K1.new (o := .dK []) (K1.back (D1.ne hdk).1 hdk)
      have nk := nL K1 hdk
      have dkd := (D1.ne hdk).1
      have e2 : (upd H1 dk (.dK [])) dk = some (.dK []) := upd_same
      generalize upd H1 dk (.dK []) = H2 at D2 K2 e2 ⊢
      walk_at "g"
      refine ⟨by show 5 ≤ sizeLine; decide, fun l hl => ?_⟩
      have nld := (D2.ne hl).1
      have D3 := D2.new (o := .lst [.non, .int 5, .str (Str.ofString "ab"), .ref dk, .bl true]) hl
      have K3 := K2.new (o := .lst [.non, .int 5, .str (Str.ofString "ab"), .ref dk, .bl true]) (K2.back nld hl)
      have e3 : (upd H2 l (.lst [.non, .int 5, .str (Str.ofString "ab"), .ref dk, .bl true])) dk = some (.dK []) := by rw [upd_ne (ne_of_none e2 hl)]; exact e2
      have f3 : (upd H2 l (.lst [.non, .int 5, .str (Str.ofString "ab"), .ref dk, .bl true])) l = some (.lst [.non, .int 5, .str (Str.ofString "ab"), .ref dk, .bl true]) := upd_same
      generalize upd H2 l (.lst [.non, .int 5, .str (Str.ofString "ab"), .ref dk, .bl true]) = H3 at D3 K3 e3 f3 ⊢
      walk_at "g"
      refine ⟨d, sc, ns, 5, rfl, D3, by decide, by decide, fun r5 H4 r50 r51 D4 K4 => ?_⟩
      have e4 := K4 _ _ dkd e3
      have f4 := K4 _ _ nld f3
      have K04 := K3.trans K4
      obtain ⟨v, hv, hTv, hvL, hvd⟩ : ∃ v, atI [V.non, .int 5, .str (Str.ofString "ab"), .ref dk, .bl true] r5 = some v ∧ CAt H4 v none ∧ v ≠ .ref L ∧ v ≠ .ref d := by
        have : r5 = 0 ∨ r5 = 1 ∨ r5 = 2 ∨ r5 = 3 ∨ r5 = 4 := by omega
        rcases this with rfl | rfl | rfl | rfl | rfl
        · exact ⟨_, rfl, .nos (by decide) .non (by decide) (by decide), (fun e => nomatch e), (fun e => nomatch e)⟩
        · exact ⟨_, rfl, .nos (by decide) (.int _) (by decide) (by decide), (fun e => nomatch e), (fun e => nomatch e)⟩
        · exact ⟨_, rfl, .nos (by decide) (.str _) (by decide) (by decide), (fun e => nomatch e), (fun e => nomatch e)⟩
        · exact ⟨_, rfl, .nos (by decide) (.dct e4) (by decide) (by decide), nk, fun e => dkd (by injection e)⟩
        · exact ⟨_, rfl, .nos (by decide) (.bl _) (by decide) (by decide), (fun e => nomatch e), (fun e => nomatch e)⟩
      refine g_ixL (SqL.of f4) hv ?_
      walk_at "g"
      exact k _ _ _ hTv hvL hvd D4 K04
    walk_at "g"
    refine g_dec (fun h1 => ?_) (fun h1 => ?_)
    · walk_at "g"
      refine g_ixA ht1 i0 ?_
      walk_at "g"
      refine g_ixA ht1 i1 ?_
      walk_at "g"
      refine ⟨by show 2 ≤ sizeLine; decide, fun q hq => ?_⟩
      exact k _ _ _ (.len (.inr upd_same) (by show 2 ≠ 3; decide)) (nL K1 hq) (nd D1 hq) (D1.new hq) (K1.new (K1.back (D1.ne hq).1 hq))
    walk_at "g"
    refine g_dec (fun h2 => ?_) (fun h2 => ?_)
    · walk_at "g"
      refine g_ixA ht1 i0 ?_
      walk_at "g"
      refine g_ixA ht1 i1 ?_
      walk_at "g"
      refine g_ixA ht1 i2 ?_
      walk_at "g"
      refine ⟨by show 4 ≤ sizeLine; decide, fun q hq => ?_⟩
      exact k _ _ _ (.len (.inl upd_same) (by show 4 ≠ 3; decide)) (nL K1 hq) (nd D1 hq) (D1.new hq) (K1.new (K1.back (D1.ne hq).1 hq))
    walk_at "g"
    refine g_dec (fun h3 => ?_) (fun h3 => ?_)
    · walk_at "g"
      refine ⟨Nat.zero_le _, fun l0 hl0 => ?_⟩
      have n0 := (D1.ne hl0).1
      have D2 := D1.new (o := .lst []) hl0
      have K2 := K1.new (o := .lst []) (K1.back n0 hl0)
      have e2 : (upd H1 l0 (.lst [])) l0 = some (.lst []) := upd_same
      generalize upd H1 l0 (.lst []) = H2 at D2 K2 e2 ⊢
      walk_at "g"
      refine ⟨by show 8 ≤ sizeLine; decide, fun l hl => ?_⟩
      obtain ⟨vs8, ev8⟩ : ∃ vs8 : List V, vs8 = [.str (Str.ofString ""), .str (Str.ofString "A"), .str (Str.ofString "in"), .non, .int 7, .ref l0, .str (Str.ofString "abcdefghi"), .str (Str.ofString "a-b")] := ⟨_, rfl⟩
      rw [← ev8]
      have nld := (D2.ne hl).1
      have D3 := D2.new (o := .lst vs8) hl
      have K3 := K2.new (o := .lst vs8) (K2.back nld hl)
      have e3 : (upd H2 l (.lst vs8)) l0 = some (.lst []) := by rw [upd_ne (ne_of_none e2 hl)]; exact e2
      have f3 : (upd H2 l (.lst vs8)) l = some (.lst vs8) := upd_same
      generalize upd H2 l (.lst vs8) = H3 at D3 K3 e3 f3 ⊢
      walk_at "g"
      refine ⟨d, sc, ns, 8, rfl, D3, by decide, by decide, fun r5 H4 r50 r51 D4 K4 => ?_⟩
      have e4 := K4 _ _ n0 e3
      have f4 := K4 _ _ nld f3
      have K04 := K3.trans K4
      have ht4 := seqK K04 ht
      obtain ⟨x, hv, hx, hb⟩ : ∃ x, atI vs8 r5 = some x ∧ thing H4 x ∧ badNm x := by
        subst ev8
        have : r5 = 0 ∨ r5 = 1 ∨ r5 = 2 ∨ r5 = 3 ∨ r5 = 4 ∨ r5 = 5 ∨ r5 = 6 ∨ r5 = 7 := by omega
        rcases this with rfl | rfl | rfl | rfl | rfl | rfl | rfl | rfl
        · exact ⟨_, rfl, thS (by decide +kernel), bn_0⟩
        · exact ⟨_, rfl, thS (by decide +kernel), bn_A⟩
        · exact ⟨_, rfl, thS (by decide +kernel), bn_in⟩
        · exact ⟨_, rfl, .inl rfl, .inl fun z e => nomatch e⟩
        · exact ⟨_, rfl, .inr (.inr (.inl ⟨_, rfl⟩)), .inl fun z e => nomatch e⟩
        · exact ⟨_, rfl, .inr (.inr (.inr (.inr ⟨_, rfl, .inl ⟨_, e4⟩⟩))), .inl fun z e => nomatch e⟩
        · exact ⟨_, rfl, thS (by decide +kernel), bn_9⟩
        · exact ⟨_, rfl, thS (by decide +kernel), bn_ab⟩
      refine g_ixL (SqL.of f4) hv ?_
      walk_at "g"
      refine g_ixA ht4 i1 ?_
      walk_at "g"
      refine g_ixA ht4 i2 ?_
      walk_at "g"
      refine ⟨by show 3 ≤ sizeLine; decide, fun q hq => ?_⟩
      exact k _ _ _ (.nam upd_same (hx.keep (XT.refl.new hq)) hb) (nL K04 hq) (nd D4 hq) (D4.new hq) (K04.new (K04.back (D4.ne hq).1 hq))
    walk_at "g"
    refine g_cutA (M := fun σ' H' => σ' = [some (.ref d), some (.ref t), some (.ref N), some (.int r)] ∧ H' = H1) (fun D' hn1 hrt _ _ => ?_) ?_
    · walk_at "g"
      refine g_dec (fun h4 => ?_) (fun h4 => ?_)
      · walk_at "g"
        rw [List.length_map]
        refine g_dec (fun hp => ?_) (fun hp => ?_)
        · walk_at "g"
          refine ⟨d, sc, ns, _, rfl, D1, by rw [List.length_map]; omega, Nat.lt_of_lt_of_le (PySem.Flt.log2_lt_of (k := 64) (by decide) (by rw [List.length_map]; omega)) (by decide), fun r5 H4 r50 r51 D4 K4 => ?_⟩
          rw [List.length_map] at r51
          have hN4 := K4 _ _ hNd hN1
          have K04 := K1.trans K4
          have ht4 := seqK K04 ht
          obtain ⟨z, hz, ez⟩ := Tw.atI_strs (ws := xs) r50 r51
          refine g_ixL (SqL.of hN4) ez ?_
          walk_at "g"
          refine g_ixA ht4 i1 ?_
          walk_at "g"
          refine g_ixA ht4 i2 ?_
          walk_at "g"
          refine ⟨by show 3 ≤ sizeLine; decide, fun q hq => ?_⟩
          rw [hrt]
          exact k _ _ _ (.ok (c := (z, c.2.1, c.2.2)) (.inr upd_same) (hxs z hz)) (nL K04 hq) (nd D4 hq) (D4.new hq) (K04.new (K04.back (D4.ne hq).1 hq))
        · walk_at "g"
          exact hn1 _ _ ⟨rfl, rfl⟩
      · walk_at "g"
        exact hn1 _ _ ⟨rfl, rfl⟩
    rintro σ' H' ⟨rfl, rfl⟩
    walk_at "g"
    refine g_dec (fun h5 => ?_) (fun h5 => ?_)
    · walk_at "g"
      refine g_ixA ht1 i0 ?_
      walk_at "g"
      refine ⟨Nat.zero_le _, fun l0 hl0 => ?_⟩
      have n0 := (D1.ne hl0).1
      have D2 := D1.new (o := .lst []) hl0
      have K2 := K1.new (o := .lst []) (K1.back n0 hl0)
      have e2 : (upd H' l0 (.lst [])) l0 = some (.lst []) := upd_same
      generalize upd H' l0 (.lst []) = H2 at D2 K2 e2 ⊢
      walk_at "g"
      refine ⟨by show 6 ≤ sizeLine; decide, fun l hl => ?_⟩
      obtain ⟨vs6, ev6⟩ : ∃ vs6 : List V, vs6 = [.str (Str.ofString "Number"), .str (Str.ofString ""), .non, .ref l0, .str (Str.ofString "texts"), .int 0] := ⟨_, rfl⟩
      rw [← ev6]
      have nld := (D2.ne hl).1
      have D3 := D2.new (o := .lst vs6) hl
      have K3 := K2.new (o := .lst vs6) (K2.back nld hl)
      have e3 : (upd H2 l (.lst vs6)) l0 = some (.lst []) := by rw [upd_ne (ne_of_none e2 hl)]; exact e2
      have f3 : (upd H2 l (.lst vs6)) l = some (.lst vs6) := upd_same
      generalize upd H2 l (.lst vs6) = H3 at D3 K3 e3 f3 ⊢
      walk_at "g"
      refine ⟨d, sc, ns, 6, rfl, D3, by decide, by decide, fun r5 H4 r50 r51 D4 K4 => ?_⟩
      have e4 := K4 _ _ n0 e3
      have f4 := K4 _ _ nld f3
      have K04 := K3.trans K4
      have ht4 := seqK K04 ht
      obtain ⟨x, hv, hx, hb1, hb2⟩ : ∃ x, atI vs6 r5 = some x ∧ thing H4 x ∧ x ≠ .str "number" ∧ x ≠ .str "text" := by
        subst ev6
        have ns : ∀ {a b : Str}, a ≠ b → V.str a ≠ V.str b := fun h e => h (by injection e)
        have : r5 = 0 ∨ r5 = 1 ∨ r5 = 2 ∨ r5 = 3 ∨ r5 = 4 ∨ r5 = 5 := by omega
        rcases this with rfl | rfl | rfl | rfl | rfl | rfl
        · exact ⟨_, rfl, thS (by decide +kernel), ns (by decide +kernel), ns (by decide +kernel)⟩
        · exact ⟨_, rfl, thS (by decide +kernel), ns (by decide +kernel), ns (by decide +kernel)⟩
        · exact ⟨_, rfl, .inl rfl, (fun e => nomatch e), (fun e => nomatch e)⟩
        · exact ⟨_, rfl, .inr (.inr (.inr (.inr ⟨_, rfl, .inl ⟨_, e4⟩⟩))), (fun e => nomatch e), (fun e => nomatch e)⟩
        · exact ⟨_, rfl, thS (by decide +kernel), ns (by decide +kernel), ns (by decide +kernel)⟩
        · exact ⟨_, rfl, .inr (.inr (.inl ⟨_, rfl⟩)), (fun e => nomatch e), (fun e => nomatch e)⟩
      refine g_ixL (SqL.of f4) hv ?_
      walk_at "g"
      refine g_ixA ht4 i2 ?_
      walk_at "g"
      refine ⟨by show 3 ≤ sizeLine; decide, fun q hq => ?_⟩
      exact k _ _ _ (.knd upd_same hcn (hx.keep (XT.refl.new hq)) hb1 hb2) (nL K04 hq) (nd D4 hq) (D4.new hq) (K04.new (K04.back (D4.ne hq).1 hq))
    · walk_at "g"
      refine g_ixA ht1 i0 ?_
      walk_at "g"
      refine g_ixA ht1 i1 ?_
      walk_at "g"
      refine ⟨Nat.zero_le _, fun l0 hl0 => ?_⟩
      have n0 := (D1.ne hl0).1
      have D2 := D1.new (o := .lst []) hl0
      have K2 := K1.new (o := .lst []) (K1.back n0 hl0)
      have e2 : (upd H' l0 (.lst [])) l0 = some (.lst []) := upd_same
      generalize upd H' l0 (.lst []) = H2 at D2 K2 e2 ⊢
      walk_at "g"
      refine ⟨by show 5 ≤ sizeLine; decide, fun l hl => ?_⟩
      obtain ⟨vs5, ev5⟩ : ∃ vs5 : List V, vs5 = [.int 1, .int 0, .non, .str (Str.ofString "True"), .ref l0] := ⟨_, rfl⟩
      rw [← ev5]
      have nld := (D2.ne hl).1
      have D3 := D2.new (o := .lst vs5) hl
      have K3 := K2.new (o := .lst vs5) (K2.back nld hl)
      have e3 : (upd H2 l (.lst vs5)) l0 = some (.lst []) := by rw [upd_ne (ne_of_none e2 hl)]; exact e2
      have f3 : (upd H2 l (.lst vs5)) l = some (.lst vs5) := upd_same
      generalize upd H2 l (.lst vs5) = H3 at D3 K3 e3 f3 ⊢
      walk_at "g"
      refine ⟨d, sc, ns, 5, rfl, D3, by decide, by decide, fun r5 H4 r50 r51 D4 K4 => ?_⟩
      have e4 := K4 _ _ n0 e3
      have f4 := K4 _ _ nld f3
      have K04 := K3.trans K4
      obtain ⟨x, hv, hx, hb⟩ : ∃ x, atI vs5 r5 = some x ∧ thing H4 x ∧ ∀ b, x ≠ .bl b := by
        subst ev5
        have : r5 = 0 ∨ r5 = 1 ∨ r5 = 2 ∨ r5 = 3 ∨ r5 = 4 := by omega
        rcases this with rfl | rfl | rfl | rfl | rfl
        · exact ⟨_, rfl, .inr (.inr (.inl ⟨_, rfl⟩)), fun b e => nomatch e⟩
        · exact ⟨_, rfl, .inr (.inr (.inl ⟨_, rfl⟩)), fun b e => nomatch e⟩
        · exact ⟨_, rfl, .inl rfl, fun b e => nomatch e⟩
        · exact ⟨_, rfl, thS (by decide +kernel), fun b e => nomatch e⟩
        · exact ⟨_, rfl, .inr (.inr (.inr (.inr ⟨_, rfl, .inl ⟨_, e4⟩⟩))), fun b e => nomatch e⟩
      refine g_ixL (SqL.of f4) hv ?_
      walk_at "g"
      refine ⟨by show 3 ≤ sizeLine; decide, fun q hq => ?_⟩
      exact k _ _ _ (.flg upd_same hcn (hx.keep (XT.refl.new hq)) hb) (nL K04 hq) (nd D4 hq) (D4.new hq) (K04.new (K04.back (D4.ne hq).1 hq))
end
theorem nodup_le {α : Type} [DecidableEq α] : ∀ {ys xs : List α}, ys.Nodup → (∀ y ∈ ys, y ∈ xs) → ys.length ≤ xs.length
  | [], _, _, _ => Nat.zero_le _
  | y :: ys, xs, nd, h => by
    obtain ⟨n1, n2⟩ := List.nodup_cons.mp nd
    have hy := h y List.mem_cons_self
    have h2 : ys.length ≤ (xs.erase y).length := nodup_le n2 fun z hz => (List.mem_erase_of_ne (fun e : z = y => n1 (by rw [← e]; exact hz))).mpr (h z (List.mem_cons_of_mem _ hz))
    rw [List.length_erase_of_mem hy] at h2
    have := List.length_pos_of_mem hy
    simp
    omega
def digS (k : Nat) : Str := Str.ofString (toString (k : Int))
theorem dig_inj : ((List.range 60).map digS).Nodup := by decide +kernel
theorem dig_ok : ∀ k ∈ List.range 60, (digS k).length ≤ 2 ∧ (digS k).length ≠ 0 ∧ (∀ c ∈ (digS k).cps.toList, c ∈ nameSigns ∧ c < 97) := by decide +kernel
theorem kept_big : ∀ z ∈ keptWords, ∀ c ∈ z.cps.toList, 97 ≤ c := by decide +kernel
theorem app_inj {z a b : Str} (h : z ++ a = z ++ b) : a = b := by
  refine str_ext ?_
  have h2 := congrArg (fun s : Str => s.cps.toList) h
  simp only [PySem.W.KT.app_list] at h2
  exact List.append_cancel_left h2
theorem pick_at {ws : List Nat} {m : Nat} (hw : ws.length = m) {r : Int} (r0 : 0 ≤ r) (r1 : r < (m : Int)) : ∃ c, c ∈ ws ∧ atI ws r = some c := by
  obtain ⟨k4, rfl⟩ := Int.eq_ofNat_of_zero_le r0
  have hk : k4 < ws.length := by omega
  exact ⟨_, List.getElem_mem hk, atI_nat (List.getElem?_eq_getElem hk)⟩
/-- a name but for the words that are kept -/
def preP (z : Str) : Prop := z.length ≠ 0 ∧ z.length ≤ 8 ∧ (∀ c r, z.cps.toList = c :: r → c ∈ letters) ∧ ∀ c ∈ z.cps.toList, c ∈ nameSigns
def spName : Sp := fun vs H Q _ => ∃ (d sc : Addr) (ns : List Int) (L : Addr) (xs : List Str), vs = [.ref d, .ref L] ∧ Dr H d sc ns ∧ L ≠ d ∧ H L = some (.lst (xs.map V.str)) ∧ xs.length < 60 ∧ ∀ z H', nameP z → z ∉ xs → Dr H' d sc ns → Keep d H H' → Q (.str z) H'
section
variable {P : Program} {w : World} {K : PySem.W.Frag} {mg : Str → Option Value} {base : Heap}
theorem ok__law_name (T : Txt K mg) : Def P w K mg base 2 "_law_name" ["_law_draw", "_law_taken"] spName := by
  obtain ⟨f, fd, h⟩ := T.d__law_name
  refine h.def (Fun.okM h.fn sc__law_name (fun vs H Q E h => ?_) (fun cdv A outer s H vs Q E hr h => ?_))
  · obtain ⟨d, sc, ns, L, xs, rfl, _⟩ := h
    rfl
  · obtain ⟨d, sc, ns, L, xs, rfl, hD, hLd, hL, hx, k⟩ := h
    refine ⟨_, (pss_cons (ps_set (i := 2) sc__law_name.nd rfl (Or.inl rfl) pe_str)
  (pss_cons (ps_set (i := 3) sc__law_name.nd rfl (Or.inl rfl) (pe_op op_addG (pv 2) pe_str))
  (pss_cons (ps_set (i := 4) sc__law_name.nd rfl (Or.inl rfl) (pe_ix (ix_seqG (K := K) rfl) (pv 2) (pe_def (ok__law_take T) hr rfl (pa_cons (pv 0) (pa_cons pe_int pa_nil))) (fun _ _ => rfl)))
  (pss_cons (ps_for PassesOwn.never rfl (pi_range1 rfl T.h_range (pa_cons (pe_def (ok__law_take T) hr rfl (pa_cons (pv 0) (pa_cons pe_int pa_nil))) pa_nil)) (pg_name (i := 5) sc__law_name.nd rfl (Or.inl rfl))
  (pss_one (ps_set (i := 4) sc__law_name.nd rfl (Or.inl rfl) (pe_op op_addG (pv 4) (pe_ix (ix_seqG (K := K) rfl) (pv 3) (pe_def (ok__law_take T) hr rfl (pa_cons (pv 0) (pa_cons pe_int pa_nil))) (fun _ _ => rfl))))))
  (pss_cons (ps_set (i := 6) sc__law_name.nd rfl (Or.inl rfl) (pe_lst (pa_cons pe_str (pa_cons pe_str (pa_cons pe_str (pa_cons pe_str (pa_cons pe_str (pa_cons pe_str (pa_cons pe_str (pa_cons pe_str (pa_cons pe_str (pa_cons pe_str pa_nil))))))))))))
  (pss_cons (ps_if (PW.pt (pw_or (pt_cmpR (op_inG (K := K) rfl) (pv 4) (pv 6) (by rfl)) (pw_or1 (pt_cmpR (op_inG (K := K) rfl) (pv 4) (pv 1) (by rfl)))))
  (pss_cons (ps_set (i := 4) sc__law_name.nd rfl (Or.inl rfl) (pe_slice (sl_G (K := K) rfl) (pv 4) po_none (po_some pe_int)))
  (pss_one (ps_for PassesOwn.never rfl (pi_range1 rfl T.h_range (pa_cons pe_int pa_nil)) (pg_name (i := 5) sc__law_name.nd rfl (Or.inl rfl))
  (pss_one (ps_if (pt_cmpR (op_notInG (K := K) rfl) (pe_op op_addG (pv 4) (pe_callTy call_str_int (by rfl) T.h_str (by decide +kernel) (pa_cons (pv 5) pa_nil))) (pv 1) (by rfl))
  (pss_one (ps_ret (pe_op op_addG (pv 4) (pe_callTy call_str_int (by rfl) T.h_str (by decide +kernel) (pa_cons (pv 5) pa_nil)))))
  pss_nil)))))
  pss_nil)
  (pss_one (ps_ret (pv 4))))))))), ?_⟩
    walk_at "g"
    have hll : letters.length = 26 := by decide +kernel
    have hnl : nameSigns.length = 36 := by decide +kernel
    have hns : (Str.ofString "abcdefghijklmnopqrstuvwxyz" ++ Str.ofString "0123456789").cps.toList = nameSigns := by decide +kernel
    have hsl : (Str.ofString "abcdefghijklmnopqrstuvwxyz" ++ Str.ofString "0123456789").length = 36 := by decide +kernel
    have hlet : (Str.ofString "abcdefghijklmnopqrstuvwxyz").cps.toList = letters := rfl
    have hlt : (Str.ofString "abcdefghijklmnopqrstuvwxyz").length = 26 := by decide +kernel
    refine g_addS (by decide +kernel) ?_
    generalize hS : Str.ofString "abcdefghijklmnopqrstuvwxyz" ++ Str.ofString "0123456789" = sg at hns hsl ⊢
    generalize hT : Str.ofString "abcdefghijklmnopqrstuvwxyz" = lt at hlet hlt ⊢
    walk_at "g"
    refine ⟨_, _, _, _, rfl, hD, by decide, by decide +kernel, fun r H1 r0 r1 D1 K1 => ?_⟩
    obtain ⟨c0, hc0, hat0⟩ := pick_at (ws := letters) hll r0 r1
    refine g_ixS (n := c0) (by rw [hlt]; decide) (by rw [hlet]; exact hat0) ?_
    walk_at "g"
    refine ⟨_, _, _, _, rfl, D1, by decide, by decide +kernel, fun r2 H2 r20 r21 D2 K2 => ?_⟩
    refine ⟨_, rfl, by omega, by omega, ?_⟩
    have hc0n : c0 ∈ nameSigns := by
      have : ∀ c ∈ letters, c ∈ nameSigns := by decide +kernel
      exact this _ hc0
    refine for_rangeA (fun i σ' H' => ∃ (z : Str) (kv : Option V), σ' = [some (.ref d), some (.ref L), some (.str lt), some (.str sg), some (.str z), kv, none] ∧ z.length = i + 1 ∧ preP z ∧ Dr H' d sc ns ∧ Keep d H H') ⟨⟨#[c0]⟩, none, rfl, rfl, ⟨by show (1 : Nat) ≠ 0; decide, by show (1 : Nat) ≤ 8; decide, fun c r h => by cases h; exact hc0, fun c h => by simp at h; rw [h]; exact hc0n⟩, D2, K1.trans K2⟩ ?_ ?_
    · rintro i σ' H3 D' hi ⟨z, kv, rfl, hz, hp, D3, K3⟩ hnx hct hbk hrt
      walk_at "g"
      refine ⟨_, _, _, _, rfl, D3, by decide, by decide +kernel, fun r4 H4 r40 r41 D4 K4 => ?_⟩
      obtain ⟨c, hc, hat⟩ := pick_at (ws := nameSigns) hnl r40 r41
      refine g_ixS (n := c) (by rw [hsl]; decide) (by rw [hns]; exact hat) ?_
      have hi8 : i < 8 := by omega
      have hl1 : (z ++ (⟨#[c]⟩ : Str)).length = i + 1 + 1 := by rw [PySem.Str.length_append, hz]; rfl
      refine g_addS (by rw [sizeLine_eq, hz]; show i + 1 + 1 ≤ _; omega) ?_
      walk_at "g"
      refine hnx _ _ ⟨_, _, rfl, hl1, ⟨by omega, by omega, fun a r h => ?_, fun a h => ?_⟩, D4, K3.trans K4⟩
      · rw [PySem.W.KT.app_list] at h
        cases e : z.cps.toList with
        | nil =>
          have : z.cps.toList.length = z.length := Array.length_toList
          rw [e, hz] at this; simp at this
        | cons b s =>
          rw [e] at h
          injection h with h1 _
          rw [← h1]
          exact hp.2.2.1 b s e
      · rw [PySem.W.KT.app_list] at h
        rcases List.mem_append.mp h with h | h
        · exact hp.2.2.2 a h
        · have : a = c := by simpa using h
          rw [this]; exact hc
    · rintro σ' H3 ⟨z, kv, rfl, hz, hp, D3, K3⟩
      walk_at "g"
      refine ⟨by show 10 ≤ sizeLine; decide, fun q hq => ?_⟩
      obtain ⟨hqd, hqs⟩ := D3.ne hq
      have D4 := D3.new (o := .lst ((keptWords).map V.str)) hq
      have K4 := K3.new (o := .lst ((keptWords).map V.str)) (K3.back hqd hq)
      have hL4 : (upd H3 q (.lst (keptWords.map V.str))) L = some (.lst (xs.map V.str)) := K4 L _ hLd hL
      walk_at "g"
      refine .inr ⟨_, keptWords.map V.str, rfl, .inl (SqL.of upd_same), rfl, Tw.flat_strs _, ?_⟩
      rw [if_neg Bool.false_ne_true, inV_strs]
      have hfl : (keptWords.map V.str) = [V.str (Str.ofString "and"), V.str (Str.ofString "or"), V.str (Str.ofString "not"), V.str (Str.ofString "sure"), V.str (Str.ofString "in"), V.str (Str.ofString "is"), V.str (Str.ofString "empty"), V.str (Str.ofString "begins"), V.str (Str.ofString "always"), V.str (Str.ofString "never")] := rfl
      rw [← hfl]
      walk_at "g"
      have h6 : (cutS z none (some 6)).cps.toList = z.cps.toList.take 6 := by
        show ((z.cps.toList.drop 0).take (HT.sIx z.length z.length (some ((6 : Nat) : Int)) - 0)) = _
        rw [HT.sIx_nat]
        have : z.cps.toList.length = z.length := Array.length_toList
        rw [List.drop_zero, Nat.sub_zero]
        by_cases h : 6 ≤ z.length
        · rw [Nat.min_eq_left h]
        · rw [Nat.min_eq_right (by omega), ← this, List.take_length, List.take_of_length_le (by omega)]
      have hl6 : (cutS z none (some 6)).length = min 6 z.length := by
        show (cutS z none (some 6)).cps.size = _
        have : z.cps.toList.length = z.length := Array.length_toList
        rw [← Array.length_toList, h6, List.length_take, this]
      have good : ∀ i, i < 60 → nameP (cutS z none (some 6) ++ digS i) := fun i hi => by
        obtain ⟨d1, d2, d3⟩ := dig_ok i (List.mem_range.mpr hi)
        have hlen : (cutS z none (some 6) ++ digS i).length = min 6 z.length + (digS i).length := by rw [PySem.Str.length_append, hl6]
        have hz0 := hp.1
        have hcp : (cutS z none (some 6) ++ digS i).cps.toList = z.cps.toList.take 6 ++ (digS i).cps.toList := by rw [PySem.W.KT.app_list, h6]
        refine ⟨by omega, by omega, fun c r h => ?_, fun hk => ?_, fun c h => ?_⟩
        · rw [hcp] at h
          cases e : z.cps.toList with
          | nil =>
            have : z.cps.toList.length = z.length := Array.length_toList
            rw [e] at this; simp at this; omega
          | cons b s =>
            rw [e] at h
            injection h with h1 _
            rw [← h1]
            exact hp.2.2.1 b s e
        · have hdl : (digS i).cps.toList.length = (digS i).length := Array.length_toList
          obtain ⟨c, hc⟩ : ∃ c, c ∈ (digS i).cps.toList := by
            cases e : (digS i).cps.toList with
            | nil => rw [e] at hdl; simp at hdl; omega
            | cons c r => exact ⟨c, List.mem_cons_self⟩
          have h1 := kept_big _ hk c (by rw [hcp]; exact List.mem_append.mpr (.inr hc))
          have h2 := (d3 c hc).2
          omega
        · rw [hcp] at h
          rcases List.mem_append.mp h with h | h
          · exact hp.2.2.2 c (List.mem_of_mem_take h)
          · exact (d3 c h).1
      refine g_dec (fun h1 => ?_) (fun h1 => ?_)
      rotate_left
      · walk_at "g"
        refine .inr ⟨_, xs.map V.str, rfl, .inl (SqL.of hL4), rfl, Tw.flat_strs _, ?_⟩
        rw [if_neg Bool.false_ne_true, inV_strs]
        walk_at "g"
        refine g_dec (fun h2 => ?_) (fun h2 => ?_)
        rotate_left
        · walk_at "g"
          exact k z _ ⟨hp.1, hp.2.1, hp.2.2.1, h1, hp.2.2.2⟩ h2 D4 K4
        walk_at "g"
        refine g_slS (by rw [sizeLine_eq]; omega) ?_
        walk_at "g"
        refine ⟨_, rfl, by omega, by omega, ?_⟩
        refine for_rangeA (fun i σ' H' => H' = upd H3 q (.lst (keptWords.map V.str)) ∧ (∃ v5, σ' = [some (.ref d), some (.ref L), some (.str lt), some (.str sg), some (.str (cutS z none (some 6))), v5, some (.ref q)]) ∧ ∀ j < i, cutS z none (some 6) ++ digS j ∈ xs) ⟨rfl, ⟨_, rfl⟩, fun j hj => absurd hj (Nat.not_lt_zero _)⟩ ?_ ?_
        · rintro i σ' H5 D' hi ⟨rfl, ⟨v5, rfl⟩, hall⟩ hnx hct hbk hrt
          have hi60 : i < 60 := by simpa using hi
          have hdg := (dig_ok i (List.mem_range.mpr hi60)).1
          have e0 : Str.ofString (toString (0 + (i : Int))) = digS i := by rw [Int.zero_add]; rfl
          have hlog : (0 + (i : Int)).natAbs.log2 < 1920 := by
            have : (0 + (i : Int)).natAbs < 2 ^ 64 := by omega
            exact Nat.lt_of_lt_of_le (PySem.Flt.log2_lt_of (by decide) this) (by decide)
          walk_at "g"
          refine ⟨_, rfl, hlog, ?_⟩
          rw [e0]
          refine g_addS (by rw [sizeLine_eq, hl6]; omega) ?_
          walk_at "g"
          refine .inr ⟨_, xs.map V.str, rfl, .inl (SqL.of hL4), rfl, Tw.flat_strs _, ?_⟩
          rw [if_pos rfl, inV_strs]
          walk_at "g"
          refine g_ndec (fun hn => ?_) (fun hn => ?_)
          · walk_at "g"
            rw [hrt]
            refine ⟨_, rfl, hlog, ?_⟩
            rw [e0]
            refine g_addS (by rw [sizeLine_eq, hl6]; omega) ?_
            walk_at "g"
            exact k _ _ (good i hi60) hn D4 K4
          · walk_at "g"
            refine hnx _ _ ⟨rfl, ⟨_, rfl⟩, fun j hj => ?_⟩
            rcases Nat.lt_or_ge j i with h | h
            · exact hall j h
            · obtain rfl : j = i := by omega
              exact hn
        · rintro σ' H5 ⟨rfl, ⟨v5, rfl⟩, hall⟩
          have hnd : ((List.range 60).map fun j => cutS z none (some 6) ++ digS j).Nodup := by
            have h := dig_inj
            rw [List.nodup_iff_pairwise_ne, List.pairwise_map] at h ⊢
            exact h.imp fun hab he => hab (app_inj he)
          have := nodup_le hnd (xs := xs) fun y hy => by
            obtain ⟨j, hj, rfl⟩ := List.mem_map.mp hy
            exact hall j (by simpa using hj)
          simp at this
          omega
      walk_at "g"
      refine g_slS (by rw [sizeLine_eq]; omega) ?_
      walk_at "g"
      refine ⟨_, rfl, by omega, by omega, ?_⟩
      refine for_rangeA (fun i σ' H' => H' = upd H3 q (.lst (keptWords.map V.str)) ∧ (∃ v5, σ' = [some (.ref d), some (.ref L), some (.str lt), some (.str sg), some (.str (cutS z none (some 6))), v5, some (.ref q)]) ∧ ∀ j < i, cutS z none (some 6) ++ digS j ∈ xs) ⟨rfl, ⟨_, rfl⟩, fun j hj => absurd hj (Nat.not_lt_zero _)⟩ ?_ ?_
      · rintro i σ' H5 D' hi ⟨rfl, ⟨v5, rfl⟩, hall⟩ hnx hct hbk hrt
        have hi60 : i < 60 := by simpa using hi
        have hdg := (dig_ok i (List.mem_range.mpr hi60)).1
        have e0 : Str.ofString (toString (0 + (i : Int))) = digS i := by rw [Int.zero_add]; rfl
        have hlog : (0 + (i : Int)).natAbs.log2 < 1920 := by
          have : (0 + (i : Int)).natAbs < 2 ^ 64 := by omega
          exact Nat.lt_of_lt_of_le (PySem.Flt.log2_lt_of (by decide) this) (by decide)
        walk_at "g"
        refine ⟨_, rfl, hlog, ?_⟩
        rw [e0]
        refine g_addS (by rw [sizeLine_eq, hl6]; omega) ?_
        walk_at "g"
        refine .inr ⟨_, xs.map V.str, rfl, .inl (SqL.of hL4), rfl, Tw.flat_strs _, ?_⟩
        rw [if_pos rfl, inV_strs]
        walk_at "g"
        refine g_ndec (fun hn => ?_) (fun hn => ?_)
        · walk_at "g"
          rw [hrt]
          refine ⟨_, rfl, hlog, ?_⟩
          rw [e0]
          refine g_addS (by rw [sizeLine_eq, hl6]; omega) ?_
          walk_at "g"
          exact k _ _ (good i hi60) hn D4 K4
        · walk_at "g"
          refine hnx _ _ ⟨rfl, ⟨_, rfl⟩, fun j hj => ?_⟩
          rcases Nat.lt_or_ge j i with h | h
          · exact hall j h
          · obtain rfl : j = i := by omega
            exact hn
      · rintro σ' H5 ⟨rfl, ⟨v5, rfl⟩, hall⟩
        have hnd : ((List.range 60).map fun j => cutS z none (some 6) ++ digS j).Nodup := by
          have h := dig_inj
          rw [List.nodup_iff_pairwise_ne, List.pairwise_map] at h ⊢
          exact h.imp fun hab he => hab (app_inj he)
        have := nodup_le hnd (xs := xs) fun y hy => by
          obtain ⟨j, hj, rfl⟩ := List.mem_map.mp hy
          exact hall j (by simpa using hj)
        simp at this
        omega
end
section
variable {X : Cx} {K : PySem.W.Frag} {H : Hp} {Q : VK}
theorem hu64_of {A : Around} {k : Nat} (hr : Room k A) : A.units + 64 < cLine := by
  have := hr.un
  omega
theorem op_neDu (h : X.K = K) (hu : X.A.units + 64 < cLine) : OpR X (compareOp .NotEq) (rNeD K) := by subst h; exact op_neD hu
theorem op_eqDu (h : X.K = K) (hu : X.A.units + 64 < cLine) : OpR X (compareOp .Eq) (rEqD K) := by subst h; exact op_eqD hu
/-- two tuples of the same two texts -/
theorem g_neSame {p q : Addr} {a b : Str} (h1 : H p = some (.tup [.str a, .str b])) (h2 : H q = some (.tup [.str a, .str b])) (hs : SeqAt.shaped (.tuple [.str a, .str b]) = true) (he : PyData.eqv (.tuple [.str a, .str b]) (.tuple [.str a, .str b]) = true) (k : Q (.bl false) H) : rNeD K (.ref p) (.ref q) H Q :=
  ⟨.tuple [.str a, .str b], .tuple [.str a, .str b], .tup (SqT.of h1) (.cons (.str a) (.cons (.str b) .nil)), .tup (SqT.of h2) (.cons (.str a) (.cons (.str b) .nil)), hs, hs, by rw [he]; exact k⟩
end
theorem hu0_of {A : Around} {k : Nat} (hr : Room k A) : A.units < cLine := by
  have := hr.un
  omega
theorem call_sortedSG {X : Cx} {K : PySem.W.Frag} (h : X.K = K) : CallR X (.builtin "sorted") (rSortedS K) := by subst h; exact cr_sortedS
def spLaw (K : PySem.W.Frag) : Sp := fun vs H Q _ => ∃ (a : Addr) (ns : List Int), vs = [.ref a] ∧ SqL K H a (ns.map V.int) ∧ ns.length ≤ 63 ∧ ∀ H', Q (.bl true) H'
theorem Dr.xt {H H' : Hp} {d sc : Addr} {ns : List Int} (D : Dr H d sc ns) (k : XT H H') : Dr H' d sc ns := by
  obtain ⟨i, b, c, e, h1, h2, h3, h4⟩ := D.ex
  exact ⟨i, b, c, e, h1, h2, k _ _ h3, k _ _ h4⟩
theorem thing_keepP {H H' : Hp} {L : Addr} {v : V} (hL : ∃ xs, H L = some (.lst xs)) (hL' : ∃ ys, H' L = some (.lst ys)) (k : Keep L H H') (h : thing H v) : thing H' v := by
  rcases h with e | e | e | e | ⟨q, e, hq⟩
  · exact .inl e
  · exact .inr (.inl e)
  · exact .inr (.inr (.inl e))
  · exact .inr (.inr (.inr (.inl e)))
  · refine .inr (.inr (.inr (.inr ⟨q, e, ?_⟩)))
    by_cases e2 : q = L
    · rw [e2]; exact .inl hL'
    · rcases hq with ⟨zs, h⟩ | ⟨zs, h⟩ | ⟨zs, h⟩
      · exact .inl ⟨zs, k _ _ e2 h⟩
      · exact .inr (.inl ⟨zs, k _ _ e2 h⟩)
      · exact .inr (.inr ⟨zs, k _ _ e2 h⟩)
theorem CAt.keepP {H H' : Hp} {L : Addr} {v : V} {r : Option Col} (hL : ∃ xs, H L = some (.lst xs)) (hL' : ∃ ys, H' L = some (.lst ys)) (k : Keep L H H') (hv : v ≠ .ref L) (h : CAt H v r) : CAt H' v r := by
  have hne : ∀ {p : Addr}, V.ref p ≠ .ref L → p ≠ L := fun h e => h (by rw [e])
  have kp : ∀ {p : Addr} {o : HO}, V.ref p ≠ .ref L → H p = some o → H' p = some o := fun {p o} n h => k _ _ (hne n) h
  cases h with
  | nos hT ty n m =>
    refine .nos hT ?_ n m
    cases ty with
    | non => exact .non
    | bl b => exact .bl b
    | int i => exact .int i
    | str z => exact .str z
    | lst h => exact absurd rfl n
    | tup h => exact absurd rfl m
    | dct h => exact .dct (kp hv h)
  | len hp n => exact .len (hp.elim (fun h => .inl (kp hv h)) fun h => .inr (kp hv h)) n
  | nam h hx n => exact .nam (kp hv h) (thing_keepP hL hL' k hx) n
  | knd h hz hy n1 n2 => exact .knd (kp hv h) hz (thing_keepP hL hL' k hy) n1 n2
  | flg h hz hy n => exact .flg (kp hv h) hz (thing_keepP hL hL' k hy) n
  | ok h hz => exact .ok (h.elim (fun h => .inl (kp hv h)) fun h => .inr (kp hv h)) hz
/-- the columns as they stand in the list -/
structure CsAt (H : Hp) (L d : Addr) (vs : List V) (rs : List (Option Col)) : Prop where
  at_ : H L = some (.lst vs)
  len : vs.length = rs.length
  it : ∀ (i : Nat) x r, vs[i]? = some x → rs[i]? = some r → CAt H x r
  nL : ∀ x ∈ vs, x ≠ .ref L
  nd : ∀ x ∈ vs, x ≠ .ref d
theorem CsAt.keep {H H' : Hp} {L d : Addr} {vs : List V} {rs : List (Option Col)} (h : CsAt H L d vs rs) (k : XT H H') : CsAt H' L d vs rs :=
  ⟨k _ _ h.at_, h.len, fun i x r hx hr => (h.it i x r hx hr).keep k, h.nL, h.nd⟩
theorem CsAt.draw {H H' : Hp} {L d sc : Addr} {ns : List Int} {vs : List V} {rs : List (Option Col)} (h : CsAt H L d vs rs) (D : Dr H d sc ns) (D' : Dr H' d sc ns) (k : Keep d H H') (n : L ≠ d) : CsAt H' L d vs rs :=
  ⟨k _ _ n h.at_, h.len, fun i x r hx hr => (h.it i x r hx hr).keepP D.at D'.at k (h.nd x (List.mem_of_getElem? hx)), h.nL, h.nd⟩
theorem ixN_nat {n j : Nat} (h : j < n) : ixN n (j : Int) = some j := by
  unfold ixN
  rw [if_pos (by omega), if_pos (by omega), Int.toNat_natCast]
theorem CsAt.set {H : Hp} {L d : Addr} {vs : List V} {rs : List (Option Col)} (h : CsAt H L d vs rs) {j : Nat} {v : V} {r : Option Col} (hj : j < vs.length) (hv : CAt H v r) (n1 : v ≠ .ref L) (n2 : v ≠ .ref d) : CsAt (upd H L (.lst (vs.set j v))) L d (vs.set j v) (rs.set j r) := by
  have kL : Keep L H (upd H L (.lst (vs.set j v))) := fun q o n h => by rw [upd_ne n]; exact h
  refine ⟨upd_same, by rw [List.length_set, List.length_set]; exact h.len, fun i x ro hx hr => ?_, fun x hx => ?_, fun x hx => ?_⟩
  · by_cases e : j = i
    · subst e
      rw [List.getElem?_set_self hj] at hx
      rw [List.getElem?_set_self (by rw [← h.len]; exact hj)] at hr
      injection hx with hx
      injection hr with hr
      rw [← hx, ← hr]
      exact hv.keepP ⟨_, h.at_⟩ ⟨_, upd_same⟩ kL n1
    · rw [List.getElem?_set_ne e] at hx hr
      exact (h.it i x ro hx hr).keepP ⟨_, h.at_⟩ ⟨_, upd_same⟩ kL (h.nL x (List.mem_of_getElem? hx))
  · rcases List.mem_or_eq_of_mem_set hx with hx | rfl
    · exact h.nL x hx
    · exact n1
  · rcases List.mem_or_eq_of_mem_set hx with hx | rfl
    · exact h.nd x hx
    · exact n2
theorem cut_take {xs : List V} {n : Nat} (h : n ≤ xs.length) : cutV xs none (some (n : Int)) = xs.take n := by
  unfold cutV
  show (xs.drop 0).take (HT.sIx xs.length xs.length (some ((n : Nat) : Int)) - 0) = _
  rw [HT.sIx_nat, List.drop_zero, Nat.sub_zero, Nat.min_eq_left h]
def pdC (c : Col) : PyData := .tuple [.str c.1, .str (kS c.2.1), .bool c.2.2]
theorem name_strOk {z : Str} (h : nameP z) : PySem.PyData.strOk z = true := by
  unfold PySem.PyData.strOk
  rw [← Array.all_toList, List.all_eq_true]
  intro c hc
  have : ∀ c ∈ nameSigns, c < 128 := by decide +kernel
  have := this c (h.2.2.2.2 c hc)
  exact decide_eq_true (by omega)
theorem sh_cols {cs : List Col} (h : ∀ c ∈ cs, nameP c.1) : SeqAt.shaped (.list (cs.map pdC)) = true := by
  have key : ∀ cs : List Col, (∀ c ∈ cs, nameP c.1) → PyData.canLayAll0 (cs.map pdC) = true ∧ PyData.depthAll (cs.map pdC) ≤ 1 := by
    intro cs
    induction cs with
    | nil => intro _; exact ⟨by simp [PyData.canLayAll0], by simp [PyData.depthAll]⟩
    | cons c r ih =>
      intro h
      obtain ⟨h1, h2⟩ := ih fun d hd => h d (List.mem_cons_of_mem _ hd)
      have e1 : PySem.PyData.strOk c.1 = true := name_strOk (h c List.mem_cons_self)
      have e2 : PySem.PyData.strOk (kS c.2.1) = true := by cases c.2.1 <;> decide +kernel
      rw [List.map_cons]
      refine ⟨by simp [PyData.canLayAll0, PyData.canLay0, pdC, e1, e2, h1], ?_⟩
      simp only [PyData.depthAll, PyData.depth, pdC]
      omega
  obtain ⟨h1, h2⟩ := key cs h
  unfold SeqAt.shaped
  rw [Bool.and_eq_true]
  refine ⟨by simp only [PyData.canLay0]; exact h1, decide_eq_true ?_⟩
  simp only [PyData.depth]
  omega
theorem sh_names {zs : List Str} (h : ∀ z ∈ zs, nameP z) : SeqAt.shaped (.list (zs.map PyData.str)) = true := by
  have key : ∀ zs : List Str, (∀ z ∈ zs, nameP z) → PyData.canLayAll0 (zs.map PyData.str) = true ∧ PyData.depthAll (zs.map PyData.str) ≤ 0 := by
    intro zs
    induction zs with
    | nil => intro _; exact ⟨by simp [PyData.canLayAll0], by simp [PyData.depthAll]⟩
    | cons c r ih =>
      intro h
      obtain ⟨h1, h2⟩ := ih fun d hd => h d (List.mem_cons_of_mem _ hd)
      have e1 : PySem.PyData.strOk c = true := name_strOk (h c List.mem_cons_self)
      rw [List.map_cons]
      refine ⟨by simp [PyData.canLayAll0, PyData.canLay0, e1, h1], ?_⟩
      simp only [PyData.depthAll, PyData.depth]
      omega
  obtain ⟨h1, h2⟩ := key zs h
  unfold SeqAt.shaped
  rw [Bool.and_eq_true]
  refine ⟨by simp only [PyData.canLay0]; exact h1, decide_eq_true ?_⟩
  simp only [PyData.depth]
  omega
theorem dp_cols {K : PySem.W.Frag} {H : Hp} : ∀ {cs : List Col} {qs : List Addr}, qs.length = cs.length → (∀ (i : Nat) (q : Addr) (c : Col), qs[i]? = some q → cs[i]? = some c → H q = some (.tup (ct c))) → DpAll K H (qs.map V.ref) (cs.map pdC)
  | [], [], _, _ => .nil
  | _ :: _, [], h, _ => nomatch h
  | [], _ :: _, h, _ => nomatch h
  | c :: cs, q :: qs, h, k => .cons (.tup (SqT.of (k 0 q c rfl rfl)) (.cons (.str _) (.cons (.str _) (.cons (.bl _) .nil)))) (dp_cols (by simpa using h) fun i q c hq hc => k (i + 1) q c hq hc)
theorem dp_strs {K : PySem.W.Frag} {H : Hp} : ∀ {zs : List Str}, DpAll K H (zs.map V.str) (zs.map PyData.str)
  | [] => .nil
  | z :: zs => .cons (.str z) dp_strs
theorem XT.late {H H1 : Hp} {t : Addr} {o : HO} (k : XT H H1) (h : H t = none) : XT H (upd H1 t o) := fun q u e => by rw [upd_ne (ne_of_none e h)]; exact k q u e
theorem g_bm0 {K : PySem.W.Frag} {T : String} {r : V → List V → Hp → VK → Prop} {to : TE} {σ : L2.St} {H : Hp} {Q : VK} (q : to σ H fun x H1 => tyV K T x H1 ∧ r x [] H1 Q) : tBM0 K T r to σ H Q := q
theorem csame {K : PySem.W.Frag} {H H0 : Hp} {vs : List V} {rs : List (Option Col)} (hl : vs.length = rs.length) (h : ∀ (i : Nat) x r, vs[i]? = some x → rs[i]? = some r → CAt H x r) : Paired (EqV K H0 1) vs vs := by
  have key : ∀ ws : List V, (∀ v ∈ ws, ∃ r, CAt H v r) → Paired (EqV K H0 1) ws ws := by
    intro ws
    induction ws with
    | nil => exact fun _ => .nil
    | cons v r ih =>
      intro h
      refine .cons ?_ (ih fun u hu => h u (List.mem_cons_of_mem _ hu))
      obtain ⟨ro, hr⟩ := h v List.mem_cons_self
      cases hr with
      | nos hT ty n m =>
        cases ty with
        | non => exact .inl ⟨rfl, rfl⟩
        | bl b => exact .inl ⟨rfl, rfl⟩
        | int i => exact .inl ⟨rfl, rfl⟩
        | str z => exact .inl ⟨rfl, rfl⟩
        | lst h => exact .inr (.inl ⟨_, rfl, rfl⟩)
        | tup h => exact .inr (.inl ⟨_, rfl, rfl⟩)
        | dct h => exact .inr (.inl ⟨_, rfl, rfl⟩)
      | len h n => exact .inr (.inl ⟨_, rfl, rfl⟩)
      | nam h hx n => exact .inr (.inl ⟨_, rfl, rfl⟩)
      | knd h hz hy n1 n2 => exact .inr (.inl ⟨_, rfl, rfl⟩)
      | flg h hz hy n => exact .inr (.inl ⟨_, rfl, rfl⟩)
      | ok h hz => exact .inr (.inl ⟨_, rfl, rfl⟩)
  refine key vs fun v hv => ?_
  obtain ⟨i, hi⟩ := List.getElem?_of_mem hv
  have hil := (List.getElem?_eq_some_iff.mp hi).1
  exact ⟨_, h i v _ hi (List.getElem?_eq_getElem (by omega))⟩
theorem strs_newC {ps : List Col} {ys : List V} (hl : ys.length = ps.length) (h : ∀ (i : Nat) (y : V), ys[i]? = some y → ∃ c, ps[i]? = some c ∧ y = .str c.1) : ys = (ps.map (·.1)).map V.str := by
  refine List.ext_getElem (by rw [hl, List.length_map, List.length_map]) fun i h1 h2 => ?_
  obtain ⟨c, hc, e⟩ := h i ys[i] (List.getElem?_eq_getElem h1)
  rw [e, List.getElem_map, List.getElem_map]
  obtain ⟨h3, h4⟩ := List.getElem?_eq_some_iff.mp hc
  rw [h4]
section
variable {P : Program} {w : World} {K : PySem.W.Frag} {mg : Str → Option Value} {base : Heap}
theorem ok_law (T : Txt K mg) {f : Addr} {fd : FuncData} (F : Fun K "law" "law" S_law f fd) : FnOk P w K mg base CX0 8 f fd ["_law_script"] (spLaw K) := by
  refine Fun.okM F sc_law (fun vs H Q E h => ?_) (fun cdv A outer s H vs Q E hr h => ?_)
  · obtain ⟨a, ns, rfl, _⟩ := h
    rfl
  · obtain ⟨a, ns, rfl, hS, hlen, k⟩ := h
    refine ⟨_, (pss_cons (ps_set (i := 1) sc_law.nd rfl (Or.inl rfl) (pe_def (ok__law_begin T) hr rfl (pa_cons (pv 0) pa_nil)))
  (pss_cons (ps_set (i := 2) sc_law.nd rfl (Or.inl rfl) (pe_lst pa_nil))
  (pss_cons (ps_for PassesOwn.never rfl (pi_range1 rfl T.h_range (pa_cons (pe_def (ok__law_take T) hr rfl (pa_cons (pv 1) (pa_cons pe_int pa_nil))) pa_nil)) (pg_name (i := 3) sc_law.nd rfl (Or.inl rfl))
  (pss_cons (ps_set (i := 4) sc_law.nd rfl (Or.inl rfl) (pe_def (ok__law_name T) hr rfl (pa_cons (pv 1) (pa_cons (pe_lc (own := [("_law_column", 5)]) rfl sc_law.nd (pi_list (pv 2)) (blkOk_by (N := N_law) (sc := defScope S_law) (by decide +kernel)) (fun _ _ _ _ _ => pg_name (i := 5) sc_law.nd rfl (Or.inl rfl)) (fun _ _ _ _ _ => pts_nil) (fun _ _ _ _ _ => (pe_callTy SkE.call_str_str (by rfl) T.h_str (by decide +kernel) (pa_cons (pe_ix (ix_seqG (K := K) rfl) (pv 5) pe_int (fun _ _ => rfl)) pa_nil)))) pa_nil))))
  (pss_cons (ps_set (i := 5) sc_law.nd rfl (Or.inl rfl) (pe_tup (pa_cons (pv 4) (pa_cons (pe_ix (ix_seqG (K := K) rfl) (pe_lst (pa_cons pe_str (pa_cons pe_str pa_nil))) (pe_def (ok__law_take T) hr rfl (pa_cons (pv 1) (pa_cons pe_int pa_nil))) (fun _ _ => rfl)) (pa_cons (pe_cmpR op_eq (pe_def (ok__law_take T) hr rfl (pa_cons (pv 1) (pa_cons pe_int pa_nil))) pe_int (nomark _)) pa_nil)))))
  (Evl.pss_cut (ps_if (pt_cmpR op_eq (pe_def (ok__law_take T) hr rfl (pa_cons (pv 1) (pa_cons pe_int pa_nil))) pe_int (nomark _))
  (pss_one (ps_set (i := 5) sc_law.nd rfl (Or.inl rfl) (pe_callTy (call_listG (K := K) rfl) (by rfl) T.h_list (by decide +kernel) (pa_cons (pv 5) pa_nil))))
  pss_nil)
  (pss_one (ps_expr (pe_bm PySem.F.plainAttrs_list PySem.F.slot_list_append PySem.F.type_list_append mt_append (pv 2) (pa_cons (pv 5) pa_nil))))))))
  (pss_cons (ps_for PassesOwn.never rfl (pi_range1 rfl T.h_range (pa_cons (pe_op op_mulG (pe_def (ok__law_take T) hr rfl (pa_cons (pv 1) (pa_cons pe_int pa_nil))) (pe_def (ok__law_take T) hr rfl (pa_cons (pv 1) (pa_cons pe_int pa_nil)))) pa_nil)) (pg_name (i := 3) sc_law.nd rfl (Or.inl rfl))
  (pss_one (ps_if (pt_cmpR op_gtG (pe_callB (call_lenG (K := K) rfl) (by rfl) T.h_len (by decide +kernel) (pa_cons (pv 2) pa_nil)) pe_int (nomark _))
  (pss_cons (ps_set (i := 6) sc_law.nd rfl (Or.inl rfl) (pe_def (ok__law_take T) hr rfl (pa_cons (pv 1) (pa_cons (pe_callB (call_lenG (K := K) rfl) (by rfl) T.h_len (by decide +kernel) (pa_cons (pv 2) pa_nil)) pa_nil))))
  (pss_cons (ps_setLc (i := 7) (own := [("_law_column", 5)]) rfl sc_law.nd rfl rfl (sw_true rfl rfl rfl (by decide +kernel)) (pi_list (pe_slice (sl_G (K := K) rfl) (pv 2) po_none (po_some (pv 6)))) (blkOk_by (N := N_law) (sc := defScope S_law) (by decide +kernel)) (fun _ _ _ _ _ => pg_name (i := 5) sc_law.nd rfl (Or.inl rfl)) (fun _ _ _ _ _ => pts_one (pt_val (pe_def (ok__law_is_column T) hr rfl (pa_cons (pv 5) (pa_cons (pe_lst pa_nil) pa_nil))))) (fun _ _ _ _ _ => (pe_ix (ix_seqG (K := K) rfl) (pv 5) pe_int (fun _ _ => rfl))))
  (pss_one (ps_if (pt_val (pe_def (ok__law_is_column T) hr rfl (pa_cons (pe_ix (ix_seqG (K := K) rfl) (pv 2) (pv 6) (fun _ _ => rfl)) (pa_cons (pe_lst pa_nil) pa_nil))))
  (pss_one (ps_asg (pe_def (ok__law_spoiled T) hr rfl (pa_cons (pv 1) (pa_cons (pe_ix (ix_seqG (K := K) rfl) (pv 2) (pv 6) (fun _ _ => rfl)) (pa_cons (pv 7) pa_nil)))) (pg_sub (pv 2) (pv 6) set_list)))
  pss_nil))))
  pss_nil)))
  (pss_cons (ps_set (i := 8) sc_law.nd rfl (Or.inl rfl) (pe_def (ok__law_due T) hr rfl (pa_cons (pv 2) pa_nil)))
  (pss_cons (ps_set (i := 9) sc_law.nd rfl (Or.inl rfl) (pe_callTy (call_listG (K := K) rfl) (by rfl) T.h_list (by decide +kernel) (pa_cons (pv 2) pa_nil)))
  (Evl.pss_cut (ps_if (pt_cmpR op_eq (pe_def (ok__law_take T) hr rfl (pa_cons (pv 1) (pa_cons pe_int pa_nil))) pe_int (nomark _))
  (pss_one (ps_set (i := 9) sc_law.nd rfl (Or.inl rfl) (pe_callTy (call_tupleG (K := K) rfl) (by rfl) T.h_tuple (by decide +kernel) (pa_cons (pv 2) pa_nil))))
  pss_nil)
  (pss_cons (ps_set (i := 10) sc_law.nd rfl (Or.inl rfl) (pe_def (ok__law_shape_or_error T) hr rfl (pa_cons (pv 9) pa_nil)))
  (pss_cons (ps_if (PW.pt (pw_or (pt_cmpR (op_neVu (K := K) rfl (hu64_of hr)) (pe_callTy (call_listG (K := K) rfl) (by rfl) T.h_list (by decide +kernel) (pa_cons (pv 9) pa_nil)) (pv 2) (nomark _)) (pw_or1 (pt_not (pt_val (pe_ix (ix_seqG (K := K) rfl) (pv 10) pe_int (fun _ _ => rfl)))))))
  (pss_one (ps_ret pe_bl))
  pss_nil)
  (pss_cons (ps_if (pt_cmpR op_notNG (pv 8) pe_non (nomark _))
  (pss_one (ps_ret (pe_and (pe_cmpR op_isNG (pe_ix (ix_seqG (K := K) rfl) (pv 10) pe_int (fun _ _ => rfl)) pe_non (nomark _)) (pe_and (pe_cmpR op_eq (pe_ix (ix_seqG (K := K) rfl) (pv 10) pe_int (fun _ _ => rfl)) pe_str (nomark _)) (pe_and (pe_def (ok__law_is_integer T) hr rfl (pa_cons (pe_ix (ix_seqG (K := K) rfl) (pv 10) pe_int (fun _ _ => rfl)) pa_nil)) (pe_one (pe_cmpR op_eq (pe_ix (ix_seqG (K := K) rfl) (pv 10) pe_int (fun _ _ => rfl)) (pv 8) (nomark _))))))))
  pss_nil)
  (pss_cons (ps_set (i := 11) sc_law.nd rfl (Or.inl rfl) (pe_ix (ix_seqG (K := K) rfl) (pv 10) pe_int (fun _ _ => rfl)))
  (pss_cons (ps_if (pt_cmpR op_isNG (pv 11) pe_non (nomark _))
  (pss_one (ps_ret pe_bl))
  pss_nil)
  (pss_cons (ps_set (i := 12) sc_law.nd rfl (Or.inl rfl) (pe_me0 (pv 11) T.cl_Shape (ok_Shape_columns T) hr))
  (pss_cons (ps_if (PW.pt (pw_or (pt_not (pt_val (pe_callB (call_isiG (K := K) rfl) (by rfl) T.h_isinstance (by decide +kernel) (pa_cons (pv 12) (pa_cons (pe_bltn (v := .ty "list") (by rfl) T.h_list (by decide +kernel) rfl) pa_nil))))) (pw_or1 (pt_cmpR (op_neDu (K := K) rfl (hu64_of hr)) (pv 12) (pe_lc (own := [("_law_column", 5)]) rfl sc_law.nd (pi_list (pv 2)) (blkOk_by (N := N_law) (sc := defScope S_law) (by decide +kernel)) (fun _ _ _ _ _ => pg_name (i := 5) sc_law.nd rfl (Or.inl rfl)) (fun _ _ _ _ _ => pts_nil) (fun _ _ _ _ _ => (pe_callTy (call_tupleG (K := K) rfl) (by rfl) T.h_tuple (by decide +kernel) (pa_cons (pv 5) pa_nil)))) (nomark _)))))
  (pss_one (ps_ret pe_bl))
  pss_nil)
  (pss_cons (ps_expr (pe_bm0 PySem.F.plainAttrs_list PySem.F.slot_list_clear PySem.F.type_list_clear mt_clear (pv 12)))
  (pss_cons (ps_set (i := 7) sc_law.nd rfl (Or.inl rfl) (pe_me0 (pv 11) T.cl_Shape (ok_Shape_names T) hr))
  (pss_cons (ps_expr (pe_bm0 PySem.F.plainAttrs_list PySem.F.slot_list_reverse PySem.F.type_list_reverse mt_reverse (pv 7)))
  (pss_cons (ps_if (PW.pt (pw_or (pt_cmpR (op_neDu (K := K) rfl (hu64_of hr)) (pe_me0 (pv 11) T.cl_Shape (ok_Shape_names T) hr) (pe_lc (own := [("_law_column", 5)]) rfl sc_law.nd (pi_list (pv 2)) (blkOk_by (N := N_law) (sc := defScope S_law) (by decide +kernel)) (fun _ _ _ _ _ => pg_name (i := 5) sc_law.nd rfl (Or.inl rfl)) (fun _ _ _ _ _ => pts_nil) (fun _ _ _ _ _ => (pe_ix (ix_seqG (K := K) rfl) (pv 5) pe_int (fun _ _ => rfl)))) (nomark _)) (pw_or1 (pt_cmpR op_ne (pe_callB (call_lenG (K := K) rfl) (by rfl) T.h_len (by decide +kernel) (pa_cons (pe_me0 (pv 11) T.cl_Shape (ok_Shape_columns T) hr) pa_nil)) (pe_callB (call_lenG (K := K) rfl) (by rfl) T.h_len (by decide +kernel) (pa_cons (pv 2) pa_nil)) (nomark _)))))
  (pss_one (ps_ret pe_bl))
  pss_nil)
  (pss_cons (ps_for PassesOwn.never rfl (pi_list (pv 2)) (pg_name (i := 5) sc_law.nd rfl (Or.inl rfl))
  (pss_one (ps_if (PW.pt (pw_or (pt_cmpR op_ne (pe_me (pv 11) T.cl_Shape (ok_Shape_kind T) hr (pa_cons (pe_ix (ix_seqG (K := K) rfl) (pv 5) pe_int (fun _ _ => rfl)) pa_nil)) (pe_ix (ix_seqG (K := K) rfl) (pv 5) pe_int (fun _ _ => rfl)) (nomark _)) (pw_or1 (pt_not (pt_val (pe_def (ok__law_flag T) hr rfl (pa_cons (pe_me (pv 11) T.cl_Shape (ok_Shape_filled T) hr (pa_cons (pe_ix (ix_seqG (K := K) rfl) (pv 5) pe_int (fun _ _ => rfl)) pa_nil)) (pa_cons (pe_ix (ix_seqG (K := K) rfl) (pv 5) pe_int (fun _ _ => rfl)) pa_nil))))))))
  (pss_one (ps_ret pe_bl))
  pss_nil)))
  (pss_cons (ps_set (i := 13) sc_law.nd rfl (Or.inl rfl) (pe_def (ok__law_shape_or_error T) hr rfl (pa_cons (pe_ix (ix_seqG (K := K) rfl) (pe_lst (pa_cons pe_non (pa_cons pe_int (pa_cons pe_str (pa_cons pe_dnewK (pa_cons pe_bl pa_nil)))))) (pe_def (ok__law_take T) hr rfl (pa_cons (pv 1) (pa_cons pe_int pa_nil))) (fun _ _ => rfl)) pa_nil)))
  (pss_one (ps_ret (pe_and (pe_cmpR op_isNG (pe_ix (ix_seqG (K := K) rfl) (pv 13) pe_int (fun _ _ => rfl)) pe_non (nomark _)) (pe_and (pe_cmpR op_eq (pe_ix (ix_seqG (K := K) rfl) (pv 13) pe_int (fun _ _ => rfl)) pe_str (nomark _)) (pe_one (pe_cmpR op_eq (pe_ix (ix_seqG (K := K) rfl) (pv 13) pe_int (fun _ _ => rfl)) (pe_un un_negG pe_int) (nomark _))))))))))))))))))))))))))), ?_⟩
    walk_at "g"
    refine ⟨a, ns, rfl, hS, fun d sc ms H1 hd S1 D0 => ?_⟩
    walk_at "g"
    refine ⟨Nat.zero_le _, fun L hL => ?_⟩
    have nL := (D0.ne hL).1
    have hSc := (D0.ne hL).2
    have D1 := D0.new (o := .lst []) hL
    have e1 : CsAt (upd H1 L (.lst [])) L d [] (([] : List Col).map some) := ⟨upd_same, rfl, fun i x r h => by simp at h, fun x h => (nomatch h), fun x h => nomatch h⟩
    generalize upd H1 L (.lst []) = H2 at D1 e1
    clear D0 S1 hd
    walk_at "g"
    refine ⟨d, sc, ms, 15, rfl, D1, by decide, by decide, fun m H3 m0 m1 D2 K2 => ?_⟩
    have e2 := e1.draw D1 D2 K2 nL
    walk_at "g"
    refine ⟨_, rfl, by omega, by omega, ?_⟩
    refine for_rangeA (fun i σ' H' => ∃ (s3 s4 s5 : Option V) (cs : List Col) (vs : List V), σ' = [some (.ref a), some (.ref d), some (.ref L), s3, s4, s5, none, none, none, none, none, none, none, none] ∧ Dr H' d sc ms ∧ CsAt H' L d vs (cs.map some) ∧ cs.length = i ∧ ∀ c ∈ cs, nameP c.1) ⟨none, none, none, [], [], rfl, D2, e2, rfl, fun c hc => nomatch hc⟩ ?_ ?_
    · rintro i σ' H4 D' hi ⟨s3, s4, s5, cs, vs, rfl, D4, hC4, rfl, hnm⟩ hnx hct hbk hrt
      have hcl : cs.length < 15 := by omega
      have hvl : vs.length = cs.length := by rw [hC4.len, List.length_map]
      have hL4 := hC4.at_
      walk_at "g"
      refine ⟨L, rfl, ⟨_, SqL.of hL4⟩, fun Do hDo => ?_⟩
      refine lc_new vs (fun i y _ => ∃ c, cs[i]? = some c ∧ y = .str c.1) hDo (fun H2 k2 => fits_l (SqL.of (k2 _ _ hL4))) (by omega) (fun i y Ha Hb _ h _ => h) ?_ ?_
      · intro j x Hh R S hx kh _ hR
        have hjl : j < cs.length := by
          have := (List.getElem?_eq_some_iff.mp hx).1
          omega
        obtain ⟨c, hc⟩ : ∃ c, cs[j]? = some c := ⟨_, List.getElem?_eq_getElem hjl⟩
        have hpt := (hC4.it j x (some c) hx (by rw [List.getElem?_map, hc]; rfl)).keep kh
        cases hpt with
        | ok hq hz =>
        walk_at "g"
        refine ⟨rfl, ?_⟩
        walk_at "g"
        refine g_ixA hq (v := .str c.1) (show atI (ct c) 0 = some (.str c.1) from rfl) ?_
        walk_at "g"
        refine ⟨_, rfl, ?_⟩
        exact hR _ _ (fun q o h => h) ⟨c, hc, rfl⟩
      · intro H5 ys x5 h5 hyl hys
        obtain rfl : ys = (cs.map (·.1)).map V.str := strs_newC (by rw [hyl, hvl]) hys
        have D5 := D4.xt x5
        have hC5 := hC4.keep x5
        have hDd : Do ≠ d := (D4.ne hDo).1
        walk_at "g"
        refine ⟨d, sc, ms, Do, cs.map (·.1), rfl, D5, hDd, h5, by rw [List.length_map]; omega, fun z H6 hz hnot D6 K6 => ?_⟩
        have hC6 := hC5.draw D5 D6 K6 nL
        walk_at "g"
        refine ⟨by show 2 ≤ sizeLine; decide, fun l hl => ?_⟩
        have nl := (D6.ne hl).1
        have D7 := D6.new (o := .lst [.str (kS false), .str (kS true)]) hl
        have hC7 := hC6.keep (XT.refl.new (o := .lst [.str (kS false), .str (kS true)]) hl)
        have e7 : (upd H6 l (.lst [.str (kS false), .str (kS true)])) l = some (.lst [.str (kS false), .str (kS true)]) := upd_same
        have e0 : upd H6 l (.lst [.str (Str.ofString "number"), .str (Str.ofString "text")]) = upd H6 l (.lst [.str (kS false), .str (kS true)]) := rfl
        rw [e0]
        generalize upd H6 l (.lst [.str (kS false), .str (kS true)]) = H7 at D7 hC7 e7
        walk_at "g"
        refine ⟨d, sc, ms, 2, rfl, D7, by decide, by decide, fun r3 H8 r30 r31 D8 K8 => ?_⟩
        obtain ⟨kd, ek⟩ : ∃ kd : Bool, atI [V.str (kS false), V.str (kS true)] r3 = some (.str (kS kd)) := by
          have : r3 = 0 ∨ r3 = 1 := by omega
          rcases this with rfl | rfl
          · exact ⟨false, rfl⟩
          · exact ⟨true, rfl⟩
        refine g_ixL (SqL.of (K8 _ _ nl e7)) ek ?_
        have hC8 := hC7.draw D7 D8 K8 nL
        walk_at "g"
        refine ⟨d, sc, ms, 2, rfl, D8, by decide, by decide, fun r4 H9 r40 r41 D9 K9 => ?_⟩
        have hC9 := hC8.draw D8 D9 K9 nL
        walk_at "g"
        refine ⟨by show 3 ≤ sizeLine; decide, fun t ht => ?_⟩
        have eT : upd H9 t (.tup [.str z, .str (kS kd), .bl (decide (r4 = 0))]) = upd H9 t (.tup (ct (z, kd, decide (r4 = 0)))) := rfl
        rw [eT]
        generalize decide (r4 = 0) = fl
        have D10 := D9.new (o := .tup (ct (z, kd, fl))) ht
        have hC10 := hC9.keep (XT.refl.new (o := .tup (ct (z, kd, fl))) ht)
        have et : (upd H9 t (.tup (ct (z, kd, fl)))) t = some (.tup (ct (z, kd, fl))) := upd_same
        have ntL : t ≠ L := fun e => by rw [e, hC9.at_] at ht; cases ht
        have ntd := (D9.ne ht).1
        generalize upd H9 t (.tup (ct (z, kd, fl))) = H10 at D10 hC10 et
        walk_at "g"
        refine g_cutA (M := fun σ' H' => ∃ (s3 s4 : Option V) (q : Addr), σ' = [some (.ref a), some (.ref d), some (.ref L), s3, s4, some (.ref q), none, none, none, none, none, none, none, none] ∧ Dr H' d sc ms ∧ CsAt H' L d vs (cs.map some) ∧ (H' q = some (.lst (ct (z, kd, fl))) ∨ H' q = some (.tup (ct (z, kd, fl)))) ∧ q ≠ L ∧ q ≠ d) (fun D2' hn1 hrt2 _ _ => ?_) ?_
        · walk_at "g"
          refine ⟨d, sc, ms, 2, rfl, D10, by decide, by decide, fun r5 H11 r50 r51 D11 K11 => ?_⟩
          have hC11 := hC10.draw D10 D11 K11 nL
          have et11 := K11 _ _ ntd et
          walk_at "g"
          refine g_dec (fun h0 => ?_) (fun h0 => ?_)
          · walk_at "g"
            refine ⟨t, _, rfl, .inr (SqT.of et11), fun l2 hl2 => ?_⟩
            walk_at "g"
            exact hn1 _ _ ⟨_, _, l2, rfl, D11.new hl2, hC11.keep (XT.refl.new hl2), .inl upd_same, (fun e => by rw [e, hC11.at_] at hl2; cases hl2), (D11.ne hl2).1⟩
          · walk_at "g"
            exact hn1 _ _ ⟨_, _, t, rfl, D11, hC11, .inr et11, ntL, ntd⟩
        · rintro σ' H11 ⟨s3', s4', q, rfl, D11, hC11, hq, nqL, nqd⟩
          have hL11 := hC11.at_
          have hvl2 : vs.length < 15 := by omega
          walk_at "g"
          refine hnx _ _ ⟨_, _, _, cs ++ [(z, kd, fl)], vs ++ [.ref q], rfl, D11.other nL hSc, ⟨upd_same, by rw [List.length_append, List.map_append, List.length_append, hC11.len]; rfl, fun i x r hx hr => ?_, fun x hx => ?_, fun x hx => ?_⟩, by rw [List.length_append]; rfl, fun c hc => ?_⟩
          · have kL : Keep L H11 (upd H11 L (.lst (vs ++ [.ref q]))) := fun q o n h => by rw [upd_ne n]; exact h
            by_cases hj : i < vs.length
            · rw [List.getElem?_append_left hj] at hx
              rw [List.map_append, List.getElem?_append_left (by rw [← hC11.len]; exact hj)] at hr
              exact (hC11.it i x r hx hr).keepP ⟨_, hC11.at_⟩ ⟨_, upd_same⟩ kL (hC11.nL x (List.mem_of_getElem? hx))
            · have hil := (List.getElem?_eq_some_iff.mp hx).1
              rw [List.length_append] at hil
              obtain rfl : i = vs.length := by
                have : i < vs.length + 1 := hil
                omega
              rw [List.getElem?_append_right (Nat.le_refl _), Nat.sub_self] at hx
              rw [List.map_append, List.getElem?_append_right (by rw [← hC11.len]; exact Nat.le_refl _), ← hC11.len, Nat.sub_self] at hr
              obtain rfl : V.ref q = x := by simpa using hx
              obtain rfl : some (z, kd, fl) = r := by simpa using hr
              exact .ok (hq.elim (fun h => .inl (kL _ _ nqL h)) fun h => .inr (kL _ _ nqL h)) hz
          · rcases List.mem_append.mp hx with hx | hx
            · exact hC11.nL x hx
            · rw [List.mem_singleton.mp hx]
              exact fun e => nqL (by injection e)
          · rcases List.mem_append.mp hx with hx | hx
            · exact hC11.nd x hx
            · rw [List.mem_singleton.mp hx]
              exact fun e => nqd (by injection e)
          · rcases List.mem_append.mp hc with hc | hc
            · exact hnm c hc
            · rw [List.mem_singleton.mp hc]; exact hz
    · rintro σ' H4 ⟨s3, s4, s5, cs, vs, rfl, D4, hC4, hcl, hnm⟩
      have hvl : vs.length = cs.length := by rw [hC4.len, List.length_map]
      walk_at "g"
      refine ⟨d, sc, ms, 3, rfl, D4, by decide, by decide, fun u1 H5 u10 u11 D5 K5 => ?_⟩
      walk_at "g"
      refine ⟨d, sc, ms, 2, rfl, D5, by decide, by decide, fun u2 H6 u20 u21 D6 K6 => ?_⟩
      have hC6 := (hC4.draw D4 D5 K5 nL).draw D5 D6 K6 nL
      have hmul : 0 ≤ u1 * u2 ∧ u1 * u2 ≤ 4 := by
        have a1 : u1 = 0 ∨ u1 = 1 ∨ u1 = 2 := by omega
        have a2 : u2 = 0 ∨ u2 = 1 := by omega
        rcases a1 with rfl | rfl | rfl <;> rcases a2 with rfl | rfl <;> decide
      refine g_mulI (.inl ⟨by omega, by omega⟩) ?_
      generalize u1 * u2 = uu at hmul
      walk_at "g"
      refine ⟨_, rfl, by omega, by omega, ?_⟩
      refine for_rangeA (fun i σ' H' => ∃ (s3 s4 s5 s6 s7 : Option V) (vs : List V) (rs : List (Option Col)), σ' = [some (.ref a), some (.ref d), some (.ref L), s3, s4, s5, s6, s7, none, none, none, none, none, none] ∧ Dr H' d sc ms ∧ CsAt H' L d vs rs ∧ vs.length ≤ 14) ⟨_, _, _, none, none, vs, _, rfl, D6, hC6, by omega⟩ ?_ ?_
      · clear hC6 hC4 D4 hvl
        rintro i σ' H7 D' hi ⟨s3, s4, s5, s6, s7, vs, rs, rfl, D7, hC7, hvl⟩ hnx hct hbk hrt
        have hL7 := hC7.at_
        walk_at "g"
        refine g_dec (fun h0 => ?_) (fun h0 => ?_)
        · walk_at "g"
          refine ⟨d, sc, ms, _, rfl, D7, by omega, Nat.lt_of_lt_of_le (PySem.Flt.log2_lt_of (k := 64) (by decide) (by omega)) (by decide), fun j H8 j0 j1 D8 K8 => ?_⟩
          obtain ⟨j, rfl⟩ := Int.eq_ofNat_of_zero_le j0
          have hjl : j < vs.length := by omega
          have hC8 := hC7.draw D7 D8 K8 nL
          have hL8 := hC8.at_
          walk_at "g"
          refine g_slL (SqL.of hL8) fun l hl => ?_
          rw [cut_take (by omega)]
          have D9 := D8.new (o := .lst (vs.take j)) hl
          have hC9 := hC8.keep (XT.refl.new (o := .lst (vs.take j)) hl)
          have el : (upd H8 l (.lst (vs.take j))) l = some (.lst (vs.take j)) := upd_same
          generalize upd H8 l (.lst (vs.take j)) = H9 at D9 hC9 el
          refine ⟨l, rfl, ⟨_, SqL.of el⟩, fun Dn hDn => ?_⟩
          have nlD : l ≠ Dn := ne_of_none el hDn
          have htl : (vs.take j).length ≤ 14 := by rw [List.length_take]; omega
          refine lc_inv (vs.take j) (fun i acc H' => ∃ zs : List Str, acc = zs.map V.str ∧ H' Dn = some (.lst (zs.map V.str)) ∧ (∀ z ∈ zs, nameP z) ∧ zs.length ≤ i ∧ ∀ q o, q ≠ Dn → H9 q = some o → H' q = some o) ⟨[], rfl, upd_same, fun z h => (nomatch h), Nat.le_refl _, fun q o n h => by rw [upd_ne n]; exact h⟩ ?_ (by omega) ?_ ?_ ?_
          · rintro i acc H' ⟨zs, rfl, h1, h2, h3, h4⟩
            exact fits_l (SqL.of (h4 _ _ nlD el))
          · rintro i acc H' ⟨zs, rfl, h1, h2, h3, h4⟩
            exact ⟨h1, by rw [List.length_map]; exact h3⟩
          · rintro i acc y Hh R S hy ⟨zs, rfl, h1, h2, h3, h4⟩ hR hS
            have hij : i < j := by
              have := (List.getElem?_eq_some_iff.mp hy).1
              rw [List.length_take] at this
              omega
            rw [List.getElem?_take_of_lt hij] at hy
            obtain ⟨ro, hro⟩ : ∃ ro, rs[i]? = some ro := ⟨_, List.getElem?_eq_getElem (by rw [← hC9.len]; omega)⟩
            have hpt := (hC9.it i y ro hy hro).keep (fun q o h => h4 q o (ne_of_none h hDn) h)
            walk_at "g"
            refine ⟨rfl, ?_⟩
            walk_at "g"
            refine ⟨Nat.zero_le _, fun Ne hNe => ?_⟩
            have nDe : Dn ≠ Ne := ne_of_none h1 hNe
            have xe : XT Hh (upd Hh Ne (.lst [])) := XT.refl.new hNe
            refine ⟨y, Ne, [], ro, rfl, hpt.keep xe, upd_same, fun H3 x3 => ?_⟩
            have x03 := xe.trans x3
            cases ro with
            | none =>
              rw [show colB [] none = false from rfl]
              walk_at "g"
              exact hS _ ⟨zs, rfl, x03 _ _ h1, h2, by omega, fun q o n h => x03 _ _ (h4 q o n h)⟩
            | some c =>
              rw [show colB [] (some c) = true from by show (!decide (c.1 ∈ [])) = true; rw [decide_eq_false (fun h => nomatch h)]; rfl]
              cases hpt.keep x03 with
              | ok hq hz =>
              walk_at "g"
              refine g_ixA hq (v := .str c.1) (show atI (ct c) 0 = some (.str c.1) from rfl) ?_
              refine hR _ _ (x03 _ _ h1) ⟨zs ++ [c.1], by rw [List.map_append]; rfl, by rw [upd_same, List.map_append]; rfl, fun z hz' => ?_, by rw [List.length_append]; show _ + 1 ≤ _; omega, fun q o n h => by rw [upd_ne n]; exact x03 _ _ (h4 q o n h)⟩
              rcases List.mem_append.mp hz' with hz' | hz'
              · exact h2 z hz'
              · rw [List.mem_singleton.mp hz']; exact hz
          · rintro acc H10 ⟨zs, rfl, h1, h2, h3, h4⟩
            have x10 : XT H9 H10 := fun q o h => h4 q o (ne_of_none h hDn) h
            have D10 := D9.xt x10
            have hC10 := hC9.keep x10
            have nDd : Dn ≠ d := (D9.ne hDn).1
            obtain ⟨y, hy⟩ : ∃ y, vs[j]? = some y := ⟨_, List.getElem?_eq_getElem hjl⟩
            obtain ⟨ro, hro⟩ : ∃ ro, rs[j]? = some ro := ⟨_, List.getElem?_eq_getElem (by rw [← hC10.len]; omega)⟩
            have hL10 := hC10.at_
            walk_at "g"
            refine g_ixL (SqL.of hL10) (v := y) (atI_nat hy) ?_
            walk_at "g"
            refine ⟨Nat.zero_le _, fun Ne hNe => ?_⟩
            have xe : XT H10 (upd H10 Ne (.lst [])) := XT.refl.new hNe
            refine ⟨y, Ne, [], ro, rfl, (hC10.it j y ro hy hro).keep xe, upd_same, fun H11 x11 => ?_⟩
            have x011 := xe.trans x11
            have D11 := D10.xt x011
            have hC11 := hC10.keep x011
            cases ro with
            | none =>
              rw [show colB [] none = false from rfl]
              walk_at "g"
              exact hnx _ _ ⟨_, _, _, _, _, vs, rs, rfl, D11, hC11, hvl⟩
            | some c =>
              rw [show colB [] (some c) = true from by show (!decide (c.1 ∈ [])) = true; rw [decide_eq_false (fun h => nomatch h)]; rfl]
              have hpt := hC11.it j y (some c) hy hro
              cases hpt with
              | ok hq hz =>
              rename_i q
              have hL11 := hC11.at_
              have nqd : q ≠ d := fun e => hC11.nd _ (List.mem_of_getElem? hy) (by rw [e])
              walk_at "g"
              refine g_ixL (SqL.of hL11) (v := .ref q) (atI_nat hy) ?_
              walk_at "g"
              refine ⟨d, sc, ms, q, Dn, L, c, zs, rfl, D11, hq, nqd, hz, x011 _ _ h1, nDd, h2, by omega, ⟨_, hL11⟩, nL, fun v r H12 hv hvL hvd D12 K12 => ?_⟩
              have hC12 := hC11.draw D11 D12 K12 nL
              walk_at "g"
              refine g_setL hC12.at_ (n := j) (ixN_nat hjl) ?_
              exact hnx _ _ ⟨_, _, _, _, _, _, _, rfl, D12.other nL hSc, hC12.set hjl hv hvL hvd, by rw [List.length_set]; exact hvl⟩
        · walk_at "g"
          exact hnx _ _ ⟨_, _, _, _, _, vs, rs, rfl, D7, hC7, hvl⟩
      · clear hC6 hC4 D4 hvl D5 K5 D6 K6 hcl hnm
        rintro σ' H7 ⟨s3, s4, s5, s6, s7, vs, rs, rfl, D7, hC7, hvl⟩
        walk_at "g"
        refine ⟨L, vs, rs, rfl, hC7.at_, hC7.len, by omega, hC7.it, fun H8 x8 => ?_⟩
        have D8 := D7.xt x8
        have hC8 := hC7.keep x8
        walk_at "g"
        refine ⟨L, vs, rfl, .inl (SqL.of hC8.at_), fun g0 hg0 => ?_⟩
        have D9 := D8.new (o := .lst vs) hg0
        have hC9 := hC8.keep (XT.refl.new (o := .lst vs) hg0)
        have e9 : (upd H8 g0 (.lst vs)) g0 = some (.lst vs) := upd_same
        have n9 := (D8.ne hg0).1
        generalize upd H8 g0 (.lst vs) = H9 at D9 hC9 e9
        walk_at "g"
        refine g_cutA (M := fun σ' H' => ∃ q, σ' = [some (.ref a), some (.ref d), some (.ref L), s3, s4, s5, s6, s7, some (fV (dueC (some rs))), some (.ref q), none, none, none, none] ∧ Dr H' d sc ms ∧ CsAt H' L d vs rs ∧ (H' q = some (.lst vs) ∨ H' q = some (.tup vs))) (fun D' hn1 hrt _ _ => ?_) ?_
        · walk_at "g"
          refine ⟨d, sc, ms, 2, rfl, D9, by decide, by decide, fun r5 H10 r50 r51 D10 K10 => ?_⟩
          have hC10 := hC9.draw D9 D10 K10 nL
          have e10 := K10 _ _ n9 e9
          walk_at "g"
          refine g_dec (fun h0 => ?_) (fun h0 => ?_)
          · walk_at "g"
            refine g_tupL (SqL.of hC10.at_) fun t ht => ?_
            exact hn1 _ _ ⟨t, rfl, D10.new ht, hC10.keep (XT.refl.new ht), .inr upd_same⟩
          · walk_at "g"
            exact hn1 _ _ ⟨_, rfl, D10, hC10, .inl e10⟩
        · clear D9 hC9 e9 n9 hg0 D8 hC8 x8 D7 hC7
          rintro σ' H10 ⟨q, rfl, D10, hC10, hq⟩
          walk_at "g"
          refine ⟨.ref q, some rs, rfl, .seq hq hC10.len hC10.it, fun t Ha xa cs hcs hS => ?_⟩
          have Da := D10.xt xa
          have hCa := hC10.keep xa
          have hqa := seq_keep0 hq xa
          have pair := csame (K := K) (H0 := Ha) hC10.len hC10.it
          walk_at "g"
          refine ⟨q, vs, rfl, hqa.elim (fun h => .inl (SqL.of h)) (fun h => .inr (SqT.of h)), fun l hl => ?_⟩
          have xl : XT Ha (upd Ha l (.lst vs)) := XT.refl.new hl
          have ell : (upd Ha l (.lst vs)) l = some (.lst vs) := upd_same
          have pair2 := csame (K := K) (H0 := upd Ha l (.lst vs)) hC10.len hC10.it
          generalize upd Ha l (.lst vs) = H11 at xl ell pair2
          have hC11 := hCa.keep xl
          walk_at "g"
          refine ⟨1, l, L, vs, vs, by decide, rfl, rfl, SqL.of ell, SqL.of hC11.at_, pair2, ?_⟩
          walk_at "g"
          cases hdue : dueC (some rs) with
          | some i =>
            rw [hdue] at hS
            have ht11 := xl _ _ (show Ha t = some (.tup [.non, .str "columns", .int i, .bl true]) from hS)
            rw [show fV (some i) = V.int i from rfl]
            refine g_ixT (SqT.of ht11) (v := .bl true) (by rfl) ?_
            walk_at "g"
            refine g_ixT (SqT.of ht11) (v := .non) (by rfl) ?_
            walk_at "g"
            refine g_ixT (SqT.of ht11) (v := .str "columns") (by rfl) ?_
            walk_at "g"
            rw [decide_eq_true (rfl : Str.ofString "columns" = Str.ofString "columns")]
            walk_at "g"
            refine g_ixT (SqT.of ht11) (v := .int i) (by rfl) ?_
            walk_at "g"
            refine ⟨i, rfl, ?_⟩
            walk_at "g"
            refine g_ixT (SqT.of ht11) (v := .int i) (by rfl) ?_
            walk_at "g"
            rw [decide_eq_true (rfl : i = i)]
            exact k _
          | none =>
            rw [hdue] at hS
            have hrs : rs = cs.map some := by
              have := hcs hdue
              injection this
            obtain ⟨x, ht, hSh⟩ := hS
            have ht11 := xl _ _ ht
            obtain ⟨hr1, hr2, _⟩ := dueC_none hdue
            subst hrs
            rw [List.length_map] at hr1 hr2
            have hvc : vs.length = cs.length := by rw [hC10.len, List.length_map]
            have nmc : ∀ c ∈ cs, nameP c.1 := fun c hc => by
              obtain ⟨i, hi⟩ := List.getElem?_of_mem hc
              have hil := (List.getElem?_eq_some_iff.mp hi).1
              obtain ⟨v, hv⟩ : ∃ v, vs[i]? = some v := ⟨_, List.getElem?_eq_getElem (by omega)⟩
              have := hC10.it i v (some c) hv (by rw [List.getElem?_map, hi]; rfl)
              cases this with
              | ok hq hz => exact hz
            rw [show fV none = V.non from rfl]
            refine g_ixT (SqT.of ht11) (v := .bl true) (by rfl) ?_
            walk_at "g"
            refine g_ixT (SqT.of ht11) (v := .ref x) (by rfl) ?_
            walk_at "g"
            have hSh11 := hSh.keep xl
            obtain ⟨dx, fs, T0, Dk, kvs, ts, g1, g2, g3, g4, g5, g6, g7, g8, ⟨w1, w2, w3, w4⟩⟩ := id hSh11
            refine ⟨x, dx, fs, rfl, g1, w1, ?_⟩
            walk_at "g"
            refine ⟨x, cs, rfl, hSh11, fun lt H12 x12 hlt hLAt => ?_⟩
            obtain ⟨ks, hk1, hk2, hk3⟩ := id hLAt
            rw [List.length_map] at hk2
            have hC12 := hC11.keep x12
            have hL12 := hC12.at_
            walk_at "g"
            refine g_isi (.base (.lst hk1)) (b := true) (by decide +kernel) ?_
            walk_at "g"
            refine ⟨L, rfl, ⟨_, SqL.of hL12⟩, fun Dn hDn => ?_⟩
            refine lc_new vs (fun i y H' => ∃ q c, y = .ref q ∧ cs[i]? = some c ∧ H' q = some (.tup (ct c))) hDn (fun H2 k2 => fits_l (SqL.of (k2 _ _ hL12))) (by omega) ?_ ?_ ?_
            · rintro i y Ha Hb ⟨zs, hz⟩ ⟨q, c, rfl, h1, h2⟩ hk
              exact ⟨q, c, rfl, h1, hk _ _ (fun z => by rw [z, hz] at h2; cases h2) h2⟩
            · intro i y Hh R S hy kh _ hR
              have hil : i < cs.length := by
                have := (List.getElem?_eq_some_iff.mp hy).1
                omega
              obtain ⟨c, hc⟩ : ∃ c, cs[i]? = some c := ⟨_, List.getElem?_eq_getElem hil⟩
              have hpt := (hC12.it i y (some c) hy (by rw [List.getElem?_map, hc]; rfl)).keep kh
              cases hpt with
              | ok hq hz =>
              walk_at "g"
              refine ⟨rfl, ?_⟩
              walk_at "g"
              rcases hq with hq | hq
              · refine g_tupL (SqL.of hq) fun t ht => ?_
                exact hR _ _ (XT.refl.new ht) ⟨t, c, rfl, hc, upd_same⟩
              · refine g_tupT (SqT.of hq) ?_
                exact hR _ _ (fun q o h => h) ⟨_, c, rfl, hc, hq⟩
            · intro H13 ys x13 hW hyl hys
              obtain ⟨us, rfl, hul, hus⟩ : ∃ us : List Addr, ys = us.map V.ref ∧ us.length = cs.length ∧ ∀ (i : Nat) u c, us[i]? = some u → cs[i]? = some c → H13 u = some (.tup (ct c)) := by
                have key : ∀ (ys : List V), (∀ y ∈ ys, ∃ q, y = .ref q) → ∃ qs : List Addr, ys = qs.map V.ref := by
                  intro ys
                  induction ys with
                  | nil => exact fun _ => ⟨[], rfl⟩
                  | cons y r ih =>
                    intro h
                    obtain ⟨q, rfl⟩ := h y List.mem_cons_self
                    obtain ⟨qs, rfl⟩ := ih fun z hz => h z (List.mem_cons_of_mem _ hz)
                    exact ⟨q :: qs, rfl⟩
                obtain ⟨us, rfl⟩ := key ys fun y hy => by
                  obtain ⟨i, hi⟩ := List.getElem?_of_mem hy
                  obtain ⟨q, c, e, _⟩ := hys i y hi
                  exact ⟨q, e⟩
                refine ⟨us, rfl, by rw [← hvc, ← hyl, List.length_map], fun i u c hu hc => ?_⟩
                obtain ⟨q, c2, e, h1, h2⟩ := hys i (.ref u) (by rw [List.getElem?_map, hu]; rfl)
                injection e with e
                rw [hc] at h1
                injection h1 with h1
                rw [e, h1]; exact h2
              have hsh := sh_cols nmc
              walk_at "g"
              refine ⟨.list (cs.map pdC), .list (cs.map pdC), .lst (SqL.of (x13 _ _ hk1)) (dp_cols hk2 fun i q c hq hc => x13 _ _ (hk3 i q (ct c) hq (by rw [List.getElem?_map, hc]; rfl))), .lst (SqL.of hW) (dp_cols hul hus), hsh, hsh, ?_⟩
              rw [SeqAt.eqv_refl _ (SeqAt.canLay_of_shaped hsh)]
              have hk13 := x13 _ _ hk1
              walk_at "g"
              refine g_bm0 ?_
              walk_at "g"
              refine ⟨lt, _, rfl, rfl, hk13, ?_⟩
              have xA : XT H11 (upd H13 lt (.lst [])) := XT.late (x12.trans x13) hlt
              generalize upd H13 lt (.lst []) = H14 at xA
              walk_at "g"
              refine ⟨x, dx, fs, rfl, xA _ _ g1, w2, ?_⟩
              walk_at "g"
              refine ⟨x, cs, rfl, hSh11.keep xA, hr2, fun ln H15 x15 hln en => ?_⟩
              have hlnA : H11 ln = none := by
                cases e : H11 ln with
                | none => rfl
                | some o => rw [xA _ _ e] at hln; cases hln
              walk_at "g"
              refine g_bm0 ?_
              walk_at "g"
              refine ⟨ln, _, rfl, rfl, en, ?_⟩
              have xB : XT H11 (upd H15 ln (.lst ((cs.map (·.1)).map V.str).reverse)) := XT.late (xA.trans x15) hlnA
              generalize upd H15 ln (.lst ((cs.map (·.1)).map V.str).reverse) = H16 at xB
              walk_at "g"
              refine ⟨x, dx, fs, rfl, xB _ _ g1, w2, ?_⟩
              walk_at "g"
              refine ⟨x, cs, rfl, hSh11.keep xB, hr2, fun ln2 H17 x17 hln2 en2 => ?_⟩
              have xC := xB.trans x17
              have hC17 := hC11.keep xC
              have hL17 := hC17.at_
              walk_at "g"
              refine ⟨L, rfl, ⟨_, SqL.of hL17⟩, fun De hDe => ?_⟩
              refine lc_new vs (fun i y _ => ∃ c, cs[i]? = some c ∧ y = .str c.1) hDe (fun H2 k2 => fits_l (SqL.of (k2 _ _ hL17))) (by omega) (fun i y Ha Hb _ h _ => h) ?_ ?_
              · intro j y Hh R S hy kh _ hR
                have hjl : j < cs.length := by
                  have := (List.getElem?_eq_some_iff.mp hy).1
                  omega
                obtain ⟨c, hc⟩ : ∃ c, cs[j]? = some c := ⟨_, List.getElem?_eq_getElem hjl⟩
                have hpt := (hC17.it j y (some c) hy (by rw [List.getElem?_map, hc]; rfl)).keep kh
                cases hpt with
                | ok hq hz =>
                walk_at "g"
                refine ⟨rfl, ?_⟩
                walk_at "g"
                refine g_ixA hq (v := .str c.1) (show atI (ct c) 0 = some (.str c.1) from rfl) ?_
                exact hR _ _ (fun q o h => h) ⟨c, hc, rfl⟩
              · intro H18 ys x18 hW2 hyl2 hys2
                obtain rfl : ys = (cs.map (·.1)).map V.str := strs_newC (by rw [hyl2, hvc]) hys2
                have hsn := sh_names (zs := cs.map (·.1)) fun z hz => by
                  obtain ⟨c, hc, rfl⟩ := List.mem_map.mp hz
                  exact nmc c hc
                walk_at "g"
                refine ⟨.list ((cs.map (·.1)).map PyData.str), .list ((cs.map (·.1)).map PyData.str), .lst (SqL.of (x18 _ _ en2)) dp_strs, .lst (SqL.of hW2) dp_strs, hsn, hsn, ?_⟩
                rw [SeqAt.eqv_refl _ (SeqAt.canLay_of_shaped hsn)]
                have xD := xC.trans x18
                walk_at "g"
                refine ⟨x, dx, fs, rfl, xD _ _ g1, w1, ?_⟩
                walk_at "g"
                refine ⟨x, cs, rfl, hSh11.keep xD, fun lt2 H19 x19 hlt2 hLAt2 => ?_⟩
                obtain ⟨ks2, hk21, hk22, hk23⟩ := id hLAt2
                rw [List.length_map] at hk22
                have xE := xD.trans x19
                have hC19 := hC11.keep xE
                have hL19 := hC19.at_
                walk_at "g"
                rw [List.length_map, hk22, hvc]
                refine g_ndec (fun hne => absurd rfl hne) (fun _ => ?_)
                walk_at "g"
                refine ⟨L, rfl, ⟨_, SqL.of hL19⟩, for_listA (xs := vs) (fun j σ' H' => ∃ s5' : Option V, σ' = [some (.ref a), some (.ref d), some (.ref L), s3, s4, s5', s6, some (.ref ln), some .non, some (.ref q), some (.ref t), some (.ref x), some (.ref lt), none] ∧ XT H11 H') ⟨_, rfl, xE⟩ ?_ ?_ ?_⟩
                · rintro j σ' H' hj ⟨s5', rfl, xF⟩
                  exact SqL.of (hC11.keep xF).at_
                · rintro j y σ' H20 D' hy ⟨s5', rfl, xF⟩ hnx hct hbk hrt
                  have hjl : j < cs.length := by
                    have := (List.getElem?_eq_some_iff.mp hy).1
                    omega
                  obtain ⟨c, hc⟩ : ∃ c, cs[j]? = some c := ⟨_, List.getElem?_eq_getElem hjl⟩
                  have hpt := (hC11.keep xF).it j y (some c) hy (by rw [List.getElem?_map, hc]; rfl)
                  cases hpt with
                  | ok hqc hz =>
                  rename_i qc
                  refine g_name ?_
                  walk_at "g"
                  refine ⟨x, dx, fs, rfl, xF _ _ g1, w3, ?_⟩
                  walk_at "g"
                  refine g_ixA hqc (v := .str c.1) (show atI (ct c) 0 = some (.str c.1) from rfl) ?_
                  walk_at "g"
                  refine ⟨x, cs, j, c, rfl, hSh11.keep xF, hc, hz, fun H21 x21 => ?_⟩
                  have hq21 := seq_keep0 hqc x21
                  walk_at "g"
                  refine g_ixA hq21 (v := .str (kS c.2.1)) (show atI (ct c) 1 = some (.str (kS c.2.1)) from rfl) ?_
                  walk_at "g"
                  refine g_ndec (fun hne => absurd rfl hne) (fun _ => ?_)
                  walk_at "g"
                  refine ⟨x, dx, fs, rfl, x21 _ _ (xF _ _ g1), w4, ?_⟩
                  walk_at "g"
                  refine g_ixA hq21 (v := .str c.1) (show atI (ct c) 0 = some (.str c.1) from rfl) ?_
                  walk_at "g"
                  refine ⟨x, cs, j, c, rfl, hSh11.keep (xF.trans x21), hc, hz, fun H22 x22 => ?_⟩
                  have hq22 := seq_keep0 hq21 x22
                  walk_at "g"
                  refine g_ixA hq22 (v := .bl c.2.2) (show atI (ct c) 2 = some (.bl c.2.2) from rfl) ?_
                  walk_at "g"
                  refine ⟨c.2.2, rfl, ?_⟩
                  walk_at "g"
                  exact hnx _ _ ⟨_, rfl, (xF.trans x21).trans x22⟩
                · rintro σ' H20 ⟨s5', rfl, xF⟩
                  have D20 := Da.xt (xl.trans xF)
                  walk_at "g"
                  intro dk hdk
                  have D21 := D20.new (o := .dK []) hdk
                  have e21 : (upd H20 dk (.dK [])) dk = some (.dK []) := upd_same
                  have dkd := (D20.ne hdk).1
                  generalize upd H20 dk (.dK []) = H21 at D21 e21
                  walk_at "g"
                  refine ⟨by show 5 ≤ sizeLine; decide, fun l5 hl5 => ?_⟩
                  have D22 := D21.new (o := .lst [.non, .int 5, .str (Str.ofString "a"), .ref dk, .bl true]) hl5
                  have e22 : (upd H21 l5 (.lst [.non, .int 5, .str (Str.ofString "a"), .ref dk, .bl true])) dk = some (.dK []) := by rw [upd_ne (ne_of_none e21 hl5)]; exact e21
                  have f22 : (upd H21 l5 (.lst [.non, .int 5, .str (Str.ofString "a"), .ref dk, .bl true])) l5 = some (.lst [.non, .int 5, .str (Str.ofString "a"), .ref dk, .bl true]) := upd_same
                  have n5 := (D21.ne hl5).1
                  generalize upd H21 l5 (.lst [.non, .int 5, .str (Str.ofString "a"), .ref dk, .bl true]) = H22 at D22 e22 f22
                  walk_at "g"
                  refine ⟨d, sc, ms, 5, rfl, D22, by decide, by decide, fun r5 H23 r50 r51 D23 K23 => ?_⟩
                  have e23 := K23 _ _ dkd e22
                  have f23 := K23 _ _ n5 f22
                  obtain ⟨v, hv, hTv⟩ : ∃ v, atI [V.non, .int 5, .str (Str.ofString "a"), .ref dk, .bl true] r5 = some v ∧ ThC H23 v none := by
                    have : r5 = 0 ∨ r5 = 1 ∨ r5 = 2 ∨ r5 = 3 ∨ r5 = 4 := by omega
                    rcases this with rfl | rfl | rfl | rfl | rfl
                    · exact ⟨_, rfl, .nos (by decide) .non (by decide) (by decide)⟩
                    · exact ⟨_, rfl, .nos (by decide) (.int _) (by decide) (by decide)⟩
                    · exact ⟨_, rfl, .nos (by decide) (.str _) (by decide) (by decide)⟩
                    · exact ⟨_, rfl, .nos (by decide) (.dct e23) (by decide) (by decide)⟩
                    · exact ⟨_, rfl, .nos (by decide) (.bl _) (by decide) (by decide)⟩
                  refine g_ixL (SqL.of f23) hv ?_
                  walk_at "g"
                  refine ⟨v, none, rfl, hTv, fun tz H24 x24 cs4 hcs4 hS4 => ?_⟩
                  have ht24 : H24 tz = some (.tup [.non, .str "columns", .int (-1), .bl true]) := hS4
                  walk_at "g"
                  refine g_ixT (SqT.of ht24) (v := .non) (by rfl) ?_
                  walk_at "g"
                  refine g_ixT (SqT.of ht24) (v := .str "columns") (by rfl) ?_
                  walk_at "g"
                  rw [decide_eq_true (rfl : Str.ofString "columns" = Str.ofString "columns")]
                  walk_at "g"
                  refine g_ixT (SqT.of ht24) (v := .int (-1)) (by rfl) ?_
                  walk_at "g"
                  exact k _
end
theorem kitSelf {K : PySem.W.Frag} {C : Addr} : PySem.W.kitOne K (.ref C) (.ref C) = some true := by
  unfold PySem.W.kitOne
  rw [if_pos (beq_self_eq_true _)]
theorem kitNo {K : PySem.W.Frag} {C : Addr} {T : String} (h2 : PySem.W.isClsIn K C = true) (h3 : PySem.W.typeIn K (.ref C) = some (.type "type")) (h4 : PySem.W.subIn K (.type T) (.ref C) = some false) : PySem.W.kitOne K (.type T) (.ref C) = some false := by
  have e1 : ¬ (Value.type T == Value.ref C) = true := fun z => nomatch (beq_iff_eq.mp z)
  have e2 : ((PySem.W.clsIn K C).isSome && PySem.W.typeIn K (.ref C) == some (.type "type")) = true := by
    have h2' : (PySem.W.clsIn K C).isSome = true := h2
    rw [h2', h3] <;> rfl
  show (if (Value.type T == Value.ref C) = true then some true else (if ((PySem.W.clsIn K C).isSome && PySem.W.typeIn K (.ref C) == some (.type "type")) = true then PySem.W.subIn K (.type T) (.ref C) else none)) = some false
  rw [if_neg e1, if_pos e2]
  exact h4
theorem kitOwnT {K : PySem.W.Frag} {C R : Addr} (h2 : PySem.W.isClsIn K R = true) (h3 : PySem.W.typeIn K (.ref R) = some (.type "type")) (h4 : PySem.W.subIn K (.ref C) (.ref R) = some true) : PySem.W.kitOne K (.ref C) (.ref R) = some true := by
  have e2 : ((PySem.W.clsIn K R).isSome && PySem.W.typeIn K (.ref R) == some (.type "type")) = true := by
    have h2' : (PySem.W.clsIn K R).isSome = true := h2
    rw [h2', h3] <;> rfl
  show (if (Value.ref C == Value.ref R) = true then some true else (if ((PySem.W.clsIn K R).isSome && PySem.W.typeIn K (.ref R) == some (.type "type")) = true then PySem.W.subIn K (.ref C) (.ref R) else none)) = some true
  by_cases e1 : (Value.ref C == Value.ref R) = true
  · rw [if_pos e1]
  · rw [if_neg e1, if_pos e2]
    exact h4
theorem kitOwn {K : PySem.W.Frag} {C R : Addr} (h1 : PySem.W.subIn K (.ref C) (.ref C) = some true) (h2 : PySem.W.isClsIn K R = true) (h3 : PySem.W.typeIn K (.ref R) = some (.type "type")) (h4 : PySem.W.subIn K (.ref C) (.ref R) = some false) : PySem.W.kitOne K (.ref C) (.ref R) = some false := by
  have e2 : ((PySem.W.clsIn K R).isSome && PySem.W.typeIn K (.ref R) == some (.type "type")) = true := by
    have h2' : (PySem.W.clsIn K R).isSome = true := h2
    rw [h2', h3] <;> rfl
  show (if (Value.ref C == Value.ref R) = true then some true else (if ((PySem.W.clsIn K R).isSome && PySem.W.typeIn K (.ref R) == some (.type "type")) = true then PySem.W.subIn K (.ref C) (.ref R) else none)) = some false
  rw [if_neg (fun e => by
    have e' : C = R := Value.ref.inj (beq_iff_eq.mp e)
    rw [e'] at h1 h4
    rw [h1] at h4
    cases h4), if_pos e2]
  exact h4
theorem exmSelf {K : PySem.W.Frag} {S : Addr} (h1 : PySem.W.subIn K (.ref S) (.type "BaseException") = some true) (h2 : PySem.W.isClsIn K S = true) (h3 : PySem.W.typeIn K (.ref S) = some (.type "type")) (h4 : PySem.W.subIn K (.ref S) (.ref S) = some true) : PySem.W.exmOne K (.ref S) (.ref S) = some true := by
  have e1 : (PySem.W.subIn K (.ref S) (.type "BaseException") == some true) = true := by rw [h1] <;> rfl
  have e2 : ((PySem.W.clsIn K S).isSome && PySem.W.typeIn K (.ref S) == some (.type "type")) = true := by
    have h2' : (PySem.W.clsIn K S).isSome = true := h2
    rw [h2', h3] <;> rfl
  show (if (PySem.W.subIn K (.ref S) (.type "BaseException") == some true) = true then (if ((PySem.W.clsIn K S).isSome && PySem.W.typeIn K (.ref S) == some (.type "type")) = true then PySem.W.subIn K (.ref S) (.ref S) else none) else none) = some true
  rw [if_pos e1, if_pos e2]
  exact h4
theorem all_mk {l : PySem.W.OpenLaw} {w : World} {K : PySem.W.Frag} {h : Heap} {mg : Str → Option Value} {fa f_is_sequence f_is_name f_Shape_init f_Shape_columns f_Shape_names f_Shape_kind f_Shape_filled f_is_short f_is_column f_need_columns f_need_checks f_need_keys f_column_of f__law_begin f__law_take f__law_is_integer f__law_name f__law_flag f__law_spoiled f__law_is_column f__law_due f__law_shape_or_error f_law : Addr} {c_Shape : Addr} {c_BadShape feBadShape : Addr} {c_BadRow : Addr} {c_RowsError : Addr} (X : K.In h) (G : h.Ns mainGlobals mg) (hfa : mg "law" = some (.ref fa))
    {od_is_sequence an_is_sequence : Option Addr} {sl_is_sequence : Array (Option Value)} {oc_is_sequence kV_is_sequence dc_is_sequence pm_is_sequence cd_is_sequence ct_is_sequence : Value}
    {od_is_name an_is_name : Option Addr} {sl_is_name : Array (Option Value)} {oc_is_name kV_is_name dc_is_name pm_is_name cd_is_name ct_is_name : Value}
    {od_Shape_init an_Shape_init : Option Addr} {sl_Shape_init : Array (Option Value)} {oc_Shape_init dc_Shape_init pm_Shape_init cd_Shape_init ct_Shape_init : Value}
    {od_Shape_columns an_Shape_columns : Option Addr} {sl_Shape_columns : Array (Option Value)} {oc_Shape_columns kV_Shape_columns dc_Shape_columns pm_Shape_columns cd_Shape_columns ct_Shape_columns : Value}
    {od_Shape_names an_Shape_names : Option Addr} {sl_Shape_names : Array (Option Value)} {oc_Shape_names kV_Shape_names dc_Shape_names pm_Shape_names cd_Shape_names ct_Shape_names : Value}
    {od_Shape_kind an_Shape_kind : Option Addr} {sl_Shape_kind : Array (Option Value)} {oc_Shape_kind kV_Shape_kind dc_Shape_kind pm_Shape_kind cd_Shape_kind ct_Shape_kind : Value}
    {od_Shape_filled an_Shape_filled : Option Addr} {sl_Shape_filled : Array (Option Value)} {oc_Shape_filled kV_Shape_filled dc_Shape_filled pm_Shape_filled cd_Shape_filled ct_Shape_filled : Value}
    {od_is_short an_is_short : Option Addr} {sl_is_short : Array (Option Value)} {oc_is_short kV_is_short dc_is_short pm_is_short cd_is_short ct_is_short : Value}
    {od_is_column an_is_column : Option Addr} {sl_is_column : Array (Option Value)} {oc_is_column kV_is_column dc_is_column pm_is_column cd_is_column ct_is_column : Value}
    {od_need_columns an_need_columns : Option Addr} {sl_need_columns : Array (Option Value)} {oc_need_columns kV_need_columns dc_need_columns pm_need_columns cd_need_columns ct_need_columns : Value}
    {od_need_checks an_need_checks : Option Addr} {sl_need_checks : Array (Option Value)} {oc_need_checks kV_need_checks dc_need_checks pm_need_checks cd_need_checks ct_need_checks : Value}
    {od_need_keys an_need_keys : Option Addr} {sl_need_keys : Array (Option Value)} {oc_need_keys kV_need_keys dc_need_keys pm_need_keys cd_need_keys ct_need_keys : Value}
    {od_column_of an_column_of : Option Addr} {sl_column_of : Array (Option Value)} {oc_column_of kV_column_of dc_column_of pm_column_of cd_column_of ct_column_of : Value}
    {od__law_begin an__law_begin : Option Addr} {sl__law_begin : Array (Option Value)} {oc__law_begin kV__law_begin dc__law_begin pm__law_begin cd__law_begin ct__law_begin : Value}
    {od__law_take an__law_take : Option Addr} {sl__law_take : Array (Option Value)} {oc__law_take kV__law_take dc__law_take pm__law_take cd__law_take ct__law_take : Value}
    {od__law_is_integer an__law_is_integer : Option Addr} {sl__law_is_integer : Array (Option Value)} {oc__law_is_integer kV__law_is_integer dc__law_is_integer pm__law_is_integer cd__law_is_integer ct__law_is_integer : Value}
    {od__law_name an__law_name : Option Addr} {sl__law_name : Array (Option Value)} {oc__law_name kV__law_name dc__law_name pm__law_name cd__law_name ct__law_name : Value}
    {od__law_flag an__law_flag : Option Addr} {sl__law_flag : Array (Option Value)} {oc__law_flag kV__law_flag dc__law_flag pm__law_flag cd__law_flag ct__law_flag : Value}
    {od__law_spoiled an__law_spoiled : Option Addr} {sl__law_spoiled : Array (Option Value)} {oc__law_spoiled kV__law_spoiled dc__law_spoiled pm__law_spoiled cd__law_spoiled ct__law_spoiled : Value}
    {od__law_is_column an__law_is_column : Option Addr} {sl__law_is_column : Array (Option Value)} {oc__law_is_column kV__law_is_column dc__law_is_column pm__law_is_column cd__law_is_column ct__law_is_column : Value}
    {od__law_due an__law_due : Option Addr} {sl__law_due : Array (Option Value)} {oc__law_due kV__law_due dc__law_due pm__law_due cd__law_due ct__law_due : Value}
    {od__law_shape_or_error an__law_shape_or_error : Option Addr} {sl__law_shape_or_error : Array (Option Value)} {oc__law_shape_or_error kV__law_shape_or_error dc__law_shape_or_error pm__law_shape_or_error cd__law_shape_or_error ct__law_shape_or_error : Value}
    {od_law an_law : Option Addr} {sl_law : Array (Option Value)} {oc_law kV_law dc_law pm_law cd_law ct_law : Value}
    (a_Shape : PySem.W.nsIn K mainGlobals "Shape" = some (some (.ref c_Shape))) (pg_Shape : PySem.W.plainGet K c_Shape Str.empty = true) (hd_Shape : PySem.W.hasDictIn K c_Shape = true) (po_Shape : PySem.W.plainOver K c_Shape = true) (sa_Shape : PySem.W.findIn K (.ref c_Shape) "__setattr__" = some (some (.builtin "object.__setattr__"))) (mk_Shape : PySem.W.makesIn K c_Shape = true) (kc_Shape : PySem.W.keepIn K (.ref c_Shape) = true)
    (sf_Shape : PySem.W.selfFirst K c_Shape = true)
    (nr_Shape_and : PySem.W.findIn K (.ref c_Shape) (dunderR "and") = some none)
    (nr_Shape_or : PySem.W.findIn K (.ref c_Shape) (dunderR "or") = some none)
    (ia_Shape : PySem.W.findIn K (.ref c_Shape) "__class__" = some (some (.builtin "object.__class__"))) (in_Shape : PySem.W.specialIn K (.builtin "object.__class__") "__get__" = some (some (.builtin "getset_descriptor.__get__"))) (it_Shape : PySem.W.takesIn K (.builtin "object.__class__") = some true) (im_Shape : PySem.W.mroIn K c_Shape (.type "object") = some true) (io_Shape : PySem.W.isClsIn K c_Shape = true) (iy_Shape : PySem.W.typeIn K (.ref c_Shape) = some (.type "type"))
    (iz_Shape_NoneType : PySem.W.subIn K (.type "NoneType") (.ref c_Shape) = some false)
    (iz_Shape_bool : PySem.W.subIn K (.type "bool") (.ref c_Shape) = some false)
    (iz_Shape_int : PySem.W.subIn K (.type "int") (.ref c_Shape) = some false)
    (iz_Shape_str : PySem.W.subIn K (.type "str") (.ref c_Shape) = some false)
    (iz_Shape_list : PySem.W.subIn K (.type "list") (.ref c_Shape) = some false)
    (iz_Shape_tuple : PySem.W.subIn K (.type "tuple") (.ref c_Shape) = some false)
    (iz_Shape_dict : PySem.W.subIn K (.type "dict") (.ref c_Shape) = some false)
    (n_Shape_layout : PySem.W.findIn K (.ref c_Shape) "layout" = some none)
    (n_Shape_spots : PySem.W.findIn K (.ref c_Shape) "spots" = some none)
    (n_Shape_check_tests : PySem.W.findIn K (.ref c_Shape) "check_tests" = some none)
    (n_Shape_key_rules : PySem.W.findIn K (.ref c_Shape) "key_rules" = some none)
    {nm_eBadShape q_eBadShape : Str} {N_eBadShape : Addr} {bs_eBadShape bm_eBadShape : List Value} {sn_eBadShape : List Str} {su_eBadShape : List Value} {ab_eBadShape : Bool} {co_eBadShape : Option Bool} {dd_eBadShape : Option Addr} {m0_eBadShape m1_eBadShape m2_eBadShape m3_eBadShape m5_eBadShape : Option Value} {oc_eBadShape doc_eBadShape pm_eBadShape cd_eBadShape ct_eBadShape : Value} {od_eBadShape an_eBadShape : Option Addr} {sl_eBadShape : Array (Option Value)} {p1_eBadShape p2_eBadShape p3_eBadShape q1_eBadShape q2_eBadShape q3_eBadShape q4_eBadShape q5_eBadShape q6_eBadShape q7_eBadShape q8_eBadShape : Pos} {sc_eBadShape : Scope}
    (a_eBadShape : PySem.W.nsIn K mainGlobals "BadShape" = some (some (.ref c_BadShape))) (x_eBadShape : K.lookup c_BadShape = some (excClassObj nm_eBadShape q_eBadShape c_BadShape N_eBadShape bs_eBadShape bm_eBadShape true sn_eBadShape su_eBadShape ab_eBadShape co_eBadShape dd_eBadShape m0_eBadShape m1_eBadShape m2_eBadShape m3_eBadShape m5_eBadShape "Exception.__new__")) (o_eBadShape : PySem.TwX.OwnEx bm_eBadShape) (sa_eBadShape : PySem.W.findIn K (.ref c_BadShape) "__setattr__" = some (some (.builtin "object.__setattr__"))) (ga_eBadShape : PySem.W.findIn K (.ref c_BadShape) "__getattribute__" = some (some (.builtin "BaseException.__getattribute__"))) (gg_eBadShape : PySem.W.findIn K (.ref c_BadShape) "__getattr__" = some none) (nb_eBadShape : PySem.W.findIn K (.ref c_BadShape) "why" = some none) (i_eBadShape : PySem.W.findIn K (.ref c_BadShape) "__init__" = some (some (.ref feBadShape))) (t_eBadShape : PySem.W.typeIn K (.ref feBadShape) = some (.type "function")) (nc_eBadShape : PySem.W.findIn K (.ref c_BadShape) "at" = some none)
    (l_eBadShape : K.lookup feBadShape = some ⟨oc_eBadShape, od_eBadShape, .func (PySem.W.fnOf "__init__" "BadShape.__init__" (PySem.ErBadShape.inA p1_eBadShape p2_eBadShape p3_eBadShape) (PySem.ErBadShape.inB q1_eBadShape q2_eBadShape q3_eBadShape q4_eBadShape q5_eBadShape q6_eBadShape q7_eBadShape q8_eBadShape) sc_eBadShape .none .none doc_eBadShape pm_eBadShape an_eBadShape cd_eBadShape ct_eBadShape), sl_eBadShape⟩) (cc_eBadShape : PySem.W.codeIn K cd_eBadShape "BadShape.__init__" = true) (s1_eBadShape : sc_eBadShape.kind = .function) (s2_eBadShape : sc_eBadShape.names = [(PySem.Str.ofString "self", .local), (PySem.Str.ofString "why", .local), (PySem.Str.ofString "at", .local)]) (s3_eBadShape : sc_eBadShape.isGenerator = false) (s4_eBadShape : sc_eBadShape.isCoroutine = false)
    (k_eBadShape : PySem.W.keepIn K (.ref c_BadShape) = true) (eC_eBadShape : PySem.W.subIn K (.ref c_BadShape) (.type "BaseException") = some true) (tC_eBadShape : PySem.W.typeIn K (.ref c_BadShape) = some (.type "type")) (hC_eBadShape : PySem.W.hasDictIn K c_BadShape = true) (te_eBadShape : PySem.W.isClsIn K c_BadShape = true) (tf_eBadShape : PySem.W.subIn K (.ref c_BadShape) (.ref c_BadShape) = some true)
    (a_BadRow : PySem.W.nsIn K mainGlobals "BadRow" = some (some (.ref c_BadRow))) (ix_BadRow : PySem.W.isClsIn K c_BadRow = true) (tx_BadRow : PySem.W.typeIn K (.ref c_BadRow) = some (.type "type"))
    (a_RowsError : PySem.W.nsIn K mainGlobals "RowsError" = some (some (.ref c_RowsError))) (ix_RowsError : PySem.W.isClsIn K c_RowsError = true) (tx_RowsError : PySem.W.typeIn K (.ref c_RowsError) = some (.type "type"))
    (su_BadShape_RowsError : PySem.W.subIn K (.ref c_BadShape) (.ref c_RowsError) = some true)
    (su_BadShape_BadRow : PySem.W.subIn K (.ref c_BadShape) (.ref c_BadRow) = some false)
    (xk_BadShape : PySem.W.findIn K (.ref c_BadShape) "__class__" = some (some (.builtin "object.__class__"))) (xg_BadShape : PySem.W.specialIn K (.builtin "object.__class__") "__get__" = some (some (.builtin "getset_descriptor.__get__"))) (xt_BadShape : PySem.W.takesIn K (.builtin "object.__class__") = some true) (xm_BadShape : PySem.W.mroIn K c_BadShape (.type "object") = some true)
    (a_is_sequence : PySem.W.nsIn K mainGlobals "is_sequence" = some (some (.ref f_is_sequence))) (l_is_sequence : K.lookup f_is_sequence = some ⟨oc_is_sequence, od_is_sequence, .func (PySem.W.fnOf "is_sequence" "is_sequence" (defArgs S_is_sequence) (defBody S_is_sequence) (defScope S_is_sequence) .none kV_is_sequence dc_is_sequence pm_is_sequence an_is_sequence cd_is_sequence ct_is_sequence), sl_is_sequence⟩) (c_is_sequence : PySem.W.codeIn K cd_is_sequence "is_sequence" = true) (k_is_sequence : PySem.W.keepIn K (.ref f_is_sequence) = true)
    (a_is_name : PySem.W.nsIn K mainGlobals "is_name" = some (some (.ref f_is_name))) (l_is_name : K.lookup f_is_name = some ⟨oc_is_name, od_is_name, .func (PySem.W.fnOf "is_name" "is_name" (defArgs S_is_name) (defBody S_is_name) (defScope S_is_name) .none kV_is_name dc_is_name pm_is_name an_is_name cd_is_name ct_is_name), sl_is_name⟩) (c_is_name : PySem.W.codeIn K cd_is_name "is_name" = true) (k_is_name : PySem.W.keepIn K (.ref f_is_name) = true)
    {kD_Shape_init da1_Shape_init da2_Shape_init : Addr} {do1_Shape_init do2_Shape_init : Obj} {di1_Shape_init di2_Shape_init : Array Value} {dn1_Shape_init dn2_Shape_init : Nat}
    (a_Shape_init : PySem.W.findIn K (.ref c_Shape) "__init__" = some (some (.ref f_Shape_init))) (i_Shape_init : PySem.W.isFn K (.ref f_Shape_init) = true) (l_Shape_init : K.lookup f_Shape_init = some ⟨oc_Shape_init, od_Shape_init, .func (PySem.W.fnOf "__init__" "Shape.__init__" (defArgs S_Shape_init) (defBody S_Shape_init) (defScope S_Shape_init) .none (.ref kD_Shape_init) dc_Shape_init pm_Shape_init an_Shape_init cd_Shape_init ct_Shape_init), sl_Shape_init⟩) (c_Shape_init : PySem.W.codeIn K cd_Shape_init "Shape.__init__" = true) (k_Shape_init : PySem.W.keepIn K (.ref f_Shape_init) = true)
    (kn1_Shape_init : PySem.W.nsIn K kD_Shape_init "checks" = some (some (.ref da1_Shape_init))) (kl1_Shape_init : K.lookup da1_Shape_init = some do1_Shape_init) (gc_1_Shape_init : do1_Shape_init.cls = .type "tuple") (gd_1_Shape_init : do1_Shape_init.data = .seq di1_Shape_init dn1_Shape_init) (kz1_Shape_init : di1_Shape_init.size = 0)
    (kn2_Shape_init : PySem.W.nsIn K kD_Shape_init "keys" = some (some (.ref da2_Shape_init))) (kl2_Shape_init : K.lookup da2_Shape_init = some do2_Shape_init) (gc_2_Shape_init : do2_Shape_init.cls = .type "tuple") (gd_2_Shape_init : do2_Shape_init.data = .seq di2_Shape_init dn2_Shape_init) (kz2_Shape_init : di2_Shape_init.size = 0)
    (a_Shape_columns : PySem.W.findIn K (.ref c_Shape) "columns" = some (some (.ref f_Shape_columns))) (i_Shape_columns : PySem.W.isFn K (.ref f_Shape_columns) = true) (l_Shape_columns : K.lookup f_Shape_columns = some ⟨oc_Shape_columns, od_Shape_columns, .func (PySem.W.fnOf "columns" "Shape.columns" (defArgs S_Shape_columns) (defBody S_Shape_columns) (defScope S_Shape_columns) .none kV_Shape_columns dc_Shape_columns pm_Shape_columns an_Shape_columns cd_Shape_columns ct_Shape_columns), sl_Shape_columns⟩) (c_Shape_columns : PySem.W.codeIn K cd_Shape_columns "Shape.columns" = true) (k_Shape_columns : PySem.W.keepIn K (.ref f_Shape_columns) = true)
    (a_Shape_names : PySem.W.findIn K (.ref c_Shape) "names" = some (some (.ref f_Shape_names))) (i_Shape_names : PySem.W.isFn K (.ref f_Shape_names) = true) (l_Shape_names : K.lookup f_Shape_names = some ⟨oc_Shape_names, od_Shape_names, .func (PySem.W.fnOf "names" "Shape.names" (defArgs S_Shape_names) (defBody S_Shape_names) (defScope S_Shape_names) .none kV_Shape_names dc_Shape_names pm_Shape_names an_Shape_names cd_Shape_names ct_Shape_names), sl_Shape_names⟩) (c_Shape_names : PySem.W.codeIn K cd_Shape_names "Shape.names" = true) (k_Shape_names : PySem.W.keepIn K (.ref f_Shape_names) = true)
    (a_Shape_kind : PySem.W.findIn K (.ref c_Shape) "kind" = some (some (.ref f_Shape_kind))) (i_Shape_kind : PySem.W.isFn K (.ref f_Shape_kind) = true) (l_Shape_kind : K.lookup f_Shape_kind = some ⟨oc_Shape_kind, od_Shape_kind, .func (PySem.W.fnOf "kind" "Shape.kind" (defArgs S_Shape_kind) (defBody S_Shape_kind) (defScope S_Shape_kind) .none kV_Shape_kind dc_Shape_kind pm_Shape_kind an_Shape_kind cd_Shape_kind ct_Shape_kind), sl_Shape_kind⟩) (c_Shape_kind : PySem.W.codeIn K cd_Shape_kind "Shape.kind" = true) (k_Shape_kind : PySem.W.keepIn K (.ref f_Shape_kind) = true)
    (a_Shape_filled : PySem.W.findIn K (.ref c_Shape) "filled" = some (some (.ref f_Shape_filled))) (i_Shape_filled : PySem.W.isFn K (.ref f_Shape_filled) = true) (l_Shape_filled : K.lookup f_Shape_filled = some ⟨oc_Shape_filled, od_Shape_filled, .func (PySem.W.fnOf "filled" "Shape.filled" (defArgs S_Shape_filled) (defBody S_Shape_filled) (defScope S_Shape_filled) .none kV_Shape_filled dc_Shape_filled pm_Shape_filled an_Shape_filled cd_Shape_filled ct_Shape_filled), sl_Shape_filled⟩) (c_Shape_filled : PySem.W.codeIn K cd_Shape_filled "Shape.filled" = true) (k_Shape_filled : PySem.W.keepIn K (.ref f_Shape_filled) = true)
    (a_is_short : PySem.W.nsIn K mainGlobals "is_short" = some (some (.ref f_is_short))) (l_is_short : K.lookup f_is_short = some ⟨oc_is_short, od_is_short, .func (PySem.W.fnOf "is_short" "is_short" (defArgs S_is_short) (defBody S_is_short) (defScope S_is_short) .none kV_is_short dc_is_short pm_is_short an_is_short cd_is_short ct_is_short), sl_is_short⟩) (c_is_short : PySem.W.codeIn K cd_is_short "is_short" = true) (k_is_short : PySem.W.keepIn K (.ref f_is_short) = true)
    (a_is_column : PySem.W.nsIn K mainGlobals "is_column" = some (some (.ref f_is_column))) (l_is_column : K.lookup f_is_column = some ⟨oc_is_column, od_is_column, .func (PySem.W.fnOf "is_column" "is_column" (defArgs S_is_column) (defBody S_is_column) (defScope S_is_column) .none kV_is_column dc_is_column pm_is_column an_is_column cd_is_column ct_is_column), sl_is_column⟩) (c_is_column : PySem.W.codeIn K cd_is_column "is_column" = true) (k_is_column : PySem.W.keepIn K (.ref f_is_column) = true)
    (a_need_columns : PySem.W.nsIn K mainGlobals "need_columns" = some (some (.ref f_need_columns))) (l_need_columns : K.lookup f_need_columns = some ⟨oc_need_columns, od_need_columns, .func (PySem.W.fnOf "need_columns" "need_columns" (defArgs S_need_columns) (defBody S_need_columns) (defScope S_need_columns) .none kV_need_columns dc_need_columns pm_need_columns an_need_columns cd_need_columns ct_need_columns), sl_need_columns⟩) (c_need_columns : PySem.W.codeIn K cd_need_columns "need_columns" = true) (k_need_columns : PySem.W.keepIn K (.ref f_need_columns) = true)
    (a_need_checks : PySem.W.nsIn K mainGlobals "need_checks" = some (some (.ref f_need_checks))) (l_need_checks : K.lookup f_need_checks = some ⟨oc_need_checks, od_need_checks, .func (PySem.W.fnOf "need_checks" "need_checks" (defArgs S_need_checks) (defBody S_need_checks) (defScope S_need_checks) .none kV_need_checks dc_need_checks pm_need_checks an_need_checks cd_need_checks ct_need_checks), sl_need_checks⟩) (c_need_checks : PySem.W.codeIn K cd_need_checks "need_checks" = true) (k_need_checks : PySem.W.keepIn K (.ref f_need_checks) = true)
    (a_need_keys : PySem.W.nsIn K mainGlobals "need_keys" = some (some (.ref f_need_keys))) (l_need_keys : K.lookup f_need_keys = some ⟨oc_need_keys, od_need_keys, .func (PySem.W.fnOf "need_keys" "need_keys" (defArgs S_need_keys) (defBody S_need_keys) (defScope S_need_keys) .none kV_need_keys dc_need_keys pm_need_keys an_need_keys cd_need_keys ct_need_keys), sl_need_keys⟩) (c_need_keys : PySem.W.codeIn K cd_need_keys "need_keys" = true) (k_need_keys : PySem.W.keepIn K (.ref f_need_keys) = true)
    (a_column_of : PySem.W.nsIn K mainGlobals "column_of" = some (some (.ref f_column_of))) (l_column_of : K.lookup f_column_of = some ⟨oc_column_of, od_column_of, .func (PySem.W.fnOf "column_of" "column_of" (defArgs S_column_of) (defBody S_column_of) (defScope S_column_of) .none kV_column_of dc_column_of pm_column_of an_column_of cd_column_of ct_column_of), sl_column_of⟩) (c_column_of : PySem.W.codeIn K cd_column_of "column_of" = true) (k_column_of : PySem.W.keepIn K (.ref f_column_of) = true)
    (a__law_begin : PySem.W.nsIn K mainGlobals "_law_begin" = some (some (.ref f__law_begin))) (l__law_begin : K.lookup f__law_begin = some ⟨oc__law_begin, od__law_begin, .func (PySem.W.fnOf "_law_begin" "_law_begin" (defArgs S__law_begin) (defBody S__law_begin) (defScope S__law_begin) .none kV__law_begin dc__law_begin pm__law_begin an__law_begin cd__law_begin ct__law_begin), sl__law_begin⟩) (c__law_begin : PySem.W.codeIn K cd__law_begin "_law_begin" = true) (k__law_begin : PySem.W.keepIn K (.ref f__law_begin) = true)
    (a__law_take : PySem.W.nsIn K mainGlobals "_law_take" = some (some (.ref f__law_take))) (l__law_take : K.lookup f__law_take = some ⟨oc__law_take, od__law_take, .func (PySem.W.fnOf "_law_take" "_law_take" (defArgs S__law_take) (defBody S__law_take) (defScope S__law_take) .none kV__law_take dc__law_take pm__law_take an__law_take cd__law_take ct__law_take), sl__law_take⟩) (c__law_take : PySem.W.codeIn K cd__law_take "_law_take" = true) (k__law_take : PySem.W.keepIn K (.ref f__law_take) = true)
    (a__law_is_integer : PySem.W.nsIn K mainGlobals "_law_is_integer" = some (some (.ref f__law_is_integer))) (l__law_is_integer : K.lookup f__law_is_integer = some ⟨oc__law_is_integer, od__law_is_integer, .func (PySem.W.fnOf "_law_is_integer" "_law_is_integer" (defArgs S__law_is_integer) (defBody S__law_is_integer) (defScope S__law_is_integer) .none kV__law_is_integer dc__law_is_integer pm__law_is_integer an__law_is_integer cd__law_is_integer ct__law_is_integer), sl__law_is_integer⟩) (c__law_is_integer : PySem.W.codeIn K cd__law_is_integer "_law_is_integer" = true) (k__law_is_integer : PySem.W.keepIn K (.ref f__law_is_integer) = true)
    (a__law_name : PySem.W.nsIn K mainGlobals "_law_name" = some (some (.ref f__law_name))) (l__law_name : K.lookup f__law_name = some ⟨oc__law_name, od__law_name, .func (PySem.W.fnOf "_law_name" "_law_name" (defArgs S__law_name) (defBody S__law_name) (defScope S__law_name) .none kV__law_name dc__law_name pm__law_name an__law_name cd__law_name ct__law_name), sl__law_name⟩) (c__law_name : PySem.W.codeIn K cd__law_name "_law_name" = true) (k__law_name : PySem.W.keepIn K (.ref f__law_name) = true)
    (a__law_flag : PySem.W.nsIn K mainGlobals "_law_flag" = some (some (.ref f__law_flag))) (l__law_flag : K.lookup f__law_flag = some ⟨oc__law_flag, od__law_flag, .func (PySem.W.fnOf "_law_flag" "_law_flag" (defArgs S__law_flag) (defBody S__law_flag) (defScope S__law_flag) .none kV__law_flag dc__law_flag pm__law_flag an__law_flag cd__law_flag ct__law_flag), sl__law_flag⟩) (c__law_flag : PySem.W.codeIn K cd__law_flag "_law_flag" = true) (k__law_flag : PySem.W.keepIn K (.ref f__law_flag) = true)
    (a__law_spoiled : PySem.W.nsIn K mainGlobals "_law_spoiled" = some (some (.ref f__law_spoiled))) (l__law_spoiled : K.lookup f__law_spoiled = some ⟨oc__law_spoiled, od__law_spoiled, .func (PySem.W.fnOf "_law_spoiled" "_law_spoiled" (defArgs S__law_spoiled) (defBody S__law_spoiled) (defScope S__law_spoiled) .none kV__law_spoiled dc__law_spoiled pm__law_spoiled an__law_spoiled cd__law_spoiled ct__law_spoiled), sl__law_spoiled⟩) (c__law_spoiled : PySem.W.codeIn K cd__law_spoiled "_law_spoiled" = true) (k__law_spoiled : PySem.W.keepIn K (.ref f__law_spoiled) = true)
    (a__law_is_column : PySem.W.nsIn K mainGlobals "_law_is_column" = some (some (.ref f__law_is_column))) (l__law_is_column : K.lookup f__law_is_column = some ⟨oc__law_is_column, od__law_is_column, .func (PySem.W.fnOf "_law_is_column" "_law_is_column" (defArgs S__law_is_column) (defBody S__law_is_column) (defScope S__law_is_column) .none kV__law_is_column dc__law_is_column pm__law_is_column an__law_is_column cd__law_is_column ct__law_is_column), sl__law_is_column⟩) (c__law_is_column : PySem.W.codeIn K cd__law_is_column "_law_is_column" = true) (k__law_is_column : PySem.W.keepIn K (.ref f__law_is_column) = true)
    (a__law_due : PySem.W.nsIn K mainGlobals "_law_due" = some (some (.ref f__law_due))) (l__law_due : K.lookup f__law_due = some ⟨oc__law_due, od__law_due, .func (PySem.W.fnOf "_law_due" "_law_due" (defArgs S__law_due) (defBody S__law_due) (defScope S__law_due) .none kV__law_due dc__law_due pm__law_due an__law_due cd__law_due ct__law_due), sl__law_due⟩) (c__law_due : PySem.W.codeIn K cd__law_due "_law_due" = true) (k__law_due : PySem.W.keepIn K (.ref f__law_due) = true)
    (a__law_shape_or_error : PySem.W.nsIn K mainGlobals "_law_shape_or_error" = some (some (.ref f__law_shape_or_error))) (l__law_shape_or_error : K.lookup f__law_shape_or_error = some ⟨oc__law_shape_or_error, od__law_shape_or_error, .func (PySem.W.fnOf "_law_shape_or_error" "_law_shape_or_error" (defArgs S__law_shape_or_error) (defBody S__law_shape_or_error) (defScope S__law_shape_or_error) .none kV__law_shape_or_error dc__law_shape_or_error pm__law_shape_or_error an__law_shape_or_error cd__law_shape_or_error ct__law_shape_or_error), sl__law_shape_or_error⟩) (c__law_shape_or_error : PySem.W.codeIn K cd__law_shape_or_error "_law_shape_or_error" = true) (k__law_shape_or_error : PySem.W.keepIn K (.ref f__law_shape_or_error) = true)
    (a_law : PySem.W.nsIn K mainGlobals "law" = some (some (.ref f_law))) (l_law : K.lookup f_law = some ⟨oc_law, od_law, .func (PySem.W.fnOf "law" "law" (defArgs S_law) (defBody S_law) (defScope S_law) .none kV_law dc_law pm_law an_law cd_law ct_law), sl_law⟩) (c_law : PySem.W.codeIn K cd_law "law" = true) (k_law : PySem.W.keepIn K (.ref f_law) = true)
    (z_isinstance : PySem.W.nsIn K mainGlobals "isinstance" = some none)
    (z_list : PySem.W.nsIn K mainGlobals "list" = some none)
    (z_tuple : PySem.W.nsIn K mainGlobals "tuple" = some none)
    (z_all : PySem.W.nsIn K mainGlobals "all" = some none)
    (z_str : PySem.W.nsIn K mainGlobals "str" = some none)
    (z_len : PySem.W.nsIn K mainGlobals "len" = some none)
    (z_bool : PySem.W.nsIn K mainGlobals "bool" = some none)
    (z_enumerate : PySem.W.nsIn K mainGlobals "enumerate" = some none)
    (z_int : PySem.W.nsIn K mainGlobals "int" = some none)
    (z_range : PySem.W.nsIn K mainGlobals "range" = some none)
    {t_LONGEST_NAME : Tok} (g_LONGEST_NAME : PySem.W.nsIn K mainGlobals "LONGEST_NAME" = some (some (.int 8 t_LONGEST_NAME)))
    {t_LETTERS : Tok} (g_LETTERS : PySem.W.nsIn K mainGlobals "LETTERS" = some (some (.str C_LETTERS t_LETTERS)))
    {ca_WORDS : Addr} {co_WORDS : Obj} {ci_WORDS : Array Value} {cn_WORDS : Nat} (g_WORDS : PySem.W.nsIn K mainGlobals "WORDS" = some (some (.ref ca_WORDS))) (gl_WORDS : K.lookup ca_WORDS = some co_WORDS) (gc_WORDS : co_WORDS.cls = .type "tuple") (gd_WORDS : co_WORDS.data = .seq ci_WORDS cn_WORDS) (gs_WORDS : ci_WORDS.size ≤ sizeLine) (gv_WORDS : Vals C_WORDS ci_WORDS.toList)
    {t_NAME_SIGNS : Tok} (g_NAME_SIGNS : PySem.W.nsIn K mainGlobals "NAME_SIGNS" = some (some (.str C_NAME_SIGNS t_NAME_SIGNS)))
    {ca_KINDS : Addr} {co_KINDS : Obj} {ci_KINDS : Array Value} {cn_KINDS : Nat} (g_KINDS : PySem.W.nsIn K mainGlobals "KINDS" = some (some (.ref ca_KINDS))) (gl_KINDS : K.lookup ca_KINDS = some co_KINDS) (gc_KINDS : co_KINDS.cls = .type "tuple") (gd_KINDS : co_KINDS.data = .seq ci_KINDS cn_KINDS) (gs_KINDS : ci_KINDS.size ≤ sizeLine) (gv_KINDS : Vals C_KINDS ci_KINDS.toList)
    {t_MOST_COLUMNS : Tok} (g_MOST_COLUMNS : PySem.W.nsIn K mainGlobals "MOST_COLUMNS" = some (some (.int 12 t_MOST_COLUMNS)))
    {t_MOST_RULES : Tok} (g_MOST_RULES : PySem.W.nsIn K mainGlobals "MOST_RULES" = some (some (.int 9 t_MOST_RULES)))
    : ∃ fd : FuncData, (∀ (s : Shared) (v : Value), BindsTo s fd ⟨[v], []⟩ [("_law_script", v)]) ∧ ∀ base : Heap, K.In base → base.Ns mainGlobals mg → FnOk l.prog w K mg base CX0 8 fa fd ["_law_script"] (spLaw K) := by
  have e := hfa.symm.trans (PySem.W.mg_of X G a_law)
  cases e
  have hc_Shape : cadr mg "Shape" = c_Shape := cadr_of (PySem.W.mg_of X G a_Shape)
  have T : Txt K mg := {
    ko_BadShape_RowsError := by rw [show cadr mg "BadShape" = c_BadShape from cadr_of (PySem.W.mg_of X G a_eBadShape), show cadr mg "RowsError" = c_RowsError from cadr_of (PySem.W.mg_of X G a_RowsError)]; exact kitOwnT ix_RowsError tx_RowsError su_BadShape_RowsError
    e_RowsError := by rw [show cadr mg "RowsError" = c_RowsError from cadr_of (PySem.W.mg_of X G a_RowsError)]; exact PySem.W.mg_of X G a_RowsError
    ko_BadShape_BadRow := by rw [show cadr mg "BadShape" = c_BadShape from cadr_of (PySem.W.mg_of X G a_eBadShape), show cadr mg "BadRow" = c_BadRow from cadr_of (PySem.W.mg_of X G a_BadRow)]; exact kitOwn tf_eBadShape ix_BadRow tx_BadRow su_BadShape_BadRow
    e_BadRow := by rw [show cadr mg "BadRow" = c_BadRow from cadr_of (PySem.W.mg_of X G a_BadRow)]; exact PySem.W.mg_of X G a_BadRow
    ei_BadShape := by rw [show cadr mg "BadShape" = c_BadShape from cadr_of (PySem.W.mg_of X G a_eBadShape)]; exact ⟨ga_eBadShape, gg_eBadShape, eC_eBadShape, hC_eBadShape, xk_BadShape, xg_BadShape, xt_BadShape, xm_BadShape⟩
    h_isinstance := PySem.W.mg_none_of X G z_isinstance
    h_list := PySem.W.mg_none_of X G z_list
    h_tuple := PySem.W.mg_none_of X G z_tuple
    h_all := PySem.W.mg_none_of X G z_all
    h_str := PySem.W.mg_none_of X G z_str
    h_len := PySem.W.mg_none_of X G z_len
    h_bool := PySem.W.mg_none_of X G z_bool
    h_enumerate := PySem.W.mg_none_of X G z_enumerate
    h_int := PySem.W.mg_none_of X G z_int
    h_range := PySem.W.mg_none_of X G z_range
    d_is_sequence := ⟨f_is_sequence, _, fun_mk (st := S_is_sequence) l_is_sequence c_is_sequence k_is_sequence, PySem.W.mg_of X G a_is_sequence, (fun_mk (st := S_is_sequence) l_is_sequence c_is_sequence k_is_sequence).binds (ps := ["thing"]) fun _ _ _ _ _ _ us hl => match us, hl with | [_], _ => rfl⟩
    d_is_name := ⟨f_is_name, _, fun_mk (st := S_is_name) l_is_name c_is_name k_is_name, PySem.W.mg_of X G a_is_name, (fun_mk (st := S_is_name) l_is_name c_is_name k_is_name).binds (ps := ["thing"]) fun _ _ _ _ _ _ us hl => match us, hl with | [_], _ => rfl⟩
    d_Shape_init := by rw [hc_Shape]; exact ⟨f_Shape_init, _, fun_mk (st := S_Shape_init) l_Shape_init c_Shape_init k_Shape_init, ⟨mk_Shape, a_Shape_init, i_Shape_init, kc_Shape⟩, kw_bd2 rfl kn1_Shape_init kn2_Shape_init kl1_Shape_init gc_1_Shape_init gd_1_Shape_init kz1_Shape_init kl2_Shape_init gc_2_Shape_init gd_2_Shape_init kz2_Shape_init (fun us hl u v => match us, hl with | [_, _], _ => ⟨_, _, _, _, _, _, rfl, rfl, ⟨_, _, _, _, _, _, rfl, rfl, rfl⟩⟩)⟩
    d_Shape_columns := by rw [hc_Shape]; exact ⟨f_Shape_columns, _, fun_mk (st := S_Shape_columns) l_Shape_columns c_Shape_columns k_Shape_columns, ⟨a_Shape_columns, i_Shape_columns, k_Shape_columns⟩, (fun_mk (st := S_Shape_columns) l_Shape_columns c_Shape_columns k_Shape_columns).binds (ps := ["self"]) fun _ _ _ _ _ _ us hl => match us, hl with | [_], _ => rfl⟩
    d_Shape_names := by rw [hc_Shape]; exact ⟨f_Shape_names, _, fun_mk (st := S_Shape_names) l_Shape_names c_Shape_names k_Shape_names, ⟨a_Shape_names, i_Shape_names, k_Shape_names⟩, (fun_mk (st := S_Shape_names) l_Shape_names c_Shape_names k_Shape_names).binds (ps := ["self"]) fun _ _ _ _ _ _ us hl => match us, hl with | [_], _ => rfl⟩
    d_Shape_kind := by rw [hc_Shape]; exact ⟨f_Shape_kind, _, fun_mk (st := S_Shape_kind) l_Shape_kind c_Shape_kind k_Shape_kind, ⟨a_Shape_kind, i_Shape_kind, k_Shape_kind⟩, (fun_mk (st := S_Shape_kind) l_Shape_kind c_Shape_kind k_Shape_kind).binds (ps := ["self", "name"]) fun _ _ _ _ _ _ us hl => match us, hl with | [_, _], _ => rfl⟩
    d_Shape_filled := by rw [hc_Shape]; exact ⟨f_Shape_filled, _, fun_mk (st := S_Shape_filled) l_Shape_filled c_Shape_filled k_Shape_filled, ⟨a_Shape_filled, i_Shape_filled, k_Shape_filled⟩, (fun_mk (st := S_Shape_filled) l_Shape_filled c_Shape_filled k_Shape_filled).binds (ps := ["self", "name"]) fun _ _ _ _ _ _ us hl => match us, hl with | [_, _], _ => rfl⟩
    d_is_short := ⟨f_is_short, _, fun_mk (st := S_is_short) l_is_short c_is_short k_is_short, PySem.W.mg_of X G a_is_short, (fun_mk (st := S_is_short) l_is_short c_is_short k_is_short).binds (ps := ["thing", "least", "most"]) fun _ _ _ _ _ _ us hl => match us, hl with | [_, _, _], _ => rfl⟩
    d_is_column := ⟨f_is_column, _, fun_mk (st := S_is_column) l_is_column c_is_column k_is_column, PySem.W.mg_of X G a_is_column, (fun_mk (st := S_is_column) l_is_column c_is_column k_is_column).binds (ps := ["thing"]) fun _ _ _ _ _ _ us hl => match us, hl with | [_], _ => rfl⟩
    d_need_columns := ⟨f_need_columns, _, fun_mk (st := S_need_columns) l_need_columns c_need_columns k_need_columns, PySem.W.mg_of X G a_need_columns, (fun_mk (st := S_need_columns) l_need_columns c_need_columns k_need_columns).binds (ps := ["columns"]) fun _ _ _ _ _ _ us hl => match us, hl with | [_], _ => rfl⟩
    d_need_checks := ⟨f_need_checks, _, fun_mk (st := S_need_checks) l_need_checks c_need_checks k_need_checks, PySem.W.mg_of X G a_need_checks, (fun_mk (st := S_need_checks) l_need_checks c_need_checks k_need_checks).binds (ps := ["spots", "checks"]) fun _ _ _ _ _ _ us hl => match us, hl with | [_, _], _ => rfl⟩
    d_need_keys := ⟨f_need_keys, _, fun_mk (st := S_need_keys) l_need_keys c_need_keys k_need_keys, PySem.W.mg_of X G a_need_keys, (fun_mk (st := S_need_keys) l_need_keys c_need_keys k_need_keys).binds (ps := ["spots", "keys"]) fun _ _ _ _ _ _ us hl => match us, hl with | [_, _], _ => rfl⟩
    d_column_of := ⟨f_column_of, _, fun_mk (st := S_column_of) l_column_of c_column_of k_column_of, PySem.W.mg_of X G a_column_of, (fun_mk (st := S_column_of) l_column_of c_column_of k_column_of).binds (ps := ["shape", "name"]) fun _ _ _ _ _ _ us hl => match us, hl with | [_, _], _ => rfl⟩
    d__law_begin := ⟨f__law_begin, _, fun_mk (st := S__law_begin) l__law_begin c__law_begin k__law_begin, PySem.W.mg_of X G a__law_begin, (fun_mk (st := S__law_begin) l__law_begin c__law_begin k__law_begin).binds (ps := ["_law_script"]) fun _ _ _ _ _ _ us hl => match us, hl with | [_], _ => rfl⟩
    d__law_take := ⟨f__law_take, _, fun_mk (st := S__law_take) l__law_take c__law_take k__law_take, PySem.W.mg_of X G a__law_take, (fun_mk (st := S__law_take) l__law_take c__law_take k__law_take).binds (ps := ["_law_draw", "_law_many"]) fun _ _ _ _ _ _ us hl => match us, hl with | [_, _], _ => rfl⟩
    d__law_is_integer := ⟨f__law_is_integer, _, fun_mk (st := S__law_is_integer) l__law_is_integer c__law_is_integer k__law_is_integer, PySem.W.mg_of X G a__law_is_integer, (fun_mk (st := S__law_is_integer) l__law_is_integer c__law_is_integer k__law_is_integer).binds (ps := ["_law_thing"]) fun _ _ _ _ _ _ us hl => match us, hl with | [_], _ => rfl⟩
    d__law_name := ⟨f__law_name, _, fun_mk (st := S__law_name) l__law_name c__law_name k__law_name, PySem.W.mg_of X G a__law_name, (fun_mk (st := S__law_name) l__law_name c__law_name k__law_name).binds (ps := ["_law_draw", "_law_taken"]) fun _ _ _ _ _ _ us hl => match us, hl with | [_, _], _ => rfl⟩
    d__law_flag := ⟨f__law_flag, _, fun_mk (st := S__law_flag) l__law_flag c__law_flag k__law_flag, PySem.W.mg_of X G a__law_flag, (fun_mk (st := S__law_flag) l__law_flag c__law_flag k__law_flag).binds (ps := ["_law_thing", "_law_due_here"]) fun _ _ _ _ _ _ us hl => match us, hl with | [_, _], _ => rfl⟩
    d__law_spoiled := ⟨f__law_spoiled, _, fun_mk (st := S__law_spoiled) l__law_spoiled c__law_spoiled k__law_spoiled, PySem.W.mg_of X G a__law_spoiled, (fun_mk (st := S__law_spoiled) l__law_spoiled c__law_spoiled k__law_spoiled).binds (ps := ["_law_draw", "_law_column", "_law_names"]) fun _ _ _ _ _ _ us hl => match us, hl with | [_, _, _], _ => rfl⟩
    d__law_is_column := ⟨f__law_is_column, _, fun_mk (st := S__law_is_column) l__law_is_column c__law_is_column k__law_is_column, PySem.W.mg_of X G a__law_is_column, (fun_mk (st := S__law_is_column) l__law_is_column c__law_is_column k__law_is_column).binds (ps := ["_law_thing", "_law_names"]) fun _ _ _ _ _ _ us hl => match us, hl with | [_, _], _ => rfl⟩
    d__law_due := ⟨f__law_due, _, fun_mk (st := S__law_due) l__law_due c__law_due k__law_due, PySem.W.mg_of X G a__law_due, (fun_mk (st := S__law_due) l__law_due c__law_due k__law_due).binds (ps := ["_law_columns"]) fun _ _ _ _ _ _ us hl => match us, hl with | [_], _ => rfl⟩
    d__law_shape_or_error := ⟨f__law_shape_or_error, _, fun_mk (st := S__law_shape_or_error) l__law_shape_or_error c__law_shape_or_error k__law_shape_or_error, PySem.W.mg_of X G a__law_shape_or_error, (fun_mk (st := S__law_shape_or_error) l__law_shape_or_error c__law_shape_or_error k__law_shape_or_error).binds (ps := ["_law_columns"]) fun _ _ _ _ _ _ us hl => match us, hl with | [_], _ => rfl⟩
    x_BadShape := by rw [show cadr mg "BadShape" = c_BadShape from cadr_of (PySem.W.mg_of X G a_eBadShape)]; exact ⟨feBadShape, { gC := PySem.W.mg_of X G a_eBadShape, cls := ⟨_, _, _, _, _, _, _, _, _, _, _, _, _, _, _, x_eBadShape, o_eBadShape⟩, sa := sa_eBadShape, ga := ga_eBadShape, gg := gg_eBadShape, noF := nb_eBadShape, noG := nc_eBadShape, ini := i_eBadShape, tyI := t_eBadShape, kC := k_eBadShape, exC := eC_eBadShape, tyC := tC_eBadShape, hdC := hC_eBadShape, te := exmSelf eC_eBadShape te_eBadShape tC_eBadShape tf_eBadShape, fn := ⟨_, _, _, _, _, _, _, _, _, _, _, _, _, _, _, _, _, _, _, _, l_eBadShape, cc_eBadShape, s1_eBadShape, s2_eBadShape, s3_eBadShape, s4_eBadShape⟩ }⟩
    e_Shape := by rw [hc_Shape]; exact PySem.W.mg_of X G a_Shape
    sf_Shape := by rw [hc_Shape]; exact sf_Shape
    nr_Shape_and := by rw [hc_Shape]; exact nr_Shape_and
    nr_Shape_or := by rw [hc_Shape]; exact nr_Shape_or
    is_Shape := by rw [hc_Shape]; exact ⟨ia_Shape, in_Shape, it_Shape, im_Shape, kitSelf, fun T h => kitNo io_Shape iy_Shape (by unfold kinds7 at h; simp only [List.mem_cons, List.not_mem_nil, or_false] at h; rcases h with rfl | rfl | rfl | rfl | rfl | rfl | rfl <;> assumption)⟩
    cl_Shape := by rw [hc_Shape]; exact ⟨pg_Shape, hd_Shape, po_Shape, sa_Shape⟩
    n_Shape_layout := by rw [hc_Shape]; exact n_Shape_layout
    n_Shape_spots := by rw [hc_Shape]; exact n_Shape_spots
    n_Shape_check_tests := by rw [hc_Shape]; exact n_Shape_check_tests
    n_Shape_key_rules := by rw [hc_Shape]; exact n_Shape_key_rules
    k_LONGEST_NAME := ⟨t_LONGEST_NAME, PySem.W.mg_of X G g_LONGEST_NAME⟩
    k_LETTERS := ⟨t_LETTERS, PySem.W.mg_of X G g_LETTERS⟩
    k_WORDS := ⟨ca_WORDS, PySem.W.mg_of X G g_WORDS, fun _ => Or.inr ⟨co_WORDS, ci_WORDS, cn_WORDS, gl_WORDS, gc_WORDS, gd_WORDS, gs_WORDS, gv_WORDS⟩⟩
    k_NAME_SIGNS := ⟨t_NAME_SIGNS, PySem.W.mg_of X G g_NAME_SIGNS⟩
    k_KINDS := ⟨ca_KINDS, PySem.W.mg_of X G g_KINDS, fun _ => Or.inr ⟨co_KINDS, ci_KINDS, cn_KINDS, gl_KINDS, gc_KINDS, gd_KINDS, gs_KINDS, gv_KINDS⟩⟩
    k_MOST_COLUMNS := ⟨t_MOST_COLUMNS, PySem.W.mg_of X G g_MOST_COLUMNS⟩
    k_MOST_RULES := ⟨t_MOST_RULES, PySem.W.mg_of X G g_MOST_RULES⟩ }
  exact ⟨PySem.W.fnOf "law" "law" (defArgs S_law) (defBody S_law) (defScope S_law) .none kV_law dc_law pm_law an_law cd_law ct_law, fun s v => .of_eq rfl, fun base _ _ => ok_law T (fun_mk (st := S_law) l_law c_law k_law)⟩
theorem walk {l : PySem.W.OpenLaw} {q : Program} {loose : List Str} {XP : (Str → Option Value) → Heap → Prop} {YP : World → Heap → Prop} {d : DefRec} {K : Params → PySem.W.Frag} (hn : l.most = some 63) (hdf : d.params.defaults = [])
    (hY : ∀ (w : World) (h : Heap), YP w h → (K w.params).In h)
    (F : ∀ (w : World) (mg : Str → Option Value) (fa : Addr) (h : Heap), (K w.params).In h → h.Ns mainGlobals mg → mg d.name = some (.ref fa) →
      ∃ fd : FuncData, (∀ (s : Shared) (u : Value), BindsTo s fd ⟨[u], []⟩ [("_law_script", u)]) ∧ ∀ base : Heap, (K w.params).In base → base.Ns mainGlobals mg → FnOk l.prog w (K w.params) mg base CX0 8 fa fd ["_law_script"] (spLaw (K w.params))) :
    PySem.W.WalkO q loose XP YP l.row.toRowW d [] (fun f vs => PySem.call f vs) :=
  L2.walk_of (n := 63) (k := 8) (x := "_law_script") (CX := fun _ => CX0) (sp := fun w => spLaw (K w.params)) hn (by decide) hdf ⟨rfl, by decide, by decide⟩ hY F (fun _ _ a ns hl _ hS => ⟨a, ns, rfl, hS, hl, fun _ => rfl⟩) fun _ _ _ _ _ z => z
end L
open PySem PySem.W PyProof.Rows
set_option maxRecDepth 100000 in
set_option maxHeartbeats 0 in
theorem PySem.Challenge.cw_tworows_k12_columns_refused_holds : PySem.Challenge.rw_tworows_k12_columns_refused.Holds := by
  w_on; o_law; k_head; (case hw => w_witness2)
  k_fill
  refine L.walk (l := PySem.Challenge.rw_tworows_k12_columns_refused) rfl rfl (fun w h Y => PySem.W.kIn_of Y) ?F
  case F =>
    intro w mg fa h KX G hmg
    refine' L.all_mk KX G hmg ?a_Shape ?pg_Shape ?hd_Shape ?po_Shape ?sa_Shape ?mk_Shape ?kc_Shape ?sf_Shape ?nr_Shape_and ?nr_Shape_or ?ia_Shape ?in_Shape ?it_Shape ?im_Shape ?io_Shape ?iy_Shape ?iz_Shape_NoneType ?iz_Shape_bool ?iz_Shape_int ?iz_Shape_str ?iz_Shape_list ?iz_Shape_tuple ?iz_Shape_dict ?n_Shape_layout ?n_Shape_spots ?n_Shape_check_tests ?n_Shape_key_rules ?a_eBadShape ?x_eBadShape ?o_eBadShape ?sa_eBadShape ?ga_eBadShape ?gg_eBadShape ?nb_eBadShape ?i_eBadShape ?t_eBadShape ?nc_eBadShape ?l_eBadShape ?cc_eBadShape ?s1_eBadShape ?s2_eBadShape ?s3_eBadShape ?s4_eBadShape ?k_eBadShape ?eC_eBadShape ?tC_eBadShape ?hC_eBadShape ?te_eBadShape ?tf_eBadShape ?a_BadRow ?ix_BadRow ?tx_BadRow ?a_RowsError ?ix_RowsError ?tx_RowsError ?su_BadShape_RowsError ?su_BadShape_BadRow ?xk_BadShape ?xg_BadShape ?xt_BadShape ?xm_BadShape ?a_is_sequence ?l_is_sequence ?c_is_sequence ?k_is_sequence ?a_is_name ?l_is_name ?c_is_name ?k_is_name ?a_Shape_init ?i_Shape_init ?l_Shape_init ?c_Shape_init ?k_Shape_init ?kn1_Shape_init ?kl1_Shape_init ?gc_1_Shape_init ?gd_1_Shape_init ?kz1_Shape_init ?kn2_Shape_init ?kl2_Shape_init ?gc_2_Shape_init ?gd_2_Shape_init ?kz2_Shape_init ?a_Shape_columns ?i_Shape_columns ?l_Shape_columns ?c_Shape_columns ?k_Shape_columns ?a_Shape_names ?i_Shape_names ?l_Shape_names ?c_Shape_names ?k_Shape_names ?a_Shape_kind ?i_Shape_kind ?l_Shape_kind ?c_Shape_kind ?k_Shape_kind ?a_Shape_filled ?i_Shape_filled ?l_Shape_filled ?c_Shape_filled ?k_Shape_filled ?a_is_short ?l_is_short ?c_is_short ?k_is_short ?a_is_column ?l_is_column ?c_is_column ?k_is_column ?a_need_columns ?l_need_columns ?c_need_columns ?k_need_columns ?a_need_checks ?l_need_checks ?c_need_checks ?k_need_checks ?a_need_keys ?l_need_keys ?c_need_keys ?k_need_keys ?a_column_of ?l_column_of ?c_column_of ?k_column_of ?a__law_begin ?l__law_begin ?c__law_begin ?k__law_begin ?a__law_take ?l__law_take ?c__law_take ?k__law_take ?a__law_is_integer ?l__law_is_integer ?c__law_is_integer ?k__law_is_integer ?a__law_name ?l__law_name ?c__law_name ?k__law_name ?a__law_flag ?l__law_flag ?c__law_flag ?k__law_flag ?a__law_spoiled ?l__law_spoiled ?c__law_spoiled ?k__law_spoiled ?a__law_is_column ?l__law_is_column ?c__law_is_column ?k__law_is_column ?a__law_due ?l__law_due ?c__law_due ?k__law_due ?a__law_shape_or_error ?l__law_shape_or_error ?c__law_shape_or_error ?k__law_shape_or_error ?a_law ?l_law ?c_law ?k_law ?z_isinstance ?z_list ?z_tuple ?z_all ?z_str ?z_len ?z_bool ?z_enumerate ?z_int ?z_range ?g_LONGEST_NAME ?g_LETTERS ?g_WORDS ?gl_WORDS ?gc_WORDS ?gd_WORDS ?gs_WORDS ?gv_WORDS ?g_NAME_SIGNS ?g_KINDS ?gl_KINDS ?gc_KINDS ?gd_KINDS ?gs_KINDS ?gv_KINDS ?g_MOST_COLUMNS ?g_MOST_RULES
    (case a_Shape => k_is)
    (case pg_Shape => k_is)
    (case hd_Shape => k_is)
    (case po_Shape => k_is)
    (case sa_Shape => k_is)
    (case mk_Shape => k_is)
    (case kc_Shape => k_is)
    (case sf_Shape => k_is)
    (case nr_Shape_and => k_is)
    (case nr_Shape_or => k_is)
    (case ia_Shape => k_is)
    (case in_Shape => k_is)
    (case it_Shape => k_is)
    (case im_Shape => k_is)
    (case io_Shape => k_is)
    (case iy_Shape => k_is)
    (case iz_Shape_NoneType => k_is)
    (case iz_Shape_bool => k_is)
    (case iz_Shape_int => k_is)
    (case iz_Shape_str => k_is)
    (case iz_Shape_list => k_is)
    (case iz_Shape_tuple => k_is)
    (case iz_Shape_dict => k_is)
    (case n_Shape_layout => k_is)
    (case n_Shape_spots => k_is)
    (case n_Shape_check_tests => k_is)
    (case n_Shape_key_rules => k_is)
    (case a_eBadShape => k_is)
    (case x_eBadShape => k_is)
    (case o_eBadShape => (repeat (first | exact PySem.TwX.OwnEx.tail | refine PySem.TwX.OwnEx.own _ ?_)))
    (case sa_eBadShape => k_is)
    (case ga_eBadShape => k_is)
    (case gg_eBadShape => k_is)
    (case nb_eBadShape => k_is)
    (case i_eBadShape => k_is)
    (case t_eBadShape => k_is)
    (case nc_eBadShape => k_is)
    (case l_eBadShape => k_is)
    (case cc_eBadShape => k_is)
    (case s1_eBadShape => rfl)
    (case s2_eBadShape => rfl)
    (case s3_eBadShape => rfl)
    (case s4_eBadShape => rfl)
    (case k_eBadShape => k_is)
    (case eC_eBadShape => k_is)
    (case tC_eBadShape => k_is)
    (case hC_eBadShape => k_is)
    (case te_eBadShape => k_is)
    (case tf_eBadShape => k_is)
    (case a_BadRow => k_is)
    (case ix_BadRow => k_is)
    (case tx_BadRow => k_is)
    (case a_RowsError => k_is)
    (case ix_RowsError => k_is)
    (case tx_RowsError => k_is)
    (case su_BadShape_RowsError => k_is)
    (case su_BadShape_BadRow => k_is)
    (case xk_BadShape => k_is)
    (case xg_BadShape => k_is)
    (case xt_BadShape => k_is)
    (case xm_BadShape => k_is)
    (case a_is_sequence => k_is)
    (case l_is_sequence => k_is)
    (case c_is_sequence => k_is)
    (case k_is_sequence => k_is)
    (case a_is_name => k_is)
    (case l_is_name => k_is)
    (case c_is_name => k_is)
    (case k_is_name => k_is)
    (case a_Shape_init => k_is)
    (case i_Shape_init => k_is)
    (case l_Shape_init => k_is)
    (case c_Shape_init => k_is)
    (case k_Shape_init => k_is)
    (case kn1_Shape_init => k_is)
    (case kl1_Shape_init => k_is)
    (case gc_1_Shape_init => rfl)
    (case gd_1_Shape_init => rfl)
    (case kz1_Shape_init => rfl)
    (case kn2_Shape_init => k_is)
    (case kl2_Shape_init => k_is)
    (case gc_2_Shape_init => rfl)
    (case gd_2_Shape_init => rfl)
    (case kz2_Shape_init => rfl)
    (case a_Shape_columns => k_is)
    (case i_Shape_columns => k_is)
    (case l_Shape_columns => k_is)
    (case c_Shape_columns => k_is)
    (case k_Shape_columns => k_is)
    (case a_Shape_names => k_is)
    (case i_Shape_names => k_is)
    (case l_Shape_names => k_is)
    (case c_Shape_names => k_is)
    (case k_Shape_names => k_is)
    (case a_Shape_kind => k_is)
    (case i_Shape_kind => k_is)
    (case l_Shape_kind => k_is)
    (case c_Shape_kind => k_is)
    (case k_Shape_kind => k_is)
    (case a_Shape_filled => k_is)
    (case i_Shape_filled => k_is)
    (case l_Shape_filled => k_is)
    (case c_Shape_filled => k_is)
    (case k_Shape_filled => k_is)
    (case a_is_short => k_is)
    (case l_is_short => k_is)
    (case c_is_short => k_is)
    (case k_is_short => k_is)
    (case a_is_column => k_is)
    (case l_is_column => k_is)
    (case c_is_column => k_is)
    (case k_is_column => k_is)
    (case a_need_columns => k_is)
    (case l_need_columns => k_is)
    (case c_need_columns => k_is)
    (case k_need_columns => k_is)
    (case a_need_checks => k_is)
    (case l_need_checks => k_is)
    (case c_need_checks => k_is)
    (case k_need_checks => k_is)
    (case a_need_keys => k_is)
    (case l_need_keys => k_is)
    (case c_need_keys => k_is)
    (case k_need_keys => k_is)
    (case a_column_of => k_is)
    (case l_column_of => k_is)
    (case c_column_of => k_is)
    (case k_column_of => k_is)
    (case a__law_begin => k_is)
    (case l__law_begin => k_is)
    (case c__law_begin => k_is)
    (case k__law_begin => k_is)
    (case a__law_take => k_is)
    (case l__law_take => k_is)
    (case c__law_take => k_is)
    (case k__law_take => k_is)
    (case a__law_is_integer => k_is)
    (case l__law_is_integer => k_is)
    (case c__law_is_integer => k_is)
    (case k__law_is_integer => k_is)
    (case a__law_name => k_is)
    (case l__law_name => k_is)
    (case c__law_name => k_is)
    (case k__law_name => k_is)
    (case a__law_flag => k_is)
    (case l__law_flag => k_is)
    (case c__law_flag => k_is)
    (case k__law_flag => k_is)
    (case a__law_spoiled => k_is)
    (case l__law_spoiled => k_is)
    (case c__law_spoiled => k_is)
    (case k__law_spoiled => k_is)
    (case a__law_is_column => k_is)
    (case l__law_is_column => k_is)
    (case c__law_is_column => k_is)
    (case k__law_is_column => k_is)
    (case a__law_due => k_is)
    (case l__law_due => k_is)
    (case c__law_due => k_is)
    (case k__law_due => k_is)
    (case a__law_shape_or_error => k_is)
    (case l__law_shape_or_error => k_is)
    (case c__law_shape_or_error => k_is)
    (case k__law_shape_or_error => k_is)
    (case a_law => k_is)
    (case l_law => k_is)
    (case c_law => k_is)
    (case k_law => k_is)
    (case z_isinstance => k_is)
    (case z_list => k_is)
    (case z_tuple => k_is)
    (case z_all => k_is)
    (case z_str => k_is)
    (case z_len => k_is)
    (case z_bool => k_is)
    (case z_enumerate => k_is)
    (case z_int => k_is)
    (case z_range => k_is)
    (case g_LONGEST_NAME => k_is)
    (case g_LETTERS => k_is)
    (case g_WORDS => k_is)
    (case gl_WORDS => k_is)
    (case gc_WORDS => rfl)
    (case gd_WORDS => rfl)
    (case gs_WORDS => decide)
    (case gv_WORDS => (repeat (first | exact .nil | refine .cons ⟨_, rfl⟩ ?_)))
    (case g_NAME_SIGNS => k_is)
    (case g_KINDS => k_is)
    (case gl_KINDS => k_is)
    (case gc_KINDS => rfl)
    (case gd_KINDS => rfl)
    (case gs_KINDS => decide)
    (case gv_KINDS => (repeat (first | exact .nil | refine .cons ⟨_, rfl⟩ ?_)))
    (case g_MOST_COLUMNS => k_is)
    (case g_MOST_RULES => k_is)
#print axioms PySem.Challenge.cw_tworows_k12_columns_refused_holds
